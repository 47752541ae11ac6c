/- Queues: the reference's Put. -/
import Derived.Test.YtpgppninmnplkaaQueF
namespace Go.Proofs.Ytpgppninmnplkaa
open Go.RowKit

section
variable {a : Act} {w : World} {o : Oper} {K : Act → World → Prop} {Q : Exit → Act → World → Prop}
/-- APPEND of a slice of bytes that is read, to a slice in a block of its own. -/
theorem wp_append_ownb {x y : Operand} (ho : o.op = .call { callee := .builtin .append, args := #[x, y], argTypes := #[22, 22] }) {B : Nat} {l r : List UInt8} (hx : Own B w (a.eval x) l) (hy : BytesV w (a.eval y) r)
    (hn : l.length + r.length ≤ 140737488355328) (hB : B ≤ w.heap.size)
    (h : ∀ v' w', Own B w' v' (l ++ r) → w.grownBy w' (a.eval x).ownBlock → (v'.ownBlock = (a.eval x).ownBlock ∨ v'.ownBlock = some w.heap.size) → K (a.put o.dst v') w') : o.wp Try.prog a w K Q := by
  obtain ⟨i0, hi, hz0, hz1, hz2⟩ := info_parts Try.info5
  obtain ⟨ya, yc, hy1, hy2⟩ := hy
  have key : ∃ v' w', (Builtin.append_ #[22, 22] o.type #[a.eval x, .slice ya r.length yc]).run Try.prog w = .ok v' w' ∧ Own B w' v' (l ++ r) ∧ w.grownBy w' (a.eval x).ownBlock ∧ (v'.ownBlock = (a.eval x).ownBlock ∨ v'.ownBlock = some w.heap.size) := by
    rcases hy2 with ⟨rfl, rfl, rfl⟩ | ⟨ad, rfl, hr1, hr2, hr3⟩
    · exact ⟨_, w, run_append_owned_none w B 22 o.type 5 i0 1 Try.underlying22 hi (a.eval x) l.length (bytesV l) hx, by rw [List.append_nil]; exact hx, World.grownBy.refl _ _, .inl rfl⟩
    · obtain ⟨v', w', h1, h2, h3, _, h5⟩ := run_append_own_at (P := Try.prog) w B 22 o.type 5 i0 (.int .u8 0) 1 1 Try.underlying22 hi hz0 hz1 hz2 rfl (by decide) (a.eval x) l.length (bytesV l) hx ad r.length yc (bytesV r) (by rw [bytesV_len, Nat.mul_one])
        (fun j u hj => by
          unfold bytesV at hj
          rw [List.getElem?_map] at hj
          obtain ⟨c', hc', rfl⟩ := Option.map_eq_some_iff.1 hj
          obtain ⟨hlt, rfl⟩ := List.getElem?_eq_some_iff.1 hc'
          exact hr3 j hlt) (bytesV_oneQ r) (by unfold maxLen; omega) (by omega) hB
      refine ⟨v', w', h1, ?_, h3, h5⟩
      unfold Own
      rw [List.length_append, bytesV_append]
      exact h2
  obtain ⟨v', w', h1, h2, h3, h4⟩ := key
  unfold Oper.wp execOp
  simp only [ho]
  simp [resolve, invoke, builtin, hy1, h1, Result.andThen]
  exact h v' w' h2 h3 h4
end
def Spec.own (B : Nat) (l : List UInt8) : Spec := ⟨fun v w => Own B w v l, fun _ _ _ h hb => h.keep hb⟩
theorem own_new (w : World) {B : Nat} (hB : B ≤ w.heap.size) : Own B (w.alloc (.cells #[] 5)) (.slice (some ⟨w.heap.size, 0, none⟩) 0 0) [] :=
  ⟨rfl, .inr ⟨w.heap.size, 0, #[], rfl, hB, heap_alloc_new _ _, Nat.le_refl _, Nat.zero_le _, rfl, rfl⟩⟩
theorem loc_build_own {Q : Exit → Act → World → Prop} {a : Act} {w : World} {o : Oper} {s : Spec} (ho : o.op = .buildSlice 22 0 #[]) {B : Nat} (hBw : B ≤ w.heap.size) (hs : ∀ v w', Own B w' v [] → s.p v w') :
    o.wp Try.prog a w (fun a' w' => ∃ v, a' = a.put o.dst v ∧ Below w.heap.size w w' ∧ s.p v w') Q := by
  refine loc_run (v := .slice (some ⟨w.heap.size, 0, none⟩) 0 0) (w' := w.alloc (.cells #[] 5)) ?_ (below_one _ _) (hs _ _ (own_new w hBw))
  obtain ⟨i0, hi, hz0, hz1, hz2⟩ := info_parts Try.info5
  unfold execOp
  simp [ho, Instr.buildSlice, run_underlying Try.underlying22, sizeOf, typeInfo, hi, Instr.fill, newRow, show Array.range 0 = #[] from rfl]
theorem Own.fresh {B : Nat} {w : World} {v : Value} {l : List UInt8} (h : Own B w v l) : BytesF B w v l := by
  obtain ⟨a, c, h1, h2⟩ := h.val
  refine ⟨a, c, h1, h2, fun x hx => ?_⟩
  subst hx h1
  exact (h.lt rfl).1
def Spec.never : Spec := ⟨fun _ _ => False, fun _ _ _ h _ => h⟩
theorem loc_upto_val {Q : Exit → Act → World → Prop} {a : Act} {w : World} {o : Oper} {s : Spec} {x y : Operand} (ho : o.op = .slice 22 x none (some y) none) {ad : Option Addr} {n c k : Nat} (hx : a.eval x = .slice ad n c) (hy : a.eval y = .int .i64 k) (hk : k ≤ n) (hc : n ≤ c) (hs : s.p (.slice ad k c) w) :
    o.wp Try.prog a w (fun a' w' => ∃ v, a' = a.put o.dst v ∧ Below w.heap.size w w' ∧ s.p v w') Q := by
  have es : (sizeOf (Try.prog.elem 22)).run Try.prog w = .ok 1 w := by rw [show Try.prog.elem 22 = 5 by kernel_rfl]; exact sizeOf_u8Q w
  refine loc_run (v := .slice ad k c) ?_ (Below.refl _ _) hs
  have hrun : (Instr.sliceAt 22 (.slice ad n c) none (some (.int .i64 (k : Int))) none).run Try.prog w = .ok (.slice ad k c) w := by
    rw [run_sliceAt_slice w 22 _ _ _ _ (by kernel_rfl), run_slice_h w 22 _ _ _ (by kernel_rfl) .i64 (k : Int) (by omega) (by omega), es]
    have ha : Option.map (fun x : Addr => x.add 0) ad = ad := by cases ad <;> simp [Addr.add]
    simp [Result.andThen, sliced, ha]
  unfold execOp
  simp only [ho, hx, hy, Option.map_some, Option.map_none, Sem.run_bind, hrun, Result.andThen_ok, Sem.run_pure]
def putN (z : Int) (n m : Nat) : Nat := min m (roomN z n)

set_option maxRecDepth 100000 in
set_option maxHeartbeats 4000000 in
theorem refPut_any (z : Int) (l b : List UInt8) (a ab : Option Addr) (c cb : Nat) (w : World) (h : IsBytes w a l c) (hbb : IsBytes w ab b cb) (hlen : l.length + b.length ≤ 140737488355328) :
    Calls Try.prog 18 #[.agg #[.int .i64 z, .slice a l.length c], .slice ab b.length cb] w fun e w' => ∃ d f, e = .returned (.tuple #[.agg #[.int .i64 z, .slice d (l ++ b.take (putN z l.length b.length)).length f], .int .i64 (putN z l.length b.length)]) ∧ Below w.heap.size w w' ∧
      IsBytes w' d (l ++ b.take (putN z l.length b.length)) f := by
  have H0 := Box.mk h
  have HB0 := Box.mk hbb
  clear h hbb
  obtain ⟨k, hk⟩ : ∃ k, k = putN z l.length b.length := ⟨_, rfl⟩
  have hkl : k ≤ b.length := by rw [hk]; unfold putN; omega
  have HK := Box.mk hk
  rw [← hk]
  clear hk
  go_enter Try.func18, Try.ntmps18
  go_wp2_with fail
  obtain ⟨W, hW⟩ : ∃ W, W = (w.alloc (.cells #[.int .i64 z, .slice a l.length c] 24)).alloc (.cells #[.int .i64 0, .slice none 0 0] 24) := ⟨_, rfl⟩
  have HBW : Box (Below w.heap.size w W) := ⟨by rw [hW]; exact below_two w _ _⟩
  have HQ : Box (QVar W w.heap.size z a l.length c) := ⟨by
    rw [hW]
    have := (below_one (w.alloc (.cells #[.int .i64 z, .slice a l.length c] 24)) (.cells #[.int .i64 0, .slice none 0 0] 24)).block w.heap.size (by simp)
    exact this.trans (heap_alloc_new _ _)⟩
  have HR : Box (QVar W (w.heap.size + 1) 0 none 0 0) := ⟨by
    rw [hW]
    have := heap_alloc_new (w.alloc (.cells #[.int .i64 z, .slice a l.length c] 24)) (.cells #[.int .i64 0, .slice none 0 0] 24)
    rw [World.size_alloc] at this; exact this⟩
  change Calls _ _ _ ((w.alloc (.cells #[.int .i64 z, .slice a l.length c] 24)).alloc (.cells #[.int .i64 0, .slice none 0 0] 24)) _
  rw [← hW]
  clear hW
  refine (refRoom_lit z a l.length c W).mono ?_
  rintro e w0 ⟨rfl, hb0⟩
  have HB1 := Box.mk (below_trans HBW.out hb0)
  have HQ1 := Box.mk (HQ.out.keep hb0)
  have HR1 := Box.mk (HR.out.keep hb0)
  clear hb0 HBW HQ HR
  obtain ⟨r, hr⟩ : ∃ r, Box (r = roomN z l.length) := ⟨_, ⟨rfl⟩⟩
  have hrr : r ≤ 1000000 := by
    rw [hr.out]; unfold roomN
    split
    · rename_i hv; obtain ⟨f1, f2, f3⟩ := valid_facts hv; omega
    · omega
  rw [← hr.out]
  have HKR := Box.mk (show k = min b.length r by rw [HK.out, hr.out]; rfl)
  generalize hg : w.heap.size = g at HQ1 HR1 ⊢
  have HG := Box.mk hg
  clear hg
  have hld := HQ1.out
  unfold QVar at hld
  have hcb : b.length ≤ cb := by
    rcases HB0.out with ⟨_, h, h'⟩ | ⟨_, _, h, _⟩
    · rw [h, h']; exact Nat.le_refl _
    · exact h
  rcases Nat.lt_trichotomy b.length r with hbr | hbr | hbr
  · have hx1 : ¬ (r : Int) ≤ b.length := by omega
    have hkk := Box.mk (show (b.length : Int) = (k : Int) by rw [HKR.out]; omega)
    go_wp2_with (refine wpList_load_row rfl 24 _ rfl g rfl 24 _ (0, 0) _ hld Try.underlying24 rfl sizeQ ?_)
    refine (refValid_lit z a l.length c w0).mono ?_
    rintro e w1 ⟨rfl, hb1⟩
    have HB2 := Box.mk (below_trans HB1.out hb1)
    have HQ2 := Box.mk (HQ1.out.keep hb1)
    have HR2 := Box.mk (HR1.out.keep hb1)
    have H2 := Box.mk (H0.out.keep HB2.out)
    have HBB2 := Box.mk (HB0.out.keep HB2.out)
    clear hb1
    cases hv : validB z l.length with
    | false =>
      have hk0 := Box.mk (show k = 0 by rw [HKR.out, hr.out]; unfold roomN; rw [hv]; simp)
      clear hld
      have hld := HQ2.out
      unfold QVar at hld
      go_wp2_with (first
        | (refine wpList_load_row rfl 24 _ rfl g rfl 24 _ (0, 0) _ hld Try.underlying24 rfl sizeQ ?_)
        | (refine wpList_store_row rfl 24 _ _ rfl (g + 1) #[.int .i64 z, .slice a l.length c] rfl rfl 24 _ HR2.out sizeQ rfl (oneQ _ _ _ _) ?_))
      (try simp only [Exit.inBlock, Exit.then])
      refine bodyPost_ret (results_row_tmp rfl _ _ (g + 1) _ _ _ _ rfl (setRow_heap _ _ _ _ _ _ HR2.out) Try.underlying24 rfl sizeQ) rfl ?_
      have hgw := HG.out
      have hbs := below_setRow (g := g + 1) HB2.out (by omega) #[.int .i64 z, .slice a l.length c]
      have e0 : l ++ b.take k = l := by rw [hk0.out, List.take_zero, List.append_nil]
      rw [e0, hk0.out]
      exact ⟨a, c, rfl, hbs, H0.out.keep hbs⟩
    | true =>
      clear hld
      go_wp2_with fail
      rename_i K hK
      refine wp_region_phases [5, 9, 12] (fun p => match p with | 0 => [0, 1, 2, 3, 4, 6, 7, 8, 11] | 1 => [0, 1, 6, 7, 8, 11] | 2 => [0, 1, 10, 11] | _ => [11, 13])
        (fun p => match p with
          | 0 => [.val (.pointer (some ⟨g, 0, none⟩)), .val (.int .i64 z), .own w1.heap.size [], .val (.pointer (some ⟨g, 1, none⟩)), .val (.slice a l.length c), .any, .val (.slice ab b.length cb), .val (.int .i64 k), .val (.slice ab k cb), .any, .never, .val (.int .i64 k), .any, .val (.int .i64 k)]
          | 1 => [.val (.pointer (some ⟨g, 0, none⟩)), .val (.int .i64 z), .any, .any, .any, .own w1.heap.size l, .val (.slice ab b.length cb), .val (.int .i64 k), .val (.slice ab k cb), .any, .never, .val (.int .i64 k), .any, .val (.int .i64 k)]
          | 2 => [.val (.pointer (some ⟨g, 0, none⟩)), .val (.int .i64 z), .any, .any, .any, .any, .any, .any, .any, .own w1.heap.size (l ++ b.take k), .queue w1.heap.size z (l ++ b.take k), .val (.int .i64 k), .any, .val (.int .i64 k)]
          | _ => [.any, .any, .any, .any, .any, .any, .any, .any, .any, .any, .any, .val (.int .i64 k), .any, .val (.int .i64 k)])
        (fun p => match p with
          | 0 => fun w' => Below w1.heap.size w1 w'
          | 1 => fun w' => Below w1.heap.size w1 w'
          | 2 => fun w' => Below w1.heap.size w1 w'
          | _ => fun w' => Below w.heap.size w w' ∧ ∃ d f, QVar w' (g + 1) z d (l ++ b.take k).length f ∧ IsBytes w' d (l ++ b.take k) f)
        (by kernel_rfl) (by kernel_rfl) (by kernel_rfl) (by kernel_rfl) (by kernel_rfl) (by kernel_rfl) ?_ (Below.refl _ _) ?_ ?_ ?_
      · intro p w2 w3 h1 h2
        match p with
        | 0 => exact below_trans h1 h2
        | 1 => exact below_trans h1 h2
        | 2 => exact below_trans h1 h2
        | p + 3 =>
          obtain ⟨h3, d, f, h4, h5⟩ := h1
          exact ⟨below_trans h3 h2, d, f, h4.keep h2, h5.keep h2⟩
      · intro p hp
        match p, hp with
        | 0, _ =>
          refine ⟨?_, ?_, ?_, ?_, ?_, ?_, ?_, ?_, ?_, trivial⟩ <;> intro a w2 hb hf hd
          · exact ⟨wanted_none rfl, loc_field0 rfl (hf.base 2 rfl) rfl⟩
          · exact ⟨wanted_none rfl, loc_load_int rfl (hd 0 rfl) (HQ2.out.keep hb).cap rfl⟩
          · exact ⟨wanted_none rfl, loc_build_own rfl hb.size fun v w' h => h⟩
          · exact ⟨wanted_none rfl, loc_field1 rfl (hf.base 2 rfl) rfl⟩
          · exact ⟨wanted_none rfl, loc_load_slice rfl (hd 3 rfl) (HQ2.out.keep hb).data rfl⟩
          · exact ⟨wanted_none rfl, loc_move rfl (hf.base 1 rfl)⟩
          · exact ⟨wanted_none rfl, loc_move rfl ((hf.base 6 rfl).trans (congrArg (Value.int .i64) hkk.out))⟩
          · exact ⟨wanted_none rfl, loc_upto_val rfl (hd 6 rfl) (hd 7 rfl) hkl hcb rfl⟩
          · exact ⟨wanted_none rfl, loc_move rfl ((hf.base 6 rfl).trans (congrArg (Value.int .i64) hkk.out))⟩
        | 1, _ =>
          refine ⟨?_, ?_, ?_, ?_, ?_, ?_, trivial⟩ <;> intro a w2 hb hf hd
          · exact ⟨wanted_none rfl, loc_field0 rfl (hf.base 2 rfl) rfl⟩
          · exact ⟨wanted_none rfl, loc_load_int rfl (hd 0 rfl) (HQ2.out.keep hb).cap rfl⟩
          · exact ⟨wanted_none rfl, loc_move rfl (hf.base 1 rfl)⟩
          · exact ⟨wanted_none rfl, loc_move rfl ((hf.base 6 rfl).trans (congrArg (Value.int .i64) hkk.out))⟩
          · exact ⟨wanted_none rfl, loc_upto_val rfl (hd 6 rfl) (hd 7 rfl) hkl hcb rfl⟩
          · exact ⟨wanted_none rfl, loc_move rfl ((hf.base 6 rfl).trans (congrArg (Value.int .i64) hkk.out))⟩
        | 2, _ =>
          refine ⟨?_, ?_, ?_, ?_, trivial⟩ <;> intro a w2 hb hf hd
          · exact ⟨wanted_none rfl, loc_field0 rfl (hf.base 2 rfl) rfl⟩
          · exact ⟨wanted_none rfl, loc_load_int rfl (hd 0 rfl) (HQ2.out.keep hb).cap rfl⟩
          · obtain ⟨d, f, e1, e2, e3⟩ := (show Own w1.heap.size w2 (a.eval (.tmp 25)) (l ++ b.take k) from hd 9 rfl).fresh
            exact ⟨wanted_none rfl, loc_build_q rfl (hd 1 rfl) e1 ⟨d, f, rfl, e2, e3⟩⟩
          · exact ⟨wanted_none rfl, loc_move rfl ((hf.base 6 rfl).trans (congrArg (Value.int .i64) hkk.out))⟩
        | 3, _ =>
          refine ⟨?_, ?_, trivial⟩ <;> intro a w2 hb hf hd
          · exact ⟨wanted_none rfl, loc_move rfl ((hf.base 6 rfl).trans (congrArg (Value.int .i64) hkk.out))⟩
          · exact ⟨wanted_none rfl, loc_assign rfl (hd 11 rfl)⟩
      · intro p hp
        match p, hp with
        | 0, _ =>
          intro a2 w2 hb hf hd
          have hown : Own w1.heap.size w2 (a2.eval (.tmp 18)) [] := hd 2 rfl
          exact ⟨wanted_none rfl, wp_append_ownb rfl hown ⟨a, c, hd 4 rfl, H2.out.keep hb⟩ (by rw [List.length_nil]; omega) hb.size fun v' w3 h1 h2 h3 => ⟨v', rfl, hb.grown h2 hb.size fun k hk => (hown.lt hk).1, h1, ⟨.inr fun _ _ h => h, .inr fun _ _ h => h, .inr fun _ _ _ => trivial, .inr fun _ _ _ => trivial, .inr fun _ _ _ => trivial, .inl rfl, .inr fun _ _ h => h, .inr fun _ _ h => h, .inr fun _ _ h => h, .inr fun _ _ _ => trivial, .inr fun _ _ h => h, .inr fun _ _ h => h, .inr fun _ _ _ => trivial, .inr fun _ _ h => h, trivial⟩⟩⟩
        | 1, _ =>
          intro a2 w2 hb hf hd
          have hown : Own w1.heap.size w2 (a2.eval (.tmp 21)) l := hd 5 rfl
          have hlk : (b.take k).length = k := by rw [List.length_take]; omega
          have h8 : a2.eval (.tmp 24) = .slice ab k cb := hd 8 rfl
          exact ⟨wanted_none rfl, wp_append_ownb rfl hown ⟨ab, cb, by rw [h8, hlk], (HB0.out.takeQ k).keep (below_trans HB2.out hb)⟩ (by rw [hlk]; omega) hb.size fun v' w3 h1 h2 h3 => ⟨v', rfl, hb.grown h2 hb.size fun k hk => (hown.lt hk).1, h1, ⟨.inr fun _ _ h => h, .inr fun _ _ h => h, .inr fun _ _ _ => trivial, .inr fun _ _ _ => trivial, .inr fun _ _ _ => trivial, .inr fun _ _ _ => trivial, .inr fun _ _ _ => trivial, .inr fun _ _ _ => trivial, .inr fun _ _ _ => trivial, .inl rfl, .inr fun _ _ h => h.elim, .inr fun _ _ h => h, .inr fun _ _ _ => trivial, .inr fun _ _ h => h, trivial⟩⟩⟩
        | 2, _ =>
          intro a2 w2 hb hf hd
          refine ⟨wanted_none rfl, ?_⟩
          obtain ⟨d, f, e1, e2, e3⟩ := hd 10 rfl
          have hgl : g + 1 < w1.heap.size := (Array.getElem?_eq_some_iff.1 HR2.out).1
          have hgw := HG.out
          refine wp_store_row 24 _ _ rfl (g + 1) #[.int .i64 z, .slice d (l ++ b.take k).length f] (hf.base 4 rfl) e1 24 _ (HR2.out.keep hb) sizeQ rfl (oneQ _ _ _ _) ⟨undef, rfl, ⟨?_, d, f, ?_, ?_⟩, trivial, ⟨.inr fun _ _ _ => trivial, .inr fun _ _ _ => trivial, .inr fun _ _ _ => trivial, .inr fun _ _ _ => trivial, .inr fun _ _ _ => trivial, .inr fun _ _ _ => trivial, .inr fun _ _ _ => trivial, .inr fun _ _ _ => trivial, .inr fun _ _ _ => trivial, .inr fun _ _ _ => trivial, .inr fun _ _ _ => trivial, .inr fun _ _ h => h, .inl rfl, .inr fun _ _ h => h, trivial⟩⟩
          · exact below_setRow (below_trans HB2.out hb) (by omega) _
          · exact setRow_heap _ _ _ _ _ _ (HR2.out.keep hb)
          · exact e2.setRowQ (fun x hx _ => by have := e3 x hx; omega) _
      · intro a2 w2 hp hf hh
        refine hK a2 w2 ?_
        go_wp2_with fail
        obtain ⟨p1, d, f, p3, p4⟩ := hp
        refine bodyPost_ret (results_row_tmp rfl _ w2 (g + 1) _ _ _ _ (hf.base 4 rfl) p3 Try.underlying24 rfl sizeQ) hf.defers ?_
        rw [show a2.tmps.getD 5 undef = .int .i64 k from hh 13 (by decide)]
        exact ⟨d, f, rfl, p1, p4⟩
  · subst hbr
    have hkk := Box.mk (show (b.length : Int) = (k : Int) by rw [HKR.out]; omega)
    go_wp2_with (refine wpList_load_row rfl 24 _ rfl g rfl 24 _ (0, 0) _ hld Try.underlying24 rfl sizeQ ?_)
    refine (refValid_lit z a l.length c w0).mono ?_
    rintro e w1 ⟨rfl, hb1⟩
    have HB2 := Box.mk (below_trans HB1.out hb1)
    have HQ2 := Box.mk (HQ1.out.keep hb1)
    have HR2 := Box.mk (HR1.out.keep hb1)
    have H2 := Box.mk (H0.out.keep HB2.out)
    have HBB2 := Box.mk (HB0.out.keep HB2.out)
    clear hb1
    cases hv : validB z l.length with
    | false =>
      have hk0 := Box.mk (show k = 0 by rw [HKR.out, hr.out]; unfold roomN; rw [hv]; simp)
      clear hld
      have hld := HQ2.out
      unfold QVar at hld
      go_wp2_with (first
        | (refine wpList_load_row rfl 24 _ rfl g rfl 24 _ (0, 0) _ hld Try.underlying24 rfl sizeQ ?_)
        | (refine wpList_store_row rfl 24 _ _ rfl (g + 1) #[.int .i64 z, .slice a l.length c] rfl rfl 24 _ HR2.out sizeQ rfl (oneQ _ _ _ _) ?_))
      (try simp only [Exit.inBlock, Exit.then])
      refine bodyPost_ret (results_row_tmp rfl _ _ (g + 1) _ _ _ _ rfl (setRow_heap _ _ _ _ _ _ HR2.out) Try.underlying24 rfl sizeQ) rfl ?_
      have hgw := HG.out
      have hbs := below_setRow (g := g + 1) HB2.out (by omega) #[.int .i64 z, .slice a l.length c]
      have e0 : l ++ b.take k = l := by rw [hk0.out, List.take_zero, List.append_nil]
      rw [e0, hk0.out]
      exact ⟨a, c, rfl, hbs, H0.out.keep hbs⟩
    | true =>
      clear hld
      go_wp2_with fail
      rename_i K hK
      refine wp_region_phases [5, 9, 12] (fun p => match p with | 0 => [0, 1, 2, 3, 4, 6, 7, 8, 11] | 1 => [0, 1, 6, 7, 8, 11] | 2 => [0, 1, 10, 11] | _ => [11, 13])
        (fun p => match p with
          | 0 => [.val (.pointer (some ⟨g, 0, none⟩)), .val (.int .i64 z), .own w1.heap.size [], .val (.pointer (some ⟨g, 1, none⟩)), .val (.slice a l.length c), .any, .val (.slice ab b.length cb), .val (.int .i64 k), .val (.slice ab k cb), .any, .never, .val (.int .i64 k), .any, .val (.int .i64 k)]
          | 1 => [.val (.pointer (some ⟨g, 0, none⟩)), .val (.int .i64 z), .any, .any, .any, .own w1.heap.size l, .val (.slice ab b.length cb), .val (.int .i64 k), .val (.slice ab k cb), .any, .never, .val (.int .i64 k), .any, .val (.int .i64 k)]
          | 2 => [.val (.pointer (some ⟨g, 0, none⟩)), .val (.int .i64 z), .any, .any, .any, .any, .any, .any, .any, .own w1.heap.size (l ++ b.take k), .queue w1.heap.size z (l ++ b.take k), .val (.int .i64 k), .any, .val (.int .i64 k)]
          | _ => [.any, .any, .any, .any, .any, .any, .any, .any, .any, .any, .any, .val (.int .i64 k), .any, .val (.int .i64 k)])
        (fun p => match p with
          | 0 => fun w' => Below w1.heap.size w1 w'
          | 1 => fun w' => Below w1.heap.size w1 w'
          | 2 => fun w' => Below w1.heap.size w1 w'
          | _ => fun w' => Below w.heap.size w w' ∧ ∃ d f, QVar w' (g + 1) z d (l ++ b.take k).length f ∧ IsBytes w' d (l ++ b.take k) f)
        (by kernel_rfl) (by kernel_rfl) (by kernel_rfl) (by kernel_rfl) (by kernel_rfl) (by kernel_rfl) ?_ (Below.refl _ _) ?_ ?_ ?_
      · intro p w2 w3 h1 h2
        match p with
        | 0 => exact below_trans h1 h2
        | 1 => exact below_trans h1 h2
        | 2 => exact below_trans h1 h2
        | p + 3 =>
          obtain ⟨h3, d, f, h4, h5⟩ := h1
          exact ⟨below_trans h3 h2, d, f, h4.keep h2, h5.keep h2⟩
      · intro p hp
        match p, hp with
        | 0, _ =>
          refine ⟨?_, ?_, ?_, ?_, ?_, ?_, ?_, ?_, ?_, trivial⟩ <;> intro a w2 hb hf hd
          · exact ⟨wanted_none rfl, loc_field0 rfl (hf.base 2 rfl) rfl⟩
          · exact ⟨wanted_none rfl, loc_load_int rfl (hd 0 rfl) (HQ2.out.keep hb).cap rfl⟩
          · exact ⟨wanted_none rfl, loc_build_own rfl hb.size fun v w' h => h⟩
          · exact ⟨wanted_none rfl, loc_field1 rfl (hf.base 2 rfl) rfl⟩
          · exact ⟨wanted_none rfl, loc_load_slice rfl (hd 3 rfl) (HQ2.out.keep hb).data rfl⟩
          · exact ⟨wanted_none rfl, loc_move rfl (hf.base 1 rfl)⟩
          · exact ⟨wanted_none rfl, loc_move rfl ((hf.base 6 rfl).trans (congrArg (Value.int .i64) hkk.out))⟩
          · exact ⟨wanted_none rfl, loc_upto_val rfl (hd 6 rfl) (hd 7 rfl) hkl hcb rfl⟩
          · exact ⟨wanted_none rfl, loc_move rfl ((hf.base 6 rfl).trans (congrArg (Value.int .i64) hkk.out))⟩
        | 1, _ =>
          refine ⟨?_, ?_, ?_, ?_, ?_, ?_, trivial⟩ <;> intro a w2 hb hf hd
          · exact ⟨wanted_none rfl, loc_field0 rfl (hf.base 2 rfl) rfl⟩
          · exact ⟨wanted_none rfl, loc_load_int rfl (hd 0 rfl) (HQ2.out.keep hb).cap rfl⟩
          · exact ⟨wanted_none rfl, loc_move rfl (hf.base 1 rfl)⟩
          · exact ⟨wanted_none rfl, loc_move rfl ((hf.base 6 rfl).trans (congrArg (Value.int .i64) hkk.out))⟩
          · exact ⟨wanted_none rfl, loc_upto_val rfl (hd 6 rfl) (hd 7 rfl) hkl hcb rfl⟩
          · exact ⟨wanted_none rfl, loc_move rfl ((hf.base 6 rfl).trans (congrArg (Value.int .i64) hkk.out))⟩
        | 2, _ =>
          refine ⟨?_, ?_, ?_, ?_, trivial⟩ <;> intro a w2 hb hf hd
          · exact ⟨wanted_none rfl, loc_field0 rfl (hf.base 2 rfl) rfl⟩
          · exact ⟨wanted_none rfl, loc_load_int rfl (hd 0 rfl) (HQ2.out.keep hb).cap rfl⟩
          · obtain ⟨d, f, e1, e2, e3⟩ := (show Own w1.heap.size w2 (a.eval (.tmp 25)) (l ++ b.take k) from hd 9 rfl).fresh
            exact ⟨wanted_none rfl, loc_build_q rfl (hd 1 rfl) e1 ⟨d, f, rfl, e2, e3⟩⟩
          · exact ⟨wanted_none rfl, loc_move rfl ((hf.base 6 rfl).trans (congrArg (Value.int .i64) hkk.out))⟩
        | 3, _ =>
          refine ⟨?_, ?_, trivial⟩ <;> intro a w2 hb hf hd
          · exact ⟨wanted_none rfl, loc_move rfl ((hf.base 6 rfl).trans (congrArg (Value.int .i64) hkk.out))⟩
          · exact ⟨wanted_none rfl, loc_assign rfl (hd 11 rfl)⟩
      · intro p hp
        match p, hp with
        | 0, _ =>
          intro a2 w2 hb hf hd
          have hown : Own w1.heap.size w2 (a2.eval (.tmp 18)) [] := hd 2 rfl
          exact ⟨wanted_none rfl, wp_append_ownb rfl hown ⟨a, c, hd 4 rfl, H2.out.keep hb⟩ (by rw [List.length_nil]; omega) hb.size fun v' w3 h1 h2 h3 => ⟨v', rfl, hb.grown h2 hb.size fun k hk => (hown.lt hk).1, h1, ⟨.inr fun _ _ h => h, .inr fun _ _ h => h, .inr fun _ _ _ => trivial, .inr fun _ _ _ => trivial, .inr fun _ _ _ => trivial, .inl rfl, .inr fun _ _ h => h, .inr fun _ _ h => h, .inr fun _ _ h => h, .inr fun _ _ _ => trivial, .inr fun _ _ h => h, .inr fun _ _ h => h, .inr fun _ _ _ => trivial, .inr fun _ _ h => h, trivial⟩⟩⟩
        | 1, _ =>
          intro a2 w2 hb hf hd
          have hown : Own w1.heap.size w2 (a2.eval (.tmp 21)) l := hd 5 rfl
          have hlk : (b.take k).length = k := by rw [List.length_take]; omega
          have h8 : a2.eval (.tmp 24) = .slice ab k cb := hd 8 rfl
          exact ⟨wanted_none rfl, wp_append_ownb rfl hown ⟨ab, cb, by rw [h8, hlk], (HB0.out.takeQ k).keep (below_trans HB2.out hb)⟩ (by rw [hlk]; omega) hb.size fun v' w3 h1 h2 h3 => ⟨v', rfl, hb.grown h2 hb.size fun k hk => (hown.lt hk).1, h1, ⟨.inr fun _ _ h => h, .inr fun _ _ h => h, .inr fun _ _ _ => trivial, .inr fun _ _ _ => trivial, .inr fun _ _ _ => trivial, .inr fun _ _ _ => trivial, .inr fun _ _ _ => trivial, .inr fun _ _ _ => trivial, .inr fun _ _ _ => trivial, .inl rfl, .inr fun _ _ h => h.elim, .inr fun _ _ h => h, .inr fun _ _ _ => trivial, .inr fun _ _ h => h, trivial⟩⟩⟩
        | 2, _ =>
          intro a2 w2 hb hf hd
          refine ⟨wanted_none rfl, ?_⟩
          obtain ⟨d, f, e1, e2, e3⟩ := hd 10 rfl
          have hgl : g + 1 < w1.heap.size := (Array.getElem?_eq_some_iff.1 HR2.out).1
          have hgw := HG.out
          refine wp_store_row 24 _ _ rfl (g + 1) #[.int .i64 z, .slice d (l ++ b.take k).length f] (hf.base 4 rfl) e1 24 _ (HR2.out.keep hb) sizeQ rfl (oneQ _ _ _ _) ⟨undef, rfl, ⟨?_, d, f, ?_, ?_⟩, trivial, ⟨.inr fun _ _ _ => trivial, .inr fun _ _ _ => trivial, .inr fun _ _ _ => trivial, .inr fun _ _ _ => trivial, .inr fun _ _ _ => trivial, .inr fun _ _ _ => trivial, .inr fun _ _ _ => trivial, .inr fun _ _ _ => trivial, .inr fun _ _ _ => trivial, .inr fun _ _ _ => trivial, .inr fun _ _ _ => trivial, .inr fun _ _ h => h, .inl rfl, .inr fun _ _ h => h, trivial⟩⟩
          · exact below_setRow (below_trans HB2.out hb) (by omega) _
          · exact setRow_heap _ _ _ _ _ _ (HR2.out.keep hb)
          · exact e2.setRowQ (fun x hx _ => by have := e3 x hx; omega) _
      · intro a2 w2 hp hf hh
        refine hK a2 w2 ?_
        go_wp2_with fail
        obtain ⟨p1, d, f, p3, p4⟩ := hp
        refine bodyPost_ret (results_row_tmp rfl _ w2 (g + 1) _ _ _ _ (hf.base 4 rfl) p3 Try.underlying24 rfl sizeQ) hf.defers ?_
        rw [show a2.tmps.getD 5 undef = .int .i64 k from hh 13 (by decide)]
        exact ⟨d, f, rfl, p1, p4⟩
  · have hx1 : ¬ (b.length : Int) ≤ r := by omega
    have hkk := Box.mk (show (r : Int) = (k : Int) by rw [HKR.out]; omega)
    go_wp2_with (refine wpList_load_row rfl 24 _ rfl g rfl 24 _ (0, 0) _ hld Try.underlying24 rfl sizeQ ?_)
    refine (refValid_lit z a l.length c w0).mono ?_
    rintro e w1 ⟨rfl, hb1⟩
    have HB2 := Box.mk (below_trans HB1.out hb1)
    have HQ2 := Box.mk (HQ1.out.keep hb1)
    have HR2 := Box.mk (HR1.out.keep hb1)
    have H2 := Box.mk (H0.out.keep HB2.out)
    have HBB2 := Box.mk (HB0.out.keep HB2.out)
    clear hb1
    cases hv : validB z l.length with
    | false =>
      have hk0 := Box.mk (show k = 0 by rw [HKR.out, hr.out]; unfold roomN; rw [hv]; simp)
      clear hld
      have hld := HQ2.out
      unfold QVar at hld
      go_wp2_with (first
        | (refine wpList_load_row rfl 24 _ rfl g rfl 24 _ (0, 0) _ hld Try.underlying24 rfl sizeQ ?_)
        | (refine wpList_store_row rfl 24 _ _ rfl (g + 1) #[.int .i64 z, .slice a l.length c] rfl rfl 24 _ HR2.out sizeQ rfl (oneQ _ _ _ _) ?_))
      (try simp only [Exit.inBlock, Exit.then])
      refine bodyPost_ret (results_row_tmp rfl _ _ (g + 1) _ _ _ _ rfl (setRow_heap _ _ _ _ _ _ HR2.out) Try.underlying24 rfl sizeQ) rfl ?_
      have hgw := HG.out
      have hbs := below_setRow (g := g + 1) HB2.out (by omega) #[.int .i64 z, .slice a l.length c]
      have e0 : l ++ b.take k = l := by rw [hk0.out, List.take_zero, List.append_nil]
      rw [e0, hk0.out]
      exact ⟨a, c, rfl, hbs, H0.out.keep hbs⟩
    | true =>
      clear hld
      go_wp2_with fail
      rename_i K hK
      refine wp_region_phases [5, 9, 12] (fun p => match p with | 0 => [0, 1, 2, 3, 4, 6, 7, 8, 11] | 1 => [0, 1, 6, 7, 8, 11] | 2 => [0, 1, 10, 11] | _ => [11, 13])
        (fun p => match p with
          | 0 => [.val (.pointer (some ⟨g, 0, none⟩)), .val (.int .i64 z), .own w1.heap.size [], .val (.pointer (some ⟨g, 1, none⟩)), .val (.slice a l.length c), .any, .val (.slice ab b.length cb), .val (.int .i64 k), .val (.slice ab k cb), .any, .never, .val (.int .i64 k), .any, .val (.int .i64 k)]
          | 1 => [.val (.pointer (some ⟨g, 0, none⟩)), .val (.int .i64 z), .any, .any, .any, .own w1.heap.size l, .val (.slice ab b.length cb), .val (.int .i64 k), .val (.slice ab k cb), .any, .never, .val (.int .i64 k), .any, .val (.int .i64 k)]
          | 2 => [.val (.pointer (some ⟨g, 0, none⟩)), .val (.int .i64 z), .any, .any, .any, .any, .any, .any, .any, .own w1.heap.size (l ++ b.take k), .queue w1.heap.size z (l ++ b.take k), .val (.int .i64 k), .any, .val (.int .i64 k)]
          | _ => [.any, .any, .any, .any, .any, .any, .any, .any, .any, .any, .any, .val (.int .i64 k), .any, .val (.int .i64 k)])
        (fun p => match p with
          | 0 => fun w' => Below w1.heap.size w1 w'
          | 1 => fun w' => Below w1.heap.size w1 w'
          | 2 => fun w' => Below w1.heap.size w1 w'
          | _ => fun w' => Below w.heap.size w w' ∧ ∃ d f, QVar w' (g + 1) z d (l ++ b.take k).length f ∧ IsBytes w' d (l ++ b.take k) f)
        (by kernel_rfl) (by kernel_rfl) (by kernel_rfl) (by kernel_rfl) (by kernel_rfl) (by kernel_rfl) ?_ (Below.refl _ _) ?_ ?_ ?_
      · intro p w2 w3 h1 h2
        match p with
        | 0 => exact below_trans h1 h2
        | 1 => exact below_trans h1 h2
        | 2 => exact below_trans h1 h2
        | p + 3 =>
          obtain ⟨h3, d, f, h4, h5⟩ := h1
          exact ⟨below_trans h3 h2, d, f, h4.keep h2, h5.keep h2⟩
      · intro p hp
        match p, hp with
        | 0, _ =>
          refine ⟨?_, ?_, ?_, ?_, ?_, ?_, ?_, ?_, ?_, trivial⟩ <;> intro a w2 hb hf hd
          · exact ⟨wanted_none rfl, loc_field0 rfl (hf.base 2 rfl) rfl⟩
          · exact ⟨wanted_none rfl, loc_load_int rfl (hd 0 rfl) (HQ2.out.keep hb).cap rfl⟩
          · exact ⟨wanted_none rfl, loc_build_own rfl hb.size fun v w' h => h⟩
          · exact ⟨wanted_none rfl, loc_field1 rfl (hf.base 2 rfl) rfl⟩
          · exact ⟨wanted_none rfl, loc_load_slice rfl (hd 3 rfl) (HQ2.out.keep hb).data rfl⟩
          · exact ⟨wanted_none rfl, loc_move rfl (hf.base 1 rfl)⟩
          · exact ⟨wanted_none rfl, loc_move rfl ((hf.base 6 rfl).trans (congrArg (Value.int .i64) hkk.out))⟩
          · exact ⟨wanted_none rfl, loc_upto_val rfl (hd 6 rfl) (hd 7 rfl) hkl hcb rfl⟩
          · exact ⟨wanted_none rfl, loc_move rfl ((hf.base 6 rfl).trans (congrArg (Value.int .i64) hkk.out))⟩
        | 1, _ =>
          refine ⟨?_, ?_, ?_, ?_, ?_, ?_, trivial⟩ <;> intro a w2 hb hf hd
          · exact ⟨wanted_none rfl, loc_field0 rfl (hf.base 2 rfl) rfl⟩
          · exact ⟨wanted_none rfl, loc_load_int rfl (hd 0 rfl) (HQ2.out.keep hb).cap rfl⟩
          · exact ⟨wanted_none rfl, loc_move rfl (hf.base 1 rfl)⟩
          · exact ⟨wanted_none rfl, loc_move rfl ((hf.base 6 rfl).trans (congrArg (Value.int .i64) hkk.out))⟩
          · exact ⟨wanted_none rfl, loc_upto_val rfl (hd 6 rfl) (hd 7 rfl) hkl hcb rfl⟩
          · exact ⟨wanted_none rfl, loc_move rfl ((hf.base 6 rfl).trans (congrArg (Value.int .i64) hkk.out))⟩
        | 2, _ =>
          refine ⟨?_, ?_, ?_, ?_, trivial⟩ <;> intro a w2 hb hf hd
          · exact ⟨wanted_none rfl, loc_field0 rfl (hf.base 2 rfl) rfl⟩
          · exact ⟨wanted_none rfl, loc_load_int rfl (hd 0 rfl) (HQ2.out.keep hb).cap rfl⟩
          · obtain ⟨d, f, e1, e2, e3⟩ := (show Own w1.heap.size w2 (a.eval (.tmp 25)) (l ++ b.take k) from hd 9 rfl).fresh
            exact ⟨wanted_none rfl, loc_build_q rfl (hd 1 rfl) e1 ⟨d, f, rfl, e2, e3⟩⟩
          · exact ⟨wanted_none rfl, loc_move rfl ((hf.base 6 rfl).trans (congrArg (Value.int .i64) hkk.out))⟩
        | 3, _ =>
          refine ⟨?_, ?_, trivial⟩ <;> intro a w2 hb hf hd
          · exact ⟨wanted_none rfl, loc_move rfl ((hf.base 6 rfl).trans (congrArg (Value.int .i64) hkk.out))⟩
          · exact ⟨wanted_none rfl, loc_assign rfl (hd 11 rfl)⟩
      · intro p hp
        match p, hp with
        | 0, _ =>
          intro a2 w2 hb hf hd
          have hown : Own w1.heap.size w2 (a2.eval (.tmp 18)) [] := hd 2 rfl
          exact ⟨wanted_none rfl, wp_append_ownb rfl hown ⟨a, c, hd 4 rfl, H2.out.keep hb⟩ (by rw [List.length_nil]; omega) hb.size fun v' w3 h1 h2 h3 => ⟨v', rfl, hb.grown h2 hb.size fun k hk => (hown.lt hk).1, h1, ⟨.inr fun _ _ h => h, .inr fun _ _ h => h, .inr fun _ _ _ => trivial, .inr fun _ _ _ => trivial, .inr fun _ _ _ => trivial, .inl rfl, .inr fun _ _ h => h, .inr fun _ _ h => h, .inr fun _ _ h => h, .inr fun _ _ _ => trivial, .inr fun _ _ h => h, .inr fun _ _ h => h, .inr fun _ _ _ => trivial, .inr fun _ _ h => h, trivial⟩⟩⟩
        | 1, _ =>
          intro a2 w2 hb hf hd
          have hown : Own w1.heap.size w2 (a2.eval (.tmp 21)) l := hd 5 rfl
          have hlk : (b.take k).length = k := by rw [List.length_take]; omega
          have h8 : a2.eval (.tmp 24) = .slice ab k cb := hd 8 rfl
          exact ⟨wanted_none rfl, wp_append_ownb rfl hown ⟨ab, cb, by rw [h8, hlk], (HB0.out.takeQ k).keep (below_trans HB2.out hb)⟩ (by rw [hlk]; omega) hb.size fun v' w3 h1 h2 h3 => ⟨v', rfl, hb.grown h2 hb.size fun k hk => (hown.lt hk).1, h1, ⟨.inr fun _ _ h => h, .inr fun _ _ h => h, .inr fun _ _ _ => trivial, .inr fun _ _ _ => trivial, .inr fun _ _ _ => trivial, .inr fun _ _ _ => trivial, .inr fun _ _ _ => trivial, .inr fun _ _ _ => trivial, .inr fun _ _ _ => trivial, .inl rfl, .inr fun _ _ h => h.elim, .inr fun _ _ h => h, .inr fun _ _ _ => trivial, .inr fun _ _ h => h, trivial⟩⟩⟩
        | 2, _ =>
          intro a2 w2 hb hf hd
          refine ⟨wanted_none rfl, ?_⟩
          obtain ⟨d, f, e1, e2, e3⟩ := hd 10 rfl
          have hgl : g + 1 < w1.heap.size := (Array.getElem?_eq_some_iff.1 HR2.out).1
          have hgw := HG.out
          refine wp_store_row 24 _ _ rfl (g + 1) #[.int .i64 z, .slice d (l ++ b.take k).length f] (hf.base 4 rfl) e1 24 _ (HR2.out.keep hb) sizeQ rfl (oneQ _ _ _ _) ⟨undef, rfl, ⟨?_, d, f, ?_, ?_⟩, trivial, ⟨.inr fun _ _ _ => trivial, .inr fun _ _ _ => trivial, .inr fun _ _ _ => trivial, .inr fun _ _ _ => trivial, .inr fun _ _ _ => trivial, .inr fun _ _ _ => trivial, .inr fun _ _ _ => trivial, .inr fun _ _ _ => trivial, .inr fun _ _ _ => trivial, .inr fun _ _ _ => trivial, .inr fun _ _ _ => trivial, .inr fun _ _ h => h, .inl rfl, .inr fun _ _ h => h, trivial⟩⟩
          · exact below_setRow (below_trans HB2.out hb) (by omega) _
          · exact setRow_heap _ _ _ _ _ _ (HR2.out.keep hb)
          · exact e2.setRowQ (fun x hx _ => by have := e3 x hx; omega) _
      · intro a2 w2 hp hf hh
        refine hK a2 w2 ?_
        go_wp2_with fail
        obtain ⟨p1, d, f, p3, p4⟩ := hp
        refine bodyPost_ret (results_row_tmp rfl _ w2 (g + 1) _ _ _ _ (hf.base 4 rfl) p3 Try.underlying24 rfl sizeQ) hf.defers ?_
        rw [show a2.tmps.getD 5 undef = .int .i64 k from hh 13 (by decide)]
        exact ⟨d, f, rfl, p1, p4⟩
end Go.Proofs.Ytpgppninmnplkaa
