/- Queues: the reference's Take. -/
import Derived.Test.YtpgppninmnplkaaQueE
import Derived.Test.YtpgppninmnplkaaLocP
import Derived.ArgAppend
namespace Go.Proofs.Ytpgppninmnplkaa
open Go.RowKit

theorem bytesF_new {w w' : World} {B : Nat} {v : Value} {r : List UInt8} (h : w'.ownsRow w.heap.size 5 1 v r.length (bytesV r)) (hB : B ≤ w.heap.size) : BytesF B w' v r := by
  obtain ⟨a, c, h1, h2⟩ := Own.val (B := w.heap.size) h
  refine ⟨a, c, h1, h2, fun x hx => ?_⟩
  subst hx h1
  have := World.ownsRow.lt h x.block rfl
  omega
/-- Append to an empty slice without room. -/
theorem run_append_empty (w : World) (g : Nat) (ty : TypeId) {xa : Option Addr} {r : List UInt8} {c : Nat} (hx : IsBytes w xa r c) (hn : r.length ≤ 140737488355328) {B : Nat} (hB : B ≤ g) (hBw : B ≤ w.heap.size) :
    ∃ v w', (Builtin.append_ #[22, 22] ty #[.slice (some ⟨g, 0, none⟩) 0 0, .slice xa r.length c]).run Try.prog w = .ok v w' ∧ Below w.heap.size w w' ∧ BytesF B w' v r := by
  obtain ⟨i0, hi, hz0, hz1, hz2⟩ := info_parts Try.info5
  by_cases h0 : r = []
  · subst h0
    refine ⟨.slice (some ⟨g, 0, none⟩) 0 0, w, ?_, Below.refl _ _, some ⟨g, 0, none⟩, 0, rfl, .inr ⟨_, rfl, Nat.le_refl _, Nat.zero_le _, fun j hj => absurd hj (Nat.not_lt_zero _)⟩, fun x hx => by obtain rfl := Option.some.inj hx; exact hB⟩
    cases xa <;> simp [Builtin.append_, run_underlying Try.underlying22, sizeOf, typeInfo, hi, Builtin.lenOf, Builtin.firstCells, loadCells, storeCells, loadCellsFrom]
  · rcases hx with ⟨_, h1, _⟩ | ⟨ad, rfl, hr1, hr2, hr3⟩
    · exact absurd h1 h0
    · have hp : 0 < r.length := List.length_pos_iff.2 h0
      obtain ⟨v, w', h1, h2, h3⟩ := run_append_arg_grows (P := Try.prog) (w := w) 22 ty 5 i0 (.int .u8 0) 1 1 Try.underlying22 hi hz0 hz1 hz2 rfl (by decide) ⟨g, 0, none⟩ 0 0 [] rfl (fun j u hj => by simp at hj) ad r.length c (bytesV r) (by rw [bytesV_len, Nat.mul_one])
        (fun j u hj => by
          unfold bytesV at hj
          rw [List.getElem?_map] at hj
          obtain ⟨c', hc', rfl⟩ := Option.map_eq_some_iff.1 hj
          obtain ⟨hlt, rfl⟩ := List.getElem?_eq_some_iff.1 hc'
          exact hr3 j hlt) (by omega) (by unfold maxLen; omega) (by omega)
      refine ⟨v, w', h1, (Below.refl _ _).grown h3 (Nat.le_refl _) (fun k hk => by cases hk), bytesF_new ?_ hBw⟩
      simpa using h2
section
variable {Q : Exit → Act → World → Prop} {a : Act} {w : World} {o : Oper} {s : Spec}
theorem loc_append_empty {x y : Operand} (ho : o.op = .call { callee := .builtin .append, args := #[x, y], argTypes := #[22, 22] }) {g : Nat} (hx : a.eval x = .slice (some ⟨g, 0, none⟩) 0 0) {r : List UInt8} (hy : BytesV w (a.eval y) r) (hn : r.length ≤ 140737488355328)
    {B : Nat} (hB : B ≤ g) (hBw : B ≤ w.heap.size) (hs : ∀ v w', BytesF B w' v r → s.p v w') :
    o.wp Try.prog a w (fun a' w' => ∃ v, a' = a.put o.dst v ∧ Below w.heap.size w w' ∧ s.p v w') Q := by
  obtain ⟨ya, yc, hy1, hy2⟩ := hy
  obtain ⟨v, w', h1, h2, h3⟩ := run_append_empty w g o.type hy2 hn hB hBw
  refine loc_run (v := v) (w' := w') ?_ h2 (hs v w' h3)
  unfold execOp
  simp only [ho]
  simp [resolve, invoke, builtin, hx, hy1, h1, Result.andThen]
/-- An empty slice without room, at B or beyond. -/
def Spec.none0 (B : Nat) : Spec := ⟨fun v _ => ∃ g, v = .slice (some ⟨g, 0, none⟩) 0 0 ∧ B ≤ g, fun _ _ _ h _ => h⟩
theorem loc_build0 (ho : o.op = .buildSlice 22 0 #[]) {B : Nat} (hBw : B ≤ w.heap.size) (hs : ∀ v w', (∃ g, v = .slice (some ⟨g, 0, none⟩) 0 0 ∧ B ≤ g) → s.p v w') :
    o.wp Try.prog a w (fun a' w' => ∃ v, a' = a.put o.dst v ∧ Below w.heap.size w w' ∧ s.p v w') Q := by
  refine loc_run (v := .slice (some ⟨w.heap.size, 0, none⟩) 0 0) (w' := w.alloc (.cells #[] 5)) ?_ (below_one _ _) (hs _ _ ⟨_, rfl, hBw⟩)
  obtain ⟨i0, hi, hz0, hz1, hz2⟩ := info_parts Try.info5
  unfold execOp
  simp [ho, Instr.buildSlice, run_underlying Try.underlying22, sizeOf, typeInfo, hi, Instr.fill, newRow, show Array.range 0 = #[] from rfl]
theorem loc_upto {x y : Operand} (ho : o.op = .slice 22 x none (some y) none) {l : List UInt8} {k : Nat} (hx : BytesV w (a.eval x) l) (hy : a.eval y = .int .i64 k) (hk : k ≤ l.length) (hs : ∀ v, BytesV w v (l.take k) → s.p v w) :
    o.wp Try.prog a w (fun a' w' => ∃ v, a' = a.put o.dst v ∧ Below w.heap.size w w' ∧ s.p v w') Q := by
  obtain ⟨ad, c, h1, h2⟩ := hx
  have hcap : l.length ≤ c := by
    rcases h2 with ⟨_, h, h'⟩ | ⟨_, _, h, _⟩
    · rw [h, h']; exact Nat.le_refl _
    · exact h
  have es : (sizeOf (Try.prog.elem 22)).run Try.prog w = .ok 1 w := by rw [show Try.prog.elem 22 = 5 by kernel_rfl]; exact sizeOf_u8Q w
  have hl : (l.take k).length = k := by rw [List.length_take]; omega
  refine loc_run (v := .slice ad k c) ?_ (Below.refl _ _) (hs _ ⟨ad, c, by rw [hl], h2.takeQ k⟩)
  have hrun : (Instr.sliceAt 22 (.slice ad l.length c) none (some (.int .i64 (k : Int))) none).run Try.prog w = .ok (.slice ad k c) w := by
    rw [run_sliceAt_slice w 22 _ _ _ _ (by kernel_rfl), run_slice_h w 22 _ _ _ (by kernel_rfl) .i64 (k : Int) (by omega) (by omega), es]
    have ha : Option.map (fun x : Addr => x.add 0) ad = ad := by cases ad <;> simp [Addr.add]
    simp [Result.andThen, sliced, ha]
  unfold execOp
  simp only [ho, h1, hy, Option.map_some, Option.map_none, Sem.run_bind, hrun, Result.andThen_ok, Sem.run_pure]
end
theorem loc_load_q {Q : Exit → Act → World → Prop} {a : Act} {w : World} {o : Oper} {s : Spec} {x : Operand} (ho : o.op = .load 24 x) {g : Nat} (hx : a.eval x = .pointer (some ⟨g, 0, none⟩)) {z : Int} {ad : Option Addr} {n c : Nat} (h : QVar w g z ad n c) (hs : s.p (.agg #[.int .i64 z, .slice ad n c]) w) :
    o.wp Try.prog a w (fun a' w' => ∃ v, a' = a.put o.dst v ∧ Below w.heap.size w w' ∧ s.p v w') Q :=
  wp_load_row 24 x ho g hx 24 _ (0, 0) _ h Try.underlying24 rfl sizeQ ⟨_, rfl, Below.refl _ _, hs⟩
theorem BytesF.setRowF {B g : Nat} {w : World} {v : Value} {l : List UInt8} (h : BytesF B w v l) (hg : g < B) (cs : Array Value) : BytesF B (w.setRow g cs) v l := by
  obtain ⟨a, c, h1, h2, h3⟩ := h
  exact ⟨a, c, h1, h2.setRowQ (fun x hx _ => by have := h3 x hx; omega) cs, h3⟩
set_option maxRecDepth 100000 in
set_option maxHeartbeats 4000000 in
theorem refTake_any (z n : Int) (l : List UInt8) (a : Option Addr) (c : Nat) (w : World) (h : IsBytes w a l c) (hlen : l.length ≤ 140737488355328) :
    Calls Try.prog 20 #[.agg #[.int .i64 z, .slice a l.length c], .int .i64 n] w fun e w' => ∃ v b d, e = .returned (.tuple #[v, .agg #[.int .i64 z, .slice b (l.drop (peekN z n l.length)).length d]]) ∧ Below w.heap.size w w' ∧
      BytesV w' v (l.take (peekN z n l.length)) ∧ IsBytes w' b (l.drop (peekN z n l.length)) d := by
  have H0 := Box.mk h
  clear h
  obtain ⟨k, hk⟩ : ∃ k, k = peekN z n l.length := ⟨_, rfl⟩
  have hkl : k ≤ l.length := by rw [hk]; exact peekN_le z n l.length
  have HK := Box.mk hk
  rw [← hk]
  clear hk
  go_enter Try.func20, Try.ntmps20
  go_wp2_with fail
  obtain ⟨W, hW⟩ : ∃ W, W = (w.alloc (.cells #[.int .i64 z, .slice a l.length c] 24)).alloc (.cells #[.int .i64 0, .slice none 0 0] 24) := ⟨_, rfl⟩
  have HBW : Box (Below w.heap.size w W) := ⟨by rw [hW]; exact below_two w _ _⟩
  have HQ : Box (QVar W w.heap.size z a l.length c) := ⟨by
    rw [hW]
    have := (below_one (w.alloc (.cells #[.int .i64 z, .slice a l.length c] 24)) (.cells #[.int .i64 0, .slice none 0 0] 24)).block w.heap.size (by simp)
    exact this.trans (heap_alloc_new _ _)⟩
  have HR : Box (QVar W (w.heap.size + 1) 0 none 0 0) := ⟨by
    rw [hW]
    have := heap_alloc_new (w.alloc (.cells #[.int .i64 z, .slice a l.length c] 24)) (.cells #[.int .i64 0, .slice none 0 0] 24)
    rw [World.size_alloc] at this; exact this⟩
  change Calls _ _ _ ((w.alloc (.cells #[.int .i64 z, .slice a l.length c] 24)).alloc (.cells #[.int .i64 0, .slice none 0 0] 24)) _
  rw [← hW]
  clear hW
  refine (refValid_lit z a l.length c W).mono ?_
  rintro e w1 ⟨rfl, hb1⟩
  have HB1 := Box.mk (below_trans HBW.out hb1)
  have HQ1 := Box.mk (HQ.out.keep hb1)
  have HR1 := Box.mk (HR.out.keep hb1)
  have H1 := Box.mk (H0.out.keep HB1.out)
  clear hb1 HBW HQ HR
  cases hv : validB z l.length with
  | false =>
    have HK0 := Box.mk (show k = 0 by rw [HK.out]; unfold peekN; rw [hv]; rfl)
    generalize hg : w.heap.size = g at HQ1 HR1 ⊢
    have HG := Box.mk hg
    have HB2 : Box (Below g w w1) := ⟨by rw [← hg]; exact HB1.out⟩
    clear hg
    go_wp2_with fail
    rename_i K hK
    refine wp_region_store (S := [some (.val (.agg #[.int .i64 z, .slice a l.length c])), some (.val (.slice none 0 0)), none]) 2 [] (fun w' => Below g w w' ∧ QVar w' (g + 1) z a l.length c)
      (by kernel_rfl) (by kernel_rfl) (by kernel_rfl) (by kernel_rfl) rfl rfl rfl ?_ trivial ?_ ?_
    · refine ⟨?_, ?_, trivial⟩ <;> intro a w hb hf hd
      · exact ⟨wanted_none rfl, loc_load_q rfl (hf.base 2 rfl) (HQ1.out.keep hb) rfl⟩
      · exact ⟨wanted_none rfl, loc_assign rfl rfl⟩
    · refine ⟨rfl, fun a w2 hb hf hd => ⟨wanted_none rfl, ?_⟩⟩
      refine wp_store_row 24 _ _ rfl (g + 1) #[.int .i64 z, .slice _ l.length c] (hf.base 5 rfl) (hd 0 rfl) 24 _ (HR1.out.keep hb) sizeQ rfl (oneQ _ _ _ _) ⟨rfl, ?_, ?_⟩
      · have h1 := HG.out
        have h2 : Below w1.heap.size w1 w2 := hb
        exact below_setRow (HB2.out.trans (h2.mono (by have := HB1.out.size; omega))) (by omega) _
      · exact setRow_heap _ _ _ _ _ _ (HR1.out.keep hb)
    · intro a w2 hp hf hh
      refine hK a w2 ?_
      go_wp2_with fail
      refine bodyPost_ret (results_tmp_row rfl _ w2 (g + 1) _ _ _ _ (hf.base 5 rfl) hp.2 Try.underlying24 rfl sizeQ) hf.defers ?_
      have hk0 := HK0.out
      subst hk0
      rw [show a.tmps.getD 4 undef = .slice none 0 0 from hh 1 (by decide)]
      have hb0 : Below w.heap.size w w2 := by rw [HG.out]; exact hp.1
      exact ⟨_, _, c, rfl, hb0, ⟨none, 0, rfl, .inl ⟨rfl, rfl, rfl⟩⟩, H0.out.keep hb0⟩
  | true =>
    have hkc := Box.mk (show k = clampN n l.length by rw [HK.out]; unfold peekN; rw [hv]; rfl)
    have hd := HQ1.out.data
    generalize hg : w.heap.size = g at HQ1 HR1 hd ⊢
    have HG := Box.mk hg
    clear hg
    by_cases hpos : 0 < l.length
    · rcases Int.lt_trichotomy n 0 with h0 | rfl | h0
      · have hkk := Box.mk (show (0 : Int) = (k : Int) by rw [hkc.out]; unfold clampN; omega)
        have hkk2 := hkk
        go_wp2_with fail
        rename_i K hK
        refine wp_region_phases [16] (fun p => match p with | 0 => [0, 1, 2, 3, 4, 5, 6, 7, 8, 9, 10, 11, 12, 13, 14, 15] | _ => [])
          (fun p => match p with
            | 0 => [.none0 w1.heap.size, .val (.pointer (some ⟨g, 1, none⟩)), .val (.slice a l.length c), .val (.int .i64 k), .bytesL (l.take k), .fresh w1.heap.size (l.take k),
              .val (.pointer (some ⟨g, 0, none⟩)), .val (.int .i64 z), .none0 w1.heap.size, .val (.pointer (some ⟨g, 1, none⟩)), .val (.slice a l.length c), .val (.int .i64 k), .bytesL (l.drop k), .fresh w1.heap.size (l.drop k),
              .queue w1.heap.size z (l.drop k), .fresh w1.heap.size (l.take k), .any]
            | _ => [.any, .any, .any, .any, .any, .any, .any, .any, .any, .any, .any, .any, .any, .any, .any, .fresh w1.heap.size (l.take k), .any])
          (fun p => match p with
            | 0 => fun w' => Below w1.heap.size w1 w'
            | _ => fun w' => Below w.heap.size w w' ∧ ∃ b d, QVar w' (g + 1) z b (l.drop k).length d ∧ IsBytes w' b (l.drop k) d)
          (by kernel_rfl) (by kernel_rfl) (by kernel_rfl) (by kernel_rfl) (by kernel_rfl) (by kernel_rfl) ?_ (Below.refl _ _) ?_ ?_ ?_
        · intro p w2 w3 h1 h2
          match p with
          | 0 => exact below_trans h1 h2
          | p + 1 =>
            obtain ⟨h3, b, d, h4, h5⟩ := h1
            exact ⟨below_trans h3 h2, b, d, h4.keep h2, h5.keep h2⟩
        · intro p hp
          match p, hp with
          | 1, _ => exact trivial
          | 0, _ =>
            refine ⟨?_, ?_, ?_, ?_, ?_, ?_, ?_, ?_, ?_, ?_, ?_, ?_, ?_, ?_, ?_, ?_, trivial⟩ <;> intro a w hb hf hd
            · exact ⟨wanted_none rfl, loc_build0 rfl hb.size fun v w' h => h⟩
            · exact ⟨wanted_none rfl, loc_field1 rfl (hf.base 2 rfl) rfl⟩
            · exact ⟨wanted_none rfl, loc_load_slice rfl (hd 1 rfl) (HQ1.out.keep hb).data rfl⟩
            · exact ⟨wanted_none rfl, loc_move rfl (by first | exact (hf.base 1 rfl).trans (congrArg (Value.int .i64) hkk.out) | exact (hf.base 1 rfl).trans (congrArg (Value.int .i64) hkk2.out))⟩
            · exact ⟨wanted_none rfl, loc_upto rfl (l := l) ⟨_, c, hd 2 rfl, H1.out.keep hb⟩ (hd 3 rfl) hkl fun v h => h⟩
            · obtain ⟨g0, e1, e2⟩ := hd 0 rfl
              exact ⟨wanted_none rfl, loc_append_empty rfl e1 (hd 4 rfl) (by rw [List.length_take]; omega) e2 hb.size fun v w' h => h⟩
            · exact ⟨wanted_none rfl, loc_field0 rfl (hf.base 2 rfl) rfl⟩
            · exact ⟨wanted_none rfl, loc_load_int rfl (hd 6 rfl) (HQ1.out.keep hb).cap rfl⟩
            · exact ⟨wanted_none rfl, loc_build0 rfl hb.size fun v w' h => h⟩
            · exact ⟨wanted_none rfl, loc_field1 rfl (hf.base 2 rfl) rfl⟩
            · exact ⟨wanted_none rfl, loc_load_slice rfl (hd 9 rfl) (HQ1.out.keep hb).data rfl⟩
            · exact ⟨wanted_none rfl, loc_move rfl (by first | exact (hf.base 1 rfl).trans (congrArg (Value.int .i64) hkk.out) | exact (hf.base 1 rfl).trans (congrArg (Value.int .i64) hkk2.out))⟩
            · exact ⟨wanted_none rfl, loc_from rfl (l := l) ⟨_, c, hd 10 rfl, H1.out.keep hb⟩ (hd 11 rfl) hkl fun v h => h⟩
            · obtain ⟨g0, e1, e2⟩ := hd 8 rfl
              exact ⟨wanted_none rfl, loc_append_empty rfl e1 (hd 12 rfl) (by rw [List.length_drop]; omega) e2 hb.size fun v w' h => h⟩
            · obtain ⟨b, d, e1, e2, e3⟩ := hd 13 rfl
              exact ⟨wanted_none rfl, loc_build_q rfl (hd 7 rfl) e1 ⟨b, d, rfl, e2, e3⟩⟩
            · exact ⟨wanted_none rfl, loc_assign rfl (hd 5 rfl)⟩
        · intro p hp
          match p, hp with
          | 0, _ =>
            intro a w2 hb hf hd
            refine ⟨wanted_none rfl, ?_⟩
            obtain ⟨b, d, e1, e2, e3⟩ := hd 14 rfl
            have hgl : g + 1 < w1.heap.size := (Array.getElem?_eq_some_iff.1 HR1.out).1
            have hgw := HG.out
            refine wp_store_row 24 _ _ rfl (g + 1) #[.int .i64 z, .slice b (l.drop k).length d] (hf.base 5 rfl) e1 24 _ (HR1.out.keep hb) sizeQ rfl (oneQ _ _ _ _) ⟨undef, rfl, ⟨?_, b, d, ?_, ?_⟩, trivial, ?_⟩
            · exact below_setRow (below_trans HB1.out hb) (by omega) _
            · exact setRow_heap _ _ _ _ _ _ (HR1.out.keep hb)
            · exact e2.setRowQ (fun x hx _ => by have := e3 x hx; omega) _
            · exact ⟨.inr fun _ _ _ => trivial, .inr fun _ _ _ => trivial, .inr fun _ _ _ => trivial, .inr fun _ _ _ => trivial, .inr fun _ _ _ => trivial, .inr fun _ _ _ => trivial, .inr fun _ _ _ => trivial, .inr fun _ _ _ => trivial, .inr fun _ _ _ => trivial, .inr fun _ _ _ => trivial, .inr fun _ _ _ => trivial, .inr fun _ _ _ => trivial, .inr fun _ _ _ => trivial, .inr fun _ _ _ => trivial, .inr fun _ _ _ => trivial, .inr fun v _ h => h.setRowF (by omega) _, .inr fun _ _ _ => trivial, trivial⟩
        · intro a w2 hp hf hh
          refine hK a w2 ?_
          go_wp2_with fail
          obtain ⟨p1, b, d, p3, p4⟩ := hp
          refine bodyPost_ret (results_tmp_row rfl _ w2 (g + 1) _ _ _ _ (hf.base 5 rfl) p3 Try.underlying24 rfl sizeQ) hf.defers ?_
          exact ⟨_, b, d, rfl, p1, (hh 15 (by decide)).bytes, p4⟩
      · have hkk := Box.mk (show (0 : Int) = (k : Int) by rw [hkc.out]; unfold clampN; omega)
        have hkk2 := hkk
        go_wp2_with fail
        rename_i K hK
        refine wp_region_phases [16] (fun p => match p with | 0 => [0, 1, 2, 3, 4, 5, 6, 7, 8, 9, 10, 11, 12, 13, 14, 15] | _ => [])
          (fun p => match p with
            | 0 => [.none0 w1.heap.size, .val (.pointer (some ⟨g, 1, none⟩)), .val (.slice a l.length c), .val (.int .i64 k), .bytesL (l.take k), .fresh w1.heap.size (l.take k),
              .val (.pointer (some ⟨g, 0, none⟩)), .val (.int .i64 z), .none0 w1.heap.size, .val (.pointer (some ⟨g, 1, none⟩)), .val (.slice a l.length c), .val (.int .i64 k), .bytesL (l.drop k), .fresh w1.heap.size (l.drop k),
              .queue w1.heap.size z (l.drop k), .fresh w1.heap.size (l.take k), .any]
            | _ => [.any, .any, .any, .any, .any, .any, .any, .any, .any, .any, .any, .any, .any, .any, .any, .fresh w1.heap.size (l.take k), .any])
          (fun p => match p with
            | 0 => fun w' => Below w1.heap.size w1 w'
            | _ => fun w' => Below w.heap.size w w' ∧ ∃ b d, QVar w' (g + 1) z b (l.drop k).length d ∧ IsBytes w' b (l.drop k) d)
          (by kernel_rfl) (by kernel_rfl) (by kernel_rfl) (by kernel_rfl) (by kernel_rfl) (by kernel_rfl) ?_ (Below.refl _ _) ?_ ?_ ?_
        · intro p w2 w3 h1 h2
          match p with
          | 0 => exact below_trans h1 h2
          | p + 1 =>
            obtain ⟨h3, b, d, h4, h5⟩ := h1
            exact ⟨below_trans h3 h2, b, d, h4.keep h2, h5.keep h2⟩
        · intro p hp
          match p, hp with
          | 1, _ => exact trivial
          | 0, _ =>
            refine ⟨?_, ?_, ?_, ?_, ?_, ?_, ?_, ?_, ?_, ?_, ?_, ?_, ?_, ?_, ?_, ?_, trivial⟩ <;> intro a w hb hf hd
            · exact ⟨wanted_none rfl, loc_build0 rfl hb.size fun v w' h => h⟩
            · exact ⟨wanted_none rfl, loc_field1 rfl (hf.base 2 rfl) rfl⟩
            · exact ⟨wanted_none rfl, loc_load_slice rfl (hd 1 rfl) (HQ1.out.keep hb).data rfl⟩
            · exact ⟨wanted_none rfl, loc_move rfl (by first | exact (hf.base 1 rfl).trans (congrArg (Value.int .i64) hkk.out) | exact (hf.base 1 rfl).trans (congrArg (Value.int .i64) hkk2.out))⟩
            · exact ⟨wanted_none rfl, loc_upto rfl (l := l) ⟨_, c, hd 2 rfl, H1.out.keep hb⟩ (hd 3 rfl) hkl fun v h => h⟩
            · obtain ⟨g0, e1, e2⟩ := hd 0 rfl
              exact ⟨wanted_none rfl, loc_append_empty rfl e1 (hd 4 rfl) (by rw [List.length_take]; omega) e2 hb.size fun v w' h => h⟩
            · exact ⟨wanted_none rfl, loc_field0 rfl (hf.base 2 rfl) rfl⟩
            · exact ⟨wanted_none rfl, loc_load_int rfl (hd 6 rfl) (HQ1.out.keep hb).cap rfl⟩
            · exact ⟨wanted_none rfl, loc_build0 rfl hb.size fun v w' h => h⟩
            · exact ⟨wanted_none rfl, loc_field1 rfl (hf.base 2 rfl) rfl⟩
            · exact ⟨wanted_none rfl, loc_load_slice rfl (hd 9 rfl) (HQ1.out.keep hb).data rfl⟩
            · exact ⟨wanted_none rfl, loc_move rfl (by first | exact (hf.base 1 rfl).trans (congrArg (Value.int .i64) hkk.out) | exact (hf.base 1 rfl).trans (congrArg (Value.int .i64) hkk2.out))⟩
            · exact ⟨wanted_none rfl, loc_from rfl (l := l) ⟨_, c, hd 10 rfl, H1.out.keep hb⟩ (hd 11 rfl) hkl fun v h => h⟩
            · obtain ⟨g0, e1, e2⟩ := hd 8 rfl
              exact ⟨wanted_none rfl, loc_append_empty rfl e1 (hd 12 rfl) (by rw [List.length_drop]; omega) e2 hb.size fun v w' h => h⟩
            · obtain ⟨b, d, e1, e2, e3⟩ := hd 13 rfl
              exact ⟨wanted_none rfl, loc_build_q rfl (hd 7 rfl) e1 ⟨b, d, rfl, e2, e3⟩⟩
            · exact ⟨wanted_none rfl, loc_assign rfl (hd 5 rfl)⟩
        · intro p hp
          match p, hp with
          | 0, _ =>
            intro a w2 hb hf hd
            refine ⟨wanted_none rfl, ?_⟩
            obtain ⟨b, d, e1, e2, e3⟩ := hd 14 rfl
            have hgl : g + 1 < w1.heap.size := (Array.getElem?_eq_some_iff.1 HR1.out).1
            have hgw := HG.out
            refine wp_store_row 24 _ _ rfl (g + 1) #[.int .i64 z, .slice b (l.drop k).length d] (hf.base 5 rfl) e1 24 _ (HR1.out.keep hb) sizeQ rfl (oneQ _ _ _ _) ⟨undef, rfl, ⟨?_, b, d, ?_, ?_⟩, trivial, ?_⟩
            · exact below_setRow (below_trans HB1.out hb) (by omega) _
            · exact setRow_heap _ _ _ _ _ _ (HR1.out.keep hb)
            · exact e2.setRowQ (fun x hx _ => by have := e3 x hx; omega) _
            · exact ⟨.inr fun _ _ _ => trivial, .inr fun _ _ _ => trivial, .inr fun _ _ _ => trivial, .inr fun _ _ _ => trivial, .inr fun _ _ _ => trivial, .inr fun _ _ _ => trivial, .inr fun _ _ _ => trivial, .inr fun _ _ _ => trivial, .inr fun _ _ _ => trivial, .inr fun _ _ _ => trivial, .inr fun _ _ _ => trivial, .inr fun _ _ _ => trivial, .inr fun _ _ _ => trivial, .inr fun _ _ _ => trivial, .inr fun _ _ _ => trivial, .inr fun v _ h => h.setRowF (by omega) _, .inr fun _ _ _ => trivial, trivial⟩
        · intro a w2 hp hf hh
          refine hK a w2 ?_
          go_wp2_with fail
          obtain ⟨p1, b, d, p3, p4⟩ := hp
          refine bodyPost_ret (results_tmp_row rfl _ w2 (g + 1) _ _ _ _ (hf.base 5 rfl) p3 Try.underlying24 rfl sizeQ) hf.defers ?_
          exact ⟨_, b, d, rfl, p1, (hh 15 (by decide)).bytes, p4⟩
      · obtain ⟨m, rfl⟩ : ∃ m : Nat, n = m := ⟨n.toNat, by omega⟩
        have hm0 : 0 < m := by omega
        by_cases h1 : m < l.length
        · have hkk := Box.mk (show (m : Int) = (k : Int) by rw [hkc.out]; unfold clampN; omega)
          have hkk2 := hkk
          go_wp2_with fail
          rename_i K hK
          refine wp_region_phases [16] (fun p => match p with | 0 => [0, 1, 2, 3, 4, 5, 6, 7, 8, 9, 10, 11, 12, 13, 14, 15] | _ => [])
            (fun p => match p with
              | 0 => [.none0 w1.heap.size, .val (.pointer (some ⟨g, 1, none⟩)), .val (.slice a l.length c), .val (.int .i64 k), .bytesL (l.take k), .fresh w1.heap.size (l.take k),
                .val (.pointer (some ⟨g, 0, none⟩)), .val (.int .i64 z), .none0 w1.heap.size, .val (.pointer (some ⟨g, 1, none⟩)), .val (.slice a l.length c), .val (.int .i64 k), .bytesL (l.drop k), .fresh w1.heap.size (l.drop k),
                .queue w1.heap.size z (l.drop k), .fresh w1.heap.size (l.take k), .any]
              | _ => [.any, .any, .any, .any, .any, .any, .any, .any, .any, .any, .any, .any, .any, .any, .any, .fresh w1.heap.size (l.take k), .any])
            (fun p => match p with
              | 0 => fun w' => Below w1.heap.size w1 w'
              | _ => fun w' => Below w.heap.size w w' ∧ ∃ b d, QVar w' (g + 1) z b (l.drop k).length d ∧ IsBytes w' b (l.drop k) d)
            (by kernel_rfl) (by kernel_rfl) (by kernel_rfl) (by kernel_rfl) (by kernel_rfl) (by kernel_rfl) ?_ (Below.refl _ _) ?_ ?_ ?_
          · intro p w2 w3 h1 h2
            match p with
            | 0 => exact below_trans h1 h2
            | p + 1 =>
              obtain ⟨h3, b, d, h4, h5⟩ := h1
              exact ⟨below_trans h3 h2, b, d, h4.keep h2, h5.keep h2⟩
          · intro p hp
            match p, hp with
            | 1, _ => exact trivial
            | 0, _ =>
              refine ⟨?_, ?_, ?_, ?_, ?_, ?_, ?_, ?_, ?_, ?_, ?_, ?_, ?_, ?_, ?_, ?_, trivial⟩ <;> intro a w hb hf hd
              · exact ⟨wanted_none rfl, loc_build0 rfl hb.size fun v w' h => h⟩
              · exact ⟨wanted_none rfl, loc_field1 rfl (hf.base 2 rfl) rfl⟩
              · exact ⟨wanted_none rfl, loc_load_slice rfl (hd 1 rfl) (HQ1.out.keep hb).data rfl⟩
              · exact ⟨wanted_none rfl, loc_move rfl (by first | exact (hf.base 1 rfl).trans (congrArg (Value.int .i64) hkk.out) | exact (hf.base 1 rfl).trans (congrArg (Value.int .i64) hkk2.out))⟩
              · exact ⟨wanted_none rfl, loc_upto rfl (l := l) ⟨_, c, hd 2 rfl, H1.out.keep hb⟩ (hd 3 rfl) hkl fun v h => h⟩
              · obtain ⟨g0, e1, e2⟩ := hd 0 rfl
                exact ⟨wanted_none rfl, loc_append_empty rfl e1 (hd 4 rfl) (by rw [List.length_take]; omega) e2 hb.size fun v w' h => h⟩
              · exact ⟨wanted_none rfl, loc_field0 rfl (hf.base 2 rfl) rfl⟩
              · exact ⟨wanted_none rfl, loc_load_int rfl (hd 6 rfl) (HQ1.out.keep hb).cap rfl⟩
              · exact ⟨wanted_none rfl, loc_build0 rfl hb.size fun v w' h => h⟩
              · exact ⟨wanted_none rfl, loc_field1 rfl (hf.base 2 rfl) rfl⟩
              · exact ⟨wanted_none rfl, loc_load_slice rfl (hd 9 rfl) (HQ1.out.keep hb).data rfl⟩
              · exact ⟨wanted_none rfl, loc_move rfl (by first | exact (hf.base 1 rfl).trans (congrArg (Value.int .i64) hkk.out) | exact (hf.base 1 rfl).trans (congrArg (Value.int .i64) hkk2.out))⟩
              · exact ⟨wanted_none rfl, loc_from rfl (l := l) ⟨_, c, hd 10 rfl, H1.out.keep hb⟩ (hd 11 rfl) hkl fun v h => h⟩
              · obtain ⟨g0, e1, e2⟩ := hd 8 rfl
                exact ⟨wanted_none rfl, loc_append_empty rfl e1 (hd 12 rfl) (by rw [List.length_drop]; omega) e2 hb.size fun v w' h => h⟩
              · obtain ⟨b, d, e1, e2, e3⟩ := hd 13 rfl
                exact ⟨wanted_none rfl, loc_build_q rfl (hd 7 rfl) e1 ⟨b, d, rfl, e2, e3⟩⟩
              · exact ⟨wanted_none rfl, loc_assign rfl (hd 5 rfl)⟩
          · intro p hp
            match p, hp with
            | 0, _ =>
              intro a w2 hb hf hd
              refine ⟨wanted_none rfl, ?_⟩
              obtain ⟨b, d, e1, e2, e3⟩ := hd 14 rfl
              have hgl : g + 1 < w1.heap.size := (Array.getElem?_eq_some_iff.1 HR1.out).1
              have hgw := HG.out
              refine wp_store_row 24 _ _ rfl (g + 1) #[.int .i64 z, .slice b (l.drop k).length d] (hf.base 5 rfl) e1 24 _ (HR1.out.keep hb) sizeQ rfl (oneQ _ _ _ _) ⟨undef, rfl, ⟨?_, b, d, ?_, ?_⟩, trivial, ?_⟩
              · exact below_setRow (below_trans HB1.out hb) (by omega) _
              · exact setRow_heap _ _ _ _ _ _ (HR1.out.keep hb)
              · exact e2.setRowQ (fun x hx _ => by have := e3 x hx; omega) _
              · exact ⟨.inr fun _ _ _ => trivial, .inr fun _ _ _ => trivial, .inr fun _ _ _ => trivial, .inr fun _ _ _ => trivial, .inr fun _ _ _ => trivial, .inr fun _ _ _ => trivial, .inr fun _ _ _ => trivial, .inr fun _ _ _ => trivial, .inr fun _ _ _ => trivial, .inr fun _ _ _ => trivial, .inr fun _ _ _ => trivial, .inr fun _ _ _ => trivial, .inr fun _ _ _ => trivial, .inr fun _ _ _ => trivial, .inr fun _ _ _ => trivial, .inr fun v _ h => h.setRowF (by omega) _, .inr fun _ _ _ => trivial, trivial⟩
          · intro a w2 hp hf hh
            refine hK a w2 ?_
            go_wp2_with fail
            obtain ⟨p1, b, d, p3, p4⟩ := hp
            refine bodyPost_ret (results_tmp_row rfl _ w2 (g + 1) _ _ _ _ (hf.base 5 rfl) p3 Try.underlying24 rfl sizeQ) hf.defers ?_
            exact ⟨_, b, d, rfl, p1, (hh 15 (by decide)).bytes, p4⟩
        · have hkk := Box.mk (show (l.length : Int) = (k : Int) by rw [hkc.out]; unfold clampN; omega)
          have hkk2 := hkk
          rcases Nat.lt_or_ge l.length m with h2 | h2
          · have h3 : ¬ (m : Int) < l.length := by omega
            go_wp2_with fail
            rename_i K hK
            refine wp_region_phases [16] (fun p => match p with | 0 => [0, 1, 2, 3, 4, 5, 6, 7, 8, 9, 10, 11, 12, 13, 14, 15] | _ => [])
              (fun p => match p with
                | 0 => [.none0 w1.heap.size, .val (.pointer (some ⟨g, 1, none⟩)), .val (.slice a l.length c), .val (.int .i64 k), .bytesL (l.take k), .fresh w1.heap.size (l.take k),
                  .val (.pointer (some ⟨g, 0, none⟩)), .val (.int .i64 z), .none0 w1.heap.size, .val (.pointer (some ⟨g, 1, none⟩)), .val (.slice a l.length c), .val (.int .i64 k), .bytesL (l.drop k), .fresh w1.heap.size (l.drop k),
                  .queue w1.heap.size z (l.drop k), .fresh w1.heap.size (l.take k), .any]
                | _ => [.any, .any, .any, .any, .any, .any, .any, .any, .any, .any, .any, .any, .any, .any, .any, .fresh w1.heap.size (l.take k), .any])
              (fun p => match p with
                | 0 => fun w' => Below w1.heap.size w1 w'
                | _ => fun w' => Below w.heap.size w w' ∧ ∃ b d, QVar w' (g + 1) z b (l.drop k).length d ∧ IsBytes w' b (l.drop k) d)
              (by kernel_rfl) (by kernel_rfl) (by kernel_rfl) (by kernel_rfl) (by kernel_rfl) (by kernel_rfl) ?_ (Below.refl _ _) ?_ ?_ ?_
            · intro p w2 w3 h1 h2
              match p with
              | 0 => exact below_trans h1 h2
              | p + 1 =>
                obtain ⟨h3, b, d, h4, h5⟩ := h1
                exact ⟨below_trans h3 h2, b, d, h4.keep h2, h5.keep h2⟩
            · intro p hp
              match p, hp with
              | 1, _ => exact trivial
              | 0, _ =>
                refine ⟨?_, ?_, ?_, ?_, ?_, ?_, ?_, ?_, ?_, ?_, ?_, ?_, ?_, ?_, ?_, ?_, trivial⟩ <;> intro a w hb hf hd
                · exact ⟨wanted_none rfl, loc_build0 rfl hb.size fun v w' h => h⟩
                · exact ⟨wanted_none rfl, loc_field1 rfl (hf.base 2 rfl) rfl⟩
                · exact ⟨wanted_none rfl, loc_load_slice rfl (hd 1 rfl) (HQ1.out.keep hb).data rfl⟩
                · exact ⟨wanted_none rfl, loc_move rfl (by first | exact (hf.base 1 rfl).trans (congrArg (Value.int .i64) hkk.out) | exact (hf.base 1 rfl).trans (congrArg (Value.int .i64) hkk2.out))⟩
                · exact ⟨wanted_none rfl, loc_upto rfl (l := l) ⟨_, c, hd 2 rfl, H1.out.keep hb⟩ (hd 3 rfl) hkl fun v h => h⟩
                · obtain ⟨g0, e1, e2⟩ := hd 0 rfl
                  exact ⟨wanted_none rfl, loc_append_empty rfl e1 (hd 4 rfl) (by rw [List.length_take]; omega) e2 hb.size fun v w' h => h⟩
                · exact ⟨wanted_none rfl, loc_field0 rfl (hf.base 2 rfl) rfl⟩
                · exact ⟨wanted_none rfl, loc_load_int rfl (hd 6 rfl) (HQ1.out.keep hb).cap rfl⟩
                · exact ⟨wanted_none rfl, loc_build0 rfl hb.size fun v w' h => h⟩
                · exact ⟨wanted_none rfl, loc_field1 rfl (hf.base 2 rfl) rfl⟩
                · exact ⟨wanted_none rfl, loc_load_slice rfl (hd 9 rfl) (HQ1.out.keep hb).data rfl⟩
                · exact ⟨wanted_none rfl, loc_move rfl (by first | exact (hf.base 1 rfl).trans (congrArg (Value.int .i64) hkk.out) | exact (hf.base 1 rfl).trans (congrArg (Value.int .i64) hkk2.out))⟩
                · exact ⟨wanted_none rfl, loc_from rfl (l := l) ⟨_, c, hd 10 rfl, H1.out.keep hb⟩ (hd 11 rfl) hkl fun v h => h⟩
                · obtain ⟨g0, e1, e2⟩ := hd 8 rfl
                  exact ⟨wanted_none rfl, loc_append_empty rfl e1 (hd 12 rfl) (by rw [List.length_drop]; omega) e2 hb.size fun v w' h => h⟩
                · obtain ⟨b, d, e1, e2, e3⟩ := hd 13 rfl
                  exact ⟨wanted_none rfl, loc_build_q rfl (hd 7 rfl) e1 ⟨b, d, rfl, e2, e3⟩⟩
                · exact ⟨wanted_none rfl, loc_assign rfl (hd 5 rfl)⟩
            · intro p hp
              match p, hp with
              | 0, _ =>
                intro a w2 hb hf hd
                refine ⟨wanted_none rfl, ?_⟩
                obtain ⟨b, d, e1, e2, e3⟩ := hd 14 rfl
                have hgl : g + 1 < w1.heap.size := (Array.getElem?_eq_some_iff.1 HR1.out).1
                have hgw := HG.out
                refine wp_store_row 24 _ _ rfl (g + 1) #[.int .i64 z, .slice b (l.drop k).length d] (hf.base 5 rfl) e1 24 _ (HR1.out.keep hb) sizeQ rfl (oneQ _ _ _ _) ⟨undef, rfl, ⟨?_, b, d, ?_, ?_⟩, trivial, ?_⟩
                · exact below_setRow (below_trans HB1.out hb) (by omega) _
                · exact setRow_heap _ _ _ _ _ _ (HR1.out.keep hb)
                · exact e2.setRowQ (fun x hx _ => by have := e3 x hx; omega) _
                · exact ⟨.inr fun _ _ _ => trivial, .inr fun _ _ _ => trivial, .inr fun _ _ _ => trivial, .inr fun _ _ _ => trivial, .inr fun _ _ _ => trivial, .inr fun _ _ _ => trivial, .inr fun _ _ _ => trivial, .inr fun _ _ _ => trivial, .inr fun _ _ _ => trivial, .inr fun _ _ _ => trivial, .inr fun _ _ _ => trivial, .inr fun _ _ _ => trivial, .inr fun _ _ _ => trivial, .inr fun _ _ _ => trivial, .inr fun _ _ _ => trivial, .inr fun v _ h => h.setRowF (by omega) _, .inr fun _ _ _ => trivial, trivial⟩
            · intro a w2 hp hf hh
              refine hK a w2 ?_
              go_wp2_with fail
              obtain ⟨p1, b, d, p3, p4⟩ := hp
              refine bodyPost_ret (results_tmp_row rfl _ w2 (g + 1) _ _ _ _ (hf.base 5 rfl) p3 Try.underlying24 rfl sizeQ) hf.defers ?_
              exact ⟨_, b, d, rfl, p1, (hh 15 (by decide)).bytes, p4⟩
          · obtain rfl : m = l.length := by omega
            go_wp2_with fail
            rename_i K hK
            refine wp_region_phases [16] (fun p => match p with | 0 => [0, 1, 2, 3, 4, 5, 6, 7, 8, 9, 10, 11, 12, 13, 14, 15] | _ => [])
              (fun p => match p with
                | 0 => [.none0 w1.heap.size, .val (.pointer (some ⟨g, 1, none⟩)), .val (.slice a l.length c), .val (.int .i64 k), .bytesL (l.take k), .fresh w1.heap.size (l.take k),
                  .val (.pointer (some ⟨g, 0, none⟩)), .val (.int .i64 z), .none0 w1.heap.size, .val (.pointer (some ⟨g, 1, none⟩)), .val (.slice a l.length c), .val (.int .i64 k), .bytesL (l.drop k), .fresh w1.heap.size (l.drop k),
                  .queue w1.heap.size z (l.drop k), .fresh w1.heap.size (l.take k), .any]
                | _ => [.any, .any, .any, .any, .any, .any, .any, .any, .any, .any, .any, .any, .any, .any, .any, .fresh w1.heap.size (l.take k), .any])
              (fun p => match p with
                | 0 => fun w' => Below w1.heap.size w1 w'
                | _ => fun w' => Below w.heap.size w w' ∧ ∃ b d, QVar w' (g + 1) z b (l.drop k).length d ∧ IsBytes w' b (l.drop k) d)
              (by kernel_rfl) (by kernel_rfl) (by kernel_rfl) (by kernel_rfl) (by kernel_rfl) (by kernel_rfl) ?_ (Below.refl _ _) ?_ ?_ ?_
            · intro p w2 w3 h1 h2
              match p with
              | 0 => exact below_trans h1 h2
              | p + 1 =>
                obtain ⟨h3, b, d, h4, h5⟩ := h1
                exact ⟨below_trans h3 h2, b, d, h4.keep h2, h5.keep h2⟩
            · intro p hp
              match p, hp with
              | 1, _ => exact trivial
              | 0, _ =>
                refine ⟨?_, ?_, ?_, ?_, ?_, ?_, ?_, ?_, ?_, ?_, ?_, ?_, ?_, ?_, ?_, ?_, trivial⟩ <;> intro a w hb hf hd
                · exact ⟨wanted_none rfl, loc_build0 rfl hb.size fun v w' h => h⟩
                · exact ⟨wanted_none rfl, loc_field1 rfl (hf.base 2 rfl) rfl⟩
                · exact ⟨wanted_none rfl, loc_load_slice rfl (hd 1 rfl) (HQ1.out.keep hb).data rfl⟩
                · exact ⟨wanted_none rfl, loc_move rfl (by first | exact (hf.base 1 rfl).trans (congrArg (Value.int .i64) hkk.out) | exact (hf.base 1 rfl).trans (congrArg (Value.int .i64) hkk2.out))⟩
                · exact ⟨wanted_none rfl, loc_upto rfl (l := l) ⟨_, c, hd 2 rfl, H1.out.keep hb⟩ (hd 3 rfl) hkl fun v h => h⟩
                · obtain ⟨g0, e1, e2⟩ := hd 0 rfl
                  exact ⟨wanted_none rfl, loc_append_empty rfl e1 (hd 4 rfl) (by rw [List.length_take]; omega) e2 hb.size fun v w' h => h⟩
                · exact ⟨wanted_none rfl, loc_field0 rfl (hf.base 2 rfl) rfl⟩
                · exact ⟨wanted_none rfl, loc_load_int rfl (hd 6 rfl) (HQ1.out.keep hb).cap rfl⟩
                · exact ⟨wanted_none rfl, loc_build0 rfl hb.size fun v w' h => h⟩
                · exact ⟨wanted_none rfl, loc_field1 rfl (hf.base 2 rfl) rfl⟩
                · exact ⟨wanted_none rfl, loc_load_slice rfl (hd 9 rfl) (HQ1.out.keep hb).data rfl⟩
                · exact ⟨wanted_none rfl, loc_move rfl (by first | exact (hf.base 1 rfl).trans (congrArg (Value.int .i64) hkk.out) | exact (hf.base 1 rfl).trans (congrArg (Value.int .i64) hkk2.out))⟩
                · exact ⟨wanted_none rfl, loc_from rfl (l := l) ⟨_, c, hd 10 rfl, H1.out.keep hb⟩ (hd 11 rfl) hkl fun v h => h⟩
                · obtain ⟨g0, e1, e2⟩ := hd 8 rfl
                  exact ⟨wanted_none rfl, loc_append_empty rfl e1 (hd 12 rfl) (by rw [List.length_drop]; omega) e2 hb.size fun v w' h => h⟩
                · obtain ⟨b, d, e1, e2, e3⟩ := hd 13 rfl
                  exact ⟨wanted_none rfl, loc_build_q rfl (hd 7 rfl) e1 ⟨b, d, rfl, e2, e3⟩⟩
                · exact ⟨wanted_none rfl, loc_assign rfl (hd 5 rfl)⟩
            · intro p hp
              match p, hp with
              | 0, _ =>
                intro a w2 hb hf hd
                refine ⟨wanted_none rfl, ?_⟩
                obtain ⟨b, d, e1, e2, e3⟩ := hd 14 rfl
                have hgl : g + 1 < w1.heap.size := (Array.getElem?_eq_some_iff.1 HR1.out).1
                have hgw := HG.out
                refine wp_store_row 24 _ _ rfl (g + 1) #[.int .i64 z, .slice b (l.drop k).length d] (hf.base 5 rfl) e1 24 _ (HR1.out.keep hb) sizeQ rfl (oneQ _ _ _ _) ⟨undef, rfl, ⟨?_, b, d, ?_, ?_⟩, trivial, ?_⟩
                · exact below_setRow (below_trans HB1.out hb) (by omega) _
                · exact setRow_heap _ _ _ _ _ _ (HR1.out.keep hb)
                · exact e2.setRowQ (fun x hx _ => by have := e3 x hx; omega) _
                · exact ⟨.inr fun _ _ _ => trivial, .inr fun _ _ _ => trivial, .inr fun _ _ _ => trivial, .inr fun _ _ _ => trivial, .inr fun _ _ _ => trivial, .inr fun _ _ _ => trivial, .inr fun _ _ _ => trivial, .inr fun _ _ _ => trivial, .inr fun _ _ _ => trivial, .inr fun _ _ _ => trivial, .inr fun _ _ _ => trivial, .inr fun _ _ _ => trivial, .inr fun _ _ _ => trivial, .inr fun _ _ _ => trivial, .inr fun _ _ _ => trivial, .inr fun v _ h => h.setRowF (by omega) _, .inr fun _ _ _ => trivial, trivial⟩
            · intro a w2 hp hf hh
              refine hK a w2 ?_
              go_wp2_with fail
              obtain ⟨p1, b, d, p3, p4⟩ := hp
              refine bodyPost_ret (results_tmp_row rfl _ w2 (g + 1) _ _ _ _ (hf.base 5 rfl) p3 Try.underlying24 rfl sizeQ) hf.defers ?_
              exact ⟨_, b, d, rfl, p1, (hh 15 (by decide)).bytes, p4⟩
    · have hl0 : l.length = 0 := by omega
      have hkk := Box.mk (show (0 : Int) = (k : Int) by rw [hkc.out]; unfold clampN; omega)
      have hkk2 := Box.mk (show (l.length : Int) = (k : Int) by rw [hkc.out]; unfold clampN; omega)
      rcases Int.lt_trichotomy n 0 with h0 | rfl | h0
      all_goals
        go_wp2_with fail
        all_goals
          rename_i K hK
          refine wp_region_phases [16] (fun p => match p with | 0 => [0, 1, 2, 3, 4, 5, 6, 7, 8, 9, 10, 11, 12, 13, 14, 15] | _ => [])
            (fun p => match p with
              | 0 => [.none0 w1.heap.size, .val (.pointer (some ⟨g, 1, none⟩)), .val (.slice a l.length c), .val (.int .i64 k), .bytesL (l.take k), .fresh w1.heap.size (l.take k),
                .val (.pointer (some ⟨g, 0, none⟩)), .val (.int .i64 z), .none0 w1.heap.size, .val (.pointer (some ⟨g, 1, none⟩)), .val (.slice a l.length c), .val (.int .i64 k), .bytesL (l.drop k), .fresh w1.heap.size (l.drop k),
                .queue w1.heap.size z (l.drop k), .fresh w1.heap.size (l.take k), .any]
              | _ => [.any, .any, .any, .any, .any, .any, .any, .any, .any, .any, .any, .any, .any, .any, .any, .fresh w1.heap.size (l.take k), .any])
            (fun p => match p with
              | 0 => fun w' => Below w1.heap.size w1 w'
              | _ => fun w' => Below w.heap.size w w' ∧ ∃ b d, QVar w' (g + 1) z b (l.drop k).length d ∧ IsBytes w' b (l.drop k) d)
            (by kernel_rfl) (by kernel_rfl) (by kernel_rfl) (by kernel_rfl) (by kernel_rfl) (by kernel_rfl) ?_ (Below.refl _ _) ?_ ?_ ?_
          · intro p w2 w3 h1 h2
            match p with
            | 0 => exact below_trans h1 h2
            | p + 1 =>
              obtain ⟨h3, b, d, h4, h5⟩ := h1
              exact ⟨below_trans h3 h2, b, d, h4.keep h2, h5.keep h2⟩
          · intro p hp
            match p, hp with
            | 1, _ => exact trivial
            | 0, _ =>
              refine ⟨?_, ?_, ?_, ?_, ?_, ?_, ?_, ?_, ?_, ?_, ?_, ?_, ?_, ?_, ?_, ?_, trivial⟩ <;> intro a w hb hf hd
              · exact ⟨wanted_none rfl, loc_build0 rfl hb.size fun v w' h => h⟩
              · exact ⟨wanted_none rfl, loc_field1 rfl (hf.base 2 rfl) rfl⟩
              · exact ⟨wanted_none rfl, loc_load_slice rfl (hd 1 rfl) (HQ1.out.keep hb).data rfl⟩
              · exact ⟨wanted_none rfl, loc_move rfl (by first | exact (hf.base 1 rfl).trans (congrArg (Value.int .i64) hkk.out) | exact (hf.base 1 rfl).trans (congrArg (Value.int .i64) hkk2.out))⟩
              · exact ⟨wanted_none rfl, loc_upto rfl (l := l) ⟨_, c, hd 2 rfl, H1.out.keep hb⟩ (hd 3 rfl) hkl fun v h => h⟩
              · obtain ⟨g0, e1, e2⟩ := hd 0 rfl
                exact ⟨wanted_none rfl, loc_append_empty rfl e1 (hd 4 rfl) (by rw [List.length_take]; omega) e2 hb.size fun v w' h => h⟩
              · exact ⟨wanted_none rfl, loc_field0 rfl (hf.base 2 rfl) rfl⟩
              · exact ⟨wanted_none rfl, loc_load_int rfl (hd 6 rfl) (HQ1.out.keep hb).cap rfl⟩
              · exact ⟨wanted_none rfl, loc_build0 rfl hb.size fun v w' h => h⟩
              · exact ⟨wanted_none rfl, loc_field1 rfl (hf.base 2 rfl) rfl⟩
              · exact ⟨wanted_none rfl, loc_load_slice rfl (hd 9 rfl) (HQ1.out.keep hb).data rfl⟩
              · exact ⟨wanted_none rfl, loc_move rfl (by first | exact (hf.base 1 rfl).trans (congrArg (Value.int .i64) hkk.out) | exact (hf.base 1 rfl).trans (congrArg (Value.int .i64) hkk2.out))⟩
              · exact ⟨wanted_none rfl, loc_from rfl (l := l) ⟨_, c, hd 10 rfl, H1.out.keep hb⟩ (hd 11 rfl) hkl fun v h => h⟩
              · obtain ⟨g0, e1, e2⟩ := hd 8 rfl
                exact ⟨wanted_none rfl, loc_append_empty rfl e1 (hd 12 rfl) (by rw [List.length_drop]; omega) e2 hb.size fun v w' h => h⟩
              · obtain ⟨b, d, e1, e2, e3⟩ := hd 13 rfl
                exact ⟨wanted_none rfl, loc_build_q rfl (hd 7 rfl) e1 ⟨b, d, rfl, e2, e3⟩⟩
              · exact ⟨wanted_none rfl, loc_assign rfl (hd 5 rfl)⟩
          · intro p hp
            match p, hp with
            | 0, _ =>
              intro a w2 hb hf hd
              refine ⟨wanted_none rfl, ?_⟩
              obtain ⟨b, d, e1, e2, e3⟩ := hd 14 rfl
              have hgl : g + 1 < w1.heap.size := (Array.getElem?_eq_some_iff.1 HR1.out).1
              have hgw := HG.out
              refine wp_store_row 24 _ _ rfl (g + 1) #[.int .i64 z, .slice b (l.drop k).length d] (hf.base 5 rfl) e1 24 _ (HR1.out.keep hb) sizeQ rfl (oneQ _ _ _ _) ⟨undef, rfl, ⟨?_, b, d, ?_, ?_⟩, trivial, ?_⟩
              · exact below_setRow (below_trans HB1.out hb) (by omega) _
              · exact setRow_heap _ _ _ _ _ _ (HR1.out.keep hb)
              · exact e2.setRowQ (fun x hx _ => by have := e3 x hx; omega) _
              · exact ⟨.inr fun _ _ _ => trivial, .inr fun _ _ _ => trivial, .inr fun _ _ _ => trivial, .inr fun _ _ _ => trivial, .inr fun _ _ _ => trivial, .inr fun _ _ _ => trivial, .inr fun _ _ _ => trivial, .inr fun _ _ _ => trivial, .inr fun _ _ _ => trivial, .inr fun _ _ _ => trivial, .inr fun _ _ _ => trivial, .inr fun _ _ _ => trivial, .inr fun _ _ _ => trivial, .inr fun _ _ _ => trivial, .inr fun _ _ _ => trivial, .inr fun v _ h => h.setRowF (by omega) _, .inr fun _ _ _ => trivial, trivial⟩
          · intro a w2 hp hf hh
            refine hK a w2 ?_
            go_wp2_with fail
            obtain ⟨p1, b, d, p3, p4⟩ := hp
            refine bodyPost_ret (results_tmp_row rfl _ w2 (g + 1) _ _ _ _ (hf.base 5 rfl) p3 Try.underlying24 rfl sizeQ) hf.defers ?_
            exact ⟨_, b, d, rfl, p1, (hh 15 (by decide)).bytes, p4⟩
end Go.Proofs.Ytpgppninmnplkaa
