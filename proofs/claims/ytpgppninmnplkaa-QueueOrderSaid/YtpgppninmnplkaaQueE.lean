/- Queues: Take. -/
import Derived.Test.YtpgppninmnplkaaQueD
namespace Go.Proofs.Ytpgppninmnplkaa
open Go.RowKit

/-- A queue's variable. -/
def QVar (w : World) (g : Nat) (z : Int) (a : Option Addr) (n c : Nat) : Prop := w.heap[g]? = some (.cells #[.int .i64 z, .slice a n c] 24 (0, 0))
theorem QVar.keep {w w' : World} {g : Nat} {z : Int} {a : Option Addr} {n c : Nat} (h : QVar w g z a n c) (hb : Below w.heap.size w w') : QVar w' g z a n c := by
  unfold QVar at *
  rw [hb.block g (Array.getElem?_eq_some_iff.1 h).1]; exact h
theorem QVar.cap {w : World} {g : Nat} {z : Int} {a : Option Addr} {n c : Nat} (h : QVar w g z a n c) : w.cell? ⟨g, 0, none⟩ = some (.int .i64 z) := by rw [cell_of_row _ _ _ _ _ _ h]; rfl
theorem QVar.data {w : World} {g : Nat} {z : Int} {a : Option Addr} {n c : Nat} (h : QVar w g z a n c) : w.cell? ⟨g, 1, none⟩ = some (.slice a n c) := by rw [cell_of_row _ _ _ _ _ _ h]; rfl
def Spec.bytesL (l : List UInt8) : Spec := ⟨fun v w => BytesV w v l, fun _ _ _ h hb => h.keep hb⟩
def Spec.queue (B : Nat) (z : Int) (l : List UInt8) : Spec := ⟨fun v w => ∃ a c, v = .agg #[.int .i64 z, .slice a l.length c] ∧ IsBytes w a l c ∧ ∀ x, a = some x → B ≤ x.block, fun v w w' h hb => by
  obtain ⟨a, c, h1, h2, h3⟩ := h
  exact ⟨a, c, h1, h2.keep hb, h3⟩⟩
theorem qdata (w : World) (g : Nat) (z : Int) (a : Option Addr) (n c : Nat) (h : QVar w g z a n c) : w.heap[g]? = some (.cells #[.int .i64 z, .slice a n c] 24 (0, 0)) := h

set_option maxRecDepth 100000 in
set_option maxHeartbeats 1000000 in
theorem take_fresh (z n : Int) (l : List UInt8) (a : Option Addr) (c : Nat) (w : World) (h : IsBytes w a l c) (hlen : l.length ≤ 140737488355328) :
    Calls Try.prog 19 #[.agg #[.int .i64 z, .slice a l.length c], .int .i64 n] w fun e w' => ∃ v b d, e = .returned (.tuple #[v, .agg #[.int .i64 z, .slice b (l.drop (peekN z n l.length)).length d]]) ∧ Below w.heap.size w w' ∧
      BytesV w' v (l.take (peekN z n l.length)) ∧ IsBytes w' b (l.drop (peekN z n l.length)) d ∧ ∀ x, b = some x → w.heap.size ≤ x.block := by
  have H0 := Box.mk h
  clear h
  obtain ⟨k, hk⟩ : ∃ k, k = peekN z n l.length := ⟨_, rfl⟩
  have hkl : k ≤ l.length := by rw [hk]; exact peekN_le z n l.length
  have HK := Box.mk hk
  rw [← hk]
  clear hk
  go_enter Try.func19, Try.ntmps19
  go_wp2_with fail
  obtain ⟨W, hW⟩ : ∃ W, W = (w.alloc (.cells #[.int .i64 z, .slice a l.length c] 24)).alloc (.cells #[.int .i64 0, .slice none 0 0] 24) := ⟨_, rfl⟩
  have HBW : Box (Below w.heap.size w W) := ⟨by rw [hW]; exact below_two w _ _⟩
  have HWS : Box (W.heap.size = w.heap.size + 2) := ⟨by rw [hW]; simp⟩
  have HQ : Box (QVar W w.heap.size z a l.length c) := ⟨by
    rw [hW]
    have := (below_one (w.alloc (.cells #[.int .i64 z, .slice a l.length c] 24)) (.cells #[.int .i64 0, .slice none 0 0] 24)).block w.heap.size (by simp)
    exact this.trans (heap_alloc_new _ _)⟩
  have HR : Box (QVar W (w.heap.size + 1) 0 none 0 0) := ⟨by
    rw [hW]
    have := heap_alloc_new (w.alloc (.cells #[.int .i64 z, .slice a l.length c] 24)) (.cells #[.int .i64 0, .slice none 0 0] 24)
    rw [World.size_alloc] at this; exact this⟩
  change Calls _ _ _ ((w.alloc (.cells #[.int .i64 z, .slice a l.length c] 24)).alloc (.cells #[.int .i64 0, .slice none 0 0] 24)) _
  rw [← hW]
  clear hW
  refine (peek_any z n l a c W (H0.out.keep HBW.out)).mono ?_
  rintro e w1 ⟨v, rfl, hb1, hf⟩
  rw [← HK.out] at hf
  obtain ⟨va, vc, hv, hv1, hv2⟩ := hf
  have HB1 := Box.mk (below_trans HBW.out hb1)
  have HQ1 := Box.mk (HQ.out.keep hb1)
  have HR1 := Box.mk (HR.out.keep hb1)
  have HV := Box.mk (And.intro hv1 hv2)
  have hvl : (l.take k).length = k := by rw [List.length_take]; omega
  rw [hvl] at hv
  subst hv
  have H1 := Box.mk (H0.out.keep HB1.out)
  clear hb1 hv1 hv2 HBW HQ HR
  generalize hg : w.heap.size = g at *
  have HG := Box.mk hg
  clear hg
  go_wp2_with fail
  rename_i K hK
  refine wp_region_store (S := [some (.val (.slice va k vc)), some (.val (.pointer (some ⟨g, 0, none⟩))), some (.val (.int .i64 z)), some (.val (.pointer (some ⟨g, 1, none⟩))), some (.val (.slice a l.length c)), some (.val (.slice va k vc)), some (.val (.int .i64 k)),
    some (.of (.bytesL (l.drop k))), some (.of (.fresh w1.heap.size (l.drop k))), some (.of (.queue w1.heap.size z (l.drop k))), some (.val (.slice va k vc)), none]) 11 []
    (fun w' => Below w.heap.size w w' ∧ IsBytes w' va (l.take k) vc ∧ ∃ b d, QVar w' (g + 1) z b (l.drop k).length d ∧ IsBytes w' b (l.drop k) d ∧ ∀ x, b = some x → w.heap.size ≤ x.block)
    (by kernel_rfl) (by kernel_rfl) (by kernel_rfl) (by kernel_rfl) rfl rfl rfl ?_ trivial ?_ ?_
  · refine ⟨?_, ?_, ?_, ?_, ?_, ?_, ?_, ?_, ?_, ?_, ?_, trivial⟩ <;> intro a w hb hf hd
    · exact ⟨wanted_none rfl, loc_move rfl (hf.base 6 rfl)⟩
    · exact ⟨wanted_none rfl, loc_field0 rfl (hf.base 2 rfl) rfl⟩
    · exact ⟨wanted_none rfl, loc_load_int rfl (hd 1 rfl) (HQ1.out.keep hb).cap rfl⟩
    · exact ⟨wanted_none rfl, loc_field1 rfl (hf.base 2 rfl) rfl⟩
    · exact ⟨wanted_none rfl, loc_load_slice rfl (hd 3 rfl) (HQ1.out.keep hb).data rfl⟩
    · exact ⟨wanted_none rfl, loc_move rfl (hf.base 6 rfl)⟩
    · exact ⟨wanted_none rfl, loc_len rfl (hd 5 rfl) rfl⟩
    · exact ⟨wanted_none rfl, loc_from rfl (l := l) ⟨_, c, hd 4 rfl, H1.out.keep hb⟩ (hd 6 rfl) hkl fun v h => h⟩
    · refine ⟨wanted_none rfl, loc_call rfl (by kernel_rfl) ?_⟩
      obtain ⟨b, d, e1, e2⟩ := hd 7 rfl
      show Calls _ _ #[a.eval (.tmp 17)] w _
      rw [show a.eval (.tmp 17) = .slice b (l.drop k).length d from e1]
      refine (clone_n (l.drop k) b _ d w e2 rfl (by rw [List.length_drop]; omega)).mono ?_
      rintro e w' ⟨v, rfl, h1, h2⟩
      exact ⟨v, rfl, h1, h2.mono hb.size⟩
    · obtain ⟨b, d, e1, e2, e3⟩ := hd 8 rfl
      exact ⟨wanted_none rfl, loc_build_q rfl (hd 2 rfl) e1 ⟨b, d, rfl, e2, e3⟩⟩
    · exact ⟨wanted_none rfl, loc_assign rfl (hd 0 rfl)⟩
  · refine ⟨rfl, fun a w2 hb hf hd => ⟨wanted_none rfl, ?_⟩⟩
    obtain ⟨b, d, e1, e2, e3⟩ := hd 9 rfl
    have hgl : g + 1 < w1.heap.size := (Array.getElem?_eq_some_iff.1 HR1.out).1
    refine wp_store_row 24 _ _ rfl (g + 1) #[.int .i64 z, .slice b (l.drop k).length d] (hf.base 5 rfl) e1 24 _ (HR1.out.keep hb) sizeQ rfl (oneQ _ _ _ _) ⟨rfl, ?_, ?_, b, d, ?_, ?_, fun x hx => by have := e3 x hx; have := (show Below w.heap.size w w1 by rw [HG.out]; exact HB1.out).size; omega⟩
    · have := HG.out
      exact below_setRow (below_trans (show Below w.heap.size w w1 by rw [HG.out]; exact HB1.out) hb) (by omega) _
    · exact (HV.out.1.keep hb).setRowQ (fun x hx _ => by have := HV.out.2 x hx; have := HWS.out; omega) _
    · exact setRow_heap _ _ _ _ _ _ (HR1.out.keep hb)
    · exact e2.setRowQ (fun x hx _ => by have := e3 x hx; omega) _
  · intro a w2 hp hf hh
    refine hK a w2 ?_
    go_wp2_with fail
    obtain ⟨p1, p2, b, d, p3, p4, p5⟩ := hp
    refine bodyPost_ret (results_tmp_row rfl _ w2 (g + 1) _ _ _ _ (hf.base 5 rfl) p3 Try.underlying24 rfl sizeQ) hf.defers ?_
    refine ⟨_, b, d, rfl, p1, ?_, p4, p5⟩
    rw [show a.tmps.getD 4 undef = .slice va k vc from hh 10 (by decide)]
    exact ⟨va, vc, by rw [hvl], p2⟩
theorem take_any (z n : Int) (l : List UInt8) (a : Option Addr) (c : Nat) (w : World) (h : IsBytes w a l c) (hlen : l.length ≤ 140737488355328) :
    Calls Try.prog 19 #[.agg #[.int .i64 z, .slice a l.length c], .int .i64 n] w fun e w' => ∃ v b d, e = .returned (.tuple #[v, .agg #[.int .i64 z, .slice b (l.drop (peekN z n l.length)).length d]]) ∧ Below w.heap.size w w' ∧
      BytesV w' v (l.take (peekN z n l.length)) ∧ IsBytes w' b (l.drop (peekN z n l.length)) d := by
  refine (take_fresh z n l a c w h hlen).mono ?_
  rintro e w' ⟨v, b, d, he, hb, hx, hy, _⟩
  exact ⟨v, b, d, he, hb, hx, hy⟩
end Go.Proofs.Ytpgppninmnplkaa
