/- The law of the order: single operations. -/
import Derived.Test.YtpgppninmnplkaaQueN
namespace Go.Proofs.Ytpgppninmnplkaa
open Go.RowKit

/-- The slice at a holds n numbers. -/
def IntsQ (w : World) (a : Option Addr) (n : Nat) : Prop := ∀ k, k < n → ∃ (y : Addr) (z : Int), a = some y ∧ w.cell? (y.add k) = some (.int .i64 z)
theorem IntsQ.keep {w w' : World} {a : Option Addr} {n : Nat} (h : IntsQ w a n) (hb : Below w.heap.size w w') : IntsQ w' a n := fun k hk => by
  obtain ⟨y, z, h1, h2⟩ := h k hk
  exact ⟨y, z, h1, below_cell hb h2⟩
theorem put_f {z : Nat} {l B : List UInt8} {k : Nat} {L : List UInt8} {v u : Value} {w : World} (hv : QAt w v z l) (hu : SlcV w u [B]) (hlen : l.length ≤ 70368744177664) (hk : putL z l.length B.length = k) (hL : l ++ B.take k = L) :
    Calls Try.prog 17 #[v, u] w fun e w' => ∃ v', e = .returned v' ∧ Below w.heap.size w w' ∧ ∃ d f, v' = .tuple #[.agg #[.int .i64 z, .slice d L.length f], .int .i64 k] ∧ IsBytes w' d L f ∧ ∀ x, d = some x → w.heap.size ≤ x.block := by
  obtain ⟨a, c, rfl, h1⟩ := hv
  obtain ⟨b, d, rfl, h2⟩ := hu
  have e1 : [B].flatten = B := by simp
  subst hk hL
  refine (put_fresh z l [B] a b c d w h1 h2 (show 1 ≤ 140737488355328 by decide) hlen).mono ?_
  rintro e w' ⟨d, f, rfl, hb, hy, hf⟩
  rw [e1] at hy ⊢
  exact ⟨_, rfl, hb, d, f, rfl, hy, hf⟩
theorem take_f {z : Nat} {n : Int} {l : List UInt8} {k : Nat} {F R : List UInt8} {v : Value} {w : World} (hv : QAt w v z l) (hlen : l.length ≤ 140737488355328) (hk : peekN z n l.length = k) (hF : l.take k = F) (hR : l.drop k = R) :
    Calls Try.prog 19 #[v, .int .i64 n] w fun e w' => ∃ v', e = .returned v' ∧ Below w.heap.size w w' ∧ ∃ a m b d, v' = .tuple #[.slice a F.length m, .agg #[.int .i64 z, .slice b R.length d]] ∧ IsBytes w' a F m ∧ IsBytes w' b R d ∧ ∀ x, b = some x → w.heap.size ≤ x.block := by
  obtain ⟨a, c, rfl, h1⟩ := hv
  subst hk hF hR
  refine (take_fresh z n l a c w h1 hlen).mono ?_
  rintro e w' ⟨v, b, d, rfl, hb, ⟨a', m, rfl, h2⟩, h3, h4⟩
  exact ⟨_, rfl, hb, a', m, b, d, rfl, h2, h3, h4⟩
/-- A queue as a value, its bytes at B or beyond. -/
def QF (B : Nat) (w : World) (v : Value) (z : Nat) (l : List UInt8) : Prop := ∃ d f, v = .agg #[.int .i64 z, .slice d l.length f] ∧ IsBytes w d l f ∧ ∀ x, d = some x → B ≤ x.block
theorem QF.keep {B : Nat} {w w' : World} {v : Value} {z : Nat} {l : List UInt8} (h : QF B w v z l) (hb : Below w.heap.size w w') : QF B w' v z l := by
  obtain ⟨d, f, h1, h2, h3⟩ := h
  exact ⟨d, f, h1, h2.keep hb, h3⟩
def Spec.tupQ (B z : Nat) (l : List UInt8) (k : Nat) : Spec := ⟨fun v w => ∃ u, v = .tuple #[u, .int .i64 k] ∧ QF B w u z l, fun v w w' h hb => by
  obtain ⟨u, h1, h2⟩ := h
  exact ⟨u, h1, h2.keep hb⟩⟩
def Spec.tupW (k : Nat) : Spec := ⟨fun v _ => ∃ u, v = .tuple #[u, .int .i64 k], fun _ _ _ h _ => h⟩
def Spec.qf (B z : Nat) (l : List UInt8) : Spec := ⟨fun v w => QF B w v z l, fun _ _ _ h hb => h.keep hb⟩
def Spec.qfrow (B z : Nat) (l : List UInt8) : Spec := ⟨fun v w => ∃ g d f, v = .pointer (some ⟨g, 0, none⟩) ∧ B ≤ g ∧ QVar w g z d l.length f ∧ IsBytes w d l f ∧ ∀ x, d = some x → B ≤ x.block, fun v w w' h hb => by
  obtain ⟨g, d, f, h1, h0, h2, h3, h4⟩ := h
  exact ⟨g, d, f, h1, h0, h2.keep hb, h3.keep hb, h4⟩⟩
def Spec.tupT (B z : Nat) (F R : List UInt8) : Spec := ⟨fun v w => ∃ u t, v = .tuple #[u, t] ∧ BytesV w u F ∧ QF B w t z R, fun v w w' h hb => by
  obtain ⟨u, t, h1, h2, h3⟩ := h
  exact ⟨u, t, h1, h2.keep hb, h3.keep hb⟩⟩
section
variable {Q : Exit → Act → World → Prop} {a : Act} {w : World} {o : Oper} {s : Spec}
theorem loc_index_sl {x y : Operand} (ho : o.op = .indexAddr 39 x y) {ad : Addr} {n c k : Nat} (hx : a.eval x = .slice (some ad) n c) (hy : a.eval y = .int .i64 k) (hk : k < n) (hs : s.p (.pointer (some (ad.add k))) w) :
    o.wp Try.prog a w (fun a' w' => ∃ v, a' = a.put o.dst v ∧ Below w.heap.size w w' ∧ s.p v w') Q :=
  loc_run (v := .pointer (some (ad.add k))) (by
    have es : (sizeOf (Try.prog.elem 39)).run Try.prog w = .ok 1 w := by
      rw [show Try.prog.elem 39 = 22 by kernel_rfl]
      obtain ⟨i0, hi, _, hz1, _⟩ := info_parts Try.info22
      simp [sizeOf, typeInfo, hi, hz1]
    have h := run_indexAt_slice (P := Try.prog) (w := w) 39 ad n c .i64 (k : Int) (by kernel_rfl)
    rw [if_pos ⟨by omega, by omega⟩, es] at h
    simp only [Result.andThen, Int.toNat_natCast, Nat.mul_one] at h
    unfold execOp
    simp only [ho, hx, hy, Sem.run_bind, h, Result.andThen_ok, Sem.run_pure]) (Below.refl _ _) hs
theorem loc_index_int {x y : Operand} (ho : o.op = .indexAddr 40 x y) {ad : Addr} {n c k : Nat} (hx : a.eval x = .slice (some ad) n c) (hy : a.eval y = .int .i64 k) (hk : k < n) (hs : s.p (.pointer (some (ad.add k))) w) :
    o.wp Try.prog a w (fun a' w' => ∃ v, a' = a.put o.dst v ∧ Below w.heap.size w w' ∧ s.p v w') Q :=
  loc_run (v := .pointer (some (ad.add k))) (by
    have es : (sizeOf (Try.prog.elem 40)).run Try.prog w = .ok 1 w := by
      rw [show Try.prog.elem 40 = 3 by kernel_rfl]
      have h : (Try.prog.info? 3).map (·.size) = some 1 := by kernel_rfl
      cases hq : Try.prog.info? 3 with
      | none => rw [hq] at h; cases h
      | some i => rw [hq] at h; simp at h; simp [sizeOf, typeInfo, hq, h]
    have h := run_indexAt_slice (P := Try.prog) (w := w) 40 ad n c .i64 (k : Int) (by kernel_rfl)
    rw [if_pos ⟨by omega, by omega⟩, es] at h
    simp only [Result.andThen, Int.toNat_natCast, Nat.mul_one] at h
    unfold execOp
    simp only [ho, hx, hy, Sem.run_bind, h, Result.andThen_ok, Sem.run_pure]) (Below.refl _ _) hs
end
/-- What holds between two turns. -/
structure QI (w wr : World) (g B : Nat) (v8 v9 : Value) (I O : List UInt8) (z : Nat) (D : List UInt8) : Prop where
  below : Below w.heap.size w wr
  hg : w.heap.size ≤ g
  hB : g < B
  hsz : B ≤ wr.heap.size
  inn : Own B wr v8 I
  out : Own B wr v9 O
  ne : ∀ b, v8.ownBlock = some b → v9.ownBlock ≠ some b
  q : ∃ d f, QVar wr g z d D.length f ∧ IsBytes wr d D f
section
variable {w wr w' : World} {g B z : Nat} {v8 v9 : Value} {I O D : List UInt8}
theorem QI.keep (h : QI w wr g B v8 v9 I O z D) (hb : Below wr.heap.size wr w') : QI w w' g B v8 v9 I O z D := by
  obtain ⟨d, f, h1, h2⟩ := h.q
  exact ⟨below_trans h.below hb, h.hg, h.hB, Nat.le_trans h.hsz hb.size, h.inn.keep hb, h.out.keep hb, h.ne, d, f, h1.keep hb, h2.keep hb⟩
/-- The queue's variable is written. -/
theorem QI.store (h : QI w wr g B v8 v9 I O z D) {d : Option Addr} {f : Nat} {D' : List UInt8} (hd : IsBytes wr d D' f) : QI w (wr.setRow g #[.int .i64 z, .slice d D'.length f]) g B v8 v9 I O z D' := by
  obtain ⟨d0, f0, h1, _⟩ := h.q
  refine ⟨below_setRow h.below h.hg _, h.hg, h.hB, by simpa [World.setRow] using h.hsz, h.inn.same fun k hk => ?_, h.out.same fun k hk => ?_, h.ne, d, f, setRow_heap _ _ _ _ _ _ h1, h1.store hd _⟩
  · exact setRow_other _ _ _ _ (by have := (h.inn.lt hk).1; have := h.hB; omega)
  · exact setRow_other _ _ _ _ (by have := (h.out.lt hk).1; have := h.hB; omega)
theorem grown_row {u : Value} {C : Nat} {l : List UInt8} {z : Int} {a : Option Addr} {n c : Nat} (h : QVar wr g z a n c) (hg : wr.grownBy w' u.ownBlock) (hu : Own C wr u l) : QVar w' g z a n c := by
  unfold QVar at *
  rw [hg.block g (Array.getElem?_eq_some_iff.1 h).1 (fun e => ?_)]
  · exact h
  · rcases hu.2 with ⟨rfl, _⟩ | ⟨g', cap, cur, rfl, _, hc, _⟩
    · cases e
    · injection e with e
      rw [e] at h
      have h4 : (some (Obj.cells cur 5 (0, 0)) : Option Obj) = some (.cells #[.int .i64 z, .slice a n c] 24 (0, 0)) := hc.symm.trans h
      injection h4 with h4
      injection h4 with _ h5
      exact absurd h5 (by decide)
theorem grown_bytes {u : Value} {r : List UInt8} {d : Option Addr} {f : Nat} (hr : IsBytes wr d r f) (hg : wr.grownBy w' u.ownBlock) (hf : ∀ x, d = some x → r ≠ [] → u.ownBlock ≠ some x.block) : IsBytes w' d r f :=
  hr.same fun x hx hl => hg.block _ (by subst hx; exact hr.lt hl) (fun e => hf x hx hl e.symm)
end
section
variable {w wr w6 w9 : World} {g B z : Nat} {v8 v9 v8' v9' : Value} {I O D L T F R : List UInt8}
/-- The queue is put to, and what was put is appended. -/
theorem QI.step (h : QI w wr g B v8 v9 I O z D) (hb : Below wr.heap.size wr w6) {d6 : Option Addr} {f6 : Nat} (hy : IsBytes w6 d6 L f6) (hf : ∀ x, d6 = some x → wr.heap.size ≤ x.block)
    (h1 : Own B w9 v8' (I ++ T)) (h2 : w6.grownBy w9 v8.ownBlock) (h3 : v8'.ownBlock = v8.ownBlock ∨ v8'.ownBlock = some w6.heap.size) : QI w (w9.setRow g #[.int .i64 z, .slice d6 L.length f6]) g B v8' v9 (I ++ T) O z L := by
  have hk := h.keep hb
  obtain ⟨d0, f0, hq, _⟩ := hk.q
  have hlt8 : ∀ k, v8.ownBlock = some k → B ≤ k ∧ k < wr.heap.size := fun k hk => h.inn.lt hk
  have hlt9 : ∀ k, v9.ownBlock = some k → B ≤ k ∧ k < wr.heap.size := fun k hk => h.out.lt hk
  have hq9 := grown_row hq h2 hk.inn
  have hy9 : IsBytes w9 d6 L f6 := grown_bytes hy h2 fun x hx _ e => by have := hlt8 _ e; have := hf x hx; omega
  have ho9 : Own B w9 v9 O := hk.out.same fun k hk9 => h2.block k (by have := hlt9 k hk9; have := hb.size; omega) fun e => h.ne k e.symm hk9
  refine ⟨below_setRow (hk.below.grown h2 hk.below.size fun k hk8 => by have := hlt8 k hk8; have := h.hg; have := h.hB; omega) h.hg _, h.hg, h.hB, ?_, h1.same fun k hk => ?_, ho9.same fun k hk => ?_, fun k hk hk9 => ?_, d6, f6, setRow_heap _ _ _ _ _ _ hq9, hq9.store hy9 _⟩
  · have := h.hsz; have := hb.size; have := h2.size; simp [World.setRow]; omega
  · exact setRow_other _ _ _ _ (by have := (h1.lt hk).1; have := h.hB; omega)
  · exact setRow_other _ _ _ _ (by have := (ho9.lt hk).1; have := h.hB; omega)
  · have h9 := hlt9 k hk9
    rcases h3 with h3 | h3
    · rw [h3] at hk; exact h.ne k hk hk9
    · rw [h3] at hk; injection hk with hk; have := hb.size; omega
/-- What was taken is appended. -/
theorem QI.step2 (h : QI w wr g B v8 v9 I O z D) {B' : Nat} (hB' : ∀ k, v9.ownBlock = some k → k < B') {d : Option Addr} {f : Nat} (hq : QVar wr g z d D.length f) (hy : IsBytes wr d D f) (hf : ∀ x, d = some x → B' ≤ x.block)
    (h1 : Own B w9 v9' (O ++ F)) (h2 : wr.grownBy w9 v9.ownBlock) (h3 : v9'.ownBlock = v9.ownBlock ∨ v9'.ownBlock = some wr.heap.size) : QI w w9 g B v8 v9' I (O ++ F) z D := by
  have hlt8 : ∀ k, v8.ownBlock = some k → B ≤ k ∧ k < wr.heap.size := fun k hk => h.inn.lt hk
  have hlt9 : ∀ k, v9.ownBlock = some k → B ≤ k ∧ k < wr.heap.size := fun k hk => h.out.lt hk
  refine ⟨h.below.grown h2 h.below.size fun k hk9 => by have := hlt9 k hk9; have := h.hg; have := h.hB; omega, h.hg, h.hB, Nat.le_trans h.hsz h2.size, h.inn.same fun k hk => h2.block k (hlt8 k hk).2 fun e => h.ne k hk e.symm, h1, fun k hk hk9 => ?_, d, f, grown_row hq h2 h.out, grown_bytes hy h2 fun x hx _ e => by have := hB' _ e; have := hf x hx; omega⟩
  have h8 := hlt8 k hk
  rcases h3 with h3 | h3
  · rw [h3] at hk9; exact h.ne k hk hk9
  · rw [h3] at hk9; injection hk9 with hk9; omega
end
end Go.Proofs.Ytpgppninmnplkaa
