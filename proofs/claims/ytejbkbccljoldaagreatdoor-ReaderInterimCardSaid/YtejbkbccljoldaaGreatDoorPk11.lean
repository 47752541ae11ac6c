/- whole: a message is read in rounds. Interim replies are left out. Append of a string to an own slice of bytes; wire of the laws on chunked bodies, walked. The law ReaderInterim. -/
import Derived.Test.YtejbkbccljoldaaGreatDoorPk1
import Derived.Test.YtejbkbccljoldaaGreatDoorPk2
import Derived.Test.YtejbkbccljoldaaGreatDoorPk3
import Derived.Test.YtejbkbccljoldaaGreatDoorPk4
import Derived.Test.YtejbkbccljoldaaGreatDoorPk5
import Derived.Test.YtejbkbccljoldaaGreatDoorPk6
import Derived.Test.YtejbkbccljoldaaGreatDoorPk7
import Derived.Test.YtejbkbccljoldaaGreatDoorPk8
import Derived.Test.YtejbkbccljoldaaGreatDoorPk9
import Derived.Test.YtejbkbccljoldaaGreatDoorPk10
import Derived.Test.YtejbkbccljoldaaGreatDoorRows
import Derived.WalkKit
import Derived.WalkSpells
import Derived.WalkLawsBesides
import Derived.BigQuiet
import Derived.Deep.QuietTactic
import Derived.Lib.Bytealg
import Derived.Lib.IndexLaws
import Derived.Lib.Hide
import Derived.Laws.IdiomStrings
import Derived.Lib.SlTrimSet
import Derived.Lib.IndexBytes
import Derived.Lib.Split
import Derived.Deep.AppendLies
import Derived.Shelf.Strings.SlTrimAscii
import Derived.Shelf.Strings.SplitShaped
import Derived.Shelf.LaysM
import Derived.Shelf.Strings.BuilderK
import Derived.Shelf.Strconv.Itoa4
import Derived.Shelf.Strings.Prefix
import Derived.Shelf.Bytes.SlIndexWhole
import Derived.Test.YtejbkbccljoldaaGreatDoorProg
import Derived.Lib.SplitLaws
import Derived.WalkSmall
import Derived.ProofKit
import Derived.OpenShut
import Derived.Lib.Strings
import Derived.SliceStrings
import Derived.Deep.Quiet
import Derived.Tactics
import Derived.KernelRfl
import Derived.Below
import Derived.Laws.Bits64
import Derived.Lib.SlBytesConst
import Derived.Maps.AppendAt
import Derived.Laws.AppendOwnNone
import Derived.Great.BuildSlice
import Derived.Laws.Rows
import Derived.Laws.BitsAllLaws
import Derived.Laws.Shifts
import Derived.Maps.OwnOps
import Derived.Maps.OwnSet
import Derived.Deep.SlicePairs
import Derived.Lib.AppendZerosOnto
import Derived.Lib.AppendStr
import Derived.Laws.CopyOwn
import Derived.OwnWalk
import Derived.Laws.Strings3
import Derived.Laws.Concat
import Derived.Lib.ItoaMem
import Derived.Deep.RegionHeld3
import Derived.IntWalk
import Derived.Laws.RangeAny
import Derived.LoopTactic
import Derived.Sort.Grow
import Derived.Lib.ConvBytes
import Derived.Deep.DeepCutAuto
import Derived.Deep.MidRow
import Derived.Laws.Tables
import Derived.Deep.WholeRow
import Derived.StillTailTactics
import Derived.Deep.CutBlock
import Derived.Lib.LaidTab
import Derived.LaidSub
import Derived.Laws.Bits64b
import Derived.Lib.FrozenHead2
import Derived.Deep.Matrix
import Derived.Lib.LazyBuf
import Derived.ArgAppend
namespace Go.Proofs.YtejbkbccljoldaaGreatDoor
open Go.RowKit

set_option linter.unusedVariables false
/-- Where the fields and the line may not lie: in the reader's variable, in the bytes read so far. -/
def LW (g3 : Nat) (v : Value) : (Nat → Prop) × (Nat → Prop) := (fun k => k ≠ g3 ∧ some k ≠ v.ownBlock, fun k => some k ≠ v.ownBlock)
/-- In the loop of whole. -/
structure WhJ (w : World) (N g3 g6 : Nat) (v : Value) (s : RS) (d : List UInt8) (W : World) : Prop where
  st : StV (LW g3 v) s W g3
  own : Own (w.heap.size + 2) W v d
  rs : RVr W g6 #[.bool false, .string ⟨#[]⟩, .int .i64 0, .string ⟨#[]⟩, .string ⟨#[]⟩, .int .i64 0, .slice none 0 0, .bool false, .slice none 0 0, .int .i64 0, .string ⟨#[]⟩, .int .i64 0, .slice none 0 0, .slice none 0 0, .int .i64 0, .int .i64 0, .int .i64 0, .int .i64 0, .int .i64 0, .int .i64 0, .int .i64 0, .slice none 0 0]
  bl : Below w.heap.size w W
  sz : N ≤ W.heap.size
theorem WhJ.keep {w : World} {N g3 g6 : Nat} {v : Value} {s : RS} {d : List UInt8} {W W' : World} (h : WhJ w N g3 g6 v s d W) (hb : Below W.heap.size W W') : WhJ w N g3 g6 v s d W' :=
  ⟨h.st.keep hb, h.own.keep hb, h.rs.keep hb, below_trans h.bl hb, Nat.le_trans h.sz hb.size⟩
/-- A variable beyond N is written. -/
theorem WhJ.row {w : World} {N g3 g6 q : Nat} {v : Value} {s : RS} {d : List UInt8} {W : World} {cs ds : Array Value} {T : TypeId} {fz : Nat × Nat} (h : WhJ w N g3 g6 v s d W) (hm : NmS s) (hN : g3 < N ∧ g6 < N ∧ w.heap.size ≤ N ∧ ∀ k, v.ownBlock = some k → k < N) (hq : N ≤ q) (hr : W.heap[q]? = some (.cells cs T fz)) (hs : NoStr cs) (hu : NoU8 cs) : WhJ w N g3 g6 v s d (W.setRow q ds) :=
  ⟨h.st.rowZ hm (by omega) hr hs hu, h.own.same fun k hk => setRow_other _ _ _ _ (by have := hN.2.2.2 k hk; omega), (setRow_other _ _ _ _ (by omega)).trans h.rs, below_setRow h.bl (by omega) _, by simpa [World.setRow] using h.sz⟩
/-- What whole returns. -/
def RetWh (w : World) (res : RW) (e : Ending) (w' : World) : Prop :=
  (∃ er, res = .err er ∧ e = .returned (.tuple #[.agg #[.bool false, .string ⟨#[]⟩, .int .i64 0, .string ⟨#[]⟩, .string ⟨#[]⟩, .int .i64 0, .slice none 0 0, .bool false, .slice none 0 0, .int .i64 0, .string ⟨#[]⟩, .int .i64 0, .slice none 0 0, .slice none 0 0, .int .i64 0, .int .i64 0, .int .i64 0, .int .i64 0, .int .i64 0, .int .i64 0, .int .i64 0, .slice none 0 0], .string ⟨#[]⟩, .int .i64 0, .int .i64 er])) ∨
  (∃ er t d n fa fc ga gc la lc, (RW.got er t d n).same res ∧ e = .returned (.tuple #[.agg #[.bool t.rep, .string t.meth, .int .i64 t.ph, .string t.m, .string t.t, .int .i64 t.z, .slice fa (List.length t.xs) fc, .bool t.fr, .slice none 0 0, .int .i64 t.st, .string t.rs, .int .i64 t.z2, .slice ga (List.length t.ys) gc, .slice none 0 0, .int .i64 t.fk, .int .i64 t.fl, .int .i64 t.left, .int .i64 t.size, .int .i64 t.ck.ph, .int .i64 t.ck.left, .int .i64 t.ck.tr, .slice la (List.length t.ck.line) lc], .string ⟨d.toArray⟩, .int .i64 (n : Int), .int .i64 er]) ∧ FldsIn w' fa t.xs ∧ FldsIn w' ga t.ys ∧ t.xs.length ≤ 64 ∧ t.ys.length ≤ 64)
theorem round_all {s : RS} {b : List UInt8} (hg : GoodS s b) (q : Nat) (hq : q ≤ b.length) (room : Int) (hri : 1 ≤ room) (hl : b.length ≤ 1000000) {x : NX} (hx2 : x = nextX s (b.take q) 400 100 room) :
    (¬ x.er = 0 → CW s b = .err x.er) ∧ (x.er = 0 → x.kind = 3 → x.data = [] ∧ ∃ t, CW s b = .got 0 t [] x.n ∧ MsgS x.r = MsgS t) ∧
        (x.er = 0 → ¬ x.kind = 3 → x.kind = 0 ∧ x.n = 0 → x.data = [] ∧ x.r = s ∧ (q = b.length → CW s b = .got 4 s [] 0)) ∧
        (x.er = 0 → ¬ x.kind = 3 → ¬ (x.kind = 0 ∧ x.n = 0) → 1 ≤ x.n ∧ x.n ≤ q ∧ GoodS x.r (b.drop x.n) ∧ ((CW x.r (b.drop x.n)).add x.data x.n).same (CW s b)) := by
  rcases hg.ph with hp | hp
  · obtain ⟨r1, r2, r3, r4⟩ := head_round hg hp q hq room hl hx2
    exact ⟨r1, fun h h3 => absurd h3 (r2 h), fun h _ => r3 h, fun h _ h2 => by
      obtain ⟨a1, a2, a3, a4⟩ := r4 h h2
      exact ⟨a1, a2, a3, by rw [a4]; exact RW.same_refl _⟩⟩
  · obtain ⟨r1, r2, r3, r4⟩ := body_round hg hp q hq room hri hl hx2
    rw [CW_body (by omega : ¬ s.ph = 0)]
    refine ⟨r1, r2, r3, fun h h3 h2 => ?_⟩
    obtain ⟨a1, a2, a3, a4, a5⟩ := r4 h h3 h2
    rw [CW_body (by omega : ¬ x.r.ph = 0)]
    exact ⟨a1, a2, a4, a5⟩
/-- At the return of whole. -/
structure FnJ (w : World) (g3 g6 : Nat) (v : Value) (t : RS) (D : List UInt8) (fin : Bool) (W : World) : Prop where
  st : StV (LW g3 v) t W g3
  own : Own (w.heap.size + 2) W v D
  r6 : if fin then StV (LW g3 v) t W g6 else RVr W g6 #[.bool false, .string ⟨#[]⟩, .int .i64 0, .string ⟨#[]⟩, .string ⟨#[]⟩, .int .i64 0, .slice none 0 0, .bool false, .slice none 0 0, .int .i64 0, .string ⟨#[]⟩, .int .i64 0, .slice none 0 0, .slice none 0 0, .int .i64 0, .int .i64 0, .int .i64 0, .int .i64 0, .int .i64 0, .int .i64 0, .int .i64 0, .slice none 0 0]
  bl : Below w.heap.size w W
theorem FnJ.keep {w : World} {g3 g6 : Nat} {v : Value} {t : RS} {D : List UInt8} {fin : Bool} {W W' : World} (h : FnJ w g3 g6 v t D fin W) (hb : Below W.heap.size W W') : FnJ w g3 g6 v t D fin W' :=
  ⟨h.st.keep hb, h.own.keep hb, by
    have h6 := h.r6
    cases fin with
    | true => exact StV.keep h6 hb
    | false => exact RVr.keep h6 hb, below_trans h.bl hb⟩
theorem same_err {er : Int} {y : RW} (h : (RW.err er).same y) : y = .err er := by
  cases y with
  | err f => exact congrArg RW.err (h : er = f).symm
  | got => exact h.elim
theorem loc_rem7 {Q : Exit → Act → World → Prop} {act : Act} {w : World} {o : Oper} {s : Spec} {x : Operand} {t : TypeId} (ho : o.op = .binOp .rem 3 x (.const (.int .i64 7)) t) {k : Nat} (hx : act.eval x = .int .i64 k) (hs : s.p (.int .i64 ((k % 7 : Nat) : Int)) w) :
    o.wp Tryz.prog act w (fun a' w' => ∃ v, a' = act.put o.dst v ∧ Below w.heap.size w w' ∧ s.p v w') Q :=
  loc_run (v := .int .i64 ((k % 7 : Nat) : Int)) (by
    have e : (k : Int).tmod 7 = ((k % 7 : Nat) : Int) := by rw [Int.tmod_eq_emod_of_nonneg (by omega)]; omega
    have h : (Op.intDiv .rem .i64 (k : Int) 7).run Tryz.prog w = .ok (.int .i64 ((k % 7 : Nat) : Int)) w := by
      unfold Op.intDiv
      rw [if_neg (by decide), ← e]; rfl
    have hc : act.eval (.const (.int .i64 7)) = .int .i64 7 := rfl
    unfold execOp
    simp only [ho, hx, hc]
    simp [eqGuard, binOp, h, Result.andThen]) (Below.refl _ _) hs
theorem PNew.rowR {N g : Nat} {w : World} {v : Value} {cs ds : Array Value} (h : PNew N w v) (hr : RVr w g cs) : PNew N (w.setRow g ds) v := by
  obtain ⟨q, h1, h2, h3⟩ := h
  exact ⟨q, h1, h2, (setRow_other _ _ _ _ (rv_ne_pv hr h3).symm).trans h3⟩
theorem RSt.rowP {N g : Nat} {L : (Nat → Prop) × (Nat → Prop)} {s : RS} {w : World} {v : Value} {ds : Array Value} (h : RSt N L s w v) (hm : NmS s) (hr : PVr w g #[.int .i64 0, .slice none 0 0]) : RSt N L s (w.setRow g ds) v := by
  obtain ⟨q, h1, h2, h3⟩ := h
  have hne : q ≠ g := by
    obtain ⟨_, _, _, _, _, _, hq, _⟩ := h3
    exact rv_ne_pv hq hr
  exact ⟨q, h1, h2, h3.rowZ hm hne hr zp_noStr zp_noU8⟩
set_option maxRecDepth 100000 in
set_option maxHeartbeats 2000000 in
theorem whole_any (s0 : RS) (b : List UInt8) (ba : Option Addr) (bc : Nat) (ca : Option Addr) (cl cc : Nat) (fa ga la : Option Addr) (fc gc lc : Nat) (mm : Int) (w : World) (hb : IsBytes w ba b bc) (hl : b.length ≤ 1900) (hcu : IntsF w ca cl) (hcl : cl ≤ maxLen ∧ cl ≤ cc) (hm : RMem (fun _ => True) w s0 fa ga la lc) (hg : GoodS s0 b) (hn : NmS s0) (hok : HdOk w mm) :
    Calls Tryz.prog 18 #[.agg #[.bool s0.rep, .string s0.meth, .int .i64 s0.ph, .string s0.m, .string s0.t, .int .i64 s0.z, .slice fa (List.length s0.xs) fc, .bool s0.fr, .slice none 0 0, .int .i64 s0.st, .string s0.rs, .int .i64 s0.z2, .slice ga (List.length s0.ys) gc, .slice none 0 0, .int .i64 s0.fk, .int .i64 s0.fl, .int .i64 s0.left, .int .i64 s0.size, .int .i64 s0.ck.ph, .int .i64 s0.ck.left, .int .i64 s0.ck.tr, .slice la (List.length s0.ck.line) lc], .slice ba b.length bc, .slice ca cl cc] w fun e w' => RetWh w (CW s0 b) e w' ∧ Below w.heap.size w w' := by
  obtain ⟨cs, hcs⟩ : ∃ cs : Array Value, cs = #[.bool s0.rep, .string s0.meth, .int .i64 s0.ph, .string s0.m, .string s0.t, .int .i64 s0.z, .slice fa (List.length s0.xs) fc, .bool s0.fr, .slice none 0 0, .int .i64 s0.st, .string s0.rs, .int .i64 s0.z2, .slice ga (List.length s0.ys) gc, .slice none 0 0, .int .i64 s0.fk, .int .i64 s0.fl, .int .i64 s0.left, .int .i64 s0.size, .int .i64 s0.ck.ph, .int .i64 s0.ck.left, .int .i64 s0.ck.tr, .slice la (List.length s0.ck.line) lc] := ⟨_, rfl⟩
  have HCS := Box.mk hcs
  rw [← hcs]
  clear hcs
  obtain ⟨W1, hW1⟩ : ∃ W1, W1 = (w.alloc (.cells cs 37)).alloc (.cells #[.bool false, .string ⟨#[]⟩, .int .i64 0, .string ⟨#[]⟩, .string ⟨#[]⟩, .int .i64 0, .slice none 0 0, .bool false, .slice none 0 0, .int .i64 0, .string ⟨#[]⟩, .int .i64 0, .slice none 0 0, .slice none 0 0, .int .i64 0, .int .i64 0, .int .i64 0, .int .i64 0, .int .i64 0, .int .i64 0, .int .i64 0, .slice none 0 0] 37) := ⟨_, rfl⟩
  have hb1 : Below w.heap.size w W1 := by rw [hW1]; exact below_twoF (below_oneF _ _) _
  have HX1 := Box.mk (show RVr W1 w.heap.size cs by rw [hW1]; exact RVr.keep (heap_alloc_new w (.cells cs 37)) (below_oneF _ _))
  have HY1 := Box.mk (show RVr W1 (w.heap.size + 1) #[.bool false, .string ⟨#[]⟩, .int .i64 0, .string ⟨#[]⟩, .string ⟨#[]⟩, .int .i64 0, .slice none 0 0, .bool false, .slice none 0 0, .int .i64 0, .string ⟨#[]⟩, .int .i64 0, .slice none 0 0, .slice none 0 0, .int .i64 0, .int .i64 0, .int .i64 0, .int .i64 0, .int .i64 0, .int .i64 0, .int .i64 0, .slice none 0 0] by
    have h := heap_alloc_new (w.alloc (.cells cs 37)) (.cells #[.bool false, .string ⟨#[]⟩, .int .i64 0, .string ⟨#[]⟩, .string ⟨#[]⟩, .int .i64 0, .slice none 0 0, .bool false, .slice none 0 0, .int .i64 0, .string ⟨#[]⟩, .int .i64 0, .slice none 0 0, .slice none 0 0, .int .i64 0, .int .i64 0, .int .i64 0, .int .i64 0, .int .i64 0, .int .i64 0, .int .i64 0, .slice none 0 0] 37)
    rw [World.size_alloc] at h
    rw [hW1]; exact h)
  have HW1 := Box.mk hW1
  have hm1 := hm.keep hb1
  have HJ := Box.mk (show WhJ w (w.heap.size + 2) w.heap.size (w.heap.size + 1) (.slice none 0 0) s0 [] W1 from ⟨⟨fa, fc, ga, gc, la, lc, by rw [← HCS.out]; exact HX1.out, ⟨hm1.f1, hm1.f2, hm1.ln, fun y e hx => ⟨by have := hm.f1.old e hx; omega, fun e => by cases e⟩, fun y e hx => ⟨by have := hm.f2.old e hx; omega, fun e => by cases e⟩⟩, fun _ _ _ => fun e => by cases e⟩, Own.start _ _, HY1.out, hb1, HY1.out.lt⟩)
  have HBB := Box.mk hb
  have HOK := Box.mk hok
  have HCU := Box.mk hcu
  have HG := Box.mk hg
  have HN := Box.mk hn
  clear hW1 hb1 hm1 hm hb hok hcu hg hn
  go_enter Tryz.func18, Tryz.ntmps18
  go_upto_region 1 with fail
  rw [← HW1.out]
  clear HW1 HX1 HY1 HCS
  go_wp2_with fail
  go_loopw [10, 11, 12, 13] (fun v kv uv iv wr => ∃ (k u i : Nat), kv = .int .i64 (k : Int) ∧ uv = .int .i64 (u : Int) ∧ iv = .int .i64 (i : Int) ∧ k ≤ u ∧ u ≤ b.length ∧ i + (b.length - k) + (b.length - u) ≤ 2 * b.length ∧ ∃ s d, Box (WhJ w (w.heap.size + 2) w.heap.size (w.heap.size + 1) v s d wr ∧ GoodS s (b.drop k) ∧ NmS s ∧ ((CW s (b.drop k)).add d k).same (CW s0 b) ∧ d.length ≤ 2000 * i)) (fun _ kv uv _ _ => (b.length - (intOf kv).toNat) + (b.length - (intOf uv).toNat))
  case atStart => exact ⟨0, 0, 0, rfl, rfl, rfl, by omega, by omega, by omega, s0, [], ⟨HJ.out, HG.out, HN.out, by rw [RW.add_zero]; exact RW.same_refl _, Nat.le_refl _⟩⟩
  case round =>
    clear HJ HG HN
    generalize u10 = v at *
    obtain ⟨k, u, i, rfl, rfl, rfl, hku, hub, hms, s, d, HR⟩ := hrel
    have hi : i < 4000 := by omega
    have HOKN := Box.mk HR.out.2.1.ok
    have HNS := Box.mk HR.out.2.2.1
    obtain ⟨x, hx⟩ : ∃ x, nextX s ((b.take u).drop k) 400 100 ((1 + i % 7 : Nat) : Int) = x := ⟨_, rfl⟩
    have HXX := Box.mk hx
    have HNX := Box.mk (show NmS x.r by rw [← hx]; exact nextX_names HR.out.2.2.1 _ _ _ _)
    have HPL := Box.mk (show ((b.take u).drop k).length = u - k by rw [List.length_drop, List.length_take]; omega)
    obtain ⟨N, hN⟩ : ∃ N, N = wr.heap.size := ⟨_, rfl⟩
    have HJ0 := Box.mk (show WhJ w N w.heap.size (w.heap.size + 1) v s d wr from ⟨HR.out.1.st, HR.out.1.own, HR.out.1.rs, HR.out.1.bl, by omega⟩)
    have HNN := Box.mk (show w.heap.size < N ∧ (w.heap.size + 1) < N ∧ w.heap.size ≤ N ∧ ∀ q, v.ownBlock = some q → q < N from ⟨by have := HR.out.1.sz; omega, by have := HR.out.1.sz; omega, by have := HR.out.1.sz; omega, fun q e => by have := (HR.out.1.own.lt e).2; omega⟩)
    have HRD := Box.mk (round_all HR.out.2.1 (u - k) (by rw [List.length_drop]; omega) ((1 + i % 7 : Nat) : Int) (by omega) (by rw [List.length_drop]; omega) (x := x) (by rw [← hx, List.drop_take]))
    clear hx hN
    go_wp2_with fail
    rename_i KK hKK
    refine wp_region_phases [16, 17] (fun p => match p with | 0 => [0, 1, 2, 3, 4, 5, 6, 7, 8, 9, 10, 11, 12, 13, 14, 15] | 1 => [11, 12, 13] | _ => [12, 13, 18, 19])
      (fun p => match p with | 0 => [.srow (LW w.heap.size v) s, .val (.slice ba b.length bc), .val (.int .i64 (k : Int)), .val (.int .i64 (u : Int)), .bytes ((b.take u).drop k), .val (.int .i64 (i : Int)), .val (.int .i64 ((i % 7 : Nat) : Int)), .val (.int .i64 ((1 + i % 7 : Nat) : Int)), .nxt (LW w.heap.size v) x, .nxt (LW w.heap.size v) x, .srow (LW w.heap.size v) x.r, .prow x, .val (.int .i64 (x.n : Int)), .val (.int .i64 x.er), .rnew N, .pnew N, .any, .any, .nope, .nope] | 1 => [.any, .any, .any, .any, .any, .any, .any, .any, .any, .nxt (LW w.heap.size v) x, .any, .prow x, .val (.int .i64 (x.n : Int)), .val (.int .i64 x.er), .rst N (LW w.heap.size v) x.r, .pnew N, .any, .any, .nope, .nope] | _ => [.any, .any, .any, .any, .any, .any, .any, .any, .any, .nxt (LW w.heap.size v) x, .any, .any, .val (.int .i64 (x.n : Int)), .val (.int .i64 x.er), .rst N (LW w.heap.size v) x.r, .pst N x, .any, .any, .val (.int .i64 (x.n : Int)), .val (.int .i64 x.er)])
      (fun _ => WhJ w N w.heap.size (w.heap.size + 1) v s d)
      (by kernel_rfl) (by kernel_rfl) (by kernel_rfl) (by kernel_rfl) (by kernel_rfl) (by kernel_rfl) ?_ HJ0.out ?_ ?_ ?_
    · intro p wa wb h hb
      exact WhJ.keep h hb
    · intro p hp
      match p, hp with
      | 0, _ =>
        refine ⟨?_, ?_, ?_, ?_, ?_, ?_, ?_, ?_, ?_, ?_, ?_, ?_, ?_, ?_, ?_, ?_, trivial⟩ <;> intro a1 wx hv hf hd
        · exact ⟨wanted_none rfl, loc_loadS rfl (hf.base 3 rfl) hv.st fun v h => h⟩
        · exact ⟨wanted_none rfl, loc_move rfl (hf.base 1 rfl)⟩
        · exact ⟨wanted_none rfl, loc_move rfl (hf.base 11 rfl)⟩
        · exact ⟨wanted_none rfl, loc_move rfl (hf.base 12 rfl)⟩
        · exact ⟨wanted_none rfl, loc_part rfl (l := b) ⟨_, _, hd 1 rfl, HBB.out.keep hv.bl⟩ (hd 2 rfl) (hd 3 rfl) hku hub fun v h => h⟩
        · exact ⟨wanted_none rfl, loc_move rfl (hf.base 13 rfl)⟩
        · exact ⟨wanted_none rfl, loc_rem7 rfl (hd 5 rfl) rfl⟩
        · exact ⟨wanted_none rfl, loc_addF (m := 1) (k := i % 7) rfl rfl (hd 6 rfl) (by omega) rfl⟩
        · exact ⟨wanted_none rfl, loc_callPx rfl (HOK.out.keep hv.bl) (hd 0 rfl) (hd 4 rfl) rfl rfl (hd 7 rfl) (by rw [HPL.out]; omega) HOKN.out (by decide) (by omega) (fun q hq => by have := hv.sz; have := HNN.out; exact ⟨⟨by omega, fun e => by have := this.2.2.2 q e.symm; omega⟩, fun e => by have := this.2.2.2 q e.symm; omega⟩) fun v w' h => by rw [HXX.out] at h; exact h⟩
        · exact ⟨wanted_none rfl, loc_move rfl (hd 8 rfl)⟩
        · exact ⟨wanted_none rfl, loc_nx0 rfl (hd 9 rfl) fun v h => h⟩
        · exact ⟨wanted_none rfl, loc_nx1 rfl (hd 9 rfl) fun v h => h⟩
        · exact ⟨wanted_none rfl, loc_nx2 rfl (hd 9 rfl) rfl⟩
        · exact ⟨wanted_none rfl, loc_nx3 rfl (hd 9 rfl) rfl⟩
        · exact ⟨wanted_none rfl, loc_allocRn rfl hv.sz fun v w' h => h⟩
        · exact ⟨wanted_none rfl, loc_allocPn rfl hv.sz fun v w' h => h⟩
      | 1, _ =>
        refine ⟨?_, ?_, ?_, trivial⟩ <;> intro a1 wx hv hf hd
        · exact ⟨wanted_none rfl, loc_nx1 rfl (hd 9 rfl) fun v h => h⟩
        · exact ⟨wanted_none rfl, loc_nx2 rfl (hd 9 rfl) rfl⟩
        · exact ⟨wanted_none rfl, loc_nx3 rfl (hd 9 rfl) rfl⟩
      | 2, _ =>
        refine ⟨?_, ?_, ?_, ?_, trivial⟩ <;> intro a1 wx hv hf hd
        · exact ⟨wanted_none rfl, loc_nx2 rfl (hd 9 rfl) rfl⟩
        · exact ⟨wanted_none rfl, loc_nx3 rfl (hd 9 rfl) rfl⟩
        · exact ⟨wanted_none rfl, loc_assign rfl (hd 12 rfl)⟩
        · exact ⟨wanted_none rfl, loc_assign rfl (hd 13 rfl)⟩
    · intro p hp
      match p, hp with
      | 0, _ =>
        intro a2 wx hv hf hd
        refine ⟨wanted_none rfl, wp_storeRn rfl (hd 14 rfl) (hd 10 rfl) HNX.out fun g cs e1 hN hr hst => ?_⟩
        exact ⟨undef, rfl, hv.row HNS.out HNN.out hN hr zero_noStr zero_noU8, trivial, ⟨.inr fun _ _ _ => trivial, .inr fun _ _ _ => trivial, .inr fun _ _ _ => trivial, .inr fun _ _ _ => trivial, .inr fun _ _ _ => trivial, .inr fun _ _ _ => trivial, .inr fun _ _ _ => trivial, .inr fun _ _ _ => trivial, .inr fun _ _ _ => trivial, .inr fun _ _ h => NxV.rowZ h HNX.out hr zero_noStr zero_noU8, .inr fun _ _ _ => trivial, .inr fun _ _ h => AgP.rowZ h hr zero_noU8, .inr fun _ _ h => h, .inr fun _ _ h => h, .inr fun v hv0 _ => by have h9 := hv0 _ 14 rfl rfl; rw [h9]; exact hst, .inr fun v _ h => PNew.rowR h hr, .inl rfl, .inr fun _ _ _ => trivial, .inr fun _ _ h => h.elim, .inr fun _ _ h => h.elim, trivial⟩⟩
      | 1, _ =>
        intro a2 wx hv hf hd
        refine ⟨wanted_none rfl, wp_storePn rfl (hd 15 rfl) (hd 11 rfl) fun g cs e1 hN hr hst => ?_⟩
        exact ⟨undef, rfl, hv.row HNS.out HNN.out hN hr zp_noStr zp_noU8, trivial, ⟨.inr fun _ _ _ => trivial, .inr fun _ _ _ => trivial, .inr fun _ _ _ => trivial, .inr fun _ _ _ => trivial, .inr fun _ _ _ => trivial, .inr fun _ _ _ => trivial, .inr fun _ _ _ => trivial, .inr fun _ _ _ => trivial, .inr fun _ _ _ => trivial, .inr fun _ _ h => NxV.rowZ h HNX.out hr zp_noStr zp_noU8, .inr fun _ _ _ => trivial, .inr fun _ _ _ => trivial, .inr fun _ _ h => h, .inr fun _ _ h => h, .inr fun v _ h => RSt.rowP h HNX.out hr, .inr fun v hv0 _ => by have h9 := hv0 _ 15 rfl rfl; rw [h9]; exact hst, .inr fun _ _ _ => trivial, .inl rfl, .inr fun _ _ h => h.elim, .inr fun _ _ h => h.elim, trivial⟩⟩
    · intro a2 w3 hv hf hh
      obtain ⟨g14, e14a, hg14, hst14⟩ := hh 14 (by decide)
      obtain ⟨g15, e15a, hg15, hpt15⟩ := hh 15 (by decide)
      have e14 : a2.eval (.tmp 14) = .pointer (some ⟨g14, 0, none⟩) := e14a
      have e15 : a2.eval (.tmp 15) = .pointer (some ⟨g15, 0, none⟩) := e15a
      have e16 : a2.eval (.tmp 16) = .int .i64 (x.n : Int) := hh 18 (by decide)
      have e17 : a2.eval (.tmp 17) = .int .i64 x.er := hh 19 (by decide)
      clear hh e14a e15a
      rw [fr_putAll hf]
      clear hf
      simp only [putAll, e14, e15, e16, e17]
      generalize a2.eval (.tmp 22) = u22
      generalize a2.eval (.tmp 23) = u23
      generalize a2.eval (.tmp 24) = u24
      generalize a2.eval (.tmp 25) = u25
      generalize a2.eval (.tmp 26) = u26
      generalize a2.eval (.tmp 27) = u27
      generalize a2.eval (.tmp 28) = u28
      generalize a2.eval (.tmp 29) = u29
      generalize a2.eval (.tmp 30) = u30
      generalize a2.eval (.tmp 21) = u21
      generalize a2.eval (.tmp 31) = u31
      generalize a2.eval (.tmp 32) = u32
      generalize a2.eval (.tmp 33) = u33
      generalize a2.eval (.tmp 34) = u34
      clear e14 e15 e16 e17 a2
      simp only [Act.put, List.setIfInBounds_toArray, List.set_cons_succ, List.set_cons_zero]
      refine hKK _ _ ?_
      clear hKK
      by_cases h0 : x.er = 0
      · have hokx := nextX_ok (s := s) (b := (b.take u).drop k) (most := 400) (body := 100) (room := ((1 + i % 7 : Nat) : Int)) (by decide) (by rw [HPL.out]; omega) HOKN.out (by rw [HXX.out]; exact h0)
        rw [HXX.out, HPL.out] at hokx
        have HX64 := Box.mk (And.intro hokx.1.ok.xs.2 hokx.1.ok.ys.2)
        have hxn : x.n ≤ u - k := hokx.2.1
        have hxd : x.data.length ≤ u - k := hokx.2.2
        have hz1 : ¬ ((x.n : Int) < 0) := by omega
        have hz2 : ¬ ((x.n : Int) > (u : Int) - (k : Int)) := by omega
        obtain ⟨f4, c4, g4, d4, l4, e4, hr14, hm14⟩ := hst14
        obtain ⟨pa, pc, hp15, hd15⟩ := hpt15
        obtain ⟨f7, c7, g7, d7, l7, e7, hr3, hm3⟩ := hv.st
        obtain ⟨cr, hcr⟩ : ∃ cr : Array Value, cr = #[.bool x.r.rep, .string x.r.meth, .int .i64 x.r.ph, .string x.r.m, .string x.r.t, .int .i64 x.r.z, .slice f4 (List.length x.r.xs) c4, .bool x.r.fr, .slice none 0 0, .int .i64 x.r.st, .string x.r.rs, .int .i64 x.r.z2, .slice g4 (List.length x.r.ys) d4, .slice none 0 0, .int .i64 x.r.fk, .int .i64 x.r.fl, .int .i64 x.r.left, .int .i64 x.r.size, .int .i64 x.r.ck.ph, .int .i64 x.r.ck.left, .int .i64 x.r.ck.tr, .slice l4 (List.length x.r.ck.line) e4] := ⟨_, rfl⟩
        have HCR := Box.mk hcr
        have hcr22 : cr.size = 22 := by rw [hcr]; rfl
        have hcr1 : cr.all (·.oneCell') = true := by rw [hcr]; exact oneRd ..
        have HSR := Box.mk (show (Tryz.prog.info? 37).map (·.size) = some cr.size by rw [hcr22]; exact sizeRd)
        rw [← hcr] at hr14
        obtain ⟨c3, hc3⟩ : ∃ c3 : Array Value, c3 = #[.bool s.rep, .string s.meth, .int .i64 s.ph, .string s.m, .string s.t, .int .i64 s.z, .slice f7 (List.length s.xs) c7, .bool s.fr, .slice none 0 0, .int .i64 s.st, .string s.rs, .int .i64 s.z2, .slice g7 (List.length s.ys) d7, .slice none 0 0, .int .i64 s.fk, .int .i64 s.fl, .int .i64 s.left, .int .i64 s.size, .int .i64 s.ck.ph, .int .i64 s.ck.left, .int .i64 s.ck.tr, .slice l7 (List.length s.ck.line) e7] := ⟨_, rfl⟩
        have hc322 : c3.size = cr.size := by rw [hcr22, hc3]; rfl
        have HU3 := Box.mk (show NoU8 c3 by rw [hc3]; exact noU8_22 rfl)
        rw [← hc3] at hr3
        have HR14 := Box.mk hr14
        have HR3 := Box.mk hr3
        have hg3N := HNN.out.1
        have hg6N := HNN.out.2.1
        have hne : g14 ≠ w.heap.size ∧ g15 ≠ w.heap.size ∧ g15 ≠ (w.heap.size + 1) := by omega
        obtain ⟨W4, hW4⟩ : ∃ W4, W4 = w3.setRow w.heap.size cr := ⟨_, rfl⟩
        have HS4 := Box.mk (show StV (LW w.heap.size v) x.r W4 w.heap.size from ⟨f4, c4, g4, d4, l4, e4, by rw [hW4, ← HCR.out]; exact setRow_heap _ _ _ _ _ _ hr3, by rw [hW4]; exact hm14.rowL (fun h => h.1 rfl) hr3 HU3.out⟩)
        have HO4 := Box.mk (show Own (w.heap.size + 2) W4 v d by rw [hW4]; exact hv.own.same fun q hq => setRow_other _ _ _ _ (by have := (hv.own.lt hq).1; omega))
        have hp4 : PVr W4 g15 #[.int .i64 x.kind, .slice pa (List.length x.data) pc] := by rw [hW4]; exact (setRow_other _ _ _ _ hne.2.1).trans hp15
        have HP4 := Box.mk hp4
        have HD4 := Box.mk (show IsBytes W4 pa x.data pc by rw [hW4]; exact isBytes_rowR hr3 HU3.out hd15)
        have HZ4 := Box.mk (show RVr W4 (w.heap.size + 1) #[.bool false, .string ⟨#[]⟩, .int .i64 0, .string ⟨#[]⟩, .string ⟨#[]⟩, .int .i64 0, .slice none 0 0, .bool false, .slice none 0 0, .int .i64 0, .string ⟨#[]⟩, .int .i64 0, .slice none 0 0, .slice none 0 0, .int .i64 0, .int .i64 0, .int .i64 0, .int .i64 0, .int .i64 0, .int .i64 0, .int .i64 0, .slice none 0 0] by rw [hW4]; exact (setRow_other _ _ _ _ (by omega)).trans hv.rs)
        have HB4 := Box.mk (show Below w.heap.size w W4 by rw [hW4]; exact below_setRow hv.bl (by omega) _)
        have hN4 : N ≤ W4.heap.size := by rw [hW4]; simpa [World.setRow] using hv.sz
        have hk41 : W4.cell? ⟨g15, 1, none⟩ = some (.slice pa (List.length x.data) pc) := by rw [cell_of_row _ _ _ _ _ _ hp4]; rfl
        clear hcr hc3 hr14 hm14 hp15 hd15 hr3 hm3 hp4 hv
        rw [h0]
        go_upto_region 9 with (first | refine wpList_load_row rfl 37 _ rfl g14 rfl 37 cr (0, 0) _ HR14.out Tryz.underlying37 rfl HSR.out ?_ | refine wpList_store_row rfl 37 _ _ rfl w.heap.size cr rfl rfl 37 _ HR3.out HSR.out hc322 hcr1 ?_)
        rw [← hW4]
        clear hW4 HR14 HR3 HSR hc322 hcr1 hcr22 HCR hz1 hz2 HU3
        have hdl := HR.out.2.2.2.2
        go_wp2_with (at_builtin; refine wpList_append_ownb _ rfl _ _ rfl rfl HO4.out rfl HD4.out (by omega) (by have := hg3N; omega) ?c1)
        case c1 =>
          intro v1 w5 hown hgrow hnew
          obtain ⟨D, hD⟩ : ∃ D, D = d ++ x.data := ⟨_, rfl⟩
          obtain ⟨K, hK⟩ : ∃ K : Nat, K = k + x.n := ⟨_, rfl⟩
          rw [← hD] at hown
          have hlow : ∀ q, v.ownBlock = some q → w.heap.size + 2 ≤ q ∧ q < N := fun q e => ⟨(HO4.out.lt e).1, HNN.out.2.2.2 q e⟩
          have hst5 : StV (LW w.heap.size v1) x.r w5 w.heap.size := by
            obtain ⟨f4, c4, g4, d4, l4, e4, hr, hm⟩ := HS4.out
            refine ⟨f4, c4, g4, d4, l4, e4, (hgrow.block _ hr.lt (fun e => by have := (hlow _ e.symm).1; omega)).trans hr, ⟨sameNe hm.m.f1 fun y e hx => hgrow.block _ (hm.m.f1.old e hx) (hm.m.n1 y e hx).2, sameNe hm.m.f2 fun y e hx => hgrow.block _ (hm.m.f2.old e hx) (hm.m.n2 y e hx).2, hm.m.ln.same fun y e hx => hgrow.block _ (hm.m.ln.old e hx) (hm.l y e hx), fun y e hx => ⟨(hm.m.n1 y e hx).1, ?_⟩, fun y e hx => ⟨(hm.m.n2 y e hx).1, ?_⟩⟩, fun y e hx => ?_⟩
            · rcases hnew with h | h
              · rw [h]; exact (hm.m.n1 y e hx).2
              · rw [h]; intro e2; have := hm.m.f1.old e hx; injection e2 with e2; omega
            · rcases hnew with h | h
              · rw [h]; exact (hm.m.n2 y e hx).2
              · rw [h]; intro e2; have := hm.m.f2.old e hx; injection e2 with e2; omega
            · show some y.block ≠ v1.ownBlock
              rcases hnew with h | h
              · rw [h]; exact hm.l y e hx
              · rw [h]; intro e2; have := hm.m.ln.old e hx; injection e2 with e2; omega
          have HZ5 := Box.mk (show RVr w5 (w.heap.size + 1) #[.bool false, .string ⟨#[]⟩, .int .i64 0, .string ⟨#[]⟩, .string ⟨#[]⟩, .int .i64 0, .slice none 0 0, .bool false, .slice none 0 0, .int .i64 0, .string ⟨#[]⟩, .int .i64 0, .slice none 0 0, .slice none 0 0, .int .i64 0, .int .i64 0, .int .i64 0, .int .i64 0, .int .i64 0, .int .i64 0, .int .i64 0, .slice none 0 0] from (hgrow.block _ HZ4.out.lt (fun e => by have := (hlow _ e.symm).1; omega)).trans HZ4.out)
          have HP5 := Box.mk (show PVr w5 g15 #[.int .i64 x.kind, .slice pa (List.length x.data) pc] from (hgrow.block _ (Array.getElem?_eq_some_iff.1 HP4.out).1 (fun e => by have := (hlow _ e.symm).2; omega)).trans HP4.out)
          have HB5 := Box.mk (HB4.out.grown hgrow HB4.out.size (fun q e => by have := (hlow _ e).1; omega))
          have hN5 : N ≤ w5.heap.size := Nat.le_trans hN4 hgrow.size
          have HF := Box.mk (show FnJ w w.heap.size (w.heap.size + 1) v1 x.r D false w5 from ⟨hst5, hown, HZ5.out, HB5.out⟩)
          have HTN := HNX
          have HNE := Box.mk (show w.heap.size ≠ (w.heap.size + 1) ∧ (w.heap.size + 1) = w.heap.size + 1 ∧ w.heap.size + 1 ≤ (w.heap.size + 1) from ⟨by omega, by omega, by omega⟩)
          have hk50 : w5.cell? ⟨g15, 0, none⟩ = some (.int .i64 x.kind) := by rw [cell_of_row _ _ _ _ _ _ HP5.out]; rfl
          rw [show (k : Int) + (x.n : Int) = (K : Int) by omega]
          clear hown hgrow hnew hst5 HS4 HO4 HP4 HD4 HZ4 HB4 hk41 HZ5 HB5 hlow
          by_cases h3 : x.kind = 3
          · have e3 : (x.kind == 3) = true := by rw [h3]; rfl
            obtain ⟨q1, t, q2, q3⟩ := HRD.out.2.1 h0 h3
            have HSAME := Box.mk (show (RW.got 0 x.r D K).same (CW s0 b) by
              have hh := HR.out.2.2.2.1
              rw [q2] at hh
              refine RW.same_trans ?_ hh
              exact ⟨rfl, q3, by simp [hD, q1], by omega⟩)
            clear h3 q1 q2 q3 HR HRD hK hD
            go_wp2_with fail
            rename_i K2 hK2
            refine wp_region_phases [4] (fun p => match p with | 0 => [0, 1, 2, 3] | _ => [1, 2, 3, 5, 6, 7])
              (fun p => match p with | 0 => [.srow (LW w.heap.size v1) x.r, .val (v1), .val (.string ⟨D.toArray⟩), .val (.int .i64 (K : Int)), .any, .nope, .nope, .nope] | _ => [.any, .val (v1), .val (.string ⟨D.toArray⟩), .val (.int .i64 (K : Int)), .any, .val (.string ⟨D.toArray⟩), .val (.int .i64 (K : Int)), .val (.int .i64 0)])
              (fun p => match p with | 0 => FnJ w w.heap.size (w.heap.size + 1) v1 x.r D false | _ => FnJ w w.heap.size (w.heap.size + 1) v1 x.r D true)
              (by kernel_rfl) (by kernel_rfl) (by kernel_rfl) (by kernel_rfl) (by kernel_rfl) (by kernel_rfl) ?_ HF.out ?_ ?_ ?_
            · intro p wa wb h hb
              match p, h with
              | 0, h => exact FnJ.keep h hb
              | (_ + 1), h => exact FnJ.keep h hb
            · intro p hp
              match p, hp with
              | 0, _ =>
                refine ⟨?_, ?_, ?_, ?_, trivial⟩ <;> intro a1 wx hv hf hd
                · exact ⟨wanted_none rfl, loc_loadS rfl (hf.base 3 rfl) hv.st fun v h => h⟩
                · exact ⟨wanted_none rfl, loc_move rfl (hf.base 10 rfl)⟩
                · exact ⟨wanted_none rfl, loc_string rfl (l := D) (by rw [show a1.eval (.tmp 60) = v1 from hd 1 rfl]; exact hv.own.val) rfl⟩
                · exact ⟨wanted_none rfl, loc_move rfl (hf.base 11 rfl)⟩
              | 1, _ =>
                refine ⟨?_, ?_, ?_, ?_, ?_, ?_, trivial⟩ <;> intro a1 wx hv hf hd
                · exact ⟨wanted_none rfl, loc_move rfl (hf.base 10 rfl)⟩
                · exact ⟨wanted_none rfl, loc_string rfl (l := D) (by rw [show a1.eval (.tmp 60) = v1 from hd 1 rfl]; exact hv.own.val) rfl⟩
                · exact ⟨wanted_none rfl, loc_move rfl (hf.base 11 rfl)⟩
                · exact ⟨wanted_none rfl, loc_assign rfl (hd 2 rfl)⟩
                · exact ⟨wanted_none rfl, loc_assign rfl (hd 3 rfl)⟩
                · exact ⟨wanted_none rfl, loc_assign rfl rfl⟩
            · intro p hp
              match p, hp with
              | 0, _ =>
                intro a2 wx hv hf hd
                obtain ⟨f5, c5, g5, d5, l5, e5, er5, hm5⟩ := hd 0 rfl
                have hr6 : RVr wx (w.heap.size + 1) #[.bool false, .string ⟨#[]⟩, .int .i64 0, .string ⟨#[]⟩, .string ⟨#[]⟩, .int .i64 0, .slice none 0 0, .bool false, .slice none 0 0, .int .i64 0, .string ⟨#[]⟩, .int .i64 0, .slice none 0 0, .slice none 0 0, .int .i64 0, .int .i64 0, .int .i64 0, .int .i64 0, .int .i64 0, .int .i64 0, .int .i64 0, .slice none 0 0] := hv.r6
                refine ⟨wanted_none rfl, wp_store_row 37 _ _ rfl (w.heap.size + 1) _ (hf.base 6 rfl) er5 37 _ hr6 sizeRd rfl (oneRd ..) ?_⟩
                exact ⟨undef, rfl, ⟨hv.st.rowZ HTN.out HNE.out.1 hr6 zero_noStr zero_noU8, hv.own.same fun q hq => setRow_other _ _ _ _ (by have := (hv.own.lt hq).1; have := HNE.out.2; omega), ⟨f5, c5, g5, d5, l5, e5, setRow_heap _ _ _ _ _ _ hr6, hm5.rowZ HTN.out hr6 zero_noStr zero_noU8⟩, below_setRow hv.bl (by have := HNE.out.2; omega) _⟩, trivial, ⟨.inr fun _ _ _ => trivial, .inr fun _ _ h => h, .inr fun _ _ h => h, .inr fun _ _ h => h, .inl rfl, .inr fun _ _ h => h.elim, .inr fun _ _ h => h.elim, .inr fun _ _ h => h.elim, trivial⟩⟩
            · intro a2 w9 hv hf hh
              have e7 : a2.eval (.tmp 7) = .string ⟨D.toArray⟩ := hh 5 (by decide)
              have e8 : a2.eval (.tmp 8) = .int .i64 (K : Int) := hh 6 (by decide)
              have e9 : a2.eval (.tmp 9) = .int .i64 0 := hh 7 (by decide)
              clear hh
              rw [fr_putAll hf]
              clear hf
              simp only [putAll, e7, e8, e9]
              generalize a2.eval (.tmp 59) = z59
              generalize a2.eval (.tmp 60) = z60
              generalize a2.eval (.tmp 61) = z61
              generalize a2.eval (.tmp 62) = z62
              clear e7 e8 e9 a2
              simp only [Act.put, List.setIfInBounds_toArray, List.set_cons_succ, List.set_cons_zero]
              refine hK2 _ _ ?_
              clear hK2
              obtain ⟨f5, c5, g5, d5, l5, e5, hr6, hm6⟩ := hv.r6
              go_wp2_with fail
              (try simp only [Exit.inBlock, Exit.then])
              refine bodyPost_ret (results_row_tmp3C rfl _ _ (w.heap.size + 1) 37 _ (0, 0) _ rfl hr6 Tryz.underlying37 rfl sizeRd) rfl ?_
              exact ⟨.inr ⟨0, x.r, D, K, f5, c5, g5, d5, l5, e5, HSAME.out, rfl, hm6.m.f1, hm6.m.f2, HX64.out.1, HX64.out.2⟩, hv.bl⟩
          · have e3 : (x.kind == 3) = false := by rw [beq_eq_false_iff_ne]; exact h3
            by_cases h2 : x.kind = 0 ∧ x.n = 0
            · obtain ⟨q1, q2, q3⟩ := HRD.out.2.2.1 h0 h3 h2
              have e4 : (x.kind == 0) = true := by rw [h2.1]; rfl
              have e5 : ((x.n : Int) == 0) = true := by rw [h2.2]; rfl
              have HQ := Box.mk (And.intro q1 (And.intro q2 (And.intro h2.2 q3)))
              clear q1 q2 q3 h2 h3
              by_cases hu : u = b.length
              · have e6 : ((u : Int) == (b.length : Int)) = true := by rw [hu]; simp
                have HSAME := Box.mk (show (RW.got 4 x.r D K).same (CW s0 b) by
                  have hh := HR.out.2.2.2.1
                  rw [HQ.out.2.2.2 (by rw [List.length_drop]; omega)] at hh
                  refine RW.same_trans ?_ hh
                  exact ⟨rfl, by rw [HQ.out.2.1], by simp [hD, HQ.out.1], by have := HQ.out.2.2.1; omega⟩)
                clear hu HR HRD hK hD HQ
                go_wp2_with fail
                rename_i K2 hK2
                refine wp_region_phases [4] (fun p => match p with | 0 => [0, 1, 2, 3] | _ => [1, 2, 3, 5, 6, 7])
                  (fun p => match p with | 0 => [.srow (LW w.heap.size v1) x.r, .val (v1), .val (.string ⟨D.toArray⟩), .val (.int .i64 (K : Int)), .any, .nope, .nope, .nope] | _ => [.any, .val (v1), .val (.string ⟨D.toArray⟩), .val (.int .i64 (K : Int)), .any, .val (.string ⟨D.toArray⟩), .val (.int .i64 (K : Int)), .val (.int .i64 4)])
                  (fun p => match p with | 0 => FnJ w w.heap.size (w.heap.size + 1) v1 x.r D false | _ => FnJ w w.heap.size (w.heap.size + 1) v1 x.r D true)
                  (by kernel_rfl) (by kernel_rfl) (by kernel_rfl) (by kernel_rfl) (by kernel_rfl) (by kernel_rfl) ?_ HF.out ?_ ?_ ?_
                · intro p wa wb h hb
                  match p, h with
                  | 0, h => exact FnJ.keep h hb
                  | (_ + 1), h => exact FnJ.keep h hb
                · intro p hp
                  match p, hp with
                  | 0, _ =>
                    refine ⟨?_, ?_, ?_, ?_, trivial⟩ <;> intro a1 wx hv hf hd
                    · exact ⟨wanted_none rfl, loc_loadS rfl (hf.base 3 rfl) hv.st fun v h => h⟩
                    · exact ⟨wanted_none rfl, loc_move rfl (hf.base 10 rfl)⟩
                    · exact ⟨wanted_none rfl, loc_string rfl (l := D) (by rw [show a1.eval (.tmp 75) = v1 from hd 1 rfl]; exact hv.own.val) rfl⟩
                    · exact ⟨wanted_none rfl, loc_move rfl (hf.base 11 rfl)⟩
                  | 1, _ =>
                    refine ⟨?_, ?_, ?_, ?_, ?_, ?_, trivial⟩ <;> intro a1 wx hv hf hd
                    · exact ⟨wanted_none rfl, loc_move rfl (hf.base 10 rfl)⟩
                    · exact ⟨wanted_none rfl, loc_string rfl (l := D) (by rw [show a1.eval (.tmp 75) = v1 from hd 1 rfl]; exact hv.own.val) rfl⟩
                    · exact ⟨wanted_none rfl, loc_move rfl (hf.base 11 rfl)⟩
                    · exact ⟨wanted_none rfl, loc_assign rfl (hd 2 rfl)⟩
                    · exact ⟨wanted_none rfl, loc_assign rfl (hd 3 rfl)⟩
                    · exact ⟨wanted_none rfl, loc_assign rfl rfl⟩
                · intro p hp
                  match p, hp with
                  | 0, _ =>
                    intro a2 wx hv hf hd
                    obtain ⟨f5, c5, g5, d5, l5, e5, er5, hm5⟩ := hd 0 rfl
                    have hr6 : RVr wx (w.heap.size + 1) #[.bool false, .string ⟨#[]⟩, .int .i64 0, .string ⟨#[]⟩, .string ⟨#[]⟩, .int .i64 0, .slice none 0 0, .bool false, .slice none 0 0, .int .i64 0, .string ⟨#[]⟩, .int .i64 0, .slice none 0 0, .slice none 0 0, .int .i64 0, .int .i64 0, .int .i64 0, .int .i64 0, .int .i64 0, .int .i64 0, .int .i64 0, .slice none 0 0] := hv.r6
                    refine ⟨wanted_none rfl, wp_store_row 37 _ _ rfl (w.heap.size + 1) _ (hf.base 6 rfl) er5 37 _ hr6 sizeRd rfl (oneRd ..) ?_⟩
                    exact ⟨undef, rfl, ⟨hv.st.rowZ HTN.out HNE.out.1 hr6 zero_noStr zero_noU8, hv.own.same fun q hq => setRow_other _ _ _ _ (by have := (hv.own.lt hq).1; have := HNE.out.2; omega), ⟨f5, c5, g5, d5, l5, e5, setRow_heap _ _ _ _ _ _ hr6, hm5.rowZ HTN.out hr6 zero_noStr zero_noU8⟩, below_setRow hv.bl (by have := HNE.out.2; omega) _⟩, trivial, ⟨.inr fun _ _ _ => trivial, .inr fun _ _ h => h, .inr fun _ _ h => h, .inr fun _ _ h => h, .inl rfl, .inr fun _ _ h => h.elim, .inr fun _ _ h => h.elim, .inr fun _ _ h => h.elim, trivial⟩⟩
                · intro a2 w9 hv hf hh
                  have e7 : a2.eval (.tmp 7) = .string ⟨D.toArray⟩ := hh 5 (by decide)
                  have e8 : a2.eval (.tmp 8) = .int .i64 (K : Int) := hh 6 (by decide)
                  have e9 : a2.eval (.tmp 9) = .int .i64 4 := hh 7 (by decide)
                  clear hh
                  rw [fr_putAll hf]
                  clear hf
                  simp only [putAll, e7, e8, e9]
                  generalize a2.eval (.tmp 74) = z74
                  generalize a2.eval (.tmp 75) = z75
                  generalize a2.eval (.tmp 76) = z76
                  generalize a2.eval (.tmp 77) = z77
                  clear e7 e8 e9 a2
                  simp only [Act.put, List.setIfInBounds_toArray, List.set_cons_succ, List.set_cons_zero]
                  refine hK2 _ _ ?_
                  clear hK2
                  obtain ⟨f5, c5, g5, d5, l5, e5, hr6, hm6⟩ := hv.r6
                  go_wp2_with fail
                  (try simp only [Exit.inBlock, Exit.then])
                  refine bodyPost_ret (results_row_tmp3C rfl _ _ (w.heap.size + 1) 37 _ (0, 0) _ rfl hr6 Tryz.underlying37 rfl sizeRd) rfl ?_
                  exact ⟨.inr ⟨4, x.r, D, K, f5, c5, g5, d5, l5, e5, HSAME.out, rfl, hm6.m.f1, hm6.m.f2, HX64.out.1, HX64.out.2⟩, hv.bl⟩
              · have e6 : ((u : Int) == (b.length : Int)) = false := by rw [beq_eq_false_iff_ne]; omega
                have HRL := Box.mk (show WhJ w (w.heap.size + 2) w.heap.size (w.heap.size + 1) v1 x.r D w5 ∧ GoodS x.r (b.drop K) ∧ NmS x.r ∧ ((CW x.r (b.drop K)).add D K).same (CW s0 b) ∧ D.length ≤ 2000 * (i + 1) from ⟨⟨HF.out.st, HF.out.own, HF.out.r6, HF.out.bl, by omega⟩, by rw [HQ.out.2.1, show K = k by have := HQ.out.2.2.1; omega]; exact HR.out.2.1, HNX.out, by rw [HQ.out.2.1, show K = k by have := HQ.out.2.2.1; omega, hD, HQ.out.1, List.append_nil]; exact HR.out.2.2.2.1, by rw [hD, HQ.out.1, List.append_nil]; omega⟩)
                have HKk := Box.mk (show K = k by have := HQ.out.2.2.1; omega)
                clear HR HRD HQ HF hD hK
                have hul : u < b.length := by omega
                clear hu
                by_cases hcl0 : cl = 0
                · have hgt : ¬ (cl : Int) > 0 := by omega
                  clear hcl0
                  obtain ⟨u2, hu2⟩ : ∃ u2 : Nat, u2 = min (u + (1 + b.length)) b.length := ⟨_, rfl⟩
                  have hmn : ∀ (ts : Array TypeId) (t : TypeId) (W : World), (Builtin.min_ ts t #[.int .i64 ((u : Int) + (1 + (b.length : Int))), .int .i64 b.length]).run Tryz.prog W = .ok (.int .i64 (u2 : Int)) W := fun ts t W => by
                    rw [run_min_int2]
                    congr 2
                    rw [hu2]
                    split <;> omega
                  have hu3 : u < u2 ∧ u2 ≤ b.length := by omega
                  clear hu2
                  go_wp2_with fail
                  go_roundw
                  case rel => have hKk := HKk.out; exact ⟨K, u2, i + 1, rfl, rfl, by go_num, by omega, by omega, by omega, x.r, D, ⟨HRL.out.1, HRL.out.2.1, HRL.out.2.2.1, HRL.out.2.2.2.1, HRL.out.2.2.2.2⟩⟩
                  case measure => have hKk := HKk.out; simp [intOf]; omega
                · have hgt : (cl : Int) > 0 := by omega
                  have hcl1 : 0 < cl := by omega
                  obtain ⟨z, ad, hz, hcz⟩ : ∃ z ad, ca = some ad ∧ w5.cell? (ad.add (i % cl)) = some (.int .i64 z) := by
                    obtain ⟨ad, z, h1, h2, _⟩ := HCU.out (i % cl) (Nat.mod_lt _ hcl1)
                    exact ⟨z, ad, h1, below_cell HRL.out.1.bl h2⟩
                  subst hz
                  have hmod : i % cl < cl := Nat.mod_lt _ hcl1
                  have hrem : (i : Int).tmod (cl : Int) = ((i % cl : Nat) : Int) := by rw [Int.tmod_eq_emod_of_nonneg (by omega)]; simp
                  obtain ⟨j, hj⟩ : ∃ j : Nat, i % cl = j := ⟨_, rfl⟩
                  rw [hj] at hcz hmod hrem
                  clear hcl0 hj
                  go_wp2_with fail
                  refine (within_any z 9 w5 (by decide) (by decide)).mono ?_
                  rintro e w6 ⟨kk, hkk, rfl, rfl⟩
                  obtain ⟨u2, hu2⟩ : ∃ u2 : Nat, u2 = min (u + (1 + kk)) b.length := ⟨_, rfl⟩
                  have hmn : ∀ (ts : Array TypeId) (t : TypeId) (W : World), (Builtin.min_ ts t #[.int .i64 ((u : Int) + (1 + (kk : Int))), .int .i64 b.length]).run Tryz.prog W = .ok (.int .i64 (u2 : Int)) W := fun ts t W => by
                    rw [run_min_int2]
                    congr 2
                    rw [hu2]
                    split <;> omega
                  have hu3 : u < u2 ∧ u2 ≤ b.length := by omega
                  clear hu2 hcz hrem hmod
                  go_wp2_with fail
                  go_roundw
                  case rel => have hKk := HKk.out; exact ⟨K, u2, i + 1, rfl, rfl, by go_num, by omega, by omega, by omega, x.r, D, ⟨HRL.out.1, HRL.out.2.1, HRL.out.2.2.1, HRL.out.2.2.2.1, HRL.out.2.2.2.2⟩⟩
                  case measure => have hKk := HKk.out; simp [intOf]; omega
            · obtain ⟨q1, q2, q3, q4⟩ := HRD.out.2.2.2 h0 h3 h2
              rw [List.drop_drop] at q3 q4
              have HRL := Box.mk (show WhJ w (w.heap.size + 2) w.heap.size (w.heap.size + 1) v1 x.r D w5 ∧ GoodS x.r (b.drop K) ∧ NmS x.r ∧ ((CW x.r (b.drop K)).add D K).same (CW s0 b) ∧ D.length ≤ 2000 * (i + 1) from ⟨⟨HF.out.st, HF.out.own, HF.out.r6, HF.out.bl, by omega⟩, by rw [hK]; exact q3, HNX.out, by
                  have hh := RW.add_same q4 d k
                  rw [RW.add_add, ← hD, ← hK] at hh
                  exact RW.same_trans hh HR.out.2.2.2.1, by rw [hD, List.length_append]; omega⟩)
              have hKk : k < K ∧ K ≤ u := by omega
              clear q1 q2 q3 q4 HR HRD HF hD hK
              by_cases hk0 : x.kind = 0
              · have e4 : (x.kind == 0) = true := by rw [hk0]; rfl
                have e5 : ((x.n : Int) == 0) = false := by rw [beq_eq_false_iff_ne]; intro e; exact h2 ⟨hk0, by omega⟩
                clear h2 hk0 h3
                go_wp2_with fail
                go_roundw
                case rel => exact ⟨K, u, i + 1, rfl, rfl, by go_num, by omega, by omega, by omega, x.r, D, ⟨HRL.out.1, HRL.out.2.1, HRL.out.2.2.1, HRL.out.2.2.2.1, HRL.out.2.2.2.2⟩⟩
                case measure => simp [intOf]; omega
              · have e4 : (x.kind == 0) = false := by rw [beq_eq_false_iff_ne]; exact hk0
                clear h2 hk0 h3
                go_wp2_with fail
                go_roundw
                case rel => exact ⟨K, u, i + 1, rfl, rfl, by go_num, by omega, by omega, by omega, x.r, D, ⟨HRL.out.1, HRL.out.2.1, HRL.out.2.2.1, HRL.out.2.2.2.1, HRL.out.2.2.2.2⟩⟩
                case measure => simp [intOf]; omega
      · have HSAME := Box.mk (show CW s0 b = .err x.er by
          have hh := HR.out.2.2.2.1
          rw [HRD.out.1 h0] at hh
          exact same_err hh)
        have e0 : (x.er != 0) = true := by rw [bne_iff_ne]; exact h0
        have HZ4 := Box.mk hv.rs
        have HB4 := Box.mk hv.bl
        clear h0 hst14 hpt15 hv HR HRD
        go_wp2_with (refine wpList_store_row rfl 37 _ _ rfl (w.heap.size + 1) #[.bool false, .string ⟨#[]⟩, .int .i64 0, .string ⟨#[]⟩, .string ⟨#[]⟩, .int .i64 0, .slice none 0 0, .bool false, .slice none 0 0, .int .i64 0, .string ⟨#[]⟩, .int .i64 0, .slice none 0 0, .slice none 0 0, .int .i64 0, .int .i64 0, .int .i64 0, .int .i64 0, .int .i64 0, .int .i64 0, .int .i64 0, .slice none 0 0] rfl rfl 37 _ HZ4.out sizeRd rfl (oneRd ..) ?_)
        (try simp only [Exit.inBlock, Exit.then])
        refine bodyPost_ret (results_row_tmp3C rfl _ _ (w.heap.size + 1) 37 #[.bool false, .string ⟨#[]⟩, .int .i64 0, .string ⟨#[]⟩, .string ⟨#[]⟩, .int .i64 0, .slice none 0 0, .bool false, .slice none 0 0, .int .i64 0, .string ⟨#[]⟩, .int .i64 0, .slice none 0 0, .slice none 0 0, .int .i64 0, .int .i64 0, .int .i64 0, .int .i64 0, .int .i64 0, .int .i64 0, .int .i64 0, .slice none 0 0] (0, 0) _ rfl (setRow_heap _ _ _ _ _ _ HZ4.out) Tryz.underlying37 rfl sizeRd) rfl ?_
        exact ⟨.inl ⟨x.er, HSAME.out, rfl⟩, below_setRow HB4.out (by omega) _⟩
end Go.Proofs.YtejbkbccljoldaaGreatDoor
namespace Go.Proofs.YtejbkbccljoldaaGreatDoor
open Go.RowKit

theorem endS_front {h r : List UInt8} (h1 : endZ h = h.length) (h2 : 4 ≤ h.length) (h3 : h.length ≤ 400) : endS (h ++ r) 400 = ((h.length : Int), 0) := by
  have h4 := endZ_take (h ++ r) h.length
  rw [List.take_left, h1] at h4
  unfold endS
  split at h4
  · rw [if_pos (by omega), ← h4]
  · omega
theorem headA_ends {h : List UInt8} (h0 : (headA h).1 = 0) : endZ h = h.length ∧ 4 ≤ h.length := by
  unfold headA at h0
  split at h0
  · rename_i l0 ls hL
    unfold linesS at hL
    split at hL
    · rename_i hc; exact hc
    · cases hL
  · cases h0
def begR (rep : Bool) (p : ByteArray) : RS := { zeroR with rep := rep, meth := p }
theorem begR_ok (rep : Bool) (p : ByteArray) (body : Int) : OkN body (begR rep p) := ⟨⟨okC_zero, fun h => absurd h (by show ¬ (0 : Int) = 2; decide), by show (0 : Int) ≤ 0 ∧ (0 : Int) ≤ 1000000000; decide, ⟨fun f hf => absurd hf (by simp [begR, zeroR]), by show 0 ≤ 64; decide⟩, ⟨fun f hf => absurd hf (by simp [begR, zeroR]), by show 0 ≤ 64; decide⟩⟩, .inl rfl, fun h => absurd h (by show ¬ (0 : Int) = 1; decide), fun h => absurd h (by show ¬ (0 : Int) = 1; decide), fun h => absurd h (by show ¬ (0 : Int) = 1; decide), fun h => absurd h (by show ¬ (0 : Int) = 1; decide)⟩
theorem begR_good {rep : Bool} {p : ByteArray} {b : List UInt8} (h : GoodB b) : GoodS (begR rep p) b := ⟨begR_ok rep p 100, .inl rfl, fun _ => h, fun h => absurd h (by show ¬ (0 : Int) = 1; decide)⟩
theorem goodB_short {b : List UInt8} (h : b.length ≤ 125) : GoodB b := fun p h4 hp _ => by omega
def oneL (st : Int) : List UInt8 := headB (fmtRep st ⟨#[120]⟩ 1) []
def finL : List UInt8 := headB (fmtRep 204 ⟨#[]⟩ 1) []
theorem finL_eq : finL = [72, 84, 84, 80, 47, 49, 46, 49, 32, 50, 48, 52, 32, 13, 10, 13, 10] := by decide +kernel
theorem oneL_len (k : Nat) (h : k < 100) : (oneL (100 + (k : Int))).length = 18 := by
  have : ∀ j : Fin 100, (oneL (100 + (j.val : Int))).length = 18 := by decide +kernel
  exact this ⟨k, h⟩
theorem oneL_head (k : Nat) (h : k < 100) : headA (oneL (100 + (k : Int))) = (0, 100 + (k : Int), ⟨#[120]⟩, 1, []) := headA_made (by omega) (by omega) (.inr rfl) (by decide +kernel) rfl (by decide)
theorem finL_head : headA finL = (0, 204, ⟨#[]⟩, 1, []) := by decide +kernel
def getM : ByteArray := ⟨#[71, 69, 84]⟩
def intR : RS := { begR true getM with st := 204, rs := ⟨#[]⟩, z2 := 1, ys := [], fk := 1, fl := 0, left := 0, size := 0, ck := zeroC, ph := 1 }
theorem CW_fin : CW (begR true getM) finL = .got 0 intR [] 17 := by
  have hE : endS finL 400 = (((17 : Nat) : Int), 0) := by decide +kernel
  have hx : headX (begR true getM) finL 100 = ⟨0, intR, 1, [], 17⟩ := by
    unfold headX
    rw [if_pos (show (begR true getM).rep = true from rfl), finL_head]
    rfl
  have ht : finL.take 17 = finL := by decide +kernel
  have hd : finL.drop 17 = [] := by decide +kernel
  rw [CW_head rfl hE, ht, hx, hd, if_neg (by decide)]
  rfl
def manyL (st : Int) : Nat → List UInt8
  | 0 => finL
  | n + 1 => oneL st ++ manyL st n
theorem CW_many (k : Nat) (h : k < 100) (n : Nat) : CW (begR true getM) (manyL (100 + (k : Int)) n) = if 0 < n ∧ k = 1 then .err 2 else .got 0 intR [] (18 * n + 17) := by
  induction n with
  | zero => rw [if_neg (by omega)]; exact CW_fin
  | succ n ih =>
    have hl := oneL_len k h
    have hh := oneL_head k h
    obtain ⟨h1, h2⟩ := headA_ends (h := oneL (100 + (k : Int))) (by rw [hh])
    have hE := endS_front (r := manyL (100 + (k : Int)) n) h1 h2 (by omega)
    show CW _ (oneL (100 + (k : Int)) ++ manyL (100 + (k : Int)) n) = _
    rw [CW_head rfl hE, List.take_left, List.drop_left]
    by_cases hk : k = 1
    · have hx : headX (begR true getM) (oneL (100 + (k : Int))) 100 = errX 2 := by
        unfold headX
        rw [if_pos (show (begR true getM).rep = true from rfl), hh, if_neg (fun h => h rfl), if_pos (by show (100 + (k : Int)) = 101; omega)]
      rw [hx, if_pos (by decide), if_pos ⟨by omega, hk⟩]
      rfl
    · have hx : headX (begR true getM) (oneL (100 + (k : Int))) 100 = ⟨0, begR true getM, 4, [], 18⟩ := by
        unfold headX
        rw [if_pos (show (begR true getM).rep = true from rfl), hh, if_neg (fun h => h rfl), if_neg (by show ¬ (100 + (k : Int)) = 101; omega), if_pos ⟨by show 100 ≤ 100 + (k : Int); omega, by show 100 + (k : Int) ≤ 199; omega⟩, hl]
      rw [hx, if_neg (fun h => h rfl), if_neg (fun h => hk h.2), hl]
      show (CW (begR true getM) (manyL (100 + (k : Int)) n)).add [] 18 = _
      rw [ih, if_neg (fun h => hk h.2)]
      show RW.got 0 intR ([] ++ []) (18 + (18 * n + 17)) = _
      rw [show 18 + (18 * n + 17) = 18 * (n + 1) + 17 by omega]
      rfl
theorem manyL_len (k : Nat) (h : k < 100) (n : Nat) : (manyL (100 + (k : Int)) n).length = 18 * n + 17 := by
  induction n with
  | zero => show finL.length = 17; rw [finL_eq]; rfl
  | succ n ih =>
    show (oneL (100 + (k : Int)) ++ manyL (100 + (k : Int)) n).length = _
    rw [List.length_append, oneL_len k h, ih]; omega
def repL (st : Int) : Nat → List UInt8
  | 0 => []
  | n + 1 => repL st n ++ oneL st
theorem repL_app (st : Int) : ∀ (n : Nat) (r : List UInt8), repL st (n + 1) ++ r = oneL st ++ (repL st n ++ r)
  | 0, r => by simp [repL]
  | n + 1, r => by
    show (repL st (n + 1) ++ oneL st) ++ r = _
    rw [List.append_assoc, repL_app st n (oneL st ++ r)]
    show oneL st ++ (repL st n ++ (oneL st ++ r)) = oneL st ++ ((repL st n ++ oneL st) ++ r)
    rw [List.append_assoc]
theorem repL_many (st : Int) : ∀ n, repL st n ++ finL = manyL st n
  | 0 => rfl
  | n + 1 => by rw [repL_app, repL_many st n]; rfl
end Go.Proofs.YtejbkbccljoldaaGreatDoor
namespace Go.Proofs.YtejbkbccljoldaaGreatDoor
open Go.RowKit

set_option maxRecDepth 100000 in
theorem own_string_block (w : World) (ty : TypeId) {B : Nat} {v : Value} {l : List UInt8} (h : Own B w v l) (s : ByteArray) (hn : l.length + s.size ≤ 1000000000) (hB : B ≤ w.heap.size) :
    ∃ v' w', (Builtin.append_ #[23, 9] ty #[v, .string s]).run Tryz.prog w = .ok v' w' ∧ Own B w' v' (l ++ s.data.toList) ∧ w.grownBy w' v.ownBlock ∧ (v'.ownBlock = v.ownBlock ∨ v'.ownBlock = some w.heap.size) := by
  obtain ⟨i0, hi, hz0, hz1, hz2⟩ := info_parts Tryz.info5
  obtain ⟨v', w', hr, h2, h3, h4⟩ := Lib.run_append_own_string (P := Tryz.prog) w B 23 9 ty 5 i0 Tryz.underlying23 Tryz.underlying9 hi hz0 hz1 hz2 v l.length (bytesV l) h s (by unfold maxLen; omega) (by omega) hB
  refine ⟨v', w', hr, ?_, h3, ?_⟩
  · unfold Own
    have e : bytesV (l ++ s.data.toList) = bytesV l ++ Lib.strCells s := by unfold bytesV Lib.strCells; rw [List.map_append]
    have e2 : (l ++ s.data.toList).length = l.length + s.size := by rw [List.length_append, Array.length_toList]; rfl
    rw [e, e2]; exact h2
  · rcases h.2 with ⟨rfl, hl⟩ | ⟨g, cap, cur, rfl, hbg, hg, hnc, hcm, hcs, htake⟩
    · by_cases hm : s.size = 0
      · exact .inl (by rw [h4.2 ⟨rfl, hm⟩])
      · rcases h2.2 with ⟨rfl, _⟩ | ⟨g', cap', cur', rfl, hbg', hg', _⟩
        · exact absurd (h4.1 rfl).2 hm
        · right
          have hr2 := run_append_nil_string (P := Tryz.prog) w 23 9 ty 5 i0 (.int .u8 0) Tryz.underlying23 Tryz.underlying9 hi hz0 s (by omega) (by omega) (by rw [hz2]; omega)
          rw [hr] at hr2
          injection hr2 with e1 _
          rw [e1]; rfl
    · by_cases hroom : l.length + s.size ≤ cap
      · have hr2 := Lib.run_append_room_string (P := Tryz.prog) w 23 9 ty 5 i0 Tryz.underlying23 Tryz.underlying9 hi hz1 g l.length cap cur hg s hroom (by omega)
        rw [hr] at hr2
        injection hr2 with e1 _
        rw [e1]; exact .inl rfl
      · have holds : ∀ j u, (bytesV l)[j]? = some u → w.cell? ((⟨g, 0, none⟩ : Addr).add j) = some u := World.ownsRow.cells (g := g) h rfl
        have hr2 := Lib.run_append_grow_string (P := Tryz.prog) w 23 9 ty 5 i0 (.int .u8 0) Tryz.underlying23 Tryz.underlying9 hi hz0 ⟨g, 0, none⟩ l.length cap (bytesV l) (by rw [hz1, bytesV_len, Nat.mul_one]) holds s (by omega) (by omega) (by rw [hz2]; exact growslice_fits (by omega) (by omega))
        rw [hr] at hr2
        injection hr2 with e1 _
        rw [e1]; exact .inr rfl
section
variable {ops : Array Oper} {rest : List Oper} {o : Oper} {act : Act} {Q : Exit → Act → World → Prop}
theorem wpList_append_ownstr (w : World) (hgd : o.guard = none) (s x : Operand) (ho : o.op = .call { callee := .builtin .append, args := #[s, x], argTypes := #[23, 9] })
    {B : Nat} {v : Value} {l : List UInt8} (hs : act.eval s = v) (h : Own B w v l) {t : ByteArray} (hx : act.eval x = .string t) (hn : l.length + t.size ≤ 1000000000) (hB : B ≤ w.heap.size)
    (K : ∀ v' w', Own B w' v' (l ++ t.data.toList) → w.grownBy w' v.ownBlock → (v'.ownBlock = v.ownBlock ∨ v'.ownBlock = some w.heap.size) → wpList Tryz.prog ops Q rest (act.put o.dst v') w') : wpList Tryz.prog ops Q (o :: rest) act w := by
  refine wpList_plain hgd fun K2 hK => ?_
  obtain ⟨v', w', hr, h2, h3, h4⟩ := own_string_block w o.type h t hn hB
  unfold Oper.wp execOp
  simp only [ho, resolve, invoke, builtin, Sem.run_bind, Sem.run_pure, Result.andThen_ok, List.map_toArray, List.map_cons, List.map_nil, hs, hx, hr]
  exact hK _ _ (K v' w' h2 h3 h4)
end
end Go.Proofs.YtejbkbccljoldaaGreatDoor
namespace Go.Proofs.YtejbkbccljoldaaGreatDoor
open Go.RowKit

set_option linter.unusedVariables false
theorem fmtRep_100 (k : Nat) (h : k < 100) : (fmtRep (100 + (k : Int)) ⟨#[120]⟩ 1).size ≤ 1000 := by
  have : ∀ j : Fin 100, (fmtRep (100 + (j.val : Int)) ⟨#[120]⟩ 1).size ≤ 1000 := by decide +kernel
  exact this ⟨k, h⟩
theorem repL_len (k : Nat) (h : k < 100) : ∀ n, (repL (100 + (k : Int)) n).length = 18 * n
  | 0 => rfl
  | n + 1 => by
    show (repL (100 + (k : Int)) n ++ oneL (100 + (k : Int))).length = _
    rw [List.length_append, repL_len k h n, oneL_len k h]; omega
theorem fldsIn_nil (w : World) : FldsIn w none [] := FldsIn.nil w none
theorem begR_mem (rep : Bool) (p : ByteArray) (w : World) : RMem (fun _ => True) w (begR rep p) none none none 0 :=
  ⟨fldsIn_nil w, fldsIn_nil w, .inl ⟨rfl, rfl, rfl⟩, (fun _ e => by cases e), (fun _ e => by cases e)⟩
theorem begR_nm (rep : Bool) (p : ByteArray) : NmS (begR rep p) := nmS_zero
theorem intsF_none (w : World) : IntsF w none 0 := fun j hj => absurd hj (Nat.not_lt_zero _)
theorem msg_st {t : RS} (h : MsgS t = MsgS intR) : t.st = 204 := congrArg (fun x => x.2.1) h
set_option maxRecDepth 100000 in
set_option maxHeartbeats 2000000 in
theorem readerInterim_any (n m : Int) (mm : Int) (w : World) (hk : HdOk w mm) : Calls Tryz.prog 7 #[.int .i64 n, .int .i64 m] w fun e w' => e = .returned (.bool true) ∧ Below w.heap.size w w' := by
  have HOK := Box.mk hk
  clear hk
  go_enter Tryz.func7, Tryz.ntmps7
  go_wp2_with fail
  refine (within_any n 6 _ (by decide) (by decide)).mono ?_
  rintro e w1 ⟨k, hk6, rfl, rfl⟩
  go_wp2_with fail
  refine (within_any m 100 _ (by decide) (by decide)).mono ?_
  rintro e w1 ⟨j, hj, rfl, rfl⟩
  have hjj : j < 100 := hj
  clear hj
  go_wp2_with fail
  refine (refFmtRep_any (100 + (j : Int)) ⟨#[120]⟩ 1 [] none none 0 0 0 _ (by decide) (fldsIn_nil _) small_nil.1 (by decide) (Nat.le_trans (fmtRep_100 j hjj) (by decide))).mono ?_
  rintro e w1 h
  have hol := oneL_len j hjj
  obtain ⟨v, rfl, hown, hb1⟩ := h.own (by show 0 < (oneL (100 + (j : Int))).length; omega) (by show (oneL (100 + (j : Int))).length ≤ 4000000000; omega)
  obtain ⟨g, c, rfl, hgc, hby⟩ := hown.form
  have HBY := Box.mk (show IsBytes w1 (some ⟨g, 0, none⟩) (oneL (100 + (j : Int))) c from hby)
  have HB1 := Box.mk hb1
  have HOL := Box.mk hol
  rw [show List.length (headB (fmtRep (100 + (j : Int)) ⟨#[120]⟩ 1) []) = List.length (oneL (100 + (j : Int))) from rfl]
  clear h hown hgc hby hb1 hol
  have HRP := Box.mk (fun i => show repL (100 + (j : Int)) (i + 1) = repL (100 + (j : Int)) i ++ oneL (100 + (j : Int)) from rfl)
  have HRL := Box.mk (repL_len j hjj)
  have HRF := Box.mk (repL_many (100 + (j : Int)))
  go_wp2_with fail
  go_loopw [6, 7] (fun v iv wr => ∃ i : Nat, i ≤ k ∧ iv = .int .i64 i ∧ Box (AccB w1 wr v (repL (100 + (j : Int)) i))) (fun _ iv _ => k - (intOf iv).toNat)
  case atStart => exact ⟨0, Nat.zero_le _, rfl, ⟨AccB.start w1⟩⟩
  case round =>
    obtain ⟨i, hik, rfl, HA⟩ := hrel
    by_cases hlt : i < k
    · have h5 : List.length (repL (100 + (j : Int)) i) + List.length (oneL (100 + (j : Int))) ≤ 140737488355328 := by rw [HRL.out, HOL.out]; omega
      have H5 := Box.mk h5
      clear h5
      have hlt1 : (i : Int) < (k : Int) := by omega
      go_wp2_with (at_builtin; refine wpList_append_accs _ rfl _ _ rfl rfl HA.out rfl (HBY.out.keep HA.out.2) H5.out ?c1)
      case c1 =>
        intro v1 w5 hacc
        have HACC := Box.mk hacc
        clear hacc
        go_wp2_with fail
        go_roundw
        case rel => exact ⟨i + 1, by omega, by go_num, ⟨by rw [HRP.out]; exact HACC.out⟩⟩
        case measure => simp [intOf]; omega
    · have hik2 : i = k := by omega
      subst hik2
      clear hlt hik
      go_wp2_with (at_builtin; refine wpList_append_ownstr _ rfl _ _ rfl rfl HA.out.1 rfl ?c1 HA.out.2.size ?c2)
      case c1 => rw [HRL.out]; show 18 * i + 17 ≤ 1000000000; omega
      case c2 =>
        intro v1 w5 hown hgrow hnew
        have hlow := fun q e => (Own.lt (k := q) HA.out.1 e).1
        have HB5 := Box.mk (show Below w.heap.size w w5 from (below_trans HB1.out HA.out.2).grown hgrow (below_trans HB1.out HA.out.2).size (fun q e => Nat.le_trans HB1.out.size (hlow q e)))
        obtain ⟨b, hb⟩ : ∃ b, b = manyL (100 + (j : Int)) i := ⟨_, rfl⟩
        have hbl : repL (100 + (j : Int)) i ++ (⟨#[72, 84, 84, 80, 47, 49, 46, 49, 32, 50, 48, 52, 32, 13, 10, 13, 10]⟩ : ByteArray).data.toList = b := by rw [hb, ← HRF.out i, finL_eq]
        rw [hbl] at hown
        obtain ⟨a5, c5, rfl, hby5⟩ := Own.val hown
        have HBY5 := Box.mk hby5
        have hlen : b.length = 18 * i + 17 := by rw [hb, manyL_len j hjj]
        have hlen2 : b.length ≤ 125 := by omega
        have HCW := Box.mk (show CW (begR true getM) b = if 0 < i ∧ j = 1 then .err 2 else .got 0 intR [] (18 * i + 17) by rw [hb]; exact CW_many j hjj i)
        have HGB := Box.mk (show GoodB b from goodB_short hlen2)
        have HLEN := Box.mk hlen
        clear hlen
        clear hb hbl hown hgrow hnew hby5 HA HRP HRL HRF HBY HOL hlow
        go_wp2_with fail
        refine (forReply_any _ w5).mono ?_
        rintro e w6 ⟨rfl, hb6⟩

        go_wp2_with fail
        have hb06 := below_trans HB5.out hb6
        have hby6 := HBY5.out.keep hb6
        refine (whole_any (begR true getM) b a5 c5 none 0 0 none none none 0 0 0 mm w6 hby6 (by omega) (intsF_none _) ⟨Nat.zero_le _, Nat.le_refl _⟩ (begR_mem ..) (begR_good HGB.out) (begR_nm ..) (HOK.out.keep hb06)).mono ?_
        rintro e w7 ⟨hres, hb7⟩
        have HB7 := Box.mk (below_trans hb06 hb7)
        rw [HCW.out] at hres
        clear HCW HGB HB5 HBY5 hb6 hb06 hby6 hb7 HB1
        have HX8 := Box.mk (show RVr (w7.alloc (.cells #[.bool false, .string ⟨#[]⟩, .int .i64 0, .string ⟨#[]⟩, .string ⟨#[]⟩, .int .i64 0, .slice none 0 0, .bool false, .slice none 0 0, .int .i64 0, .string ⟨#[]⟩, .int .i64 0, .slice none 0 0, .slice none 0 0, .int .i64 0, .int .i64 0, .int .i64 0, .int .i64 0, .int .i64 0, .int .i64 0, .int .i64 0, .slice none 0 0] 37)) w7.heap.size #[.bool false, .string ⟨#[]⟩, .int .i64 0, .string ⟨#[]⟩, .string ⟨#[]⟩, .int .i64 0, .slice none 0 0, .bool false, .slice none 0 0, .int .i64 0, .string ⟨#[]⟩, .int .i64 0, .slice none 0 0, .slice none 0 0, .int .i64 0, .int .i64 0, .int .i64 0, .int .i64 0, .int .i64 0, .int .i64 0, .int .i64 0, .slice none 0 0] from heap_alloc_new _ _)
        by_cases hc : 0 < i ∧ j = 1
        · rw [if_pos hc] at hres
          obtain ⟨er, he, rfl⟩ : ∃ er, (RW.err 2 = .err er) ∧ e = .returned (.tuple #[.agg #[.bool false, .string ⟨#[]⟩, .int .i64 0, .string ⟨#[]⟩, .string ⟨#[]⟩, .int .i64 0, .slice none 0 0, .bool false, .slice none 0 0, .int .i64 0, .string ⟨#[]⟩, .int .i64 0, .slice none 0 0, .slice none 0 0, .int .i64 0, .int .i64 0, .int .i64 0, .int .i64 0, .int .i64 0, .int .i64 0, .int .i64 0, .slice none 0 0], .string ⟨#[]⟩, .int .i64 0, .int .i64 er]) := by
            rcases hres with h | ⟨_, _, _, _, _, _, _, _, _, _, h, _⟩
            · exact h
            · exact h.elim
          obtain rfl : 2 = er := RW.err.inj he
          clear hres he
          obtain ⟨hc1, hc2⟩ := hc
          subst hc2
          have hi0 : (i : Int) > 0 := by omega
          have e1 : ((100 + ((1 : Nat) : Int)) == 101) = true := rfl
          obtain ⟨W9, hW9⟩ : ∃ W9, W9 = (w7.alloc (.cells #[.bool false, .string ⟨#[]⟩, .int .i64 0, .string ⟨#[]⟩, .string ⟨#[]⟩, .int .i64 0, .slice none 0 0, .bool false, .slice none 0 0, .int .i64 0, .string ⟨#[]⟩, .int .i64 0, .slice none 0 0, .slice none 0 0, .int .i64 0, .int .i64 0, .int .i64 0, .int .i64 0, .int .i64 0, .int .i64 0, .int .i64 0, .slice none 0 0] 37)).setRow w7.heap.size #[.bool false, .string ⟨#[]⟩, .int .i64 0, .string ⟨#[]⟩, .string ⟨#[]⟩, .int .i64 0, .slice none 0 0, .bool false, .slice none 0 0, .int .i64 0, .string ⟨#[]⟩, .int .i64 0, .slice none 0 0, .slice none 0 0, .int .i64 0, .int .i64 0, .int .i64 0, .int .i64 0, .int .i64 0, .int .i64 0, .int .i64 0, .slice none 0 0] := ⟨_, rfl⟩
          have HB9 := Box.mk (show Below w.heap.size w W9 by rw [hW9]; exact below_setRow (below_trans HB7.out (below_oneF _ _)) HB7.out.size _)
          go_upto_region 10 with (refine wpList_store_row rfl 37 _ _ rfl w7.heap.size #[.bool false, .string ⟨#[]⟩, .int .i64 0, .string ⟨#[]⟩, .string ⟨#[]⟩, .int .i64 0, .slice none 0 0, .bool false, .slice none 0 0, .int .i64 0, .string ⟨#[]⟩, .int .i64 0, .slice none 0 0, .slice none 0 0, .int .i64 0, .int .i64 0, .int .i64 0, .int .i64 0, .int .i64 0, .int .i64 0, .int .i64 0, .slice none 0 0] rfl rfl 37 _ HX8.out sizeRd rfl (oneRd ..) ?_)
          rw [← hW9]
          clear hW9 HX8
          go_wp2_with fail
          refine (awakeN_any mm _ (HOK.out.keep HB9.out)).mono ?_
          rintro e w8 ⟨rfl, hb8⟩
          go_wp2_with fail
          go_ret
          exact ⟨rfl, below_trans HB9.out hb8⟩
        · rw [if_neg hc] at hres
          obtain ⟨t, fa, fc, ga, gc, la, lc, hst, rfl⟩ : ∃ t fa fc ga gc la lc, RS.st t = 204 ∧ e = .returned (.tuple #[.agg #[.bool t.rep, .string t.meth, .int .i64 t.ph, .string t.m, .string t.t, .int .i64 t.z, .slice fa (List.length t.xs) fc, .bool t.fr, .slice none 0 0, .int .i64 t.st, .string t.rs, .int .i64 t.z2, .slice ga (List.length t.ys) gc, .slice none 0 0, .int .i64 t.fk, .int .i64 t.fl, .int .i64 t.left, .int .i64 t.size, .int .i64 t.ck.ph, .int .i64 t.ck.left, .int .i64 t.ck.tr, .slice la (List.length t.ck.line) lc], .string ⟨#[]⟩, .int .i64 (b.length : Int), .int .i64 0]) := by
            rcases hres with ⟨_, h, _⟩ | ⟨er, t, d, n, fa, fc, ga, gc, la, lc, ⟨h1, h2, h3, h4⟩, h, _⟩
            · cases h
            · subst h1 h3 h4
              exact ⟨t, fa, fc, ga, gc, la, lc, msg_st h2, by rw [h, HLEN.out]⟩
          clear hres
          obtain ⟨cr, hcr⟩ : ∃ cr : Array Value, cr = #[.bool t.rep, .string t.meth, .int .i64 t.ph, .string t.m, .string t.t, .int .i64 t.z, .slice fa (List.length t.xs) fc, .bool t.fr, .slice none 0 0, .int .i64 t.st, .string t.rs, .int .i64 t.z2, .slice ga (List.length t.ys) gc, .slice none 0 0, .int .i64 t.fk, .int .i64 t.fl, .int .i64 t.left, .int .i64 t.size, .int .i64 t.ck.ph, .int .i64 t.ck.left, .int .i64 t.ck.tr, .slice la (List.length t.ck.line) lc] := ⟨_, rfl⟩
          have hcr22 : cr.size = 22 := by rw [hcr]; rfl
          have hcr1 : cr.all (·.oneCell') = true := by rw [hcr]; exact oneRd ..
          have hcr9 : cr[9]? = some (.int .i64 204) := by rw [hcr]; show some (Value.int .i64 t.st) = _; rw [hst]
          rw [← hcr]
          have HSR := Box.mk (show (Tryz.prog.info? 37).map (·.size) = some cr.size by rw [hcr22]; exact sizeRd)
          obtain ⟨W9, hW9⟩ : ∃ W9, W9 = (w7.alloc (.cells #[.bool false, .string ⟨#[]⟩, .int .i64 0, .string ⟨#[]⟩, .string ⟨#[]⟩, .int .i64 0, .slice none 0 0, .bool false, .slice none 0 0, .int .i64 0, .string ⟨#[]⟩, .int .i64 0, .slice none 0 0, .slice none 0 0, .int .i64 0, .int .i64 0, .int .i64 0, .int .i64 0, .int .i64 0, .int .i64 0, .int .i64 0, .slice none 0 0] 37)).setRow w7.heap.size cr := ⟨_, rfl⟩
          have HB9 := Box.mk (show Below w.heap.size w W9 by rw [hW9]; exact below_setRow (below_trans HB7.out (below_oneF _ _)) HB7.out.size _)
          have hk9 : W9.cell? ⟨w7.heap.size, 9, none⟩ = some (.int .i64 204) := by rw [cell_of_row _ _ _ _ _ _ (show RVr W9 w7.heap.size cr by rw [hW9]; exact setRow_heap _ _ _ _ _ _ HX8.out)]; exact hcr9
          clear hcr hcr9
          go_upto_region 10 with (refine wpList_store_row rfl 37 _ _ rfl w7.heap.size cr rfl rfl 37 _ HX8.out HSR.out hcr22.symm hcr1 ?_)
          rw [← hW9]
          clear hW9 HX8 HSR hcr22 hcr1
          have fin : ∀ K : Nat, K = 0 → True := fun _ _ => trivial
          by_cases hi0 : (i : Int) > 0
          · have e1 : ((100 + (j : Int)) == 101) = false := by rw [beq_eq_false_iff_ne]; omega
            clear hc
            go_wp2_with fail
            refine (awakeN_any mm _ (HOK.out.keep HB9.out)).mono ?_
            rintro e w8 ⟨rfl, hb8⟩
            go_wp2_with fail
            go_ret
            exact ⟨rfl, below_trans HB9.out hb8⟩
          · clear hc
            go_wp2_with fail
            refine (awakeN_any mm _ (HOK.out.keep HB9.out)).mono ?_
            rintro e w8 ⟨rfl, hb8⟩
            go_wp2_with fail
            go_ret
            exact ⟨rfl, below_trans HB9.out hb8⟩
end Go.Proofs.YtejbkbccljoldaaGreatDoor
