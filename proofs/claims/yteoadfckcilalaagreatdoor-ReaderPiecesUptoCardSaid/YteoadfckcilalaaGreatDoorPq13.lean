/- whole: a message is read in rounds. Interim replies are left out. The law ReaderInterim. The law ReaderRequest, walked. The law ReaderRequest: what the fields of a made request say of its body. The law ReaderRequest: its mathematics. Windows of four bytes: one changed byte makes no end of a head. The windows of a made head. A made head with one byte changed: no end but its own. The stream of a request: one byte of it another. What a made reply's bytes look like: plain mathematics. The reply that the source makes: its start. Writing messages: Make and Text of package writer. -/
import Derived.Test.YteoadfckcilalaaGreatDoorPq1
import Derived.Test.YteoadfckcilalaaGreatDoorPq2
import Derived.Test.YteoadfckcilalaaGreatDoorPq3
import Derived.Test.YteoadfckcilalaaGreatDoorPq4
import Derived.Test.YteoadfckcilalaaGreatDoorPq5
import Derived.Test.YteoadfckcilalaaGreatDoorPq6
import Derived.Test.YteoadfckcilalaaGreatDoorPq7
import Derived.Test.YteoadfckcilalaaGreatDoorPq8
import Derived.Test.YteoadfckcilalaaGreatDoorPq9
import Derived.Test.YteoadfckcilalaaGreatDoorPq10
import Derived.Test.YteoadfckcilalaaGreatDoorPq11
import Derived.Test.YteoadfckcilalaaGreatDoorPq12
import Derived.Test.YteoadfckcilalaaGreatDoorRows
import Derived.WalkKit
import Derived.WalkSpells
import Derived.WalkLawsBesides
import Derived.BigQuiet
import Derived.Deep.QuietTactic
import Derived.Lib.Bytealg
import Derived.Lib.IndexLaws
import Derived.Lib.Hide
import Derived.Laws.IdiomStrings
import Derived.Lib.SlTrimSet
import Derived.Lib.IndexBytes
import Derived.Lib.Split
import Derived.Deep.AppendLies
import Derived.Shelf.Strings.SlTrimAscii
import Derived.Shelf.Strings.SplitShaped
import Derived.Shelf.LaysM
import Derived.Shelf.Strings.BuilderK
import Derived.Shelf.Strconv.Itoa4
import Derived.Shelf.Strings.Prefix
import Derived.Shelf.Bytes.SlIndexWhole
import Derived.Test.YteoadfckcilalaaGreatDoorProg
import Derived.Lib.SplitLaws
import Derived.WalkSmall
import Derived.ProofKit
import Derived.OpenShut
import Derived.Lib.Strings
import Derived.SliceStrings
import Derived.Deep.Quiet
import Derived.Tactics
import Derived.KernelRfl
import Derived.Below
import Derived.Laws.Bits64
import Derived.Lib.SlBytesConst
import Derived.Maps.AppendAt
import Derived.Laws.AppendOwnNone
import Derived.Great.BuildSlice
import Derived.Laws.Rows
import Derived.Laws.BitsAllLaws
import Derived.Laws.Shifts
import Derived.Maps.OwnOps
import Derived.Maps.OwnSet
import Derived.Deep.SlicePairs
import Derived.Lib.AppendZerosOnto
import Derived.Lib.AppendStr
import Derived.Laws.CopyOwn
import Derived.OwnWalk
import Derived.Laws.Strings3
import Derived.Laws.Concat
import Derived.Lib.ItoaMem
import Derived.Deep.RegionHeld3
import Derived.IntWalk
import Derived.Laws.RangeAny
import Derived.LoopTactic
import Derived.Sort.Grow
import Derived.Lib.ConvBytes
import Derived.Deep.DeepCutAuto
import Derived.Deep.MidRow
import Derived.Laws.Tables
import Derived.Deep.WholeRow
import Derived.StillTailTactics
import Derived.Deep.CutBlock
import Derived.Lib.LaidTab
import Derived.LaidSub
import Derived.Laws.Bits64b
import Derived.Lib.FrozenHead2
import Derived.Deep.Matrix
import Derived.Lib.LazyBuf
import Derived.ArgAppend
import Derived.MakeChecks
namespace Go.Proofs.YteoadfckcilalaaGreatDoor
open Go.RowKit

set_option linter.unusedVariables false
def LW (g3 : Nat) (v : Value) : (Nat → Prop) × (Nat → Prop) := (fun k => k ≠ g3 ∧ some k ≠ v.ownBlock, fun k => some k ≠ v.ownBlock)
structure WhJ (w : World) (N g3 g6 : Nat) (v : Value) (s : RS) (d : List UInt8) (W : World) : Prop where
 st : StV (LW g3 v) s W g3
 own : Own (w.heap.size + 2) W v d
 rs : RVr W g6 #[.bool false, .string ⟨#[]⟩, .int .i64 0, .string ⟨#[]⟩, .string ⟨#[]⟩, .int .i64 0, .slice none 0 0, .bool false, .slice none 0 0, .int .i64 0, .string ⟨#[]⟩, .int .i64 0, .slice none 0 0, .slice none 0 0, .int .i64 0, .int .i64 0, .int .i64 0, .int .i64 0, .int .i64 0, .int .i64 0, .int .i64 0, .slice none 0 0]
 bl : Below w.heap.size w W
 sz : N ≤ W.heap.size
theorem WhJ.keep {w : World} {N g3 g6 : Nat} {v : Value} {s : RS} {d : List UInt8} {W W' : World} (h : WhJ w N g3 g6 v s d W) (hb : Below W.heap.size W W') : WhJ w N g3 g6 v s d W' :=
 ⟨h.st.keep hb, h.own.keep hb, h.rs.keep hb, below_trans h.bl hb, Nat.le_trans h.sz hb.size⟩
theorem WhJ.row {w : World} {N g3 g6 q : Nat} {v : Value} {s : RS} {d : List UInt8} {W : World} {cs ds : Array Value} {T : TypeId} {fz : Nat × Nat} (h : WhJ w N g3 g6 v s d W) (hm : NmS s) (hN : g3 < N ∧ g6 < N ∧ w.heap.size ≤ N ∧ ∀ k, v.ownBlock = some k → k < N) (hq : N ≤ q) (hr : W.heap[q]? = some (.cells cs T fz)) (hs : NoStr cs) (hu : NoU8 cs) : WhJ w N g3 g6 v s d (W.setRow q ds) :=
 ⟨h.st.rowZ hm (by omega) hr hs hu, h.own.same fun k hk => setRow_other _ _ _ _ (by have := hN.2.2.2 k hk; omega), (setRow_other _ _ _ _ (by omega)).trans h.rs, below_setRow h.bl (by omega) _, by simpa [World.setRow] using h.sz⟩
def RetWh (w : World) (res : RW) (e : Ending) (w' : World) : Prop :=
 (∃ er, res = .err er ∧ e = .returned (.tuple #[.agg #[.bool false, .string ⟨#[]⟩, .int .i64 0, .string ⟨#[]⟩, .string ⟨#[]⟩, .int .i64 0, .slice none 0 0, .bool false, .slice none 0 0, .int .i64 0, .string ⟨#[]⟩, .int .i64 0, .slice none 0 0, .slice none 0 0, .int .i64 0, .int .i64 0, .int .i64 0, .int .i64 0, .int .i64 0, .int .i64 0, .int .i64 0, .slice none 0 0], .string ⟨#[]⟩, .int .i64 0, .int .i64 er])) ∨
 (∃ er t d n fa fc ga gc la lc, (RW.got er t d n).same res ∧ e = .returned (.tuple #[.agg #[.bool t.rep, .string t.meth, .int .i64 t.ph, .string t.m, .string t.t, .int .i64 t.z, .slice fa (List.length t.xs) fc, .bool t.fr, .slice none 0 0, .int .i64 t.st, .string t.rs, .int .i64 t.z2, .slice ga (List.length t.ys) gc, .slice none 0 0, .int .i64 t.fk, .int .i64 t.fl, .int .i64 t.left, .int .i64 t.size, .int .i64 t.ck.ph, .int .i64 t.ck.left, .int .i64 t.ck.tr, .slice la (List.length t.ck.line) lc], .string ⟨d.toArray⟩, .int .i64 (n : Int), .int .i64 er]) ∧ FldsIn w' fa t.xs ∧ FldsIn w' ga t.ys ∧ t.xs.length ≤ 64 ∧ t.ys.length ≤ 64)
theorem round_all {s : RS} {b : List UInt8} (hg : GoodS s b) (q : Nat) (hq : q ≤ b.length) (room : Int) (hri : 1 ≤ room) (hl : b.length ≤ 1000000) {x : NX} (hx2 : x = nextX s (b.take q) 400 100 room) :
  (¬ x.er = 0 → CW s b = .err x.er) ∧ (x.er = 0 → x.kind = 3 → x.data = [] ∧ ∃ t, CW s b = .got 0 t [] x.n ∧ MsgS x.r = MsgS t) ∧
    (x.er = 0 → ¬ x.kind = 3 → x.kind = 0 ∧ x.n = 0 → x.data = [] ∧ x.r = s ∧ (q = b.length → CW s b = .got 4 s [] 0)) ∧
    (x.er = 0 → ¬ x.kind = 3 → ¬ (x.kind = 0 ∧ x.n = 0) → 1 ≤ x.n ∧ x.n ≤ q ∧ GoodS x.r (b.drop x.n) ∧ ((CW x.r (b.drop x.n)).add x.data x.n).same (CW s b)) := by
 rcases hg.ph with hp | hp
 · obtain ⟨r1, r2, r3, r4⟩ := head_round hg hp q hq room hl hx2
   exact ⟨r1, fun h h3 => absurd h3 (r2 h), fun h _ => r3 h, fun h _ h2 => by
    obtain ⟨a1, a2, a3, a4⟩ := r4 h h2
    exact ⟨a1, a2, a3, by rw [a4]; exact RW.same_refl _⟩⟩
 · obtain ⟨r1, r2, r3, r4⟩ := body_round hg hp q hq room hri hl hx2
   rw [CW_body (by omega : ¬ s.ph = 0)]
   refine ⟨r1, r2, r3, fun h h3 h2 => ?_⟩
   obtain ⟨a1, a2, a3, a4, a5⟩ := r4 h h3 h2
   rw [CW_body (by omega : ¬ x.r.ph = 0)]
   exact ⟨a1, a2, a4, a5⟩
structure FnJ (w : World) (g3 g6 : Nat) (v : Value) (t : RS) (D : List UInt8) (fin : Bool) (W : World) : Prop where
 st : StV (LW g3 v) t W g3
 own : Own (w.heap.size + 2) W v D
 r6 : if fin then StV (LW g3 v) t W g6 else RVr W g6 #[.bool false, .string ⟨#[]⟩, .int .i64 0, .string ⟨#[]⟩, .string ⟨#[]⟩, .int .i64 0, .slice none 0 0, .bool false, .slice none 0 0, .int .i64 0, .string ⟨#[]⟩, .int .i64 0, .slice none 0 0, .slice none 0 0, .int .i64 0, .int .i64 0, .int .i64 0, .int .i64 0, .int .i64 0, .int .i64 0, .int .i64 0, .slice none 0 0]
 bl : Below w.heap.size w W
theorem FnJ.keep {w : World} {g3 g6 : Nat} {v : Value} {t : RS} {D : List UInt8} {fin : Bool} {W W' : World} (h : FnJ w g3 g6 v t D fin W) (hb : Below W.heap.size W W') : FnJ w g3 g6 v t D fin W' :=
 ⟨h.st.keep hb, h.own.keep hb, by
  have h6 := h.r6
  cases fin with
  | true => exact StV.keep h6 hb
  | false => exact RVr.keep h6 hb, below_trans h.bl hb⟩
theorem same_err {er : Int} {y : RW} (h : (RW.err er).same y) : y = .err er := by
 cases y with
 | err f => exact congrArg RW.err (h : er = f).symm
 | got => exact h.elim
theorem loc_rem7 {Q : Exit → Act → World → Prop} {act : Act} {w : World} {o : Oper} {s : Spec} {x : Operand} {t : TypeId} (ho : o.op = .binOp .rem 3 x (.const (.int .i64 7)) t) {k : Nat} (hx : act.eval x = .int .i64 k) (hs : s.p (.int .i64 ((k % 7 : Nat) : Int)) w) :
  o.wp Tryz.prog act w (fun a' w' => ∃ v, a' = act.put o.dst v ∧ Below w.heap.size w w' ∧ s.p v w') Q :=
 loc_run (v := .int .i64 ((k % 7 : Nat) : Int)) (by
  have e : (k : Int).tmod 7 = ((k % 7 : Nat) : Int) := by rw [Int.tmod_eq_emod_of_nonneg (by omega)]; omega
  have h : (Op.intDiv .rem .i64 (k : Int) 7).run Tryz.prog w = .ok (.int .i64 ((k % 7 : Nat) : Int)) w := by
   unfold Op.intDiv
   rw [if_neg (by decide), ← e]; rfl
  have hc : act.eval (.const (.int .i64 7)) = .int .i64 7 := rfl
  unfold execOp
  simp only [ho, hx, hc]
  simp [eqGuard, binOp, h, Result.andThen]) (Below.refl _ _) hs
theorem PNew.rowR {N g : Nat} {w : World} {v : Value} {cs ds : Array Value} (h : PNew N w v) (hr : RVr w g cs) : PNew N (w.setRow g ds) v := by
 obtain ⟨q, h1, h2, h3⟩ := h
 exact ⟨q, h1, h2, (setRow_other _ _ _ _ (rv_ne_pv hr h3).symm).trans h3⟩
theorem RSt.rowP {N g : Nat} {L : (Nat → Prop) × (Nat → Prop)} {s : RS} {w : World} {v : Value} {ds : Array Value} (h : RSt N L s w v) (hm : NmS s) (hr : PVr w g #[.int .i64 0, .slice none 0 0]) : RSt N L s (w.setRow g ds) v := by
 obtain ⟨q, h1, h2, h3⟩ := h
 have hne : q ≠ g := by
  obtain ⟨_, _, _, _, _, _, hq, _⟩ := h3
  exact rv_ne_pv hq hr
 exact ⟨q, h1, h2, h3.rowZ hm hne hr zp_noStr zp_noU8⟩
set_option maxRecDepth 100000 in
set_option maxHeartbeats 2000000 in
theorem whole_any (s0 : RS) (b : List UInt8) (ba : Option Addr) (bc : Nat) (ca : Option Addr) (cl cc : Nat) (fa ga la : Option Addr) (fc gc lc : Nat) (mm : Int) (w : World) (hb : IsBytes w ba b bc) (hl : b.length ≤ 1900) (hcu : IntsF w ca cl) (hcl : cl ≤ maxLen ∧ cl ≤ cc) (hm : RMem (fun _ => True) w s0 fa ga la lc) (hg : GoodS s0 b) (hn : NmS s0) (hok : HdOk w mm) :
  Calls Tryz.prog 18 #[.agg #[.bool s0.rep, .string s0.meth, .int .i64 s0.ph, .string s0.m, .string s0.t, .int .i64 s0.z, .slice fa (List.length s0.xs) fc, .bool s0.fr, .slice none 0 0, .int .i64 s0.st, .string s0.rs, .int .i64 s0.z2, .slice ga (List.length s0.ys) gc, .slice none 0 0, .int .i64 s0.fk, .int .i64 s0.fl, .int .i64 s0.left, .int .i64 s0.size, .int .i64 s0.ck.ph, .int .i64 s0.ck.left, .int .i64 s0.ck.tr, .slice la (List.length s0.ck.line) lc], .slice ba b.length bc, .slice ca cl cc] w fun e w' => RetWh w (CW s0 b) e w' ∧ Below w.heap.size w w' := by
 obtain ⟨cs, hcs⟩ : ∃ cs : Array Value, cs = #[.bool s0.rep, .string s0.meth, .int .i64 s0.ph, .string s0.m, .string s0.t, .int .i64 s0.z, .slice fa (List.length s0.xs) fc, .bool s0.fr, .slice none 0 0, .int .i64 s0.st, .string s0.rs, .int .i64 s0.z2, .slice ga (List.length s0.ys) gc, .slice none 0 0, .int .i64 s0.fk, .int .i64 s0.fl, .int .i64 s0.left, .int .i64 s0.size, .int .i64 s0.ck.ph, .int .i64 s0.ck.left, .int .i64 s0.ck.tr, .slice la (List.length s0.ck.line) lc] := ⟨_, rfl⟩
 have HCS := Box.mk hcs
 rw [← hcs]
 clear hcs
 obtain ⟨W1, hW1⟩ : ∃ W1, W1 = (w.alloc (.cells cs 37)).alloc (.cells #[.bool false, .string ⟨#[]⟩, .int .i64 0, .string ⟨#[]⟩, .string ⟨#[]⟩, .int .i64 0, .slice none 0 0, .bool false, .slice none 0 0, .int .i64 0, .string ⟨#[]⟩, .int .i64 0, .slice none 0 0, .slice none 0 0, .int .i64 0, .int .i64 0, .int .i64 0, .int .i64 0, .int .i64 0, .int .i64 0, .int .i64 0, .slice none 0 0] 37) := ⟨_, rfl⟩
 have hb1 : Below w.heap.size w W1 := by rw [hW1]; exact below_twoF (below_oneF _ _) _
 have HX1 := Box.mk (show RVr W1 w.heap.size cs by rw [hW1]; exact RVr.keep (heap_alloc_new w (.cells cs 37)) (below_oneF _ _))
 have HY1 := Box.mk (show RVr W1 (w.heap.size + 1) #[.bool false, .string ⟨#[]⟩, .int .i64 0, .string ⟨#[]⟩, .string ⟨#[]⟩, .int .i64 0, .slice none 0 0, .bool false, .slice none 0 0, .int .i64 0, .string ⟨#[]⟩, .int .i64 0, .slice none 0 0, .slice none 0 0, .int .i64 0, .int .i64 0, .int .i64 0, .int .i64 0, .int .i64 0, .int .i64 0, .int .i64 0, .slice none 0 0] by
  have h := heap_alloc_new (w.alloc (.cells cs 37)) (.cells #[.bool false, .string ⟨#[]⟩, .int .i64 0, .string ⟨#[]⟩, .string ⟨#[]⟩, .int .i64 0, .slice none 0 0, .bool false, .slice none 0 0, .int .i64 0, .string ⟨#[]⟩, .int .i64 0, .slice none 0 0, .slice none 0 0, .int .i64 0, .int .i64 0, .int .i64 0, .int .i64 0, .int .i64 0, .int .i64 0, .int .i64 0, .slice none 0 0] 37)
  rw [World.size_alloc] at h
  rw [hW1]; exact h)
 have HW1 := Box.mk hW1
 have hm1 := hm.keep hb1
 have HJ := Box.mk (show WhJ w (w.heap.size + 2) w.heap.size (w.heap.size + 1) (.slice none 0 0) s0 [] W1 from ⟨⟨fa, fc, ga, gc, la, lc, by rw [← HCS.out]; exact HX1.out, ⟨hm1.f1, hm1.f2, hm1.ln, fun y e hx => ⟨by have := hm.f1.old e hx; omega, fun e => by cases e⟩, fun y e hx => ⟨by have := hm.f2.old e hx; omega, fun e => by cases e⟩⟩, fun _ _ _ => fun e => by cases e⟩, Own.start _ _, HY1.out, hb1, HY1.out.lt⟩)
 have HBB := Box.mk hb
 have HOK := Box.mk hok
 have HCU := Box.mk hcu
 have HG := Box.mk hg
 have HN := Box.mk hn
 clear hW1 hb1 hm1 hm hb hok hcu hg hn
 go_enter Tryz.func18, Tryz.ntmps18
 go_upto_region 1 with fail
 rw [← HW1.out]
 clear HW1 HX1 HY1 HCS
 go_wp2_with fail
 go_loopw [10, 11, 12, 13] (fun v kv uv iv wr => ∃ (k u i : Nat), kv = .int .i64 (k : Int) ∧ uv = .int .i64 (u : Int) ∧ iv = .int .i64 (i : Int) ∧ k ≤ u ∧ u ≤ b.length ∧ i + (b.length - k) + (b.length - u) ≤ 2 * b.length ∧ ∃ s d, Box (WhJ w (w.heap.size + 2) w.heap.size (w.heap.size + 1) v s d wr ∧ GoodS s (b.drop k) ∧ NmS s ∧ ((CW s (b.drop k)).add d k).same (CW s0 b) ∧ d.length ≤ 2000 * i)) (fun _ kv uv _ _ => (b.length - (intOf kv).toNat) + (b.length - (intOf uv).toNat))
 case atStart => exact ⟨0, 0, 0, rfl, rfl, rfl, by omega, by omega, by omega, s0, [], ⟨HJ.out, HG.out, HN.out, by rw [RW.add_zero]; exact RW.same_refl _, Nat.le_refl _⟩⟩
 case round =>
  clear HJ HG HN
  generalize u10 = v at *
  obtain ⟨k, u, i, rfl, rfl, rfl, hku, hub, hms, s, d, HR⟩ := hrel
  have hi : i < 4000 := by omega
  have HOKN := Box.mk HR.out.2.1.ok
  have HNS := Box.mk HR.out.2.2.1
  obtain ⟨x, hx⟩ : ∃ x, nextX s ((b.take u).drop k) 400 100 ((1 + i % 7 : Nat) : Int) = x := ⟨_, rfl⟩
  have HXX := Box.mk hx
  have HNX := Box.mk (show NmS x.r by rw [← hx]; exact nextX_names HR.out.2.2.1 _ _ _ _)
  have HPL := Box.mk (show ((b.take u).drop k).length = u - k by rw [List.length_drop, List.length_take]; omega)
  obtain ⟨N, hN⟩ : ∃ N, N = wr.heap.size := ⟨_, rfl⟩
  have HJ0 := Box.mk (show WhJ w N w.heap.size (w.heap.size + 1) v s d wr from ⟨HR.out.1.st, HR.out.1.own, HR.out.1.rs, HR.out.1.bl, by omega⟩)
  have HNN := Box.mk (show w.heap.size < N ∧ (w.heap.size + 1) < N ∧ w.heap.size ≤ N ∧ ∀ q, v.ownBlock = some q → q < N from ⟨by have := HR.out.1.sz; omega, by have := HR.out.1.sz; omega, by have := HR.out.1.sz; omega, fun q e => by have := (HR.out.1.own.lt e).2; omega⟩)
  have HRD := Box.mk (round_all HR.out.2.1 (u - k) (by rw [List.length_drop]; omega) ((1 + i % 7 : Nat) : Int) (by omega) (by rw [List.length_drop]; omega) (x := x) (by rw [← hx, List.drop_take]))
  clear hx hN
  go_wp2_with fail
  rename_i KK hKK
  refine wp_region_phases [16, 17] (fun p => match p with | 0 => [0, 1, 2, 3, 4, 5, 6, 7, 8, 9, 10, 11, 12, 13, 14, 15] | 1 => [11, 12, 13] | _ => [12, 13, 18, 19])
   (fun p => match p with | 0 => [.srow (LW w.heap.size v) s, .val (.slice ba b.length bc), .val (.int .i64 (k : Int)), .val (.int .i64 (u : Int)), .bytes ((b.take u).drop k), .val (.int .i64 (i : Int)), .val (.int .i64 ((i % 7 : Nat) : Int)), .val (.int .i64 ((1 + i % 7 : Nat) : Int)), .nxt (LW w.heap.size v) x, .nxt (LW w.heap.size v) x, .srow (LW w.heap.size v) x.r, .prow x, .val (.int .i64 (x.n : Int)), .val (.int .i64 x.er), .rnew N, .pnew N, .any, .any, .nope, .nope] | 1 => [.any, .any, .any, .any, .any, .any, .any, .any, .any, .nxt (LW w.heap.size v) x, .any, .prow x, .val (.int .i64 (x.n : Int)), .val (.int .i64 x.er), .rst N (LW w.heap.size v) x.r, .pnew N, .any, .any, .nope, .nope] | _ => [.any, .any, .any, .any, .any, .any, .any, .any, .any, .nxt (LW w.heap.size v) x, .any, .any, .val (.int .i64 (x.n : Int)), .val (.int .i64 x.er), .rst N (LW w.heap.size v) x.r, .pst N x, .any, .any, .val (.int .i64 (x.n : Int)), .val (.int .i64 x.er)])
   (fun _ => WhJ w N w.heap.size (w.heap.size + 1) v s d)
   (by kernel_rfl) (by kernel_rfl) (by kernel_rfl) (by kernel_rfl) (by kernel_rfl) (by kernel_rfl) ?_ HJ0.out ?_ ?_ ?_
  · intro p wa wb h hb
    exact WhJ.keep h hb
  · intro p hp
    match p, hp with
    | 0, _ =>
     refine ⟨?_, ?_, ?_, ?_, ?_, ?_, ?_, ?_, ?_, ?_, ?_, ?_, ?_, ?_, ?_, ?_, trivial⟩ <;> intro a1 wx hv hf hd
     · exact ⟨wanted_none rfl, loc_loadS rfl (hf.base 3 rfl) hv.st fun v h => h⟩
     · exact ⟨wanted_none rfl, loc_move rfl (hf.base 1 rfl)⟩
     · exact ⟨wanted_none rfl, loc_move rfl (hf.base 11 rfl)⟩
     · exact ⟨wanted_none rfl, loc_move rfl (hf.base 12 rfl)⟩
     · exact ⟨wanted_none rfl, loc_part rfl (l := b) ⟨_, _, hd 1 rfl, HBB.out.keep hv.bl⟩ (hd 2 rfl) (hd 3 rfl) hku hub fun v h => h⟩
     · exact ⟨wanted_none rfl, loc_move rfl (hf.base 13 rfl)⟩
     · exact ⟨wanted_none rfl, loc_rem7 rfl (hd 5 rfl) rfl⟩
     · exact ⟨wanted_none rfl, loc_addF (m := 1) (k := i % 7) rfl rfl (hd 6 rfl) (by omega) rfl⟩
     · exact ⟨wanted_none rfl, loc_callPx rfl (HOK.out.keep hv.bl) (hd 0 rfl) (hd 4 rfl) rfl rfl (hd 7 rfl) (by rw [HPL.out]; omega) HOKN.out (by decide) (by omega) (fun q hq => by have := hv.sz; have := HNN.out; exact ⟨⟨by omega, fun e => by have := this.2.2.2 q e.symm; omega⟩, fun e => by have := this.2.2.2 q e.symm; omega⟩) fun v w' h => by rw [HXX.out] at h; exact h⟩
     · exact ⟨wanted_none rfl, loc_move rfl (hd 8 rfl)⟩
     · exact ⟨wanted_none rfl, loc_nx0 rfl (hd 9 rfl) fun v h => h⟩
     · exact ⟨wanted_none rfl, loc_nx1 rfl (hd 9 rfl) fun v h => h⟩
     · exact ⟨wanted_none rfl, loc_nx2 rfl (hd 9 rfl) rfl⟩
     · exact ⟨wanted_none rfl, loc_nx3 rfl (hd 9 rfl) rfl⟩
     · exact ⟨wanted_none rfl, loc_allocRn rfl hv.sz fun v w' h => h⟩
     · exact ⟨wanted_none rfl, loc_allocPn rfl hv.sz fun v w' h => h⟩
    | 1, _ =>
     refine ⟨?_, ?_, ?_, trivial⟩ <;> intro a1 wx hv hf hd
     · exact ⟨wanted_none rfl, loc_nx1 rfl (hd 9 rfl) fun v h => h⟩
     · exact ⟨wanted_none rfl, loc_nx2 rfl (hd 9 rfl) rfl⟩
     · exact ⟨wanted_none rfl, loc_nx3 rfl (hd 9 rfl) rfl⟩
    | 2, _ =>
     refine ⟨?_, ?_, ?_, ?_, trivial⟩ <;> intro a1 wx hv hf hd
     · exact ⟨wanted_none rfl, loc_nx2 rfl (hd 9 rfl) rfl⟩
     · exact ⟨wanted_none rfl, loc_nx3 rfl (hd 9 rfl) rfl⟩
     · exact ⟨wanted_none rfl, loc_assign rfl (hd 12 rfl)⟩
     · exact ⟨wanted_none rfl, loc_assign rfl (hd 13 rfl)⟩
  · intro p hp
    match p, hp with
    | 0, _ =>
     intro a2 wx hv hf hd
     refine ⟨wanted_none rfl, wp_storeRn rfl (hd 14 rfl) (hd 10 rfl) HNX.out fun g cs e1 hN hr hst => ?_⟩
     exact ⟨undef, rfl, hv.row HNS.out HNN.out hN hr zero_noStr zero_noU8, trivial, ⟨.inr fun _ _ _ => trivial, .inr fun _ _ _ => trivial, .inr fun _ _ _ => trivial, .inr fun _ _ _ => trivial, .inr fun _ _ _ => trivial, .inr fun _ _ _ => trivial, .inr fun _ _ _ => trivial, .inr fun _ _ _ => trivial, .inr fun _ _ _ => trivial, .inr fun _ _ h => NxV.rowZ h HNX.out hr zero_noStr zero_noU8, .inr fun _ _ _ => trivial, .inr fun _ _ h => AgP.rowZ h hr zero_noU8, .inr fun _ _ h => h, .inr fun _ _ h => h, .inr fun v hv0 _ => by have h9 := hv0 _ 14 rfl rfl; rw [h9]; exact hst, .inr fun v _ h => PNew.rowR h hr, .inl rfl, .inr fun _ _ _ => trivial, .inr fun _ _ h => h.elim, .inr fun _ _ h => h.elim, trivial⟩⟩
    | 1, _ =>
     intro a2 wx hv hf hd
     refine ⟨wanted_none rfl, wp_storePn rfl (hd 15 rfl) (hd 11 rfl) fun g cs e1 hN hr hst => ?_⟩
     exact ⟨undef, rfl, hv.row HNS.out HNN.out hN hr zp_noStr zp_noU8, trivial, ⟨.inr fun _ _ _ => trivial, .inr fun _ _ _ => trivial, .inr fun _ _ _ => trivial, .inr fun _ _ _ => trivial, .inr fun _ _ _ => trivial, .inr fun _ _ _ => trivial, .inr fun _ _ _ => trivial, .inr fun _ _ _ => trivial, .inr fun _ _ _ => trivial, .inr fun _ _ h => NxV.rowZ h HNX.out hr zp_noStr zp_noU8, .inr fun _ _ _ => trivial, .inr fun _ _ _ => trivial, .inr fun _ _ h => h, .inr fun _ _ h => h, .inr fun v _ h => RSt.rowP h HNX.out hr, .inr fun v hv0 _ => by have h9 := hv0 _ 15 rfl rfl; rw [h9]; exact hst, .inr fun _ _ _ => trivial, .inl rfl, .inr fun _ _ h => h.elim, .inr fun _ _ h => h.elim, trivial⟩⟩
  · intro a2 w3 hv hf hh
    obtain ⟨g14, e14a, hg14, hst14⟩ := hh 14 (by decide)
    obtain ⟨g15, e15a, hg15, hpt15⟩ := hh 15 (by decide)
    have e14 : a2.eval (.tmp 14) = .pointer (some ⟨g14, 0, none⟩) := e14a
    have e15 : a2.eval (.tmp 15) = .pointer (some ⟨g15, 0, none⟩) := e15a
    have e16 : a2.eval (.tmp 16) = .int .i64 (x.n : Int) := hh 18 (by decide)
    have e17 : a2.eval (.tmp 17) = .int .i64 x.er := hh 19 (by decide)
    clear hh e14a e15a
    rw [fr_putAll hf]
    clear hf
    simp only [putAll, e14, e15, e16, e17]
    generalize a2.eval (.tmp 22) = u22
    generalize a2.eval (.tmp 23) = u23
    generalize a2.eval (.tmp 24) = u24
    generalize a2.eval (.tmp 25) = u25
    generalize a2.eval (.tmp 26) = u26
    generalize a2.eval (.tmp 27) = u27
    generalize a2.eval (.tmp 28) = u28
    generalize a2.eval (.tmp 29) = u29
    generalize a2.eval (.tmp 30) = u30
    generalize a2.eval (.tmp 21) = u21
    generalize a2.eval (.tmp 31) = u31
    generalize a2.eval (.tmp 32) = u32
    generalize a2.eval (.tmp 33) = u33
    generalize a2.eval (.tmp 34) = u34
    clear e14 e15 e16 e17 a2
    simp only [Act.put, List.setIfInBounds_toArray, List.set_cons_succ, List.set_cons_zero]
    refine hKK _ _ ?_
    clear hKK
    by_cases h0 : x.er = 0
    · have hokx := nextX_ok (s := s) (b := (b.take u).drop k) (most := 400) (body := 100) (room := ((1 + i % 7 : Nat) : Int)) (by decide) (by rw [HPL.out]; omega) HOKN.out (by rw [HXX.out]; exact h0)
      rw [HXX.out, HPL.out] at hokx
      have HX64 := Box.mk (And.intro hokx.1.ok.xs.2 hokx.1.ok.ys.2)
      have hxn : x.n ≤ u - k := hokx.2.1
      have hxd : x.data.length ≤ u - k := hokx.2.2
      have hz1 : ¬ ((x.n : Int) < 0) := by omega
      have hz2 : ¬ ((x.n : Int) > (u : Int) - (k : Int)) := by omega
      obtain ⟨f4, c4, g4, d4, l4, e4, hr14, hm14⟩ := hst14
      obtain ⟨pa, pc, hp15, hd15⟩ := hpt15
      obtain ⟨f7, c7, g7, d7, l7, e7, hr3, hm3⟩ := hv.st
      obtain ⟨cr, hcr⟩ : ∃ cr : Array Value, cr = #[.bool x.r.rep, .string x.r.meth, .int .i64 x.r.ph, .string x.r.m, .string x.r.t, .int .i64 x.r.z, .slice f4 (List.length x.r.xs) c4, .bool x.r.fr, .slice none 0 0, .int .i64 x.r.st, .string x.r.rs, .int .i64 x.r.z2, .slice g4 (List.length x.r.ys) d4, .slice none 0 0, .int .i64 x.r.fk, .int .i64 x.r.fl, .int .i64 x.r.left, .int .i64 x.r.size, .int .i64 x.r.ck.ph, .int .i64 x.r.ck.left, .int .i64 x.r.ck.tr, .slice l4 (List.length x.r.ck.line) e4] := ⟨_, rfl⟩
      have HCR := Box.mk hcr
      have hcr22 : cr.size = 22 := by rw [hcr]; rfl
      have hcr1 : cr.all (·.oneCell') = true := by rw [hcr]; exact oneRd ..
      have HSR := Box.mk (show (Tryz.prog.info? 37).map (·.size) = some cr.size by rw [hcr22]; exact sizeRd)
      rw [← hcr] at hr14
      obtain ⟨c3, hc3⟩ : ∃ c3 : Array Value, c3 = #[.bool s.rep, .string s.meth, .int .i64 s.ph, .string s.m, .string s.t, .int .i64 s.z, .slice f7 (List.length s.xs) c7, .bool s.fr, .slice none 0 0, .int .i64 s.st, .string s.rs, .int .i64 s.z2, .slice g7 (List.length s.ys) d7, .slice none 0 0, .int .i64 s.fk, .int .i64 s.fl, .int .i64 s.left, .int .i64 s.size, .int .i64 s.ck.ph, .int .i64 s.ck.left, .int .i64 s.ck.tr, .slice l7 (List.length s.ck.line) e7] := ⟨_, rfl⟩
      have hc322 : c3.size = cr.size := by rw [hcr22, hc3]; rfl
      have HU3 := Box.mk (show NoU8 c3 by rw [hc3]; exact noU8_22 rfl)
      rw [← hc3] at hr3
      have HR14 := Box.mk hr14
      have HR3 := Box.mk hr3
      have hg3N := HNN.out.1
      have hg6N := HNN.out.2.1
      have hne : g14 ≠ w.heap.size ∧ g15 ≠ w.heap.size ∧ g15 ≠ (w.heap.size + 1) := by omega
      obtain ⟨W4, hW4⟩ : ∃ W4, W4 = w3.setRow w.heap.size cr := ⟨_, rfl⟩
      have HS4 := Box.mk (show StV (LW w.heap.size v) x.r W4 w.heap.size from ⟨f4, c4, g4, d4, l4, e4, by rw [hW4, ← HCR.out]; exact setRow_heap _ _ _ _ _ _ hr3, by rw [hW4]; exact hm14.rowL (fun h => h.1 rfl) hr3 HU3.out⟩)
      have HO4 := Box.mk (show Own (w.heap.size + 2) W4 v d by rw [hW4]; exact hv.own.same fun q hq => setRow_other _ _ _ _ (by have := (hv.own.lt hq).1; omega))
      have hp4 : PVr W4 g15 #[.int .i64 x.kind, .slice pa (List.length x.data) pc] := by rw [hW4]; exact (setRow_other _ _ _ _ hne.2.1).trans hp15
      have HP4 := Box.mk hp4
      have HD4 := Box.mk (show IsBytes W4 pa x.data pc by rw [hW4]; exact isBytes_rowR hr3 HU3.out hd15)
      have HZ4 := Box.mk (show RVr W4 (w.heap.size + 1) #[.bool false, .string ⟨#[]⟩, .int .i64 0, .string ⟨#[]⟩, .string ⟨#[]⟩, .int .i64 0, .slice none 0 0, .bool false, .slice none 0 0, .int .i64 0, .string ⟨#[]⟩, .int .i64 0, .slice none 0 0, .slice none 0 0, .int .i64 0, .int .i64 0, .int .i64 0, .int .i64 0, .int .i64 0, .int .i64 0, .int .i64 0, .slice none 0 0] by rw [hW4]; exact (setRow_other _ _ _ _ (by omega)).trans hv.rs)
      have HB4 := Box.mk (show Below w.heap.size w W4 by rw [hW4]; exact below_setRow hv.bl (by omega) _)
      have hN4 : N ≤ W4.heap.size := by rw [hW4]; simpa [World.setRow] using hv.sz
      have hk41 : W4.cell? ⟨g15, 1, none⟩ = some (.slice pa (List.length x.data) pc) := by rw [cell_of_row _ _ _ _ _ _ hp4]; rfl
      clear hcr hc3 hr14 hm14 hp15 hd15 hr3 hm3 hp4 hv
      rw [h0]
      go_upto_region 9 with (first | refine wpList_load_row rfl 37 _ rfl g14 rfl 37 cr (0, 0) _ HR14.out Tryz.underlying37 rfl HSR.out ?_ | refine wpList_store_row rfl 37 _ _ rfl w.heap.size cr rfl rfl 37 _ HR3.out HSR.out hc322 hcr1 ?_)
      rw [← hW4]
      clear hW4 HR14 HR3 HSR hc322 hcr1 hcr22 HCR hz1 hz2 HU3
      have hdl := HR.out.2.2.2.2
      go_wp2_with (at_builtin; refine wpList_append_ownb _ rfl _ _ rfl rfl HO4.out rfl HD4.out (by omega) (by have := hg3N; omega) ?c1)
      case c1 =>
       intro v1 w5 hown hgrow hnew
       obtain ⟨D, hD⟩ : ∃ D, D = d ++ x.data := ⟨_, rfl⟩
       obtain ⟨K, hK⟩ : ∃ K : Nat, K = k + x.n := ⟨_, rfl⟩
       rw [← hD] at hown
       have hlow : ∀ q, v.ownBlock = some q → w.heap.size + 2 ≤ q ∧ q < N := fun q e => ⟨(HO4.out.lt e).1, HNN.out.2.2.2 q e⟩
       have hst5 : StV (LW w.heap.size v1) x.r w5 w.heap.size := by
        obtain ⟨f4, c4, g4, d4, l4, e4, hr, hm⟩ := HS4.out
        refine ⟨f4, c4, g4, d4, l4, e4, (hgrow.block _ hr.lt (fun e => by have := (hlow _ e.symm).1; omega)).trans hr, ⟨sameNe hm.m.f1 fun y e hx => hgrow.block _ (hm.m.f1.old e hx) (hm.m.n1 y e hx).2, sameNe hm.m.f2 fun y e hx => hgrow.block _ (hm.m.f2.old e hx) (hm.m.n2 y e hx).2, hm.m.ln.same fun y e hx => hgrow.block _ (hm.m.ln.old e hx) (hm.l y e hx), fun y e hx => ⟨(hm.m.n1 y e hx).1, ?_⟩, fun y e hx => ⟨(hm.m.n2 y e hx).1, ?_⟩⟩, fun y e hx => ?_⟩
        · rcases hnew with h | h
          · rw [h]; exact (hm.m.n1 y e hx).2
          · rw [h]; intro e2; have := hm.m.f1.old e hx; injection e2 with e2; omega
        · rcases hnew with h | h
          · rw [h]; exact (hm.m.n2 y e hx).2
          · rw [h]; intro e2; have := hm.m.f2.old e hx; injection e2 with e2; omega
        · show some y.block ≠ v1.ownBlock
          rcases hnew with h | h
          · rw [h]; exact hm.l y e hx
          · rw [h]; intro e2; have := hm.m.ln.old e hx; injection e2 with e2; omega
       have HZ5 := Box.mk (show RVr w5 (w.heap.size + 1) #[.bool false, .string ⟨#[]⟩, .int .i64 0, .string ⟨#[]⟩, .string ⟨#[]⟩, .int .i64 0, .slice none 0 0, .bool false, .slice none 0 0, .int .i64 0, .string ⟨#[]⟩, .int .i64 0, .slice none 0 0, .slice none 0 0, .int .i64 0, .int .i64 0, .int .i64 0, .int .i64 0, .int .i64 0, .int .i64 0, .int .i64 0, .slice none 0 0] from (hgrow.block _ HZ4.out.lt (fun e => by have := (hlow _ e.symm).1; omega)).trans HZ4.out)
       have HP5 := Box.mk (show PVr w5 g15 #[.int .i64 x.kind, .slice pa (List.length x.data) pc] from (hgrow.block _ (Array.getElem?_eq_some_iff.1 HP4.out).1 (fun e => by have := (hlow _ e.symm).2; omega)).trans HP4.out)
       have HB5 := Box.mk (HB4.out.grown hgrow HB4.out.size (fun q e => by have := (hlow _ e).1; omega))
       have hN5 : N ≤ w5.heap.size := Nat.le_trans hN4 hgrow.size
       have HF := Box.mk (show FnJ w w.heap.size (w.heap.size + 1) v1 x.r D false w5 from ⟨hst5, hown, HZ5.out, HB5.out⟩)
       have HTN := HNX
       have HNE := Box.mk (show w.heap.size ≠ (w.heap.size + 1) ∧ (w.heap.size + 1) = w.heap.size + 1 ∧ w.heap.size + 1 ≤ (w.heap.size + 1) from ⟨by omega, by omega, by omega⟩)
       have hk50 : w5.cell? ⟨g15, 0, none⟩ = some (.int .i64 x.kind) := by rw [cell_of_row _ _ _ _ _ _ HP5.out]; rfl
       rw [show (k : Int) + (x.n : Int) = (K : Int) by omega]
       clear hown hgrow hnew hst5 HS4 HO4 HP4 HD4 HZ4 HB4 hk41 HZ5 HB5 hlow
       by_cases h3 : x.kind = 3
       · have e3 : (x.kind == 3) = true := by rw [h3]; rfl
         obtain ⟨q1, t, q2, q3⟩ := HRD.out.2.1 h0 h3
         have HSAME := Box.mk (show (RW.got 0 x.r D K).same (CW s0 b) by
          have hh := HR.out.2.2.2.1
          rw [q2] at hh
          refine RW.same_trans ?_ hh
          exact ⟨rfl, q3, by simp [hD, q1], by omega⟩)
         clear h3 q1 q2 q3 HR HRD hK hD
         go_wp2_with fail
         rename_i K2 hK2
         refine wp_region_phases [4] (fun p => match p with | 0 => [0, 1, 2, 3] | _ => [1, 2, 3, 5, 6, 7])
          (fun p => match p with | 0 => [.srow (LW w.heap.size v1) x.r, .val (v1), .val (.string ⟨D.toArray⟩), .val (.int .i64 (K : Int)), .any, .nope, .nope, .nope] | _ => [.any, .val (v1), .val (.string ⟨D.toArray⟩), .val (.int .i64 (K : Int)), .any, .val (.string ⟨D.toArray⟩), .val (.int .i64 (K : Int)), .val (.int .i64 0)])
          (fun p => match p with | 0 => FnJ w w.heap.size (w.heap.size + 1) v1 x.r D false | _ => FnJ w w.heap.size (w.heap.size + 1) v1 x.r D true)
          (by kernel_rfl) (by kernel_rfl) (by kernel_rfl) (by kernel_rfl) (by kernel_rfl) (by kernel_rfl) ?_ HF.out ?_ ?_ ?_
         · intro p wa wb h hb
           match p, h with
           | 0, h => exact FnJ.keep h hb
           | (_ + 1), h => exact FnJ.keep h hb
         · intro p hp
           match p, hp with
           | 0, _ =>
            refine ⟨?_, ?_, ?_, ?_, trivial⟩ <;> intro a1 wx hv hf hd
            · exact ⟨wanted_none rfl, loc_loadS rfl (hf.base 3 rfl) hv.st fun v h => h⟩
            · exact ⟨wanted_none rfl, loc_move rfl (hf.base 10 rfl)⟩
            · exact ⟨wanted_none rfl, loc_string rfl (l := D) (by rw [show a1.eval (.tmp 60) = v1 from hd 1 rfl]; exact hv.own.val) rfl⟩
            · exact ⟨wanted_none rfl, loc_move rfl (hf.base 11 rfl)⟩
           | 1, _ =>
            refine ⟨?_, ?_, ?_, ?_, ?_, ?_, trivial⟩ <;> intro a1 wx hv hf hd
            · exact ⟨wanted_none rfl, loc_move rfl (hf.base 10 rfl)⟩
            · exact ⟨wanted_none rfl, loc_string rfl (l := D) (by rw [show a1.eval (.tmp 60) = v1 from hd 1 rfl]; exact hv.own.val) rfl⟩
            · exact ⟨wanted_none rfl, loc_move rfl (hf.base 11 rfl)⟩
            · exact ⟨wanted_none rfl, loc_assign rfl (hd 2 rfl)⟩
            · exact ⟨wanted_none rfl, loc_assign rfl (hd 3 rfl)⟩
            · exact ⟨wanted_none rfl, loc_assign rfl rfl⟩
         · intro p hp
           match p, hp with
           | 0, _ =>
            intro a2 wx hv hf hd
            obtain ⟨f5, c5, g5, d5, l5, e5, er5, hm5⟩ := hd 0 rfl
            have hr6 : RVr wx (w.heap.size + 1) #[.bool false, .string ⟨#[]⟩, .int .i64 0, .string ⟨#[]⟩, .string ⟨#[]⟩, .int .i64 0, .slice none 0 0, .bool false, .slice none 0 0, .int .i64 0, .string ⟨#[]⟩, .int .i64 0, .slice none 0 0, .slice none 0 0, .int .i64 0, .int .i64 0, .int .i64 0, .int .i64 0, .int .i64 0, .int .i64 0, .int .i64 0, .slice none 0 0] := hv.r6
            refine ⟨wanted_none rfl, wp_store_row 37 _ _ rfl (w.heap.size + 1) _ (hf.base 6 rfl) er5 37 _ hr6 sizeRd rfl (oneRd ..) ?_⟩
            exact ⟨undef, rfl, ⟨hv.st.rowZ HTN.out HNE.out.1 hr6 zero_noStr zero_noU8, hv.own.same fun q hq => setRow_other _ _ _ _ (by have := (hv.own.lt hq).1; have := HNE.out.2; omega), ⟨f5, c5, g5, d5, l5, e5, setRow_heap _ _ _ _ _ _ hr6, hm5.rowZ HTN.out hr6 zero_noStr zero_noU8⟩, below_setRow hv.bl (by have := HNE.out.2; omega) _⟩, trivial, ⟨.inr fun _ _ _ => trivial, .inr fun _ _ h => h, .inr fun _ _ h => h, .inr fun _ _ h => h, .inl rfl, .inr fun _ _ h => h.elim, .inr fun _ _ h => h.elim, .inr fun _ _ h => h.elim, trivial⟩⟩
         · intro a2 w9 hv hf hh
           have e7 : a2.eval (.tmp 7) = .string ⟨D.toArray⟩ := hh 5 (by decide)
           have e8 : a2.eval (.tmp 8) = .int .i64 (K : Int) := hh 6 (by decide)
           have e9 : a2.eval (.tmp 9) = .int .i64 0 := hh 7 (by decide)
           clear hh
           rw [fr_putAll hf]
           clear hf
           simp only [putAll, e7, e8, e9]
           generalize a2.eval (.tmp 59) = z59
           generalize a2.eval (.tmp 60) = z60
           generalize a2.eval (.tmp 61) = z61
           generalize a2.eval (.tmp 62) = z62
           clear e7 e8 e9 a2
           simp only [Act.put, List.setIfInBounds_toArray, List.set_cons_succ, List.set_cons_zero]
           refine hK2 _ _ ?_
           clear hK2
           obtain ⟨f5, c5, g5, d5, l5, e5, hr6, hm6⟩ := hv.r6
           go_wp2_with fail
           (try simp only [Exit.inBlock, Exit.then])
           refine bodyPost_ret (results_row_tmp3C rfl _ _ (w.heap.size + 1) 37 _ (0, 0) _ rfl hr6 Tryz.underlying37 rfl sizeRd) rfl ?_
           exact ⟨.inr ⟨0, x.r, D, K, f5, c5, g5, d5, l5, e5, HSAME.out, rfl, hm6.m.f1, hm6.m.f2, HX64.out.1, HX64.out.2⟩, hv.bl⟩
       · have e3 : (x.kind == 3) = false := by rw [beq_eq_false_iff_ne]; exact h3
         by_cases h2 : x.kind = 0 ∧ x.n = 0
         · obtain ⟨q1, q2, q3⟩ := HRD.out.2.2.1 h0 h3 h2
           have e4 : (x.kind == 0) = true := by rw [h2.1]; rfl
           have e5 : ((x.n : Int) == 0) = true := by rw [h2.2]; rfl
           have HQ := Box.mk (And.intro q1 (And.intro q2 (And.intro h2.2 q3)))
           clear q1 q2 q3 h2 h3
           by_cases hu : u = b.length
           · have e6 : ((u : Int) == (b.length : Int)) = true := by rw [hu]; simp
             have HSAME := Box.mk (show (RW.got 4 x.r D K).same (CW s0 b) by
              have hh := HR.out.2.2.2.1
              rw [HQ.out.2.2.2 (by rw [List.length_drop]; omega)] at hh
              refine RW.same_trans ?_ hh
              exact ⟨rfl, by rw [HQ.out.2.1], by simp [hD, HQ.out.1], by have := HQ.out.2.2.1; omega⟩)
             clear hu HR HRD hK hD HQ
             go_wp2_with fail
             rename_i K2 hK2
             refine wp_region_phases [4] (fun p => match p with | 0 => [0, 1, 2, 3] | _ => [1, 2, 3, 5, 6, 7])
              (fun p => match p with | 0 => [.srow (LW w.heap.size v1) x.r, .val (v1), .val (.string ⟨D.toArray⟩), .val (.int .i64 (K : Int)), .any, .nope, .nope, .nope] | _ => [.any, .val (v1), .val (.string ⟨D.toArray⟩), .val (.int .i64 (K : Int)), .any, .val (.string ⟨D.toArray⟩), .val (.int .i64 (K : Int)), .val (.int .i64 4)])
              (fun p => match p with | 0 => FnJ w w.heap.size (w.heap.size + 1) v1 x.r D false | _ => FnJ w w.heap.size (w.heap.size + 1) v1 x.r D true)
              (by kernel_rfl) (by kernel_rfl) (by kernel_rfl) (by kernel_rfl) (by kernel_rfl) (by kernel_rfl) ?_ HF.out ?_ ?_ ?_
             · intro p wa wb h hb
               match p, h with
               | 0, h => exact FnJ.keep h hb
               | (_ + 1), h => exact FnJ.keep h hb
             · intro p hp
               match p, hp with
               | 0, _ =>
                refine ⟨?_, ?_, ?_, ?_, trivial⟩ <;> intro a1 wx hv hf hd
                · exact ⟨wanted_none rfl, loc_loadS rfl (hf.base 3 rfl) hv.st fun v h => h⟩
                · exact ⟨wanted_none rfl, loc_move rfl (hf.base 10 rfl)⟩
                · exact ⟨wanted_none rfl, loc_string rfl (l := D) (by rw [show a1.eval (.tmp 75) = v1 from hd 1 rfl]; exact hv.own.val) rfl⟩
                · exact ⟨wanted_none rfl, loc_move rfl (hf.base 11 rfl)⟩
               | 1, _ =>
                refine ⟨?_, ?_, ?_, ?_, ?_, ?_, trivial⟩ <;> intro a1 wx hv hf hd
                · exact ⟨wanted_none rfl, loc_move rfl (hf.base 10 rfl)⟩
                · exact ⟨wanted_none rfl, loc_string rfl (l := D) (by rw [show a1.eval (.tmp 75) = v1 from hd 1 rfl]; exact hv.own.val) rfl⟩
                · exact ⟨wanted_none rfl, loc_move rfl (hf.base 11 rfl)⟩
                · exact ⟨wanted_none rfl, loc_assign rfl (hd 2 rfl)⟩
                · exact ⟨wanted_none rfl, loc_assign rfl (hd 3 rfl)⟩
                · exact ⟨wanted_none rfl, loc_assign rfl rfl⟩
             · intro p hp
               match p, hp with
               | 0, _ =>
                intro a2 wx hv hf hd
                obtain ⟨f5, c5, g5, d5, l5, e5, er5, hm5⟩ := hd 0 rfl
                have hr6 : RVr wx (w.heap.size + 1) #[.bool false, .string ⟨#[]⟩, .int .i64 0, .string ⟨#[]⟩, .string ⟨#[]⟩, .int .i64 0, .slice none 0 0, .bool false, .slice none 0 0, .int .i64 0, .string ⟨#[]⟩, .int .i64 0, .slice none 0 0, .slice none 0 0, .int .i64 0, .int .i64 0, .int .i64 0, .int .i64 0, .int .i64 0, .int .i64 0, .int .i64 0, .slice none 0 0] := hv.r6
                refine ⟨wanted_none rfl, wp_store_row 37 _ _ rfl (w.heap.size + 1) _ (hf.base 6 rfl) er5 37 _ hr6 sizeRd rfl (oneRd ..) ?_⟩
                exact ⟨undef, rfl, ⟨hv.st.rowZ HTN.out HNE.out.1 hr6 zero_noStr zero_noU8, hv.own.same fun q hq => setRow_other _ _ _ _ (by have := (hv.own.lt hq).1; have := HNE.out.2; omega), ⟨f5, c5, g5, d5, l5, e5, setRow_heap _ _ _ _ _ _ hr6, hm5.rowZ HTN.out hr6 zero_noStr zero_noU8⟩, below_setRow hv.bl (by have := HNE.out.2; omega) _⟩, trivial, ⟨.inr fun _ _ _ => trivial, .inr fun _ _ h => h, .inr fun _ _ h => h, .inr fun _ _ h => h, .inl rfl, .inr fun _ _ h => h.elim, .inr fun _ _ h => h.elim, .inr fun _ _ h => h.elim, trivial⟩⟩
             · intro a2 w9 hv hf hh
               have e7 : a2.eval (.tmp 7) = .string ⟨D.toArray⟩ := hh 5 (by decide)
               have e8 : a2.eval (.tmp 8) = .int .i64 (K : Int) := hh 6 (by decide)
               have e9 : a2.eval (.tmp 9) = .int .i64 4 := hh 7 (by decide)
               clear hh
               rw [fr_putAll hf]
               clear hf
               simp only [putAll, e7, e8, e9]
               generalize a2.eval (.tmp 74) = z74
               generalize a2.eval (.tmp 75) = z75
               generalize a2.eval (.tmp 76) = z76
               generalize a2.eval (.tmp 77) = z77
               clear e7 e8 e9 a2
               simp only [Act.put, List.setIfInBounds_toArray, List.set_cons_succ, List.set_cons_zero]
               refine hK2 _ _ ?_
               clear hK2
               obtain ⟨f5, c5, g5, d5, l5, e5, hr6, hm6⟩ := hv.r6
               go_wp2_with fail
               (try simp only [Exit.inBlock, Exit.then])
               refine bodyPost_ret (results_row_tmp3C rfl _ _ (w.heap.size + 1) 37 _ (0, 0) _ rfl hr6 Tryz.underlying37 rfl sizeRd) rfl ?_
               exact ⟨.inr ⟨4, x.r, D, K, f5, c5, g5, d5, l5, e5, HSAME.out, rfl, hm6.m.f1, hm6.m.f2, HX64.out.1, HX64.out.2⟩, hv.bl⟩
           · have e6 : ((u : Int) == (b.length : Int)) = false := by rw [beq_eq_false_iff_ne]; omega
             have HRL := Box.mk (show WhJ w (w.heap.size + 2) w.heap.size (w.heap.size + 1) v1 x.r D w5 ∧ GoodS x.r (b.drop K) ∧ NmS x.r ∧ ((CW x.r (b.drop K)).add D K).same (CW s0 b) ∧ D.length ≤ 2000 * (i + 1) from ⟨⟨HF.out.st, HF.out.own, HF.out.r6, HF.out.bl, by omega⟩, by rw [HQ.out.2.1, show K = k by have := HQ.out.2.2.1; omega]; exact HR.out.2.1, HNX.out, by rw [HQ.out.2.1, show K = k by have := HQ.out.2.2.1; omega, hD, HQ.out.1, List.append_nil]; exact HR.out.2.2.2.1, by rw [hD, HQ.out.1, List.append_nil]; omega⟩)
             have HKk := Box.mk (show K = k by have := HQ.out.2.2.1; omega)
             clear HR HRD HQ HF hD hK
             have hul : u < b.length := by omega
             clear hu
             by_cases hcl0 : cl = 0
             · have hgt : ¬ (cl : Int) > 0 := by omega
               clear hcl0
               obtain ⟨u2, hu2⟩ : ∃ u2 : Nat, u2 = min (u + (1 + b.length)) b.length := ⟨_, rfl⟩
               have hmn : ∀ (ts : Array TypeId) (t : TypeId) (W : World), (Builtin.min_ ts t #[.int .i64 ((u : Int) + (1 + (b.length : Int))), .int .i64 b.length]).run Tryz.prog W = .ok (.int .i64 (u2 : Int)) W := fun ts t W => by
                rw [run_min_int2]
                congr 2
                rw [hu2]
                split <;> omega
               have hu3 : u < u2 ∧ u2 ≤ b.length := by omega
               clear hu2
               go_wp2_with fail
               go_roundw
               case rel => have hKk := HKk.out; exact ⟨K, u2, i + 1, rfl, rfl, by go_num, by omega, by omega, by omega, x.r, D, ⟨HRL.out.1, HRL.out.2.1, HRL.out.2.2.1, HRL.out.2.2.2.1, HRL.out.2.2.2.2⟩⟩
               case measure => have hKk := HKk.out; simp [intOf]; omega
             · have hgt : (cl : Int) > 0 := by omega
               have hcl1 : 0 < cl := by omega
               obtain ⟨z, ad, hz, hcz⟩ : ∃ z ad, ca = some ad ∧ w5.cell? (ad.add (i % cl)) = some (.int .i64 z) := by
                obtain ⟨ad, z, h1, h2, _⟩ := HCU.out (i % cl) (Nat.mod_lt _ hcl1)
                exact ⟨z, ad, h1, below_cell HRL.out.1.bl h2⟩
               subst hz
               have hmod : i % cl < cl := Nat.mod_lt _ hcl1
               have hrem : (i : Int).tmod (cl : Int) = ((i % cl : Nat) : Int) := by rw [Int.tmod_eq_emod_of_nonneg (by omega)]; simp
               obtain ⟨j, hj⟩ : ∃ j : Nat, i % cl = j := ⟨_, rfl⟩
               rw [hj] at hcz hmod hrem
               clear hcl0 hj
               go_wp2_with fail
               refine (within_any z 9 w5 (by decide) (by decide)).mono ?_
               rintro e w6 ⟨kk, hkk, rfl, rfl⟩
               obtain ⟨u2, hu2⟩ : ∃ u2 : Nat, u2 = min (u + (1 + kk)) b.length := ⟨_, rfl⟩
               have hmn : ∀ (ts : Array TypeId) (t : TypeId) (W : World), (Builtin.min_ ts t #[.int .i64 ((u : Int) + (1 + (kk : Int))), .int .i64 b.length]).run Tryz.prog W = .ok (.int .i64 (u2 : Int)) W := fun ts t W => by
                rw [run_min_int2]
                congr 2
                rw [hu2]
                split <;> omega
               have hu3 : u < u2 ∧ u2 ≤ b.length := by omega
               clear hu2 hcz hrem hmod
               go_wp2_with fail
               go_roundw
               case rel => have hKk := HKk.out; exact ⟨K, u2, i + 1, rfl, rfl, by go_num, by omega, by omega, by omega, x.r, D, ⟨HRL.out.1, HRL.out.2.1, HRL.out.2.2.1, HRL.out.2.2.2.1, HRL.out.2.2.2.2⟩⟩
               case measure => have hKk := HKk.out; simp [intOf]; omega
         · obtain ⟨q1, q2, q3, q4⟩ := HRD.out.2.2.2 h0 h3 h2
           rw [List.drop_drop] at q3 q4
           have HRL := Box.mk (show WhJ w (w.heap.size + 2) w.heap.size (w.heap.size + 1) v1 x.r D w5 ∧ GoodS x.r (b.drop K) ∧ NmS x.r ∧ ((CW x.r (b.drop K)).add D K).same (CW s0 b) ∧ D.length ≤ 2000 * (i + 1) from ⟨⟨HF.out.st, HF.out.own, HF.out.r6, HF.out.bl, by omega⟩, by rw [hK]; exact q3, HNX.out, by
             have hh := RW.add_same q4 d k
             rw [RW.add_add, ← hD, ← hK] at hh
             exact RW.same_trans hh HR.out.2.2.2.1, by rw [hD, List.length_append]; omega⟩)
           have hKk : k < K ∧ K ≤ u := by omega
           clear q1 q2 q3 q4 HR HRD HF hD hK
           by_cases hk0 : x.kind = 0
           · have e4 : (x.kind == 0) = true := by rw [hk0]; rfl
             have e5 : ((x.n : Int) == 0) = false := by rw [beq_eq_false_iff_ne]; intro e; exact h2 ⟨hk0, by omega⟩
             clear h2 hk0 h3
             go_wp2_with fail
             go_roundw
             case rel => exact ⟨K, u, i + 1, rfl, rfl, by go_num, by omega, by omega, by omega, x.r, D, ⟨HRL.out.1, HRL.out.2.1, HRL.out.2.2.1, HRL.out.2.2.2.1, HRL.out.2.2.2.2⟩⟩
             case measure => simp [intOf]; omega
           · have e4 : (x.kind == 0) = false := by rw [beq_eq_false_iff_ne]; exact hk0
             clear h2 hk0 h3
             go_wp2_with fail
             go_roundw
             case rel => exact ⟨K, u, i + 1, rfl, rfl, by go_num, by omega, by omega, by omega, x.r, D, ⟨HRL.out.1, HRL.out.2.1, HRL.out.2.2.1, HRL.out.2.2.2.1, HRL.out.2.2.2.2⟩⟩
             case measure => simp [intOf]; omega
    · have HSAME := Box.mk (show CW s0 b = .err x.er by
       have hh := HR.out.2.2.2.1
       rw [HRD.out.1 h0] at hh
       exact same_err hh)
      have e0 : (x.er != 0) = true := by rw [bne_iff_ne]; exact h0
      have HZ4 := Box.mk hv.rs
      have HB4 := Box.mk hv.bl
      clear h0 hst14 hpt15 hv HR HRD
      go_wp2_with (refine wpList_store_row rfl 37 _ _ rfl (w.heap.size + 1) #[.bool false, .string ⟨#[]⟩, .int .i64 0, .string ⟨#[]⟩, .string ⟨#[]⟩, .int .i64 0, .slice none 0 0, .bool false, .slice none 0 0, .int .i64 0, .string ⟨#[]⟩, .int .i64 0, .slice none 0 0, .slice none 0 0, .int .i64 0, .int .i64 0, .int .i64 0, .int .i64 0, .int .i64 0, .int .i64 0, .int .i64 0, .slice none 0 0] rfl rfl 37 _ HZ4.out sizeRd rfl (oneRd ..) ?_)
      (try simp only [Exit.inBlock, Exit.then])
      refine bodyPost_ret (results_row_tmp3C rfl _ _ (w.heap.size + 1) 37 #[.bool false, .string ⟨#[]⟩, .int .i64 0, .string ⟨#[]⟩, .string ⟨#[]⟩, .int .i64 0, .slice none 0 0, .bool false, .slice none 0 0, .int .i64 0, .string ⟨#[]⟩, .int .i64 0, .slice none 0 0, .slice none 0 0, .int .i64 0, .int .i64 0, .int .i64 0, .int .i64 0, .int .i64 0, .int .i64 0, .int .i64 0, .slice none 0 0] (0, 0) _ rfl (setRow_heap _ _ _ _ _ _ HZ4.out) Tryz.underlying37 rfl sizeRd) rfl ?_
      exact ⟨.inl ⟨x.er, HSAME.out, rfl⟩, below_setRow HB4.out (by omega) _⟩
end Go.Proofs.YteoadfckcilalaaGreatDoor
namespace Go.Proofs.YteoadfckcilalaaGreatDoor
open Go.RowKit

theorem endS_front {h r : List UInt8} (h1 : endZ h = h.length) (h2 : 4 ≤ h.length) (h3 : h.length ≤ 400) : endS (h ++ r) 400 = ((h.length : Int), 0) := by
 have h4 := endZ_take (h ++ r) h.length
 rw [List.take_left, h1] at h4
 unfold endS
 split at h4
 · rw [if_pos (by omega), ← h4]
 · omega
theorem headR_ends {h : List UInt8} (h0 : (headR h).1 = 0) : endZ h = h.length ∧ 4 ≤ h.length := by
 unfold headR at h0
 split at h0
 · rename_i l0 ls hL
   unfold linesS at hL
   split at hL
   · rename_i hc; exact hc
   · cases hL
 · cases h0
def begR (rep : Bool) (p : ByteArray) : RS := { zeroR with rep := rep, meth := p }
theorem begR_ok (rep : Bool) (p : ByteArray) (body : Int) : OkN body (begR rep p) := ⟨⟨okC_zero, fun h => absurd h (by show ¬ (0 : Int) = 2; decide), by show (0 : Int) ≤ 0 ∧ (0 : Int) ≤ 1000000000; decide, ⟨fun f hf => absurd hf (by simp [begR, zeroR]), by show 0 ≤ 64; decide⟩, ⟨fun f hf => absurd hf (by simp [begR, zeroR]), by show 0 ≤ 64; decide⟩⟩, .inl rfl, fun h => absurd h (by show ¬ (0 : Int) = 1; decide), fun h => absurd h (by show ¬ (0 : Int) = 1; decide), fun h => absurd h (by show ¬ (0 : Int) = 1; decide), fun h => absurd h (by show ¬ (0 : Int) = 1; decide)⟩
theorem begR_good {rep : Bool} {p : ByteArray} {b : List UInt8} (h : GoodB b) : GoodS (begR rep p) b := ⟨begR_ok rep p 100, .inl rfl, fun _ => h, fun h => absurd h (by show ¬ (0 : Int) = 1; decide)⟩
theorem goodB_short {b : List UInt8} (h : b.length ≤ 125) : GoodB b := fun p h4 hp _ => by omega
end Go.Proofs.YteoadfckcilalaaGreatDoor
namespace Go.Proofs.YteoadfckcilalaaGreatDoor
open Go.RowKit

set_option linter.unusedVariables false
theorem fldsIn_nil (w : World) : FldsIn w none [] := FldsIn.nil w none
theorem begR_mem (rep : Bool) (p : ByteArray) (w : World) : RMem (fun _ => True) w (begR rep p) none none none 0 :=
 ⟨fldsIn_nil w, fldsIn_nil w, .inl ⟨rfl, rfl, rfl⟩, (fun _ e => by cases e), (fun _ e => by cases e)⟩
theorem begR_nm (rep : Bool) (p : ByteArray) : NmS (begR rep p) := nmS_zero
theorem intsF_none (w : World) : IntsF w none 0 := fun j hj => absurd hj (Nat.not_lt_zero _)
end Go.Proofs.YteoadfckcilalaaGreatDoor
namespace Go.Proofs.YteoadfckcilalaaGreatDoor
open Go.RowKit

set_option linter.unusedVariables false
def reqT (fr ch : Bool) (z : Int) (l : List UInt8) : List Fld := if fr = true then (if ch = true ∧ z = 1 then [((⟨#[84, 114, 97, 110, 115, 102, 101, 114, 45, 69, 110, 99, 111, 100, 105, 110, 103]⟩ : ByteArray), (⟨#[99, 104, 117, 110, 107, 101, 100]⟩ : ByteArray))] else [((⟨#[67, 111, 110, 116, 101, 110, 116, 45, 76, 101, 110, 103, 116, 104]⟩ : ByteArray), fmtS 10 l.length)]) else []
def reqE (fr ch : Bool) (z : Int) (l : List UInt8) : List UInt8 := if fr = true ∧ ch = true ∧ z = 1 then encodeS [l.take (l.length / 2), l.drop (l.length / 2)] else l
def reqH (m t : ByteArray) (z : Int) (x : List Fld) (fr ch : Bool) (l : List UInt8) : List UInt8 := headB (fmtReq m t z) (x ++ reqT fr ch z l)
def reqW (m t : ByteArray) (z : Int) (x : List Fld) (fr ch : Bool) (l : List UInt8) : List UInt8 := reqH m t z x fr ch l ++ reqE fr ch z l
structure ReqOk (m t : ByteArray) (z : Int) (x : List Fld) (fr ch : Bool) (l : List UInt8) : Prop where
 lo : 0 < (reqH m t z x fr ch l).length
 hi : (reqH m t z x fr ch l).length ≤ 1000
 len : (reqW m t z x fr ch l).length ≤ 1800
 sm : SmallF (x ++ reqT fr ch z l)
 hq : (fmtReq m t z).size ≤ 4000000000
 good : ∀ r : List UInt8, r.length ≤ 30 → GoodB (reqW m t z x fr ch l ++ r)
 got : ∀ r : List UInt8, r.length ≤ 30 → ∃ s, CW zeroR (reqW m t z x fr ch l ++ r) = .got 0 s l (reqW m t z x fr ch l).length ∧ s.m = m ∧ s.t = t ∧ s.fr = fr
set_option maxRecDepth 100000 in
set_option maxHeartbeats 1000000 in
theorem reqWire_any (m t : ByteArray) (z : Int) (x : List Fld) (fr ch : Bool) (l : List UInt8) (fa ba : Option Addr) (fc bc : Nat) (w : World) (hm : m.size ≤ 1000000000) (ht : t.size ≤ 1000000000) (hx : FldsC w fa x fc) (hd : IsBytes w ba l bc) (hxl : x.length ≤ 900) (hl : l.length ≤ 60000) (hz : z = 0 ∨ z = 1) (h : ReqOk m t z x fr ch l) :
  Calls Tryz.prog 32 #[.agg #[.string m, .string t, .int .i64 z, .slice fa x.length fc, .bool fr, .slice ba l.length bc], .bool ch] w fun e w' => ∃ v, e = .returned v ∧ OwnM w.heap.size w' v (reqW m t z x fr ch l) ∧ Below w.heap.size w w' := by
 have h0 := h.lo
 have h1 := h.hi
 have h2 := h.sm
 have h3 := h.hq
 unfold reqW
 unfold reqH at h0 h1 ⊢
 cases fr with
 | false =>
  have e1 : x ++ reqT false ch z l = x := List.append_nil x
  have e2 : reqE false ch z l = l := if_neg (fun h => by cases h.1)
  rw [e1] at h0 h1 h2 ⊢
  rw [e2]
  exact wireN_any m t z x l fa ba fc bc ch w hm ht hx hd hxl (by omega) h2 h3 h0 (Nat.le_trans h1 (by decide))
 | true =>
  by_cases hc : ch = true ∧ z = 1
  · obtain ⟨rfl, rfl⟩ := hc
    exact wireC_any m t 1 x l fa ba fc bc true w hm ht hx hd hxl (by omega) h2 h3 h0 (Nat.le_trans h1 (by decide)) rfl rfl (l.length / 2) (reqE true true 1 l) rfl rfl hl
  · have e1 : reqT true ch z l = [((⟨#[67, 111, 110, 116, 101, 110, 116, 45, 76, 101, 110, 103, 116, 104]⟩ : ByteArray), fmtS 10 l.length)] := by unfold reqT; rw [if_pos rfl, if_neg hc]
    have e2 : reqE true ch z l = l := if_neg (fun h => hc h.2)
    rw [e1] at h0 h1 h2 ⊢
    rw [e2]
    exact wireL_any m t z x l fa ba fc bc ch w hm ht hx hd hxl (by omega) h2 h3 h0 (Nat.le_trans h1 (by decide)) (fun h h2 => hc ⟨h, h2⟩)
end Go.Proofs.YteoadfckcilalaaGreatDoor
namespace Go.Proofs.YteoadfckcilalaaGreatDoor
open Go.RowKit

set_option linter.unusedVariables false
theorem namesF_fold : (namesF.all fun s => !foldS s clN && !foldS s teN && !foldS s hostN) = true := by decide +kernel
theorem SrcF.fold {f : Fld} (h : SrcF f) : foldS f.1 clN = false ∧ foldS f.1 teN = false ∧ foldS f.1 hostN = false := by
 obtain ⟨s, hs, v, hv, rfl⟩ := h
 have := List.all_eq_true.1 namesF_fold s hs
 simp only [Bool.and_eq_true, Bool.not_eq_true'] at this
 exact ⟨this.1.1, this.1.2, this.2⟩
theorem valuesL_appR (x y : List Fld) (n : ByteArray) : valuesL (x ++ y) n = valuesL x n ++ valuesL y n := by
 unfold valuesL; rw [List.filter_append, List.map_append]
theorem valuesL_noneR {x : List Fld} {n : ByteArray} (h : ∀ f ∈ x, foldS f.1 n = false) : valuesL x n = [] := by
 unfold valuesL
 rw [List.filter_eq_nil_iff.2 (fun f hf => by rw [h f hf]; decide)]
 rfl
theorem hasL_noneR {x : List Fld} {n : ByteArray} (h : ∀ f ∈ x, foldS f.1 n = false) : hasL x n = false := by
 unfold hasL
 rw [List.any_eq_false]
 exact fun f hf => by rw [h f hf]; decide
theorem linesB_appR (x y : List Fld) : (linesB (x ++ y)).length = (linesB x).length + (linesB y).length := by
 unfold linesB; rw [List.flatMap_append, List.length_append]
theorem cook_line {s : ByteArray} (h : IdOk s) : (linesB [cookF s]).length = 33 := by
 have h1 : (cohort ++ s).data.toList = cohort.data.toList ++ s.data.toList := ba_app_list _ _
 have h2 : s.data.toList.length = 16 := by rw [Array.length_toList]; exact h.1
 show (lineB (cookF s) ++ []).length = 33
 rw [List.append_nil]
 unfold lineB
 show (_ ++ _ ++ (cohort ++ s).data.toList ++ _).length = 33
 rw [h1]
 simp only [List.length_append, h2]
 rfl
def FldOk (x : List Fld) (n : Nat) : Prop := (∀ f ∈ x, foldS f.1 clN = false ∧ foldS f.1 teN = false) ∧ (valuesL x hostN).length = 1 ∧ (linesB x).length ≤ n
theorem FldOk.add {x : List Fld} {n k : Nat} {f : Fld} (h : FldOk x n) (h1 : foldS f.1 clN = false) (h2 : foldS f.1 teN = false) (h3 : foldS f.1 hostN = false) (h4 : (linesB [f]).length = k) : FldOk (x ++ [f]) (n + k) := by
 refine ⟨fun g hg => ?_, ?_, ?_⟩
 · rcases List.mem_append.1 hg with h5 | h5
   · exact h.1 g h5
   · obtain rfl := List.mem_singleton.1 h5; exact ⟨h1, h2⟩
 · rw [valuesL_appR, List.length_append, h.2.1, valuesL_noneR (x := [f]) (fun g hg => by obtain rfl := List.mem_singleton.1 hg; exact h3)]; rfl
 · rw [linesB_appR, h4]; have := h.2.2; omega
theorem RF1.ok {x : List Fld} (h : RF1 x) : FldOk x 201 := by
 obtain ⟨y, h1, h2, rfl⟩ := h
 refine ⟨fun f hf => ?_, ?_, ?_⟩
 · rcases List.mem_append.1 hf with h | h
   · exact ⟨(h1 f h).fold.1, (h1 f h).fold.2.1⟩
   · obtain rfl := List.mem_singleton.1 h; exact ⟨by decide +kernel, by decide +kernel⟩
 · rw [valuesL_appR, List.length_append, valuesL_noneR (x := y) (fun f hf => (h1 f hf).fold.2.2)]
   have : (valuesL [hostF] hostN).length = 1 := by decide +kernel
   rw [this]; rfl
 · have h3 := linesB_tiny y (fun f hf => (h1 f hf).tiny)
   have h4 : (linesB [hostF]).length = 9 := by decide
   rw [linesB_appR, h4]; omega
theorem RF3.ok {x : List Fld} (h : RF3 x) : FldOk x 260 := by
 have h2 : ∀ {y : List Fld}, RF2 y → FldOk y 234 := fun {y} h => by
  rcases h with h | ⟨y, s, h1, h2, rfl⟩
  · exact ⟨h.ok.1, h.ok.2.1, Nat.le_trans h.ok.2.2 (by decide)⟩
  · exact h1.ok.add (f := cookF s) (by show foldS ⟨#[67, 111, 111, 107, 105, 101]⟩ clN = false; decide +kernel) (by show foldS ⟨#[67, 111, 111, 107, 105, 101]⟩ teN = false; decide +kernel) (by show foldS ⟨#[67, 111, 111, 107, 105, 101]⟩ hostN = false; decide +kernel) (cook_line h2)
 rcases h with h | ⟨y, h1, rfl⟩
 · exact ⟨(h2 h).1, (h2 h).2.1, Nat.le_trans (h2 h).2.2 (by decide)⟩
 · have h3 := (h2 h1).add (f := expF) (k := 22) (by decide +kernel) (by decide +kernel) (by decide +kernel) (by decide)
   exact ⟨h3.1, h3.2.1, Nat.le_trans h3.2.2 (by decide)⟩
theorem frame_none {x : List Fld} {n : Nat} (h : FldOk x n) (z : Int) : frameS z x 1 = (1, 0, 0) :=
 frameS_none (hasL_noneR fun f hf => (h.1 f hf).2) (valuesL_noneR fun f hf => (h.1 f hf).1)
theorem frame_len {x : List Fld} {n : Nat} (h : FldOk x n) (z : Int) (k : Nat) (hk : k ≤ 30) : frameS z (x ++ [((⟨#[67, 111, 110, 116, 101, 110, 116, 45, 76, 101, 110, 103, 116, 104]⟩ : ByteArray), fmtS 10 (k : Int))]) 1 = (2, (k : Int), 0) := by
 have hp : ∀ j : Fin 31, parseS 10 1000000000 (fmtS 10 (j.val : Int)) = ((j.val : Int), 0) := by decide +kernel
 have h1 : foldS ⟨#[67, 111, 110, 116, 101, 110, 116, 45, 76, 101, 110, 103, 116, 104]⟩ clN = true := by decide +kernel
 have h2 : foldS ⟨#[67, 111, 110, 116, 101, 110, 116, 45, 76, 101, 110, 103, 116, 104]⟩ teN = false := by decide +kernel
 have hv : valuesL (x ++ [((⟨#[67, 111, 110, 116, 101, 110, 116, 45, 76, 101, 110, 103, 116, 104]⟩ : ByteArray), fmtS 10 (k : Int))]) clN = [fmtS 10 (k : Int)] := by
  rw [valuesL_appR, valuesL_noneR fun f hf => (h.1 f hf).1]
  unfold valuesL
  simp [h1]
 rw [frameS_len (hasL_noneR fun f hf => by
  rcases List.mem_append.1 hf with h3 | h3
  · exact (h.1 f h3).2
  · obtain rfl := List.mem_singleton.1 h3; exact h2) hv, hp ⟨k, by omega⟩]
 rw [if_neg (by simp), if_pos rfl]
theorem frame_chunks {x : List Fld} {n : Nat} (h : FldOk x n) : frameS 1 (x ++ [((⟨#[84, 114, 97, 110, 115, 102, 101, 114, 45, 69, 110, 99, 111, 100, 105, 110, 103]⟩ : ByteArray), (⟨#[99, 104, 117, 110, 107, 101, 100]⟩ : ByteArray))]) 1 = (3, 0, 0) := by
 have h1 : foldS ⟨#[84, 114, 97, 110, 115, 102, 101, 114, 45, 69, 110, 99, 111, 100, 105, 110, 103]⟩ teN = true := by decide +kernel
 have h2 : foldS ⟨#[84, 114, 97, 110, 115, 102, 101, 114, 45, 69, 110, 99, 111, 100, 105, 110, 103]⟩ clN = false := by decide +kernel
 have hv : valuesL (x ++ [((⟨#[84, 114, 97, 110, 115, 102, 101, 114, 45, 69, 110, 99, 111, 100, 105, 110, 103]⟩ : ByteArray), (⟨#[99, 104, 117, 110, 107, 101, 100]⟩ : ByteArray))]) teN = [⟨#[99, 104, 117, 110, 107, 101, 100]⟩] := by
  rw [valuesL_appR, valuesL_noneR fun f hf => (h.1 f hf).2]
  unfold valuesL
  simp [h1]
 have hc : valuesL (x ++ [((⟨#[84, 114, 97, 110, 115, 102, 101, 114, 45, 69, 110, 99, 111, 100, 105, 110, 103]⟩ : ByteArray), (⟨#[99, 104, 117, 110, 107, 101, 100]⟩ : ByteArray))]) clN = [] := valuesL_noneR fun f hf => by
  rcases List.mem_append.1 hf with h3 | h3
  · exact (h.1 f h3).1
  · obtain rfl := List.mem_singleton.1 h3; exact h2
 have hb : chunkedB (listL [⟨#[99, 104, 117, 110, 107, 101, 100]⟩]) = true := by decide +kernel
 rw [frameS_te (by unfold hasL; rw [List.any_append]; simp [h1]), hv, hc, hb, if_neg (by simp)]
end Go.Proofs.YteoadfckcilalaaGreatDoor
namespace Go.Proofs.YteoadfckcilalaaGreatDoor
open Go.RowKit

set_option linter.unusedVariables false
theorem endGo_first : ∀ (l : List UInt8) (i q : Nat), (l.drop q).take 4 = crlf2 → endGo i l ≤ ((i + q + 4 : Nat) : Int)
 | [], i, q, h => by
  rw [List.drop_nil, List.take_nil] at h
  exact absurd h (by decide)
 | x :: r, i, q, h => by
  rw [endGo_cons]
  by_cases hc : (x :: r).take 4 = crlf2
  · rw [if_pos hc]; omega
  · rw [if_neg hc]
    cases q with
    | zero => exact absurd h hc
    | succ q =>
     have := endGo_first r (i + 1) q h
     omega
theorem goodB_front {h r : List UInt8} (h1 : endZ h = h.length) (h2 : 4 ≤ h.length) (h3 : h.length ≤ 400) (h4 : r.length ≤ 100) : GoodB (h ++ r) := fun p hp hpl hw => by
 have hE := (endS_end (endS_front (r := r) h1 h2 h3)).1
 have h5 := endGo_first (h ++ r) 0 (p - 4) hw
 have h6 : endZ (h ++ r) ≤ ((0 + (p - 4) + 4 : Nat) : Int) := h5
 rw [hE] at h6
 rw [List.length_append]
 omega
structure AddOk (T : List Fld) : Prop where
 al : allB T = true
 ho : valuesL T hostN = []
 li : (linesB T).length ≤ 28
 le : T.length ≤ 1
 sm : SmallF T
theorem addOk (fr ch : Bool) (z : Int) (l : List UInt8) (hl : l.length ≤ 30) : AddOk (reqT fr ch z l) := by
 have hp : ∀ j : Fin 31, fldB ⟨#[67, 111, 110, 116, 101, 110, 116, 45, 76, 101, 110, 103, 116, 104]⟩ (fmtS 10 (j.val : Int)) = true ∧ (fmtS 10 (j.val : Int)).size ≤ 3 := by decide +kernel
 have hk := hp ⟨l.length, by omega⟩
 unfold reqT
 split
 · split
   · exact ⟨by decide +kernel, by decide +kernel, by decide, by decide, fun f hf => by obtain rfl := List.mem_singleton.1 hf; exact ⟨by decide, by decide⟩⟩
   · refine ⟨?_, ?_, ?_, Nat.le_refl _, fun f hf => ?_⟩
     · unfold allB
       simp only [List.all_cons, List.all_nil, Bool.and_true]
       exact hk.1
     · exact valuesL_noneR fun f hf => by obtain rfl := List.mem_singleton.1 hf; show foldS ⟨#[67, 111, 110, 116, 101, 110, 116, 45, 76, 101, 110, 103, 116, 104]⟩ hostN = false; decide +kernel
     · show (lineB _ ++ []).length ≤ 28
       rw [List.append_nil]
       unfold lineB
       have h2 : (fmtS 10 (l.length : Int)).data.toList.length ≤ 3 := by rw [Array.length_toList]; exact hk.2
       simp only [List.length_append]
       have h3 : (⟨#[67, 111, 110, 116, 101, 110, 116, 45, 76, 101, 110, 103, 116, 104]⟩ : ByteArray).data.toList.length = 14 := rfl
       rw [h3]
       simp only [List.length_cons, List.length_nil]
       omega
     · obtain rfl := List.mem_singleton.1 hf
       exact ⟨by show 14 ≤ 1048576; decide, Nat.le_trans hk.2 (by decide)⟩
 · exact ⟨rfl, rfl, by decide, by decide, fun f hf => by cases hf⟩
theorem req_head {m t : ByteArray} {z : Int} {x T : List Fld} (hm : m ∈ methF) (ht : t ∈ targF) (hz : z = 0 ∨ z = 1) (hx : RF3 x) (hT : AddOk T) :
  headR (headB (fmtReq m t z) (x ++ T)) = (0, m, t, z, x ++ T) ∧ 4 ≤ (headB (fmtReq m t z) (x ++ T)).length ∧ (headB (fmtReq m t z) (x ++ T)).length ≤ 400 := by
 have hal : allB (x ++ T) = true := by
  unfold allB
  rw [List.all_append, Bool.and_eq_true]
  exact ⟨allB_yes fun f hf => (hx.made.1 f hf).1, hT.al⟩
 have hho : (valuesL (x ++ T) hostN).length = 1 := by rw [valuesL_appR, hT.ho, List.append_nil, hx.ok.2.1]
 obtain ⟨h0, h1⟩ := fmtReq_made hm ht hz
 have hb := headB_yes (s := fmtReq m t z) (x := x ++ T) (by omega) hal
 have hlen : (headB (fmtReq m t z) (x ++ T)).length = (fmtReq m t z).size + 2 + ((linesB x).length + (linesB T).length) + 2 := by
  have h3 : (fmtReq m t z).data.toList.length = (fmtReq m t z).size := by rw [Array.length_toList]; rfl
  rw [hb]
  simp only [List.length_append, List.length_cons, List.length_nil, linesB_appR, h3]
 refine ⟨?_, ?_, ?_⟩
 · rw [headR_made (meth_at hm).1 (targ_at ht).1 hz hal, if_neg (by rw [List.length_append]; have := hx.made.2; have := hT.le; omega), hho, if_neg (by omega)]
 · rw [hlen]; omega
 · rw [hlen]; have := hx.ok.2.2; have := hT.li; omega
theorem enc_short (p q : List UInt8) (hp : p.length ≤ 15) (hq : q.length ≤ 15) : (encodeS [p, q]).length ≤ 45 := by
 have hd : ∀ j : Fin 16, (digs 16 j.val).length ≤ 1 := by decide +kernel
 have h1 := hd ⟨p.length, by omega⟩
 have h2 := hd ⟨q.length, by omega⟩
 simp only at h1 h2
 rw [encodeS_eq]
 by_cases e1 : p = [] <;> by_cases e2 : q = [] <;> simp [encL, e1, e2] <;> omega
theorem req_cw {h e r : List UInt8} {m t : ByteArray} {z : Int} {xs : List Fld} {k j : Int} (hh : headR h = (0, m, t, z, xs)) (h4 : h.length ≤ 400) (hf : frameS z xs 1 = (k, j, 0)) (hj : j ≤ 100) :
  ∃ s : RS, s.m = m ∧ s.t = t ∧ s.fr = (!decide (k = 1)) ∧ s.fk = k ∧ s.left = j ∧ s.size = 0 ∧ s.ck = zeroC ∧ ¬ s.ph = 0 ∧ CW zeroR (h ++ (e ++ r)) = (bodyC s (e ++ r)).add [] h.length := by
 obtain ⟨h1, h2⟩ := headR_ends (h := h) (by rw [hh])
 have hE := endS_front (r := e ++ r) h1 h2 h4
 obtain ⟨s, hs⟩ : ∃ s : RS, s = { zeroR with m := m, t := t, z := z, xs := xs, fr := !decide (k = 1), fk := k, fl := j, left := j, size := 0, ck := zeroC, ph := 1 } := ⟨_, rfl⟩
 have hx : headX zeroR h 100 = ⟨0, s, 1, [], h.length⟩ := by
  unfold headX
  rw [if_neg (show ¬ zeroR.rep = true from by decide), hh, if_neg (by show ¬ (0 : Int) ≠ 0; decide)]
  dsimp only
  rw [hf]
  unfold finX
  rw [if_neg (by show ¬ (0 : Int) ≠ 0; decide), if_neg (by show ¬ (k = 2 ∧ (100 : Int) < j); omega), hs]
 refine ⟨s, by rw [hs], by rw [hs], by rw [hs], by rw [hs], by rw [hs], by rw [hs], by rw [hs], by rw [hs]; show ¬ (1 : Int) = 0; decide, ?_⟩
 rw [CW_head rfl hE, List.take_left, List.drop_left, hx, if_neg (fun h => h rfl)]
 rw [CW_body (by rw [hs]; show ¬ (1 : Int) = 0; decide)]
theorem reqOk_made (m t : ByteArray) (z : Int) (x : List Fld) (fr ch : Bool) (l : List UInt8) (hm : m ∈ methF) (ht : t ∈ targF) (hz : z = 0 ∨ z = 1) (hx : RF3 x) (hl : l.length ≤ 30) (hfr : fr = false → l = []) : ReqOk m t z x fr ch l := by
 have hT := addOk fr ch z l hl
 obtain ⟨hh, h4, h400⟩ := req_head hm ht hz hx hT
 obtain ⟨he1, he2⟩ := headR_ends (h := headB (fmtReq m t z) (x ++ reqT fr ch z l)) (by rw [hh])
 have hE : (reqE fr ch z l).length ≤ 45 := by
  unfold reqE
  split
  · exact enc_short _ _ (by rw [List.length_take]; omega) (by rw [List.length_drop]; omega)
  · omega
 refine ⟨?_, ?_, ?_, ?_, ?_, ?_, ?_⟩
 · unfold reqH; omega
 · unfold reqH; omega
 · unfold reqW reqH; rw [List.length_append]; omega
 · intro f hf
   rcases List.mem_append.1 hf with h | h
   · exact hx.tiny.small f h
   · exact hT.sm f h
 · have := (fmtReq_made hm ht hz).2; omega
 · intro r hr
   unfold reqW reqH
   rw [List.append_assoc]
   exact goodB_front he1 he2 h400 (by rw [List.length_append]; omega)
 · intro r hr
   unfold reqW reqH
   rw [List.append_assoc, List.length_append]
   cases fr with
   | false =>
    have hl0 := hfr rfl
    subst hl0
    have hf : frameS z (x ++ reqT false ch z []) 1 = (1, 0, 0) := by
     rw [show x ++ reqT false ch z [] = x from List.append_nil x]; exact frame_none hx.ok z
    obtain ⟨s, s1, s2, s3, s4, s5, _, _, _, hcw⟩ := req_cw (e := reqE false ch z []) (r := r) hh h400 hf (by decide)
    have hre : reqE false ch z [] = [] := if_neg (fun h => by cases h.1)
    refine ⟨s, ?_, s1, s2, by rw [s3]; rfl⟩
    rw [hcw]
    unfold bodyC
    rw [if_pos (.inl s4), s5, if_pos (show Int.toNat 0 ≤ _ from Nat.zero_le _), hre]
    rfl
   | true =>
    by_cases hc : ch = true ∧ z = 1
    · obtain ⟨rfl, rfl⟩ := hc
      obtain ⟨s, s1, s2, s3, s4, s5, _, s7, _, hcw⟩ := req_cw (e := reqE true true 1 l) (r := r) hh h400 (frame_chunks hx.ok) (by decide)
      have hfe := feed_enc r [l.take (l.length / 2), l.drop (l.length / 2)] [] 0 (fun d hd => by
       simp only [List.mem_cons, List.not_mem_nil, or_false] at hd
       rcases hd with rfl | rfl
       · rw [List.length_take]; omega
       · rw [List.length_drop]; omega)
      rw [← encodeS_eq, List.nil_append, Nat.zero_add, show [l.take (l.length / 2), l.drop (l.length / 2)].flatten = l by simp] at hfe
      refine ⟨s, ?_, s1, s2, by rw [s3]; rfl⟩
      rw [hcw]
      unfold bodyC
      rw [if_neg (by rw [s4]; decide), if_pos s4, s7, show reqE true true 1 l = encodeS [l.take (l.length / 2), l.drop (l.length / 2)] from rfl, hfe, if_pos rfl, if_pos rfl]
      rfl
    · have hT2 : reqT true ch z l = [((⟨#[67, 111, 110, 116, 101, 110, 116, 45, 76, 101, 110, 103, 116, 104]⟩ : ByteArray), fmtS 10 (l.length : Int))] := by unfold reqT; rw [if_pos rfl, if_neg hc]
      have hre : reqE true ch z l = l := if_neg (fun h => hc h.2)
      obtain ⟨s, s1, s2, s3, s4, s5, _, s7, _, hcw⟩ := req_cw (e := reqE true ch z l) (r := r) hh h400 (by rw [hT2]; exact frame_len hx.ok z l.length hl) (by omega)
      refine ⟨s, ?_, s1, s2, by rw [s3]; rfl⟩
      rw [hcw]
      unfold bodyC
      rw [if_pos (.inr s4), s5, hre, Int.toNat_natCast, if_pos (by rw [List.length_append]; omega), List.take_left]
      rfl
end Go.Proofs.YteoadfckcilalaaGreatDoor
namespace Go.Proofs.YteoadfckcilalaaGreatDoor
open Go.RowKit

set_option linter.unusedVariables false
def mis (a b c d : UInt8) : Nat := (if a = 13 then 0 else 1) + (if b = 10 then 0 else 1) + (if c = 13 then 0 else 1) + (if d = 10 then 0 else 1)
def winH : List UInt8 → Bool
 | a :: b :: c :: d :: _ => decide (2 ≤ mis a b c d)
 | _ => true
def winB : Nat → List UInt8 → Bool
 | 0, _ => true
 | _ + 1, [] => true
 | n + 1, a :: l => winH (a :: l) && winB n l
theorem winB_at : ∀ (n : Nat) (l : List UInt8) (q : Nat), winB n l = true → q < n → winH (l.drop q) = true
 | 0, _, _, _, h => by omega
 | n + 1, [], q, _, _ => by rw [List.drop_nil]; rfl
 | n + 1, a :: l, 0, h, _ => by
  unfold winB at h
  rw [Bool.and_eq_true] at h
  exact h.1
 | n + 1, a :: l, q + 1, h, hq => by
  unfold winB at h
  rw [Bool.and_eq_true] at h
  exact winB_at n l q h.2 (by omega)
theorem mis_set {a b c d x : UInt8} (h : 2 ≤ mis a b c d) : ∀ j, j < 4 → [a, b, c, d].set j x ≠ crlf2 := by
 intro j hj e
 have h2 : ∀ {p q r s : UInt8}, [p, q, r, s] = crlf2 → p = 13 ∧ q = 10 ∧ r = 13 ∧ s = 10 := fun e => by
  simpa [crlf2] using e
 unfold mis at h
 match j, hj with
 | 0, _ => obtain ⟨_, e1, e2, e3⟩ := h2 e; rw [if_pos e1, if_pos e2, if_pos e3] at h; split at h <;> omega
 | 1, _ => obtain ⟨e0, _, e2, e3⟩ := h2 e; rw [if_pos e0, if_pos e2, if_pos e3] at h; split at h <;> omega
 | 2, _ => obtain ⟨e0, e1, _, e3⟩ := h2 e; rw [if_pos e0, if_pos e1, if_pos e3] at h; split at h <;> omega
 | 3, _ => obtain ⟨e0, e1, e2, _⟩ := h2 e; rw [if_pos e0, if_pos e1, if_pos e2] at h; split at h <;> omega
theorem mis_same {a b c d : UInt8} (h : 2 ≤ mis a b c d) : [a, b, c, d] ≠ crlf2 := fun e => by
 have := mis_set (x := a) h 0 (by omega)
 exact this e
theorem goodB_set {b : List UInt8} {n : Nat} (h : winB n b = true) (hl : b.length ≤ n + 104) (i : Nat) (x : UInt8) : GoodB (b.set i x) := fun p h4 hp hw => by
 rw [List.length_set] at hp ⊢
 by_cases hq : p - 4 < n
 · exfalso
   have hwin := winB_at n b (p - 4) h hq
   obtain ⟨a0, a1, a2, a3, r, hr⟩ : ∃ a0 a1 a2 a3 r, b.drop (p - 4) = a0 :: a1 :: a2 :: a3 :: r := by
    have hl2 : 4 ≤ (b.drop (p - 4)).length := by rw [List.length_drop]; omega
    match hb : b.drop (p - 4), hl2 with
    | a0 :: a1 :: a2 :: a3 :: r, _ => exact ⟨a0, a1, a2, a3, r, rfl⟩
   rw [hr] at hwin
   have hm : 2 ≤ mis a0 a1 a2 a3 := of_decide_eq_true hwin
   by_cases hi : p - 4 ≤ i ∧ i < p
   · have e : ((b.set i x).drop (p - 4)).take 4 = [a0, a1, a2, a3].set (i - (p - 4)) x := by
      rw [List.drop_set, if_neg (by omega), hr]
      obtain ⟨j, hj, hj4⟩ : ∃ j, i - (p - 4) = j ∧ j < 4 := ⟨_, rfl, by omega⟩
      rw [hj]
      match j, hj4 with
      | 0, _ => rfl
      | 1, _ => rfl
      | 2, _ => rfl
      | 3, _ => rfl
     rw [e] at hw
     exact mis_set hm _ (by omega) hw
   · have e : ((b.set i x).drop (p - 4)).take 4 = [a0, a1, a2, a3] := by
      rw [List.drop_set]
      split
      · rw [hr]; rfl
      · rw [hr]
        obtain ⟨j, hj⟩ : ∃ j, i - (p - 4) = j + 4 := ⟨i - (p - 4) - 4, by omega⟩
        rw [hj]; rfl
     rw [e] at hw
     exact mis_same hm hw
 · exact .inr (by omega)
end Go.Proofs.YteoadfckcilalaaGreatDoor
namespace Go.Proofs.YteoadfckcilalaaGreatDoor
open Go.RowKit

set_option linter.unusedVariables false
def plB (w : List UInt8) : Bool := w.all fun c => !(c == 13) && !(c == 10)
theorem plB_cons {c : UInt8} {w : List UInt8} (h : plB (c :: w) = true) : ¬ c = 13 ∧ ¬ c = 10 ∧ plB w = true := by
 unfold plB at h ⊢
 rw [List.all_cons, Bool.and_eq_true, Bool.and_eq_true] at h
 exact ⟨fun e => by rw [e] at h; exact absurd h.1.1 (by decide), fun e => by rw [e] at h; exact absurd h.1.2 (by decide), h.2⟩
theorem win_front {a b : UInt8} {r : List UInt8} (ha : ¬ a = 13) (hb : ¬ b = 10) : winH (a :: b :: r) = true := by
 match r with
 | [] => rfl
 | [_] => rfl
 | c :: d :: r =>
  show decide (2 ≤ mis a b c d) = true
  rw [decide_eq_true_eq]
  unfold mis
  rw [if_neg ha, if_neg hb]
  omega
theorem win_back {a b c d : UInt8} {r : List UInt8} (hc : ¬ c = 13) (hd : ¬ d = 10) : winH (a :: b :: c :: d :: r) = true := by
 show decide (2 ≤ mis a b c d) = true
 rw [decide_eq_true_eq]
 unfold mis
 rw [if_neg hc, if_neg hd]
 omega
theorem winB_word (R : List UInt8) (n : Nat) (h : winB n (13 :: R) = true) : ∀ w : List UInt8, plB w = true → winB (w.length + n) (w ++ 13 :: R) = true
 | [], _ => by simpa using h
 | [a], hw => by
  obtain ⟨h1, _, _⟩ := plB_cons hw
  rw [show [a].length + n = n + 1 by simp; omega]
  show (winH (a :: 13 :: R) && winB n (13 :: R)) = true
  rw [win_front h1 (by decide), h]; rfl
 | a :: b :: w, hw => by
  obtain ⟨h1, _, h3⟩ := plB_cons hw
  obtain ⟨_, h5, _⟩ := plB_cons h3
  have ih := winB_word R n h (b :: w) h3
  rw [show (a :: b :: w).length + n = ((b :: w).length + n) + 1 by simp; omega]
  show (winH (a :: b :: (w ++ 13 :: R)) && winB _ ((b :: w) ++ 13 :: R)) = true
  rw [win_front h1 h5, ih]; rfl
theorem winB_crlf {c d : UInt8} {r : List UInt8} {n : Nat} (hc1 : ¬ c = 13) (hc2 : ¬ c = 10) (hd : ¬ d = 10) (h : winB n (c :: d :: r) = true) : winB (n + 2) (13 :: 10 :: c :: d :: r) = true := by
 show (winH (13 :: 10 :: c :: d :: r) && (winH (10 :: c :: d :: r) && winB n (c :: d :: r))) = true
 rw [win_back hc1 hd, win_front (by decide) hc2, h]; rfl
def flatW (ws : List (List UInt8)) : List UInt8 := ws.flatMap fun w => w ++ [13, 10]
theorem flatW_cons (w : List UInt8) (ws : List (List UInt8)) (S : List UInt8) : flatW (w :: ws) ++ S = w ++ 13 :: 10 :: (flatW ws ++ S) := by
 unfold flatW; simp
theorem flatW_len (w : List UInt8) (ws : List (List UInt8)) : (flatW (w :: ws)).length = w.length + 2 + (flatW ws).length := by
 unfold flatW; simp; omega
theorem winB_flat (S : List UInt8) : ∀ (ws : List (List UInt8)), ws ≠ [] → (∀ w ∈ ws, plB w = true ∧ 2 ≤ w.length) → winB ((flatW ws).length - 2) (flatW ws ++ 13 :: 10 :: S) = true
 | [], h, _ => absurd rfl h
 | [w], _, h => by
  have h1 := h w (List.mem_cons_self ..)
  rw [flatW_cons, flatW_len, show w.length + 2 + (flatW []).length - 2 = w.length + 0 from by show w.length + 2 + 0 - 2 = _; omega]
  exact winB_word _ 0 rfl w h1.1
 | w :: v :: ws, _, h => by
  have h1 := h w (List.mem_cons_self ..)
  have h2 := h v (List.mem_cons_of_mem _ (List.mem_cons_self ..))
  have ih := winB_flat S (v :: ws) (by simp) (fun u hu => h u (List.mem_cons_of_mem _ hu))
  have h3 : 2 ≤ (flatW (v :: ws)).length := by rw [flatW_len]; omega
  rw [flatW_cons, flatW_len, show w.length + 2 + (flatW (v :: ws)).length - 2 = w.length + (((flatW (v :: ws)).length - 2) + 2) by omega]
  refine winB_word _ _ ?_ w h1.1
  obtain ⟨c, d, v2, rfl⟩ : ∃ c d v2, v = c :: d :: v2 := by
   match v, h2.2 with
   | c :: d :: v2, _ => exact ⟨c, d, v2, rfl⟩
  obtain ⟨p1, p2, p3⟩ := plB_cons h2.1
  obtain ⟨_, p4, _⟩ := plB_cons p3
  rw [flatW_cons] at ih ⊢
  exact winB_crlf p1 p2 p4 ih
theorem goodB_flat {ws : List (List UInt8)} (h0 : ws ≠ []) (h : ∀ w ∈ ws, plB w = true ∧ 2 ≤ w.length) (S : List UInt8) (hS : S.length ≤ 100) (i : Nat) (x : UInt8) : GoodB ((flatW ws ++ 13 :: 10 :: S).set i x) := by
 refine goodB_set (winB_flat S ws h0 h) ?_ i x
 rw [List.length_append, List.length_cons, List.length_cons]
 omega
end Go.Proofs.YteoadfckcilalaaGreatDoor
namespace Go.Proofs.YteoadfckcilalaaGreatDoor
open Go.RowKit

set_option linter.unusedVariables false
theorem noCL_plB {w : List UInt8} (h : noCL w) : plB w = true := by
 unfold plB
 rw [List.all_eq_true]
 intro c hc
 obtain ⟨h1, h2⟩ := h c hc
 simp [h1, h2]
theorem flatW_words (ws : List (List UInt8)) : wordsB ws = flatW ws := rfl
theorem head_flat {s : ByteArray} {x : List Fld} (hs : noCL s.data.toList) (h2 : 2 ≤ s.size) (hx : allB x = true) :
  headB s x = flatW (s.data.toList :: x.map lineW) ++ [13, 10] ∧ ∀ w ∈ s.data.toList :: x.map lineW, plB w = true ∧ 2 ≤ w.length := by
 refine ⟨?_, fun w hw => ?_⟩
 · rw [headB_yes (by omega) hx, ← flatW_words, wordsB_cons, linesB_words x]
   simp
 · rcases List.mem_cons.1 hw with rfl | hw
   · exact ⟨noCL_plB hs, by rw [Array.length_toList]; exact h2⟩
   · obtain ⟨f, hf, rfl⟩ := List.mem_map.1 hw
     have h3 := hx
     unfold allB at h3
     refine ⟨noCL_plB (lineW_ok (List.all_eq_true.1 h3 f hf)).1, ?_⟩
     unfold lineW
     simp only [List.length_append, List.length_cons, List.length_nil]
     omega
theorem goodB_head {s : ByteArray} {x : List Fld} (hs : noCL s.data.toList) (h2 : 2 ≤ s.size) (hx : allB x = true) (S : List UInt8) (hS : S.length ≤ 100) (i : Nat) (c : UInt8) : GoodB ((headB s x ++ S).set i c) := by
 obtain ⟨h1, h3⟩ := head_flat hs h2 hx
 rw [h1, List.append_assoc]
 exact goodB_flat (by simp) h3 S hS i c
theorem goodB_late {b : List UInt8} {n : Nat} (h : ∀ q, 22 ≤ q → q < n → winH (b.drop q) = true) (hl : b.length ≤ n + 104) (i : Nat) (x : UInt8) : GoodB (b.set i x) := fun p h4 hp hw => by
 rw [List.length_set] at hp ⊢
 by_cases h25 : p ≤ 25
 · exact .inl h25
 by_cases hq : p - 4 < n
 · exfalso
   have hwin := h (p - 4) (by omega) hq
   obtain ⟨a0, a1, a2, a3, r, hr⟩ : ∃ a0 a1 a2 a3 r, b.drop (p - 4) = a0 :: a1 :: a2 :: a3 :: r := by
    have hl2 : 4 ≤ (b.drop (p - 4)).length := by rw [List.length_drop]; omega
    match hb : b.drop (p - 4), hl2 with
    | a0 :: a1 :: a2 :: a3 :: r, _ => exact ⟨a0, a1, a2, a3, r, rfl⟩
   rw [hr] at hwin
   have hm : 2 ≤ mis a0 a1 a2 a3 := of_decide_eq_true hwin
   by_cases hi : p - 4 ≤ i ∧ i < p
   · have e : ((b.set i x).drop (p - 4)).take 4 = [a0, a1, a2, a3].set (i - (p - 4)) x := by
      rw [List.drop_set, if_neg (by omega), hr]
      obtain ⟨j, hj, hj4⟩ : ∃ j, i - (p - 4) = j ∧ j < 4 := ⟨_, rfl, by omega⟩
      rw [hj]
      match j, hj4 with
      | 0, _ => rfl
      | 1, _ => rfl
      | 2, _ => rfl
      | 3, _ => rfl
     rw [e] at hw
     exact mis_set hm _ (by omega) hw
   · have e : ((b.set i x).drop (p - 4)).take 4 = [a0, a1, a2, a3] := by
      rw [List.drop_set]
      split
      · rw [hr]; rfl
      · rw [hr]
        obtain ⟨j, hj⟩ : ∃ j, i - (p - 4) = j + 4 := ⟨i - (p - 4) - 4, by omega⟩
        rw [hj]; rfl
     rw [e] at hw
     exact mis_same hm hw
 · exact .inr (by omega)
def interF : List UInt8 := [72, 84, 84, 80, 47, 49, 46, 49, 32, 49, 48, 48, 32, 67, 111, 110, 116, 105, 110, 117, 101, 13, 10, 13, 10]
theorem goodB_inter {s : ByteArray} {x : List Fld} (hs : noCL s.data.toList) (h2 : 2 ≤ s.size) (hx : allB x = true) (S : List UInt8) (hS : S.length ≤ 100) (i : Nat) (c : UInt8) : GoodB ((interF ++ (headB s x ++ S)).set i c) := by
 obtain ⟨h1, h3⟩ := head_flat hs h2 hx
 have hw := winB_flat S (s.data.toList :: x.map lineW) (by simp) h3
 obtain ⟨a, b, r, hr⟩ : ∃ a b r, s.data.toList = a :: b :: r := by
  have hl : 2 ≤ s.data.toList.length := by rw [Array.length_toList]; exact h2
  match hd : s.data.toList, hl with
  | a :: b :: r, _ => exact ⟨a, b, r, rfl⟩
 have ha := hs a (by rw [hr]; exact List.mem_cons_self ..)
 have hb := hs b (by rw [hr]; exact List.mem_cons_of_mem _ (List.mem_cons_self ..))
 have hB : ∃ r2, headB s x ++ S = a :: b :: r2 := by
  rw [h1, hr]
  exact ⟨_, rfl⟩
 have hlen : (headB s x ++ S).length = (flatW (s.data.toList :: x.map lineW)).length + 2 + S.length := by
  rw [h1]; simp only [List.length_append, List.length_cons, List.length_nil]
 have hf2 : 2 ≤ (flatW (s.data.toList :: x.map lineW)).length := by rw [flatW_len]; omega
 have hw2 : winB ((flatW (s.data.toList :: x.map lineW)).length - 2) (headB s x ++ S) = true := by
  rw [h1, List.append_assoc]; exact hw
 refine goodB_late (n := 25 + ((flatW (s.data.toList :: x.map lineW)).length - 2)) (fun q hq hqn => ?_) (by rw [List.length_append, hlen]; show 25 + _ ≤ _; omega) i c
 by_cases h25 : 25 ≤ q
 · obtain ⟨p, rfl⟩ : ∃ p, q = 25 + p := ⟨q - 25, by omega⟩
   rw [show interF ++ (headB s x ++ S) = interF ++ (headB s x ++ S) from rfl, ← List.drop_drop, show (interF ++ (headB s x ++ S)).drop 25 = headB s x ++ S from rfl]
   exact winB_at _ _ p hw2 (by omega)
 · obtain ⟨r2, hB⟩ := hB
   rw [hB]
   have h4 : q = 22 ∨ q = 23 ∨ q = 24 := by omega
   rcases h4 with rfl | rfl | rfl
   · exact win_front (by decide) (by decide)
   · exact win_back ha.1 hb.2
   · exact win_front (by decide) ha.2
end Go.Proofs.YteoadfckcilalaaGreatDoor
namespace Go.Proofs.YteoadfckcilalaaGreatDoor
open Go.RowKit

set_option linter.unusedVariables false
theorem fmtReq_two {m t : ByteArray} {z : Int} (hm : tokS m = true) (ht : targetS t = true) (hz : z = 0 ∨ z = 1) : 2 ≤ (fmtReq m t z).size := by
 unfold fmtReq
 rw [if_pos ⟨hm, ht, by omega, by omega⟩]
 simp only [ByteArray.size_append]
 have e1 : http1.size = 8 := rfl
 omega
theorem allB_req {x T : List Fld} (hx : RF3 x) (hT : AddOk T) : allB (x ++ T) = true := by
 unfold allB
 rw [List.all_append, Bool.and_eq_true]
 exact ⟨allB_yes fun f hf => (hx.made.1 f hf).1, hT.al⟩
theorem goodB_req {m t : ByteArray} {z : Int} {x : List Fld} {fr ch : Bool} {l : List UInt8} (hm : m ∈ methF) (ht : t ∈ targF) (hz : z = 0 ∨ z = 1) (hx : RF3 x) (hl : l.length ≤ 30) (S : List UInt8) (hS : S.length ≤ 30) (i : Nat) (c : UInt8) : GoodB ((reqW m t z x fr ch l ++ S).set i c) := by
 have hT := addOk fr ch z l hl
 have hE : (reqE fr ch z l).length ≤ 45 := by
  unfold reqE
  split
  · exact enc_short _ _ (by rw [List.length_take]; omega) (by rw [List.length_drop]; omega)
  · omega
 unfold reqW reqH
 rw [List.append_assoc]
 exact goodB_head (fmtReq_line (meth_at hm).1 (targ_at ht).1 hz).1 (fmtReq_two (meth_at hm).1 (targ_at ht).1 hz) (allB_req hx hT) _ (by rw [List.length_append]; omega) i c
theorem fmtRep_two {st z : Int} {r : ByteArray} (h0 : 100 ≤ st) (h1 : st ≤ 599) (hz : z = 0 ∨ z = 1) (hr : visS r = true) : 2 ≤ (fmtRep st r z).size := by
 unfold fmtRep
 rw [if_pos ⟨h0, h1, by omega, by omega, hr⟩]
 simp only [ByteArray.size_append]
 have e1 : 2 ≤ http0.size := by decide
 omega
theorem goodB_rep {st z : Int} {r : ByteArray} {x : List Fld} (h0 : 100 ≤ st) (h1 : st ≤ 599) (hz : z = 0 ∨ z = 1) (hr : visS r = true) (hx : allB x = true) (S : List UInt8) (hS : S.length ≤ 100) (i : Nat) (c : UInt8) :
  GoodB ((headB (fmtRep st r z) x ++ S).set i c) ∧ GoodB ((interF ++ (headB (fmtRep st r z) x ++ S)).set i c) :=
 ⟨goodB_head (fmtRep_line h0 h1 hz hr) (fmtRep_two h0 h1 hz hr) hx S hS i c, goodB_inter (fmtRep_line h0 h1 hz hr) (fmtRep_two h0 h1 hz hr) hx S hS i c⟩
theorem goodB_unset {b : List UInt8} (h : ∀ i c, GoodB (b.set i c)) : GoodB b := by
 have := h b.length 0
 rwa [List.set_eq_of_length_le (Nat.le_refl _)] at this
end Go.Proofs.YteoadfckcilalaaGreatDoor
namespace Go.Proofs.YteoadfckcilalaaGreatDoor
open Go.RowKit

set_option linter.unusedVariables false
def garbF : List UInt8 := [72, 84, 84, 80, 47, 49, 46, 49, 32, 50, 120, 48, 32, 110, 111, 13, 10, 13, 10]
structure RepP (st z : Int) (r : ByteArray) (x : List Fld) : Prop where
 lo : 100 ≤ st
 hi : st ≤ 599
 zz : z = 0 ∨ z = 1
 vi : visS r = true
 al : allB x = true
 sz : (fmtRep st r z).size ≤ 40
 li : (linesB x).length ≤ 300
 sm : SmallF x
 xl : x.length ≤ 10
def RepF (b : List UInt8) : Prop := b = garbF ∨ ∃ st z r x e, RepP st z r x ∧ e.length ≤ 60 ∧ (b = headB (fmtRep st r z) x ++ e ∨ b = interF ++ (headB (fmtRep st r z) x ++ e))
theorem RepP.len {st z : Int} {r : ByteArray} {x : List Fld} (h : RepP st z r x) : 2 ≤ (headB (fmtRep st r z) x).length ∧ (headB (fmtRep st r z) x).length ≤ 400 := by
 have h2 := fmtRep_two h.lo h.hi h.zz h.vi
 have h3 : (fmtRep st r z).data.toList.length = (fmtRep st r z).size := by rw [Array.length_toList]; rfl
 have h4 := h.sz
 have h5 := h.li
 rw [headB_yes (by omega) h.al]
 simp only [List.length_append, List.length_cons, List.length_nil]
 omega
theorem RepF.len {b : List UInt8} (h : RepF b) : 0 < b.length ∧ b.length ≤ 500 := by
 rcases h with rfl | ⟨st, z, r, x, e, hp, he, rfl | rfl⟩
 · exact ⟨by decide, by decide⟩
 · have := hp.len
   rw [List.length_append]; omega
 · have := hp.len
   have e1 : interF.length = 25 := rfl
   rw [List.length_append, List.length_append, e1]; omega
theorem RepF.good {b : List UInt8} (h : RepF b) (S : List UInt8) (hS : S.length ≤ 30) (i : Nat) (c : UInt8) : GoodB ((b ++ S).set i c) := by
 rcases h with rfl | ⟨st, z, r, x, e, hp, he, rfl | rfl⟩
 · refine goodB_short ?_
   have e1 : garbF.length = 19 := rfl
   rw [List.length_set, List.length_append, e1]; omega
 · rw [List.append_assoc]
   exact (goodB_rep hp.lo hp.hi hp.zz hp.vi hp.al (e ++ S) (by rw [List.length_append]; omega) i c).1
 · rw [List.append_assoc, List.append_assoc]
   exact goodB_inter (fmtRep_line hp.lo hp.hi hp.zz hp.vi) (fmtRep_two hp.lo hp.hi hp.zz hp.vi) hp.al (e ++ S) (by rw [List.length_append]; omega) i c
def StrF (b : List UInt8) : Prop := RepF b ∨ ∃ m t z x fr ch l, m ∈ methF ∧ t ∈ targF ∧ (z = 0 ∨ z = 1) ∧ RF3 x ∧ l.length ≤ 30 ∧ (fr = false → l = []) ∧ b = reqW m t z x fr ch l
theorem StrF.good {b : List UInt8} (h : StrF b) (S : List UInt8) (hS : S.length ≤ 30) (i : Nat) (c : UInt8) : GoodB ((b ++ S).set i c) := by
 rcases h with h | ⟨m, t, z, x, fr, ch, l, hm, ht, hz, hx, hl, hfr, rfl⟩
 · exact h.good S hS i c
 · exact goodB_req hm ht hz hx hl S hS i c
theorem StrF.good0 {b : List UInt8} (h : StrF b) (S : List UInt8) (hS : S.length ≤ 30) : GoodB (b ++ S) := goodB_unset fun i c => h.good S hS i c
theorem StrF.len {b : List UInt8} (h : StrF b) : b.length ≤ 1800 := by
 rcases h with h | ⟨m, t, z, x, fr, ch, l, hm, ht, hz, hx, hl, hfr, rfl⟩
 · have := h.len; omega
 · exact (reqOk_made m t z x fr ch l hm ht hz hx hl hfr).len
def stF : List Int := [200, 200, 200, 404, 500, 503, 204, 304]
def reas3 : List ByteArray := [⟨#[79, 75]⟩, ⟨#[]⟩, ⟨#[97, 32, 98]⟩]
theorem stF_ok : (stF.all fun st => decide (100 ≤ st ∧ st ≤ 599) && reas3.all fun r => visS r && decide ((fmtRep st r 0).size ≤ 40) && decide ((fmtRep st r 1).size ≤ 40)) = true := by decide +kernel
structure AddR (T : List Fld) : Prop where
 al : allB T = true
 li : (linesB T).length ≤ 60
 le : T.length ≤ 2
 sm : SmallF T
theorem repP_made {st z : Int} {r : ByteArray} {y T : List Fld} (hs : st ∈ stF) (hr : r ∈ reas3) (hz : z = 0 ∨ z = 1) (hy : ∀ f ∈ y, SrcF f) (hl : y.length ≤ 2) (hT : AddR T) : RepP st z r (y ++ T) := by
 have h1 := List.all_eq_true.1 stF_ok st hs
 rw [Bool.and_eq_true, decide_eq_true_eq] at h1
 have h2 := List.all_eq_true.1 h1.2 r hr
 simp only [Bool.and_eq_true, decide_eq_true_eq] at h2
 refine ⟨h1.1.1, h1.1.2, hz, h2.1.1, ?_, ?_, ?_, fun f hf => ?_, ?_⟩
 · unfold allB
   rw [List.all_append, Bool.and_eq_true]
   exact ⟨allB_yes fun f hf => ((hy f hf).made).1, hT.al⟩
 · rcases hz with rfl | rfl
   · exact h2.1.2
   · exact h2.2
 · have h3 := linesB_tiny y fun f hf => (hy f hf).tiny
   have := hT.li
   rw [linesB_appR]; omega
 · rcases List.mem_append.1 hf with h | h
   · have := (hy f h).tiny
     exact ⟨by omega, by omega⟩
   · exact hT.sm f h
 · have := hT.le
   rw [List.length_append]; omega
theorem addR_nil : AddR [] := ⟨rfl, by decide, by decide, fun f hf => by cases hf⟩
def twoCL : List Fld := [((⟨#[67, 111, 110, 116, 101, 110, 116, 45, 76, 101, 110, 103, 116, 104]⟩ : ByteArray), (⟨#[49]⟩ : ByteArray)), ((⟨#[67, 111, 110, 116, 101, 110, 116, 45, 76, 101, 110, 103, 116, 104]⟩ : ByteArray), (⟨#[50]⟩ : ByteArray))]
theorem addR_two : AddR twoCL := ⟨by decide +kernel, by decide, by decide, fun f hf => by
 unfold twoCL at hf
 simp only [List.mem_cons, List.not_mem_nil, or_false] at hf
 rcases hf with rfl | rfl <;> exact ⟨by decide, by decide⟩⟩
def teF : List Fld := [((⟨#[84, 114, 97, 110, 115, 102, 101, 114, 45, 69, 110, 99, 111, 100, 105, 110, 103]⟩ : ByteArray), (⟨#[99, 104, 117, 110, 107, 101, 100]⟩ : ByteArray))]
theorem addR_te : AddR teF := ⟨by decide +kernel, by decide, by decide, fun f hf => by
 unfold teF at hf
 obtain rfl := List.mem_singleton.1 hf; exact ⟨by decide, by decide⟩⟩
theorem cl_nums : ∀ j : Fin 41, (fldB ⟨#[67, 111, 110, 116, 101, 110, 116, 45, 76, 101, 110, 103, 116, 104]⟩ (fmtS 10 (j.val : Int)) && decide ((fmtS 10 (j.val : Int)).size ≤ 3)) = true := by decide +kernel
def clF (n : Nat) : List Fld := [((⟨#[67, 111, 110, 116, 101, 110, 116, 45, 76, 101, 110, 103, 116, 104]⟩ : ByteArray), fmtS 10 (n : Int))]
theorem addR_cl {n : Nat} (h : n ≤ 40) : AddR (clF n) := by
 have hk := cl_nums ⟨n, by omega⟩
 simp only [Bool.and_eq_true, decide_eq_true_eq] at hk
 refine ⟨?_, ?_, by show 1 ≤ 2; decide, fun f hf => ?_⟩
 · unfold allB clF
   simp only [List.all_cons, List.all_nil, Bool.and_true]
   exact hk.1
 · show (lineB _ ++ []).length ≤ 60
   rw [List.append_nil]
   unfold lineB
   have h2 : (fmtS 10 (n : Int)).data.toList.length ≤ 3 := by rw [Array.length_toList]; exact hk.2
   simp only [List.length_append]
   have h3 : (⟨#[67, 111, 110, 116, 101, 110, 116, 45, 76, 101, 110, 103, 116, 104]⟩ : ByteArray).data.toList.length = 14 := rfl
   rw [h3]
   simp only [List.length_cons, List.length_nil]
   omega
 · unfold clF at hf
   obtain rfl := List.mem_singleton.1 hf
   exact ⟨by show 14 ≤ _; decide, Nat.le_trans hk.2 (by decide)⟩
theorem enc_one (p : List UInt8) (hp : p.length ≤ 40) : (encodeS [p]).length ≤ 60 := by
 have hd : ∀ j : Fin 41, (digs 16 j.val).length ≤ 2 := by decide +kernel
 have h1 := hd ⟨p.length, by omega⟩
 simp only at h1
 rw [encodeS_eq]
 by_cases e1 : p = [] <;> simp [encL, e1] <;> omega
end Go.Proofs.YteoadfckcilalaaGreatDoor
namespace Go.Proofs.YteoadfckcilalaaGreatDoor
open Go.RowKit

set_option linter.unusedVariables false
def cells8 : Array Value := #[.int .i64 200, .int .i64 200, .int .i64 200, .int .i64 404, .int .i64 500, .int .i64 503, .int .i64 204, .int .i64 304]
theorem cells8_at : ∀ k : Fin 8, ∃ st ∈ stF, cells8[k.val]? = some (.int .i64 st) := by
 intro k
 match k with
 | ⟨0, _⟩ => exact ⟨200, by decide, rfl⟩
 | ⟨1, _⟩ => exact ⟨200, by decide, rfl⟩
 | ⟨2, _⟩ => exact ⟨200, by decide, rfl⟩
 | ⟨3, _⟩ => exact ⟨404, by decide, rfl⟩
 | ⟨4, _⟩ => exact ⟨500, by decide, rfl⟩
 | ⟨5, _⟩ => exact ⟨503, by decide, rfl⟩
 | ⟨6, _⟩ => exact ⟨204, by decide, rfl⟩
 | ⟨7, _⟩ => exact ⟨304, by decide, rfl⟩
def StI (B : Nat) (w : World) (v : Value) : Prop := ∃ b, v = .slice (some ⟨b, 0, none⟩) 8 8 ∧ B ≤ b ∧ w.heap[b]? = some (.cells cells8 3 (0, 0))
def StP (B : Nat) (w : World) (v : Value) : Prop := ∃ b k, v = .pointer (some ⟨b, k, none⟩) ∧ B ≤ b ∧ k < 8 ∧ w.heap[b]? = some (.cells cells8 3 (0, 0))
def FldS (B : Nat) (w : World) (v : Value) : Prop := ∃ y, OwnF B w v y ∧ y.length ≤ 2 ∧ ∀ f ∈ y, SrcF f
def AggA (B : Nat) (w : World) (v : Value) : Prop := ∃ st r y fa fc, v = .agg #[.int .i64 st, .string r, .int .i64 1, .slice fa (List.length y) fc, .slice none 0 0] ∧ st ∈ stF ∧ r ∈ reas3 ∧ OwnF B w (.slice fa y.length fc) y ∧ y.length ≤ 2 ∧ ∀ f ∈ y, SrcF f
def ARowR (B : Nat) (w : World) (v : Value) : Prop := ∃ q, v = .pointer (some ⟨q, 0, none⟩) ∧ B ≤ q ∧ w.heap[q]? = some (.cells #[.int .i64 0, .string ⟨#[]⟩, .int .i64 0, .slice none 0 0, .slice none 0 0] 31 (0, 0))
theorem StI.grow {B : Nat} {w w' : World} {v : Value} {row : Option Nat} (h : StI B w v) (hg : w.grownBy w' row) (hr : ∀ k, row = some k → k < B) : StI B w' v := by
 obtain ⟨b, h1, h2, h3⟩ := h
 exact ⟨b, h1, h2, (hg.block b (lt_row h3) (fun e => by have := hr b e.symm; omega)).trans h3⟩
theorem StP.grow {B : Nat} {w w' : World} {v : Value} {row : Option Nat} (h : StP B w v) (hg : w.grownBy w' row) (hr : ∀ k, row = some k → k < B) : StP B w' v := by
 obtain ⟨b, k, h1, h2, h4, h3⟩ := h
 exact ⟨b, k, h1, h2, h4, (hg.block b (lt_row h3) (fun e => by have := hr b e.symm; omega)).trans h3⟩
theorem FldS.grow {B : Nat} {w w' : World} {v : Value} {row : Option Nat} (h : FldS B w v) (hg : w.grownBy w' row) (hr : ∀ k, row = some k → k < B) : FldS B w' v := by
 obtain ⟨y, h1, h2, h3⟩ := h
 exact ⟨y, h1.grown hg (fun k hk e => by have := (h1.lt hk).1; have := hr k e.symm; omega), h2, h3⟩
theorem ARowR.grow {B : Nat} {w w' : World} {v : Value} {row : Option Nat} (h : ARowR B w v) (hg : w.grownBy w' row) (hr : ∀ k, row = some k → k < B) : ARowR B w' v := by
 obtain ⟨b, h1, h2, h3⟩ := h
 exact ⟨b, h1, h2, (hg.block b (lt_row h3) (fun e => by have := hr b e.symm; omega)).trans h3⟩
theorem StrsIn.growR {B b : Nat} {w w' : World} {l : List ByteArray} {row : Option Nat} (h : StrsIn w (some ⟨b, 0, none⟩) l) (hb : B ≤ b) (hg : w.grownBy w' row) (hr : ∀ k, row = some k → k < B) : StrsIn w' (some ⟨b, 0, none⟩) l := fun j hj => by
 obtain ⟨x, e, hc⟩ := h j hj
 obtain rfl := Option.some.inj e
 refine ⟨_, rfl, ?_⟩
 have hlt := lt_cell hc
 have e2 : ((⟨b, 0, none⟩ : Addr).add j).block = b := add_blockF _ _
 rw [World.cell?_of_block (hg.block _ hlt (by rw [e2]; intro e; have := hr b e.symm; omega))]
 exact hc
def Spec.stI (B : Nat) : Spec := ⟨fun v w => StI B w v, fun _ _ _ h hb => h.grow (grownBy_below (row := none) hb) (fun k e => by cases e)⟩
def Spec.stP (B : Nat) : Spec := ⟨fun v w => StP B w v, fun _ _ _ h hb => h.grow (grownBy_below (row := none) hb) (fun k e => by cases e)⟩
def Spec.fldS (B : Nat) : Spec := ⟨fun v w => FldS B w v, fun _ _ _ h hb => h.grow (grownBy_below (row := none) hb) (fun k e => by cases e)⟩
def Spec.arowS (B : Nat) : Spec := ⟨fun v w => ARowR B w v, fun _ _ _ h hb => h.grow (grownBy_below (row := none) hb) (fun k e => by cases e)⟩
def Spec.aggA (B : Nat) : Spec := ⟨fun v w => AggA B w v, fun _ _ _ h hb => by
 obtain ⟨st, r, y, fa, fc, h1, h2, h3, h4, h5⟩ := h
 exact ⟨st, r, y, fa, fc, h1, h2, h3, h4.keep hb, h5⟩⟩
def Spec.natB (m : Nat) : Spec := ⟨fun v _ => ∃ k : Nat, k < m ∧ v = .int .i64 k, fun _ _ _ h _ => h⟩
def Spec.stV : Spec := ⟨fun v _ => ∃ st ∈ stF, v = .int .i64 st, fun _ _ _ h _ => h⟩
section
variable {Q : Exit → Act → World → Prop} {act : Act} {w : World} {o : Oper} {s : Spec} {K : Act → World → Prop}
theorem loc_ints8 (ho : o.op = .buildSlice 22 8 #[(0, .const (.int .i64 200)), (1, .const (.int .i64 200)), (2, .const (.int .i64 200)), (3, .const (.int .i64 404)), (4, .const (.int .i64 500)), (5, .const (.int .i64 503)), (6, .const (.int .i64 204)), (7, .const (.int .i64 304))]) {B : Nat} (hB : B ≤ w.heap.size) (hs : ∀ v w', StI B w' v → s.p v w') :
  o.wp Tryz.prog act w (fun a' w' => ∃ v, a' = act.put o.dst v ∧ Below w.heap.size w w' ∧ s.p v w') Q := by
 obtain ⟨i0, hi, hz0, hz1, hz2⟩ := info_parts (show (Tryz.prog.info? 3).map (fun i => (i.zero, i.size, i.bytes)) = some (some (.int .i64 0), 1, 8) by kernel_rfl)
 have hrun := run_buildSlice (P := Tryz.prog) w 22 3 8 #[(0, .int .i64 200), (1, .int .i64 200), (2, .int .i64 200), (3, .int .i64 404), (4, .int .i64 500), (5, .int .i64 503), (6, .int .i64 204), (7, .int .i64 304)] cells8 i0 _ Tryz.underlying22 hi hz0 (by rw [hz1]; decide) (by rw [hz1]; decide) (by rw [hz1]; simp [Instr.fill, Value.cells, Array.range_succ, cells8, show Array.range 0 = #[] from rfl])
 refine loc_run (v := .slice (some ⟨w.heap.size, 0, none⟩) 8 8) (w' := w.alloc (.cells cells8 3)) ?_ (below_oneF _ _) (hs _ _ ⟨_, rfl, hB, heap_alloc_new _ _⟩)
 unfold execOp
 simp only [ho, List.map_toArray, List.map_cons, List.map_nil]
 rw [Sem.run_bind]
 exact congrArg (fun r => Result.andThen r fun u w' => Sem.run Tryz.prog (pure (Next.value u)) w') hrun
theorem loc_allocAr (ho : o.op = .alloc 31) {B : Nat} (hB : B ≤ w.heap.size) (hs : ∀ v w', ARowR B w' v → s.p v w') :
  o.wp Tryz.prog act w (fun a' w' => ∃ v, a' = act.put o.dst v ∧ Below w.heap.size w w' ∧ s.p v w') Q := by
 have hz : (Tryz.prog.info? 31).bind (·.zero) = some (.agg #[.int .i64 0, .string ⟨#[]⟩, .int .i64 0, .slice none 0 0, .slice none 0 0]) := by kernel_rfl
 refine loc_run (v := .pointer (some ⟨w.heap.size, 0, none⟩)) (w' := w.alloc (.cells #[.int .i64 0, .string ⟨#[]⟩, .int .i64 0, .slice none 0 0, .slice none 0 0] 31)) ?_ (below_oneF _ _) (hs _ _ ⟨_, rfl, hB, heap_alloc_new _ _⟩)
 cases hq : Tryz.prog.info? 31 with
 | none => rw [hq] at hz; cases hz
 | some i =>
  rw [hq] at hz
  simp only [Option.bind_some] at hz
  unfold execOp
  simp [ho, Instr.alloc, zeroValue, typeInfo, hq, hz, newRow, newVar, Value.cells]
theorem loc_buildA4 {x y z : Operand} (ho : o.op = .build 31 #[(0, x), (1, y), (2, .const (.int .i64 1)), (3, z)]) {st : Int} {r : ByteArray} {ad : Option Addr} {n c : Nat} (hx : act.eval x = .int .i64 st) (hy : act.eval y = .string r) (hz : act.eval z = .slice ad n c)
  (hs : s.p (.agg #[.int .i64 st, .string r, .int .i64 1, .slice ad n c, .slice none 0 0]) w) :
  o.wp Tryz.prog act w (fun a' w' => ∃ v, a' = act.put o.dst v ∧ Below w.heap.size w w' ∧ s.p v w') Q := by
 refine loc_run (v := .agg #[.int .i64 st, .string r, .int .i64 1, .slice ad n c, .slice none 0 0]) ?_ (Below.refl _ _) hs
 have hb := run_build (P := Tryz.prog) w 31 #[(0, .int .i64 st), (1, .string r), (2, .int .i64 1), (3, .slice ad n c)] #[.int .i64 st, .string r, .int .i64 1, .slice ad n c, .slice none 0 0] (by kernel_rfl)
 unfold execOp
 simp only [ho, List.map_toArray, List.map_cons, List.map_nil, hx, hy, hz]
 rw [Sem.run_bind]
 exact congrArg (fun r => Result.andThen r fun u w' => Sem.run Tryz.prog (pure (Next.value u)) w') hb
end
structure RpK (B g : Nat) (a : Option Addr) (n c : Nat) (w0 : World) (q : Nat) (vF : Value) (x : List Fld) (cs : Array Value) (w : World) : Prop where
 row : w.heap[q]? = some (.cells cs 31 (0, 0))
 own : OwnF B w vF x
 src : Src w g a n c
 grown : w0.grownBy w (some g)
structure RpN (B g : Nat) (a : Option Addr) (n : Nat) (w0 : World) (q : Nat) : Prop where
 lo : g < B
 src : ∀ x, a = some x → 0 < n → x.block < B
 eq : B = w0.heap.size
 q : B ≤ q
theorem ownF_ne {B : Nat} {w : World} {v : Value} {l : List Fld} {q : Nat} {cs : Array Value} {fz : Nat × Nat} (h : OwnF B w v l) (hr : w.heap[q]? = some (.cells cs 31 fz)) : v.ownBlock ≠ some q := fun e => by
 rcases h.2 with ⟨h1, _⟩ | ⟨g', cap, cur, h1, h2, h3, _⟩
 · rw [h1] at e; cases e
 · rw [h1] at e
   obtain rfl : g' = q := Option.some.inj e
   rw [hr] at h3
   have := Option.some.inj h3
   injection this with _ h4
   exact absurd h4 (by decide)
theorem RpK.keep {B g : Nat} {a : Option Addr} {n c : Nat} {w0 : World} {q : Nat} {vF : Value} {x : List Fld} {cs : Array Value} {w w' : World} (h : RpK B g a n c w0 q vF x cs w) (hb : Below w.heap.size w w') : RpK B g a n c w0 q vF x cs w' :=
 ⟨(hb.block q (lt_row h.row)).trans h.row, h.own.keep hb, h.src.keep hb, grownBy_trans h.grown (grownBy_below hb)⟩
theorem RpK.next {B g : Nat} {a : Option Addr} {n c : Nat} {w0 : World} {q : Nat} {vF : Value} {x : List Fld} {cs : Array Value} {w w' : World} (h : RpK B g a n c w0 q vF x cs w) (N : RpN B g a n w0 q) (hg : w.grownBy w' (some g)) (hs : Src w' g a n c) : RpK B g a n c w0 q vF x cs w' := by
 have n1 := N.lo
 have n2 := N.q
 exact ⟨(hg.block q (lt_row h.row) (fun e => by have := Option.some.inj e; omega)).trans h.row, h.own.grown hg (fun k hk e => by have := (h.own.lt hk).1; have := Option.some.inj e; omega), hs, grownBy_trans h.grown hg⟩
theorem RpK.set {B g : Nat} {a : Option Addr} {n c : Nat} {w0 : World} {q : Nat} {vF : Value} {x : List Fld} {cs : Array Value} {w : World} (h : RpK B g a n c w0 q vF x cs w) (N : RpN B g a n w0 q) (i : Nat) (v : Value) : RpK B g a n c w0 q vF x (cs.setIfInBounds i v) (w.setCell ⟨q, i, none⟩ v) := by
 have n1 := N.lo
 have n2 := N.q
 have n3 := N.eq
 have hg : w.grownBy (w.setCell ⟨q, i, none⟩ v) (some q) := grownBy_setCell
 exact ⟨heap_setCell_same w q i cs 31 v h.row, h.own.grown hg (fun k hk e => ownF_ne h.own h.row (hk.trans e)), h.src.other hg (by omega) (fun y e h0 => by have := N.src y e h0; omega), grownBy_new h.grown hg (fun j e => by have := Option.some.inj e; omega)⟩
theorem RpK.app {B g : Nat} {a : Option Addr} {n c : Nat} {w0 : World} {q : Nat} {vF vG : Value} {x x2 : List Fld} {cs : Array Value} {w w' : World} (h : RpK B g a n c w0 q vF x cs w) (N : RpN B g a n w0 q) (ho : OwnF B w' vG x2) (hg : w.grownBy w' vF.ownBlock) : RpK B g a n c w0 q vG x2 cs w' := by
 have n1 := N.lo
 have n2 := N.q
 have n3 := N.eq
 have hr : ∀ k, vF.ownBlock = some k → B ≤ k := fun k hk => (h.own.lt hk).1
 exact ⟨(hg.block q (lt_row h.row) (fun e => ownF_ne h.own h.row e.symm)).trans h.row, ho, h.src.grown hg (fun e => by have := hr g e.symm; omega) (fun y e h0 e2 => by have := hr _ e2.symm; have := N.src y e h0; omega), grownBy_new h.grown hg (fun j e => by have := hr j e; omega)⟩
def RpS0 (B g : Nat) (a : Option Addr) (n c : Nat) (w0 : World) (q : Nat) (w : World) : Prop := ∃ st r y fa fc, st ∈ stF ∧ r ∈ reas3 ∧ List.length y ≤ 2 ∧ (∀ f ∈ y, SrcF f) ∧ RpK B g a n c w0 q (.slice fa y.length fc) y #[.int .i64 st, .string r, .int .i64 1, .slice fa y.length fc, .slice none 0 0] w
end Go.Proofs.YteoadfckcilalaaGreatDoor
namespace Go.Proofs.YteoadfckcilalaaGreatDoor
open Go.RowKit

set_option linter.unusedVariables false
theorem fldsIn_twoW (w : World) (a b c d : ByteArray) : FldsIn (w.alloc (.cells #[.string a, .string b, .string c, .string d] 88)) (some ⟨w.heap.size, 0, none⟩) [(a, b), (c, d)] := fun j hj => by
 match j, hj with
 | 0, _ => exact ⟨_, rfl, by rw [Addr.add_lit, new_cellF]; rfl, by rw [Addr.add_lit, new_cellF]; rfl⟩
 | 1, _ => exact ⟨_, rfl, by rw [Addr.add_lit, new_cellF]; rfl, by rw [Addr.add_lit, new_cellF]; rfl⟩
end Go.Proofs.YteoadfckcilalaaGreatDoor
