/- The project's reader: readHead. The project's reader: readHead, whatever the head. Package chunked: leave, isExtension, startChunk, finishLine, readLine. Package chunked: readLine. Package chunked: Feed. -/
import Derived.Test.YtejbkbccljoldaaGreatDoorPk1
import Derived.Test.YtejbkbccljoldaaGreatDoorPk2
import Derived.Test.YtejbkbccljoldaaGreatDoorPk3
import Derived.Test.YtejbkbccljoldaaGreatDoorPk4
import Derived.Test.YtejbkbccljoldaaGreatDoorPk5
import Derived.Test.YtejbkbccljoldaaGreatDoorPk6
import Derived.Test.YtejbkbccljoldaaGreatDoorRows
import Derived.WalkKit
import Derived.WalkSpells
import Derived.WalkLawsBesides
import Derived.BigQuiet
import Derived.Deep.QuietTactic
import Derived.Lib.Bytealg
import Derived.Lib.IndexLaws
import Derived.Lib.Hide
import Derived.Laws.IdiomStrings
import Derived.Lib.SlTrimSet
import Derived.Lib.IndexBytes
import Derived.Lib.Split
import Derived.Deep.AppendLies
import Derived.Shelf.Strings.SlTrimAscii
import Derived.Shelf.Strings.SplitShaped
import Derived.Shelf.LaysM
import Derived.Shelf.Strings.BuilderK
import Derived.Shelf.Strconv.Itoa4
import Derived.Shelf.Strings.Prefix
import Derived.Shelf.Bytes.SlIndexWhole
import Derived.Test.YtejbkbccljoldaaGreatDoorProg
import Derived.Lib.SplitLaws
import Derived.WalkSmall
import Derived.ProofKit
import Derived.OpenShut
import Derived.Lib.Strings
import Derived.SliceStrings
import Derived.Deep.Quiet
import Derived.Tactics
import Derived.KernelRfl
import Derived.Below
import Derived.Laws.Bits64
import Derived.Lib.SlBytesConst
import Derived.Maps.AppendAt
import Derived.Laws.AppendOwnNone
import Derived.Great.BuildSlice
import Derived.Laws.Rows
import Derived.Laws.BitsAllLaws
import Derived.Laws.Shifts
import Derived.Maps.OwnOps
import Derived.Maps.OwnSet
import Derived.Deep.SlicePairs
import Derived.Lib.AppendZerosOnto
import Derived.Lib.AppendStr
import Derived.Laws.CopyOwn
import Derived.OwnWalk
import Derived.Laws.Strings3
import Derived.Laws.Concat
import Derived.Lib.ItoaMem
import Derived.Deep.RegionHeld3
import Derived.IntWalk
import Derived.Laws.RangeAny
import Derived.LoopTactic
import Derived.Sort.Grow
import Derived.Lib.ConvBytes
import Derived.Deep.DeepCutAuto
import Derived.Deep.MidRow
import Derived.Laws.Tables
import Derived.Deep.WholeRow
import Derived.StillTailTactics
import Derived.Deep.CutBlock
import Derived.Lib.LaidTab
import Derived.LaidSub
import Derived.Laws.Bits64b
import Derived.Lib.FrozenHead2
import Derived.Deep.Matrix
import Derived.Lib.LazyBuf
import Derived.ArgAppend
namespace Go.Proofs.YtejbkbccljoldaaGreatDoor
open Go.RowKit

set_option linter.unusedVariables false
/-- What a method of the project's reader returns and leaves of the message. -/
def RetM (P : Nat → Prop) (w : World) (g : Nat) (x : NX) (e : Ending) (w' : World) : Prop :=
  (x.er = 0 ∧ ∃ fa fc ga gc la lc pa pc, e = .returned (.tuple #[.agg #[.int .i64 x.kind, .slice pa (List.length x.data) pc], .int .i64 x.n, .int .i64 0]) ∧ MVr w' g #[.bool x.r.rep, .string x.r.meth, .int .i64 x.r.ph, .string x.r.m, .string x.r.t, .int .i64 x.r.z, .slice fa (List.length x.r.xs) fc, .bool x.r.fr, .slice none 0 0, .int .i64 x.r.st, .string x.r.rs, .int .i64 x.r.z2, .slice ga (List.length x.r.ys) gc, .slice none 0 0, .int .i64 x.r.fk, .int .i64 x.r.fl, .int .i64 x.r.left, .int .i64 x.r.size, .int .i64 x.r.ck.ph, .int .i64 x.r.ck.left, .int .i64 x.r.ck.tr, .slice la (List.length x.r.ck.line) lc] ∧ RMem P w' x.r fa ga la lc ∧ (∀ y, la = some y → x.r.ck.line ≠ [] → P y.block) ∧ IsBytes w' pa x.data pc ∧ w.grownBy w' (some g)) ∨
  (¬ x.er = 0 ∧ ∃ k n : Int, e = .returned (.tuple #[.agg #[.int .i64 k, .slice none 0 0], .int .i64 n, .int .i64 x.er]) ∧ w.grownBy w' (some g))
set_option maxRecDepth 100000 in
set_option maxHeartbeats 2000000 in
theorem mHead_more (b : List UInt8) (most body room : Int) (ba : Option Addr) (bc : Nat) (g : Nat) (cs : Array Value) (w : World) (mm : Int) (hb : IsBytes w ba b bc) (hl : b.length ≤ 1000000) (hm : MVr w g cs) (hok : HdOk w mm) (hE : endS b most = (0, 4)) :
    Calls Tryz.prog 48 #[.pointer (some ⟨g, 0, none⟩), .slice ba b.length bc, .agg #[.int .i64 most, .int .i64 body, .int .i64 room]] w fun e w' => e = .returned (.tuple #[.agg #[.int .i64 0, .slice none 0 0], .int .i64 0, .int .i64 0]) ∧ Below w.heap.size w w' := by
  obtain ⟨W1, hW1⟩ : ∃ W1, W1 = (w.alloc (.cells #[.int .i64 most, .int .i64 body, .int .i64 room] 80)).alloc (.cells #[.int .i64 0, .slice none 0 0] 41) := ⟨_, rfl⟩
  have HB1 := Box.mk (show Below w.heap.size w W1 by rw [hW1]; exact below_twoF (below_oneF _ _) _)
  have HL1 := Box.mk (show LVr W1 w.heap.size most body room by rw [hW1]; exact LVr.keep (heap_alloc_new w (.cells #[.int .i64 most, .int .i64 body, .int .i64 room] 80)) (below_oneF _ _))
  have HO := Box.mk (show PVr W1 (w.heap.size + 1) #[.int .i64 0, .slice none 0 0] by
    have h := heap_alloc_new (w.alloc (.cells #[.int .i64 most, .int .i64 body, .int .i64 room] 80)) (.cells #[.int .i64 0, .slice none 0 0] 41)
    rw [World.size_alloc] at h
    rw [hW1]; exact h)
  have HW1 := Box.mk hW1
  have HM1 := Box.mk (hm.keep HB1.out)
  have hlt := hm.lt
  have hlw : w.heap.size + 1 < W1.heap.size := (Array.getElem?_eq_some_iff.1 HO.out).1
  have hl0 : W1.cell? ⟨w.heap.size, 0, none⟩ = some (.int .i64 most) := by rw [cell_of_row _ _ _ _ _ _ HL1.out]; rfl
  have HBB := Box.mk (hb.keep HB1.out)
  have HCALL := Box.mk (projEnd_any b ba bc most mm W1 HBB.out (by omega) (hok.keep HB1.out))
  rw [hE] at HCALL
  clear hW1 hm hb hE hok
  go_enter Tryz.func48, Tryz.ntmps48
  go_wp2_with fail
  rw [← HW1.out]
  refine HCALL.out.mono ?_
  rintro e w2 ⟨rfl, hb2⟩
  have HO2 := Box.mk (HO.out.keep hb2)
  have HB2 := Box.mk (below_trans HB1.out hb2)
  clear HW1 HCALL hb2
  go_wp2_with (refine wpList_store_row rfl 41 _ _ rfl (w.heap.size + 1) #[.int .i64 0, .slice none 0 0] rfl rfl 41 _ HO2.out sizePt rfl (onePt ..) ?_)
  (try simp only [Exit.inBlock, Exit.then])
  refine bodyPost_ret (results_rtt rfl _ _ (w.heap.size + 1) 41 #[.int .i64 0, .slice none 0 0] (0, 0) _ rfl (setRow_heap _ _ _ _ _ _ HO2.out) Tryz.underlying41 rfl sizePt) rfl ?_
  exact ⟨rfl, below_setRow HB2.out (by omega) _⟩
set_option maxRecDepth 100000 in
set_option maxHeartbeats 2000000 in
theorem mHead_lim (b : List UInt8) (most body room : Int) (ba : Option Addr) (bc : Nat) (g : Nat) (cs : Array Value) (w : World) (mm : Int) (hb : IsBytes w ba b bc) (hl : b.length ≤ 1000000) (hm : MVr w g cs) (hok : HdOk w mm) (hE : endS b most = (0, 3)) :
    Calls Tryz.prog 48 #[.pointer (some ⟨g, 0, none⟩), .slice ba b.length bc, .agg #[.int .i64 most, .int .i64 body, .int .i64 room]] w fun e w' => e = .returned (.tuple #[.agg #[.int .i64 0, .slice none 0 0], .int .i64 0, .int .i64 3]) ∧ Below w.heap.size w w' := by
  obtain ⟨W1, hW1⟩ : ∃ W1, W1 = (w.alloc (.cells #[.int .i64 most, .int .i64 body, .int .i64 room] 80)).alloc (.cells #[.int .i64 0, .slice none 0 0] 41) := ⟨_, rfl⟩
  have HB1 := Box.mk (show Below w.heap.size w W1 by rw [hW1]; exact below_twoF (below_oneF _ _) _)
  have HL1 := Box.mk (show LVr W1 w.heap.size most body room by rw [hW1]; exact LVr.keep (heap_alloc_new w (.cells #[.int .i64 most, .int .i64 body, .int .i64 room] 80)) (below_oneF _ _))
  have HO := Box.mk (show PVr W1 (w.heap.size + 1) #[.int .i64 0, .slice none 0 0] by
    have h := heap_alloc_new (w.alloc (.cells #[.int .i64 most, .int .i64 body, .int .i64 room] 80)) (.cells #[.int .i64 0, .slice none 0 0] 41)
    rw [World.size_alloc] at h
    rw [hW1]; exact h)
  have HW1 := Box.mk hW1
  have HM1 := Box.mk (hm.keep HB1.out)
  have hlt := hm.lt
  have hlw : w.heap.size + 1 < W1.heap.size := (Array.getElem?_eq_some_iff.1 HO.out).1
  have hl0 : W1.cell? ⟨w.heap.size, 0, none⟩ = some (.int .i64 most) := by rw [cell_of_row _ _ _ _ _ _ HL1.out]; rfl
  have HBB := Box.mk (hb.keep HB1.out)
  have HCALL := Box.mk (projEnd_any b ba bc most mm W1 HBB.out (by omega) (hok.keep HB1.out))
  rw [hE] at HCALL
  clear hW1 hm hb hE hok
  go_enter Tryz.func48, Tryz.ntmps48
  go_wp2_with fail
  rw [← HW1.out]
  refine HCALL.out.mono ?_
  rintro e w2 ⟨rfl, hb2⟩
  have HO2 := Box.mk (HO.out.keep hb2)
  have HB2 := Box.mk (below_trans HB1.out hb2)
  clear HW1 HCALL hb2
  go_wp2_with (refine wpList_store_row rfl 41 _ _ rfl (w.heap.size + 1) #[.int .i64 0, .slice none 0 0] rfl rfl 41 _ HO2.out sizePt rfl (onePt ..) ?_)
  (try simp only [Exit.inBlock, Exit.then])
  refine bodyPost_ret (results_rtt rfl _ _ (w.heap.size + 1) 41 #[.int .i64 0, .slice none 0 0] (0, 0) _ rfl (setRow_heap _ _ _ _ _ _ HO2.out) Tryz.underlying41 rfl sizePt) rfl ?_
  exact ⟨rfl, below_setRow HB2.out (by omega) _⟩
set_option maxRecDepth 100000 in
set_option maxHeartbeats 2000000 in
theorem mHead_req (b : List UInt8) (most body room : Int) (ba : Option Addr) (bc : Nat) (g : Nat) (cs : Array Value) (w : World) (mm : Int) (hb : IsBytes w ba b bc) (hl : b.length ≤ 1000000) (hm : MVr w g cs) (hok : HdOk w mm) (n : Nat) (hE : endS b most = ((n : Int), 0)) (h4 : 4 ≤ n) (hn : n ≤ b.length) (hrep : cs[0]? = some (.bool false)) (kd er : Int) (X : World → World → Prop)
    (hC : ∀ W, Below w.heap.size w W → Calls Tryz.prog 65 #[.pointer (some ⟨g, 0, none⟩), .slice ba n bc, .int .i64 body] W fun e w' => e = .returned (.tuple #[.int .i64 kd, .int .i64 er]) ∧ W.grownBy w' (some g) ∧ X W w')
    (hX : ∀ W w1 w2, X W w1 → (∀ k, k < w1.heap.size → k = g ∨ W.heap.size ≤ k → w2.heap[k]? = w1.heap[k]?) → X W w2) :
    Calls Tryz.prog 48 #[.pointer (some ⟨g, 0, none⟩), .slice ba b.length bc, .agg #[.int .i64 most, .int .i64 body, .int .i64 room]] w fun e w' => e = .returned (.tuple #[.agg #[.int .i64 kd, .slice none 0 0], .int .i64 (n : Int), .int .i64 er]) ∧ w.grownBy w' (some g) ∧ ∃ W, Below w.heap.size w W ∧ X W w' := by
  have HREP := Box.mk hrep
  have hnc : b.length ≤ bc := isBytes_cap hb
  clear hrep
  obtain ⟨W1, hW1⟩ : ∃ W1, W1 = (w.alloc (.cells #[.int .i64 most, .int .i64 body, .int .i64 room] 80)).alloc (.cells #[.int .i64 0, .slice none 0 0] 41) := ⟨_, rfl⟩
  have HB1 := Box.mk (show Below w.heap.size w W1 by rw [hW1]; exact below_twoF (below_oneF _ _) _)
  have HL1 := Box.mk (show LVr W1 w.heap.size most body room by rw [hW1]; exact LVr.keep (heap_alloc_new w (.cells #[.int .i64 most, .int .i64 body, .int .i64 room] 80)) (below_oneF _ _))
  have HO := Box.mk (show PVr W1 (w.heap.size + 1) #[.int .i64 0, .slice none 0 0] by
    have h := heap_alloc_new (w.alloc (.cells #[.int .i64 most, .int .i64 body, .int .i64 room] 80)) (.cells #[.int .i64 0, .slice none 0 0] 41)
    rw [World.size_alloc] at h
    rw [hW1]; exact h)
  have HW1 := Box.mk hW1
  have HM1 := Box.mk (hm.keep HB1.out)
  have hlt := hm.lt
  have hlw : w.heap.size + 1 < W1.heap.size := (Array.getElem?_eq_some_iff.1 HO.out).1
  have hl0 : W1.cell? ⟨w.heap.size, 0, none⟩ = some (.int .i64 most) := by rw [cell_of_row _ _ _ _ _ _ HL1.out]; rfl
  have HBB := Box.mk (hb.keep HB1.out)
  have HCALL := Box.mk (projEnd_any b ba bc most mm W1 HBB.out (by omega) (hok.keep HB1.out))
  rw [hE] at HCALL
  clear hW1 hm hb hE hok
  have HC := Box.mk hC
  have HX := Box.mk hX
  clear hC hX
  go_enter Tryz.func48, Tryz.ntmps48
  go_wp2_with fail
  rw [← HW1.out]
  refine HCALL.out.mono ?_
  rintro e w2 ⟨rfl, hb2⟩
  have HO2 := Box.mk (HO.out.keep hb2)
  have HL2 := Box.mk (HL1.out.keep hb2)
  have HB2 := Box.mk (below_trans HB1.out hb2)
  have hlw2 : w.heap.size + 1 < w2.heap.size := Nat.lt_of_lt_of_le hlw hb2.size
  have hm02 : w2.cell? ⟨g, 0, none⟩ = some (.bool false) := by rw [(HM1.out.keep hb2).cell]; exact HREP.out
  clear HW1 HCALL hb2 HO HL1 HB1 hlw hl0 HREP
  go_wp2_with fail
  rename_i KK hKK
  refine wp_region_phases [7] (fun p => match p with | 0 => [0, 1, 2, 3, 4, 5, 6] | _ => [8, 9, 10, 11, 12])
    (fun p => match p with | 0 => [.val (.func (.func 65) #[] #[]), .val (.pointer (some ⟨g, 0, none⟩)), .val (.slice ba b.length bc), .val (.int .i64 (n : Int)), .val (.slice ba n bc), .val (.pointer (some ⟨w.heap.size, 1, none⟩)), .val (.int .i64 body), .any, .nope, .nope, .nope, .nope, .nope] | _ => [.any, .any, .any, .any, .any, .any, .any, .val (.tuple #[.int .i64 kd, .int .i64 er]), .val (.tuple #[.int .i64 kd, .int .i64 er]), .val (.int .i64 kd), .val (.int .i64 er), .val (.int .i64 kd), .val (.int .i64 er)])
    (fun p => match p with | 0 => fun wx => Below w2.heap.size w2 wx | _ => fun wx => ∃ W, Below w2.heap.size w2 W ∧ W.grownBy wx (some g) ∧ X W wx)
    (by kernel_rfl) (by kernel_rfl) (by kernel_rfl) (by kernel_rfl) (by kernel_rfl) (by kernel_rfl) ?_ (Below.refl _ _) ?_ ?_ ?_
  · intro p wa wb h hb
    match p, h with
    | 0, h => exact below_trans h hb
    | (_ + 1), ⟨W, h1, h2, h3⟩ => exact ⟨W, h1, grownBy_trans h2 (grownBy_of hb _), HX.out _ _ _ h3 fun k hk _ => hb.block k hk⟩
  · intro p hp
    match p, hp with
    | 0, _ =>
      refine ⟨?_, ?_, ?_, ?_, ?_, ?_, ?_, trivial⟩ <;> intro a1 wx hv hf hd
      · exact ⟨wanted_none rfl, loc_move rfl (hf.base 11 rfl)⟩
      · exact ⟨wanted_none rfl, loc_move rfl (hf.base 0 rfl)⟩
      · exact ⟨wanted_none rfl, loc_move rfl (hf.base 1 rfl)⟩
      · exact ⟨wanted_none rfl, loc_move rfl (hf.base 9 rfl)⟩
      · exact ⟨wanted_none rfl, loc_uptoH rfl (hd 2 rfl) (hd 3 rfl) hn hnc rfl⟩
      · exact ⟨wanted_none rfl, loc_fieldLm rfl (hf.base 5 rfl) (by decide) rfl⟩
      · exact ⟨wanted_none rfl, loc_cell rfl (hd 5 rfl) (by rw [cell_of_row _ _ _ _ _ _ (HL2.out.keep hv)]; rfl) (agg_int _) rfl⟩
    | 1, _ =>
      refine ⟨?_, ?_, ?_, ?_, ?_, trivial⟩ <;> intro a1 wx hv hf hd
      · exact ⟨wanted_none rfl, loc_move rfl (hd 7 rfl)⟩
      · exact ⟨wanted_none rfl, loc_extractK0 rfl (hd 8 rfl) rfl⟩
      · exact ⟨wanted_none rfl, loc_extractK1 rfl (hd 8 rfl) rfl⟩
      · exact ⟨wanted_none rfl, loc_assign rfl (hd 9 rfl)⟩
      · exact ⟨wanted_none rfl, loc_assign rfl (hd 10 rfl)⟩
  · intro p hp
    match p, hp with
    | 0, _ =>
      intro a2 wx hv hf hd
      have e1 : a2.eval (.tmp 33) = .pointer (some ⟨g, 0, none⟩) := hd 1 rfl
      have e2 : a2.eval (.tmp 36) = .slice ba n bc := hd 4 rfl
      have e3 : a2.eval (.tmp 38) = .int .i64 body := hd 6 rfl
      refine ⟨wanted_none rfl, wp_callV rfl (hd 0 rfl) (by kernel_rfl) (by show Calls _ _ #[a2.eval (.tmp 33), a2.eval (.tmp 36), a2.eval (.tmp 38)] _ _; rw [e1, e2, e3]; exact HC.out wx (below_trans HB2.out hv)) ?_⟩
      rintro e w' ⟨rfl, h1, h2⟩
      exact ⟨_, rfl, _, rfl, ⟨wx, hv, h1, h2⟩, rfl, ⟨.inr fun _ _ _ => trivial, .inr fun _ _ _ => trivial, .inr fun _ _ _ => trivial, .inr fun _ _ _ => trivial, .inr fun _ _ _ => trivial, .inr fun _ _ _ => trivial, .inr fun _ _ _ => trivial, .inl rfl, .inr fun _ _ h => h.elim, .inr fun _ _ h => h.elim, .inr fun _ _ h => h.elim, .inr fun _ _ h => h.elim, .inr fun _ _ h => h.elim, trivial⟩⟩
  · intro a2 w3 hv hf hh
    have e12 : a2.eval (.tmp 12) = .int .i64 kd := hh 11 (by decide)
    have e10 : a2.eval (.tmp 10) = .int .i64 er := hh 12 (by decide)
    clear hh
    rw [fr_putAll hf]
    clear hf
    simp only [putAll, e12, e10]
    generalize a2.eval (.tmp 32) = u32
    generalize a2.eval (.tmp 33) = u33
    generalize a2.eval (.tmp 34) = u34
    generalize a2.eval (.tmp 35) = u35
    generalize a2.eval (.tmp 36) = u36
    generalize a2.eval (.tmp 37) = u37
    generalize a2.eval (.tmp 38) = u38
    generalize a2.eval (.tmp 39) = u39
    generalize a2.eval (.tmp 31) = u31
    generalize a2.eval (.tmp 40) = u40
    generalize a2.eval (.tmp 41) = u41
    clear e12 e10 a2
    simp only [Act.put, List.setIfInBounds_toArray, List.set_cons_succ, List.set_cons_zero]
    refine hKK _ _ ?_
    clear hKK
    obtain ⟨W, h1, h2, h3⟩ := hv
    have hww := h1.size
    have HPN := Box.mk (show PVr w3 (w.heap.size + 1) #[.int .i64 0, .slice none 0 0] from (h2.block _ (by omega) (fun e => by injection e with e; omega)).trans (by rw [h1.block _ hlw2]; exact HO2.out))
    have HH := Box.mk (And.intro h1 (And.intro h2 h3))
    clear h1 h2 h3 hm02
    go_wp2_with (refine wpList_store_row rfl 41 _ _ rfl (w.heap.size + 1) #[.int .i64 kd, .slice none 0 0] rfl rfl 41 _ HPN.out sizePt rfl (onePt ..) ?_)
    (try simp only [Exit.inBlock, Exit.then])
    refine bodyPost_ret (results_rtt rfl _ _ (w.heap.size + 1) 41 #[.int .i64 kd, .slice none 0 0] (0, 0) _ rfl (setRow_heap _ _ _ _ _ _ HPN.out) Tryz.underlying41 rfl sizePt) rfl ?_
    have hb1 := below_trans HB2.out HH.out.1
    exact ⟨rfl, grownBy_own (grownBy_trans (grownBy_of hb1 _) HH.out.2.1) (by omega) _, W, hb1, HX.out _ _ _ HH.out.2.2 fun k hk hkg => setRow_other _ _ _ _ (by rcases hkg with h | h <;> omega)⟩
set_option maxRecDepth 100000 in
set_option maxHeartbeats 2000000 in
theorem mHead_rep (b : List UInt8) (most body room : Int) (ba : Option Addr) (bc : Nat) (g : Nat) (cs : Array Value) (w : World) (mm : Int) (hb : IsBytes w ba b bc) (hl : b.length ≤ 1000000) (hm : MVr w g cs) (hok : HdOk w mm) (n : Nat) (hE : endS b most = ((n : Int), 0)) (h4 : 4 ≤ n) (hn : n ≤ b.length) (hrep : cs[0]? = some (.bool true)) (kd er : Int) (X : World → World → Prop)
    (hC : ∀ W, Below w.heap.size w W → Calls Tryz.prog 66 #[.pointer (some ⟨g, 0, none⟩), .slice ba n bc, .int .i64 body] W fun e w' => e = .returned (.tuple #[.int .i64 kd, .int .i64 er]) ∧ W.grownBy w' (some g) ∧ X W w')
    (hX : ∀ W w1 w2, X W w1 → (∀ k, k < w1.heap.size → k = g ∨ W.heap.size ≤ k → w2.heap[k]? = w1.heap[k]?) → X W w2) :
    Calls Tryz.prog 48 #[.pointer (some ⟨g, 0, none⟩), .slice ba b.length bc, .agg #[.int .i64 most, .int .i64 body, .int .i64 room]] w fun e w' => e = .returned (.tuple #[.agg #[.int .i64 kd, .slice none 0 0], .int .i64 (n : Int), .int .i64 er]) ∧ w.grownBy w' (some g) ∧ ∃ W, Below w.heap.size w W ∧ X W w' := by
  have HREP := Box.mk hrep
  have hnc : b.length ≤ bc := isBytes_cap hb
  clear hrep
  obtain ⟨W1, hW1⟩ : ∃ W1, W1 = (w.alloc (.cells #[.int .i64 most, .int .i64 body, .int .i64 room] 80)).alloc (.cells #[.int .i64 0, .slice none 0 0] 41) := ⟨_, rfl⟩
  have HB1 := Box.mk (show Below w.heap.size w W1 by rw [hW1]; exact below_twoF (below_oneF _ _) _)
  have HL1 := Box.mk (show LVr W1 w.heap.size most body room by rw [hW1]; exact LVr.keep (heap_alloc_new w (.cells #[.int .i64 most, .int .i64 body, .int .i64 room] 80)) (below_oneF _ _))
  have HO := Box.mk (show PVr W1 (w.heap.size + 1) #[.int .i64 0, .slice none 0 0] by
    have h := heap_alloc_new (w.alloc (.cells #[.int .i64 most, .int .i64 body, .int .i64 room] 80)) (.cells #[.int .i64 0, .slice none 0 0] 41)
    rw [World.size_alloc] at h
    rw [hW1]; exact h)
  have HW1 := Box.mk hW1
  have HM1 := Box.mk (hm.keep HB1.out)
  have hlt := hm.lt
  have hlw : w.heap.size + 1 < W1.heap.size := (Array.getElem?_eq_some_iff.1 HO.out).1
  have hl0 : W1.cell? ⟨w.heap.size, 0, none⟩ = some (.int .i64 most) := by rw [cell_of_row _ _ _ _ _ _ HL1.out]; rfl
  have HBB := Box.mk (hb.keep HB1.out)
  have HCALL := Box.mk (projEnd_any b ba bc most mm W1 HBB.out (by omega) (hok.keep HB1.out))
  rw [hE] at HCALL
  clear hW1 hm hb hE hok
  have HC := Box.mk hC
  have HX := Box.mk hX
  clear hC hX
  go_enter Tryz.func48, Tryz.ntmps48
  go_wp2_with fail
  rw [← HW1.out]
  refine HCALL.out.mono ?_
  rintro e w2 ⟨rfl, hb2⟩
  have HO2 := Box.mk (HO.out.keep hb2)
  have HL2 := Box.mk (HL1.out.keep hb2)
  have HB2 := Box.mk (below_trans HB1.out hb2)
  have hlw2 : w.heap.size + 1 < w2.heap.size := Nat.lt_of_lt_of_le hlw hb2.size
  have hm02 : w2.cell? ⟨g, 0, none⟩ = some (.bool true) := by rw [(HM1.out.keep hb2).cell]; exact HREP.out
  clear HW1 HCALL hb2 HO HL1 HB1 hlw hl0 HREP
  go_wp2_with fail
  rename_i KK hKK
  refine wp_region_phases [7] (fun p => match p with | 0 => [0, 1, 2, 3, 4, 5, 6] | _ => [8, 9, 10, 11, 12])
    (fun p => match p with | 0 => [.val (.func (.func 66) #[] #[]), .val (.pointer (some ⟨g, 0, none⟩)), .val (.slice ba b.length bc), .val (.int .i64 (n : Int)), .val (.slice ba n bc), .val (.pointer (some ⟨w.heap.size, 1, none⟩)), .val (.int .i64 body), .any, .nope, .nope, .nope, .nope, .nope] | _ => [.any, .any, .any, .any, .any, .any, .any, .val (.tuple #[.int .i64 kd, .int .i64 er]), .val (.tuple #[.int .i64 kd, .int .i64 er]), .val (.int .i64 kd), .val (.int .i64 er), .val (.int .i64 kd), .val (.int .i64 er)])
    (fun p => match p with | 0 => fun wx => Below w2.heap.size w2 wx | _ => fun wx => ∃ W, Below w2.heap.size w2 W ∧ W.grownBy wx (some g) ∧ X W wx)
    (by kernel_rfl) (by kernel_rfl) (by kernel_rfl) (by kernel_rfl) (by kernel_rfl) (by kernel_rfl) ?_ (Below.refl _ _) ?_ ?_ ?_
  · intro p wa wb h hb
    match p, h with
    | 0, h => exact below_trans h hb
    | (_ + 1), ⟨W, h1, h2, h3⟩ => exact ⟨W, h1, grownBy_trans h2 (grownBy_of hb _), HX.out _ _ _ h3 fun k hk _ => hb.block k hk⟩
  · intro p hp
    match p, hp with
    | 0, _ =>
      refine ⟨?_, ?_, ?_, ?_, ?_, ?_, ?_, trivial⟩ <;> intro a1 wx hv hf hd
      · exact ⟨wanted_none rfl, loc_move rfl (hf.base 11 rfl)⟩
      · exact ⟨wanted_none rfl, loc_move rfl (hf.base 0 rfl)⟩
      · exact ⟨wanted_none rfl, loc_move rfl (hf.base 1 rfl)⟩
      · exact ⟨wanted_none rfl, loc_move rfl (hf.base 9 rfl)⟩
      · exact ⟨wanted_none rfl, loc_uptoH rfl (hd 2 rfl) (hd 3 rfl) hn hnc rfl⟩
      · exact ⟨wanted_none rfl, loc_fieldLm rfl (hf.base 5 rfl) (by decide) rfl⟩
      · exact ⟨wanted_none rfl, loc_cell rfl (hd 5 rfl) (by rw [cell_of_row _ _ _ _ _ _ (HL2.out.keep hv)]; rfl) (agg_int _) rfl⟩
    | 1, _ =>
      refine ⟨?_, ?_, ?_, ?_, ?_, trivial⟩ <;> intro a1 wx hv hf hd
      · exact ⟨wanted_none rfl, loc_move rfl (hd 7 rfl)⟩
      · exact ⟨wanted_none rfl, loc_extractK0 rfl (hd 8 rfl) rfl⟩
      · exact ⟨wanted_none rfl, loc_extractK1 rfl (hd 8 rfl) rfl⟩
      · exact ⟨wanted_none rfl, loc_assign rfl (hd 9 rfl)⟩
      · exact ⟨wanted_none rfl, loc_assign rfl (hd 10 rfl)⟩
  · intro p hp
    match p, hp with
    | 0, _ =>
      intro a2 wx hv hf hd
      have e1 : a2.eval (.tmp 33) = .pointer (some ⟨g, 0, none⟩) := hd 1 rfl
      have e2 : a2.eval (.tmp 36) = .slice ba n bc := hd 4 rfl
      have e3 : a2.eval (.tmp 38) = .int .i64 body := hd 6 rfl
      refine ⟨wanted_none rfl, wp_callV rfl (hd 0 rfl) (by kernel_rfl) (by show Calls _ _ #[a2.eval (.tmp 33), a2.eval (.tmp 36), a2.eval (.tmp 38)] _ _; rw [e1, e2, e3]; exact HC.out wx (below_trans HB2.out hv)) ?_⟩
      rintro e w' ⟨rfl, h1, h2⟩
      exact ⟨_, rfl, _, rfl, ⟨wx, hv, h1, h2⟩, rfl, ⟨.inr fun _ _ _ => trivial, .inr fun _ _ _ => trivial, .inr fun _ _ _ => trivial, .inr fun _ _ _ => trivial, .inr fun _ _ _ => trivial, .inr fun _ _ _ => trivial, .inr fun _ _ _ => trivial, .inl rfl, .inr fun _ _ h => h.elim, .inr fun _ _ h => h.elim, .inr fun _ _ h => h.elim, .inr fun _ _ h => h.elim, .inr fun _ _ h => h.elim, trivial⟩⟩
  · intro a2 w3 hv hf hh
    have e12 : a2.eval (.tmp 12) = .int .i64 kd := hh 11 (by decide)
    have e10 : a2.eval (.tmp 10) = .int .i64 er := hh 12 (by decide)
    clear hh
    rw [fr_putAll hf]
    clear hf
    simp only [putAll, e12, e10]
    generalize a2.eval (.tmp 32) = u32
    generalize a2.eval (.tmp 33) = u33
    generalize a2.eval (.tmp 34) = u34
    generalize a2.eval (.tmp 35) = u35
    generalize a2.eval (.tmp 36) = u36
    generalize a2.eval (.tmp 37) = u37
    generalize a2.eval (.tmp 38) = u38
    generalize a2.eval (.tmp 39) = u39
    generalize a2.eval (.tmp 31) = u31
    generalize a2.eval (.tmp 40) = u40
    generalize a2.eval (.tmp 41) = u41
    clear e12 e10 a2
    simp only [Act.put, List.setIfInBounds_toArray, List.set_cons_succ, List.set_cons_zero]
    refine hKK _ _ ?_
    clear hKK
    obtain ⟨W, h1, h2, h3⟩ := hv
    have hww := h1.size
    have HPN := Box.mk (show PVr w3 (w.heap.size + 1) #[.int .i64 0, .slice none 0 0] from (h2.block _ (by omega) (fun e => by injection e with e; omega)).trans (by rw [h1.block _ hlw2]; exact HO2.out))
    have HH := Box.mk (And.intro h1 (And.intro h2 h3))
    clear h1 h2 h3 hm02
    go_wp2_with (refine wpList_store_row rfl 41 _ _ rfl (w.heap.size + 1) #[.int .i64 kd, .slice none 0 0] rfl rfl 41 _ HPN.out sizePt rfl (onePt ..) ?_)
    (try simp only [Exit.inBlock, Exit.then])
    refine bodyPost_ret (results_rtt rfl _ _ (w.heap.size + 1) 41 #[.int .i64 kd, .slice none 0 0] (0, 0) _ rfl (setRow_heap _ _ _ _ _ _ HPN.out) Tryz.underlying41 rfl sizePt) rfl ?_
    have hb1 := below_trans HB2.out HH.out.1
    exact ⟨rfl, grownBy_own (grownBy_trans (grownBy_of hb1 _) HH.out.2.1) (by omega) _, W, hb1, HX.out _ _ _ HH.out.2.2 fun k hk hkg => setRow_other _ _ _ _ (by rcases hkg with h | h <;> omega)⟩
end Go.Proofs.YtejbkbccljoldaaGreatDoor
namespace Go.Proofs.YtejbkbccljoldaaGreatDoor
open Go.RowKit

set_option linter.unusedVariables false
/-- A status line that is in order has a status of three digits. -/
theorem headA_st (h : List UInt8) : (headA h).1 = 0 → 100 ≤ (headA h).2.1 := by
  unfold headA
  split
  · rename_i l0 ls hL
    cases hp : parseA l0 with
    | none => intro h; cases h
    | some f =>
      simp only
      split
      · intro _
        unfold parseA at hp
        split at hp
        · rename_i hc
          obtain rfl := Option.some.inj hp
          exact hc.2.2.2.2.2.1
        · cases hp
      · rename_i hf
        intro h; exact absurd h hf
  · intro h; cases h
theorem nineX {ef : Int} (hz : ¬ ef = 0) : ¬ (if ef = 3 then (9 : Int) else ef) = 0 := by
  split
  · decide
  · exact hz
theorem retM_err {P : Nat → Prop} {w w' : World} {g : Nat} {x : NX} {e : Ending} {k n er : Int} (hx : x.er = er) (h0 : ¬ er = 0) (he : e = .returned (.tuple #[.agg #[.int .i64 k, .slice none 0 0], .int .i64 n, .int .i64 er])) (hg : w.grownBy w' (some g)) : RetM P w g x e w' :=
  .inr ⟨by rw [hx]; exact h0, k, n, by rw [hx]; exact he, hg⟩
/-- What a head leaves in memory: the message's variable, the new fields. -/
def XReq (g : Nat) (s : RS) (fa ga : Option Addr) (fc gc : Nat) (m t : ByteArray) (z : Int) (xs : List Fld) (k l : Int) (W w' : World) : Prop :=
  ∃ f2 c2, (∀ fr, fr = !decide (k = 1) → MVr w' g #[.bool s.rep, .string s.meth, .int .i64 1, .string m, .string t, .int .i64 z, .slice f2 (List.length xs) c2, .bool fr, .slice none 0 0, .int .i64 s.st, .string s.rs, .int .i64 s.z2, .slice ga (List.length s.ys) gc, .slice none 0 0, .int .i64 k, .int .i64 l, .int .i64 l, .int .i64 0, .int .i64 0, .int .i64 0, .int .i64 0, .slice none (List.length ([] : List UInt8)) 0]) ∧ FldsIn w' f2 xs ∧ ∀ y, f2 = some y → xs ≠ [] → W.heap.size ≤ y.block
def XRep (g : Nat) (s : RS) (fa : Option Addr) (fc : Nat) (st : Int) (rs : ByteArray) (z2 : Int) (ys : List Fld) (k l : Int) (W w' : World) : Prop :=
  ∃ f2 c2, MVr w' g #[.bool s.rep, .string s.meth, .int .i64 1, .string s.m, .string s.t, .int .i64 s.z, .slice fa (List.length s.xs) fc, .bool s.fr, .slice none 0 0, .int .i64 st, .string rs, .int .i64 z2, .slice f2 (List.length ys) c2, .slice none 0 0, .int .i64 k, .int .i64 l, .int .i64 l, .int .i64 0, .int .i64 0, .int .i64 0, .int .i64 0, .slice none (List.length ([] : List UInt8)) 0] ∧ FldsIn w' f2 ys ∧ ∀ y, f2 = some y → ys ≠ [] → W.heap.size ≤ y.block
theorem XReq.same {g : Nat} {s : RS} {fa ga : Option Addr} {fc gc : Nat} {m t : ByteArray} {z : Int} {xs : List Fld} {k l : Int} (W w1 w2 : World) (h : XReq g s fa ga fc gc m t z xs k l W w1) (hb : ∀ q, q < w1.heap.size → q = g ∨ W.heap.size ≤ q → w2.heap[q]? = w1.heap[q]?) : XReq g s fa ga fc gc m t z xs k l W w2 := by
  obtain ⟨f2, c2, h1, h2, h3⟩ := h
  exact ⟨f2, c2, fun fr hf => (hb g (h1 fr hf).lt (.inl rfl)).trans (h1 fr hf), sameNe h2 fun y e hx => hb _ (h2.old e hx) (.inr (h3 y e hx)), h3⟩
theorem XRep.same {g : Nat} {s : RS} {fa : Option Addr} {fc : Nat} {st : Int} {rs : ByteArray} {z2 : Int} {ys : List Fld} {k l : Int} (W w1 w2 : World) (h : XRep g s fa fc st rs z2 ys k l W w1) (hb : ∀ q, q < w1.heap.size → q = g ∨ W.heap.size ≤ q → w2.heap[q]? = w1.heap[q]?) : XRep g s fa fc st rs z2 ys k l W w2 := by
  obtain ⟨f2, c2, h1, h2, h3⟩ := h
  exact ⟨f2, c2, (hb g h1.lt (.inl rfl)).trans h1, sameNe h2 fun y e hx => hb _ (h2.old e hx) (.inr (h3 y e hx)), h3⟩
/-- The error of a frame, said in one. -/
theorem frame_err (k l ef body : Int) (h : ¬ ef = 0 → k = 0) : (if ef = 3 ∨ k = 2 ∧ body < l then 9 else ef) = if ef ≠ 0 then (if ef = 3 then 9 else ef) else if k = 2 ∧ body < l then 9 else 0 := by
  by_cases h0 : ef = 0
  · subst h0
    simp
  · have hk := h h0
    subst hk
    simp [h0]
set_option maxRecDepth 100000 in
set_option maxHeartbeats 2000000 in
theorem mHead_any (P : Nat → Prop) (s : RS) (b : List UInt8) (most body room : Int) (ba : Option Addr) (bc : Nat) (fa ga la : Option Addr) (fc gc lc : Nat) (g : Nat) (mm : Int) (w : World) (hb : IsBytes w ba b bc) (hl : b.length ≤ 1000000) (hm : MVr w g #[.bool s.rep, .string s.meth, .int .i64 s.ph, .string s.m, .string s.t, .int .i64 s.z, .slice fa (List.length s.xs) fc, .bool s.fr, .slice none 0 0, .int .i64 s.st, .string s.rs, .int .i64 s.z2, .slice ga (List.length s.ys) gc, .slice none 0 0, .int .i64 s.fk, .int .i64 s.fl, .int .i64 s.left, .int .i64 s.size, .int .i64 s.ck.ph, .int .i64 s.ck.left, .int .i64 s.ck.tr, .slice la (List.length s.ck.line) lc]) (hr : RMem P w s fa ga la lc) (hlf : ∀ y, la = some y → s.ck.line ≠ [] → P y.block) (hok : HdOk w mm) (hP : ∀ k, w.heap.size ≤ k → P k) (hPg : ∀ k, P k → k ≠ g) (hs : OkN body s) :
    Calls Tryz.prog 48 #[.pointer (some ⟨g, 0, none⟩), .slice ba b.length bc, .agg #[.int .i64 most, .int .i64 body, .int .i64 room]] w (RetM P w g (firstX s b most body)) := by
  rcases endS_cases b most with h | h | ⟨n, hE, h4, hn⟩
  · have e : firstX s b most body = ⟨0, s, 0, [], 0⟩ := by unfold firstX; rw [if_pos (by rw [h])]
    rw [e]
    refine (mHead_more b most body room ba bc g _ w mm hb hl hm hok h).mono ?_
    rintro e w' ⟨he, hbb⟩
    exact .inl ⟨rfl, fa, fc, ga, gc, la, lc, none, 0, he, hm.keep hbb, hr.keep hbb, hlf, .inl ⟨rfl, rfl, rfl⟩, grownBy_of hbb _⟩
  · have e : firstX s b most body = errX 3 := by
      unfold firstX
      rw [if_neg (by rw [h]; show ¬ (3 : Int) = 4; decide), if_pos (by rw [h]; show (3 : Int) ≠ 0; decide), h]
    rw [e]
    refine (mHead_lim b most body room ba bc g _ w mm hb hl hm hok h).mono ?_
    rintro e w' ⟨he, hbb⟩
    exact retM_err rfl (by decide) he (grownBy_of hbb _)
  · have e : firstX s b most body = headX s (b.take n) body := by
      unfold firstX
      rw [if_neg (by rw [hE]; show ¬ (0 : Int) = 4; decide), if_neg (by rw [hE]; exact fun h => h rfl), hE]
      show headX s (b.take (Int.toNat (n : Int))) body = _
      rw [Int.toNat_natCast]
    have hln : (b.take n).length = n := by rw [List.length_take]; omega
    have hl2 : (b.take n).length ≤ 1000000 := by omega
    rw [e]
    clear e
    unfold headX
    by_cases hrep : s.rep = true
    · rw [if_pos hrep, hln]
      have hsm := headA_sm hl2
      have hst := headA_st (b.take n)
      have hA : headA (b.take n) = ((headA (b.take n)).1, (headA (b.take n)).2.1, (headA (b.take n)).2.2.1, (headA (b.take n)).2.2.2.1, (headA (b.take n)).2.2.2.2) := rfl
      generalize (headA (b.take n)).1 = er at *
      generalize (headA (b.take n)).2.1 = st at *
      generalize (headA (b.take n)).2.2.1 = rs at *
      generalize (headA (b.take n)).2.2.2.1 = z2 at *
      generalize (headA (b.take n)).2.2.2.2 = ys at *
      have hrow : (#[.bool s.rep, .string s.meth, .int .i64 s.ph, .string s.m, .string s.t, .int .i64 s.z, .slice fa (List.length s.xs) fc, .bool s.fr, .slice none 0 0, .int .i64 s.st, .string s.rs, .int .i64 s.z2, .slice ga (List.length s.ys) gc, .slice none 0 0, .int .i64 s.fk, .int .i64 s.fl, .int .i64 s.left, .int .i64 s.size, .int .i64 s.ck.ph, .int .i64 s.ck.left, .int .i64 s.ck.tr, .slice la (List.length s.ck.line) lc] : Array Value)[0]? = some (.bool true) := by rw [← hrep]; rfl
      by_cases h0 : er = 0
      · subst h0
        have hst := hst rfl
        rw [if_neg (fun h => h rfl)]
        by_cases h1 : st = 101
        · rw [if_pos h1]
          refine (mHead_rep b most body room ba bc g _ w mm hb hl hm hok n hE h4 hn hrow 0 2 (fun _ _ => True) (fun W hW => ?_) (fun _ _ _ _ _ => trivial)).mono ?_
          · have hc := startRep_101 s (b.take n) body ba bc fa ga la fc gc lc g mm W (isBytes_takeR (hb.keep hW) n) hl2 (hm.keep hW) (hok.keep hW) st rs z2 ys hA h1
            rw [hln] at hc
            exact hc.mono fun e w' ⟨he, hbb⟩ => ⟨he, grownBy_of hbb _, trivial⟩
          · rintro e w' ⟨he, hg, _⟩
            exact retM_err rfl (by decide) he hg
        · rw [if_neg h1]
          by_cases h2 : 100 ≤ st ∧ st ≤ 199
          · rw [if_pos h2]
            refine (mHead_rep b most body room ba bc g _ w mm hb hl hm hok n hE h4 hn hrow 4 0 (fun W w' => MVr w' g #[.bool s.rep, .string s.meth, .int .i64 s.ph, .string s.m, .string s.t, .int .i64 s.z, .slice fa (List.length s.xs) fc, .bool s.fr, .slice none 0 0, .int .i64 s.st, .string s.rs, .int .i64 s.z2, .slice ga (List.length s.ys) gc, .slice none 0 0, .int .i64 s.fk, .int .i64 s.fl, .int .i64 s.left, .int .i64 s.size, .int .i64 s.ck.ph, .int .i64 s.ck.left, .int .i64 s.ck.tr, .slice la (List.length s.ck.line) lc]) (fun W hW => ?_) (fun W w1 w2 h hq => (hq g h.lt (.inl rfl)).trans h)).mono ?_
            · have hc := startRep_int s (b.take n) body ba bc fa ga la fc gc lc g mm W (isBytes_takeR (hb.keep hW) n) hl2 (hm.keep hW) (hok.keep hW) st rs z2 ys hA h1 h2.2
              rw [hln] at hc
              exact hc.mono fun e w' ⟨he, hbb⟩ => ⟨he, grownBy_of hbb _, (hm.keep hW).keep hbb⟩
            · rintro e w' ⟨he, hg, W, hW, hx⟩
              exact .inl ⟨rfl, fa, fc, ga, gc, la, lc, none, 0, he, hx, hr.grown hg hPg hm (noU8_22 rfl), hlf, .inl ⟨rfl, rfl, rfl⟩, hg⟩
          · rw [if_neg h2]
            have hrg := replyS_range s.meth st z2 ys
            have hF : replyS s.meth st z2 ys = ((replyS s.meth st z2 ys).1, (replyS s.meth st z2 ys).2.1, (replyS s.meth st z2 ys).2.2) := rfl
            unfold finX
            generalize (replyS s.meth st z2 ys).1 = k at *
            generalize (replyS s.meth st z2 ys).2.1 = l at *
            generalize (replyS s.meth st z2 ys).2.2 = ef at *
            have hfe := frame_err k l ef body (fun h => by rcases hrg with h1 | h1 <;> omega)
            refine (mHead_rep b most body room ba bc g _ w mm hb hl hm hok n hE h4 hn hrow 1 (if ef = 3 ∨ k = 2 ∧ body < l then 9 else ef) (XRep g s fa fc st rs z2 ys k l) (fun W hW => ?_) XRep.same).mono ?_
            · have hc := startRep_ok s (b.take n) body ba bc fa ga la fc gc lc g mm W (isBytes_takeR (hb.keep hW) n) hl2 (hm.keep hW) (hok.keep hW) st rs z2 ys hA (by omega) hsm k l ef hF _ rfl
              rw [hln] at hc
              exact hc.mono fun e w' ⟨f2, c2, he, h1, h2, h3, h4⟩ => ⟨he, h4, f2, c2, h1, h2, h3⟩
            · rintro e w' ⟨he, hg, W, hW, f2, c2, hx1, hx2, hx3⟩
              rw [hfe] at he
              by_cases hz : ef = 0
              · rw [if_neg (fun h => h hz)] at he ⊢
                by_cases hk : k = 2 ∧ body < l
                · rw [if_pos hk] at he ⊢
                  exact retM_err rfl (by decide) he hg
                · rw [if_neg hk] at he ⊢
                  exact .inl ⟨rfl, fa, fc, f2, c2, none, 0, none, 0, he, hx1, ⟨hr.f1.grownR hg fun y e hx => hPg _ (hr.n1 y e hx), hx2, .inl ⟨rfl, rfl, rfl⟩, hr.n1, fun y e hx => hP _ (Nat.le_trans hW.size (hx3 y e hx))⟩, (fun y e _ => by cases e), .inl ⟨rfl, rfl, rfl⟩, hg⟩
              · rw [if_pos hz] at he ⊢
                exact retM_err rfl (nineX hz) he hg
      · rw [if_pos h0]
        refine (mHead_rep b most body room ba bc g _ w mm hb hl hm hok n hE h4 hn hrow 0 er (fun _ _ => True) (fun W hW => ?_) (fun _ _ _ _ _ => trivial)).mono ?_
        · have hc := startRep_err s (b.take n) body ba bc fa ga la fc gc lc g mm W (isBytes_takeR (hb.keep hW) n) hl2 (hm.keep hW) (hok.keep hW) er st rs z2 ys hA h0
          rw [hln] at hc
          exact hc.mono fun e w' ⟨he, hbb⟩ => ⟨he, grownBy_of hbb _, trivial⟩
        · rintro e w' ⟨he, hg, _⟩
          exact retM_err rfl h0 he hg
    · have hrep : s.rep = false := by cases h : s.rep with
        | true => exact absurd h hrep
        | false => rfl
      rw [if_neg (by rw [hrep]; decide), hln]
      have hsm := headR_sm hl2
      have hA : headR (b.take n) = ((headR (b.take n)).1, (headR (b.take n)).2.1, (headR (b.take n)).2.2.1, (headR (b.take n)).2.2.2.1, (headR (b.take n)).2.2.2.2) := rfl
      generalize (headR (b.take n)).1 = er at *
      generalize (headR (b.take n)).2.1 = m at *
      generalize (headR (b.take n)).2.2.1 = t at *
      generalize (headR (b.take n)).2.2.2.1 = z at *
      generalize (headR (b.take n)).2.2.2.2 = xs at *
      have hrow : (#[.bool s.rep, .string s.meth, .int .i64 s.ph, .string s.m, .string s.t, .int .i64 s.z, .slice fa (List.length s.xs) fc, .bool s.fr, .slice none 0 0, .int .i64 s.st, .string s.rs, .int .i64 s.z2, .slice ga (List.length s.ys) gc, .slice none 0 0, .int .i64 s.fk, .int .i64 s.fl, .int .i64 s.left, .int .i64 s.size, .int .i64 s.ck.ph, .int .i64 s.ck.left, .int .i64 s.ck.tr, .slice la (List.length s.ck.line) lc] : Array Value)[0]? = some (.bool false) := by rw [← hrep]; rfl
      by_cases h0 : er = 0
      · subst h0
        rw [if_neg (fun h => h rfl)]
        have hrg := frameS_range z xs 1
        have hF : frameS z xs 1 = ((frameS z xs 1).1, (frameS z xs 1).2.1, (frameS z xs 1).2.2) := rfl
        unfold finX
        generalize (frameS z xs 1).1 = k at *
        generalize (frameS z xs 1).2.1 = l at *
        generalize (frameS z xs 1).2.2 = ef at *
        have hfe := frame_err k l ef body (fun h => by rcases hrg with h1 | h1 <;> omega)
        refine (mHead_req b most body room ba bc g _ w mm hb hl hm hok n hE h4 hn hrow 1 (if ef = 3 ∨ k = 2 ∧ body < l then 9 else ef) (XReq g s fa ga fc gc m t z xs k l) (fun W hW => ?_) XReq.same).mono ?_
        · have hc := startReq_ok s (b.take n) body ba bc fa ga la fc gc lc g mm W (isBytes_takeR (hb.keep hW) n) hl2 (hm.keep hW) (hok.keep hW) m t z xs hA hsm k l ef hF _ rfl
          rw [hln] at hc
          exact hc.mono fun e w' ⟨f2, c2, he, h1, h2, h3, h4⟩ => ⟨he, h4, f2, c2, h1, h2, h3⟩
        · rintro e w' ⟨he, hg, W, hW, f2, c2, hx1, hx2, hx3⟩
          rw [hfe] at he
          by_cases hz : ef = 0
          · rw [if_neg (fun h => h hz)] at he ⊢
            by_cases hk : k = 2 ∧ body < l
            · rw [if_pos hk] at he ⊢
              exact retM_err rfl (by decide) he hg
            · rw [if_neg hk] at he ⊢
              exact .inl ⟨rfl, f2, c2, ga, gc, none, 0, none, 0, he, hx1 _ rfl, ⟨hx2, hr.f2.grownR hg fun y e hx => hPg _ (hr.n2 y e hx), .inl ⟨rfl, rfl, rfl⟩, fun y e hx => hP _ (Nat.le_trans hW.size (hx3 y e hx)), hr.n2⟩, (fun y e _ => by cases e), .inl ⟨rfl, rfl, rfl⟩, hg⟩
          · rw [if_pos hz] at he ⊢
            exact retM_err rfl (nineX hz) he hg
      · rw [if_pos h0]
        refine (mHead_req b most body room ba bc g _ w mm hb hl hm hok n hE h4 hn hrow 0 er (fun _ _ => True) (fun W hW => ?_) (fun _ _ _ _ _ => trivial)).mono ?_
        · have hc := startReq_err s (b.take n) body ba bc fa ga la fc gc lc g mm W (isBytes_takeR (hb.keep hW) n) hl2 (hm.keep hW) (hok.keep hW) er m t z xs hA h0
          rw [hln] at hc
          exact hc.mono fun e w' ⟨he, hbb⟩ => ⟨he, grownBy_of hbb _, trivial⟩
        · rintro e w' ⟨he, hg, _⟩
          exact retM_err rfl h0 he hg
end Go.Proofs.YtejbkbccljoldaaGreatDoor
namespace Go.Proofs.YtejbkbccljoldaaGreatDoor
open Go.RowKit

theorem empty_y {y : ByteArray} (h : y.size = 0) : y.toList.isEmpty = true := by
  rw [ByteArray.toList_eq, List.isEmpty_iff, ← List.length_eq_zero_iff, Array.length_toList]; exact h
theorem full_y {y : ByteArray} (h : ¬ y.size = 0) : y.toList.isEmpty = false := by
  rw [← Bool.not_eq_true, ByteArray.toList_eq, List.isEmpty_iff, ← List.length_eq_zero_iff, Array.length_toList]; exact h
set_option maxHeartbeats 1000000 in
theorem leave_any (g : Nat) (p l t left np : Int) (v : Value) (w : World) (h : CVar w g p l t v) (hnp : (if left = 0 then 2 else p) = np) :
    Calls Tryz.prog 119 #[.pointer (some ⟨g, 0, none⟩), .int .i64 left] w fun e w' => e = .returned (.tuple #[]) ∧ CVar w' g np left t v ∧ w.grownBy w' (some g) := by
  obtain ⟨ha0, ha1, ha2, ha3⟩ := h.cells
  have hf1 := h.frozen (i := 1)
  have HC := Box.mk (h.setL (z := left))
  have hf0 := HC.out.frozen (i := 0)
  obtain ⟨hb0, hb1, hb2, hb3⟩ := HC.out.cells
  clear h
  by_cases hz : left = 0
  · have HZ := Box.mk (show np = 2 by rw [← hnp, if_pos hz])
    have ez : (left == 0) = true := by rw [hz]; rfl
    clear hz hnp
    go_enter Tryz.func119, Tryz.ntmps119
    go_wp2_with fail
    go_end0
    exact ⟨rfl, by rw [HZ.out]; exact HC.out.setP, grownBy_trans (grownBy_setC _ _ _ _) (grownBy_setC _ _ _ _)⟩
  · have HZ := Box.mk (show np = p by rw [← hnp, if_neg hz])
    have ez : (left == 0) = false := by rw [beq_eq_false_iff_ne]; exact hz
    clear hz hnp
    go_enter Tryz.func119, Tryz.ntmps119
    go_wp2_with fail
    go_end0
    exact ⟨rfl, by rw [HZ.out]; exact HC.out, grownBy_setC _ _ _ _⟩
set_option maxHeartbeats 1000000 in
theorem isExtension_any (s : ByteArray) (w : World) (hs : s.size ≤ maxLen) :
    Calls Tryz.prog 173 #[.string s] w fun e w' => e = .returned (.bool (visS s)) ∧ Below w.heap.size w w' := by
  have HS := Box.mk (And.intro hs (Nat.le_trans (trimBA_size s) hs))
  have HV := Box.mk (valS_trim s)
  clear hs
  go_enter Tryz.func173, Tryz.ntmps173
  go_wp2_with fail
  refine (trim_any s _ HS.out.1).mono ?_
  rintro e w1 ⟨rfl, hb1⟩
  generalize trimBA s = u at *
  have HB1 := Box.mk hb1
  clear hb1
  go_wp2_with fail
  refine (value_any u _ HS.out.2).mono ?_
  rintro e w2 ⟨he, hb2⟩
  rw [HV.out] at he
  subst he
  have HB2 := Box.mk (below_trans HB1.out hb2)
  clear hb2
  go_wp2_with fail
  go_ret
  exact ⟨rfl, HB2.out⟩
/-- What a check of a complete line returns, and what it leaves of the state. -/
def RetFin (w : World) (g : Nat) (r : Int × Chk) (e : Ending) (w' : World) : Prop :=
  e = .returned (.int .i64 r.1) ∧ (r.1 = 0 → CVar w' g r.2.ph r.2.left r.2.tr (.slice none 0 0) ∧ r.2.line = []) ∧ w.grownBy w' (some g)
theorem RetFin.err {w w' : World} {g : Nat} {r : Int × Chk} {e : Ending} {er : Int} (hr : r = (er, zeroC)) (he : e = .returned (.int .i64 er)) (h0 : ¬ er = 0) (hg : w.grownBy w' (some g)) : RetFin w g r e w' := by
  subst hr; exact ⟨he, fun h => absurd h h0, hg⟩
theorem RetFin.ok {w w' : World} {g : Nat} {r : Int × Chk} {e : Ending} {p l t : Int} (hr : r = (0, ⟨p, l, t, []⟩)) (he : e = .returned (.int .i64 0)) (hc : CVar w' g p l t (.slice none 0 0)) (hg : w.grownBy w' (some g)) : RetFin w g r e w' := by
  subst hr; exact ⟨he, fun _ => ⟨hc, rfl⟩, hg⟩
set_option maxRecDepth 100000 in
set_option maxHeartbeats 2000000 in
theorem startChunk_any (g : Nat) (y : ByteArray) (w : World) (h : CVar w g 0 0 0 (.slice none 0 0)) (hy : y.size ≤ 1000) :
    Calls Tryz.prog 157 #[.pointer (some ⟨g, 0, none⟩), .string y] w (RetFin w g (lineS ⟨0, 0, 0, []⟩ y)) := by
  obtain ⟨d, x, hdx⟩ : ∃ d x, cutS 59 y = (d, x) := ⟨_, _, rfl⟩
  obtain ⟨n, er, hp⟩ : ∃ n er, parseS 16 1000000000 d = (n, er) := ⟨_, _, rfl⟩
  have HD := Box.mk hdx
  have HPS := Box.mk hp
  have HDX := Box.mk (show d.size ≤ maxLen ∧ x.size ≤ maxLen from by
    have h1 := cutS_size1 59 y
    have h2 := cutS_size2 59 y
    rw [hdx] at h1 h2
    have h3 : d.size ≤ y.size := h1
    have h4 : x.size ≤ y.size := h2
    unfold maxLen
    omega)
  have HY := Box.mk (show y.size ≤ maxLen from by unfold maxLen; omega)
  have HL1 := Box.mk (fun (hv : visS x = false) => lineS_ext (l := 0) (t := 0) (y := y) (by rw [hdx]; exact hv))
  have HL2 := Box.mk (fun (hv : visS x = true) (h0 : ¬ er = 0) => lineS_err (l := 0) (t := 0) (n := n) (e := er) (y := y) (by rw [hdx]; exact hv) (by rw [hdx]; exact hp) h0)
  have HL3 := Box.mk (fun (hv : visS x = true) (h0 : er = 0) => lineS_ok (l := 0) (t := 0) (n := n) (y := y) (by rw [hdx]; exact hv) (by rw [hdx, ← h0]; exact hp))
  have HC := Box.mk h
  generalize lineS ⟨0, 0, 0, []⟩ y = R at *
  clear h hp hdx hy
  go_enter Tryz.func157, Tryz.ntmps157
  go_wp2_with fail
  refine (cutC_any 59 y _ HY.out).mono ?_
  rintro e w1 ⟨b, he, hb1⟩
  rw [HD.out] at he
  simp only [] at he
  subst he
  have HC1 := Box.mk (HC.out.keep hb1)
  have HG1 := Box.mk (grownBy_of hb1 (some g))
  clear hb1 HC
  go_wp2_with fail
  refine (isExtension_any x _ HDX.out.2).mono ?_
  rintro e w2 ⟨he, hb2⟩
  have HC2 := Box.mk (HC1.out.keep hb2)
  have HG2 := Box.mk (grownBy_trans HG1.out (grownBy_of hb2 (some g)))
  clear hb2 HC1 HG1
  by_cases hv : visS x = true
  · rw [hv] at he
    subst he
    have HV := Box.mk hv
    clear hv
    go_wp2_with fail
    refine (parseHex_any d 1000000000 _ HDX.out.1 (by decide) (by decide)).mono ?_
    rintro e w3 ⟨he, rfl⟩
    rw [HPS.out] at he
    simp only [] at he
    subst he
    by_cases h0 : er = 0
    · have HR := Box.mk (HL3.out HV.out h0)
      have e0 : (er != 0) = false := by rw [h0]; rfl
      clear h0 HL1 HL2 HL3 HPS
      obtain ⟨ha0, ha1, ha2, ha3⟩ := HC2.out.cells
      have hf0 := HC2.out.frozen (i := 0)
      by_cases hn : n = 0
      · have HR2 := Box.mk (show R = (0, ⟨3, 0, 0, []⟩) by rw [HR.out, if_pos hn, hn])
        have en : (n == 0) = true := by rw [hn]; rfl
        have HC3 := Box.mk (HC2.out.setP (z := 3))
        obtain ⟨hb0, hb1, hb2, hb3⟩ := HC3.out.cells
        have hf2 := HC3.out.frozen (i := 2)
        clear hn HR
        go_wp2_with fail
        go_ret
        exact RetFin.ok HR2.out rfl HC3.out.setT (grownBy_trans HG2.out (grownBy_trans (grownBy_setC _ _ _ _) (grownBy_setC _ _ _ _)))
      · have HR2 := Box.mk (show R = (0, ⟨1, n, 0, []⟩) by rw [HR.out, if_neg hn])
        have en : (n == 0) = false := by rw [beq_eq_false_iff_ne]; exact hn
        have HC3 := Box.mk (HC2.out.setP (z := 1))
        obtain ⟨hb0, hb1, hb2, hb3⟩ := HC3.out.cells
        have hf1 := HC3.out.frozen (i := 1)
        clear hn HR
        go_wp2_with fail
        go_ret
        exact RetFin.ok HR2.out rfl HC3.out.setL (grownBy_trans HG2.out (grownBy_trans (grownBy_setC _ _ _ _) (grownBy_setC _ _ _ _)))
    · have HR := Box.mk (HL2.out HV.out h0)
      have e0 : (er != 0) = true := by rw [bne_iff_ne]; exact h0
      have H0 := Box.mk h0
      clear h0 HL1 HL2 HL3 HPS
      go_wp2_with fail
      go_ret
      exact RetFin.err HR.out rfl H0.out HG2.out
  · have hv2 : visS x = false := by rw [← Bool.not_eq_true]; exact hv
    have HR := Box.mk (HL1.out hv2)
    rw [hv2] at he
    subst he
    clear hv hv2 HL1 HL2 HL3 HPS
    go_wp2_with fail
    go_ret
    exact RetFin.err HR.out rfl (by decide) HG2.out
set_option maxRecDepth 100000 in
set_option maxHeartbeats 2000000 in
theorem finishLine_any (p l t : Int) (g : Nat) (y : ByteArray) (w : World) (h : CVar w g p l t (.slice none 0 0)) (hp : p = 0 ∧ l = 0 ∧ t = 0 ∨ p = 2 ∨ p = 3) (hy : y.size ≤ 1000) :
    Calls Tryz.prog 137 #[.pointer (some ⟨g, 0, none⟩), .string y] w (RetFin w g (lineS ⟨p, l, t, []⟩ y)) := by
  rcases hp with ⟨rfl, rfl, rfl⟩ | rfl | rfl
  · have HC := Box.mk h
    obtain ⟨ha0, ha1, ha2, ha3⟩ := h.cells
    have HY := Box.mk hy
    generalize hR : lineS ⟨0, 0, 0, []⟩ y = R
    have HR := Box.mk hR
    clear h hy hR
    go_enter Tryz.func137, Tryz.ntmps137
    go_wp2_with fail
    refine (startChunk_any g y _ HC.out HY.out).mono ?_
    rintro e w1 ⟨he, h1, h2⟩
    rw [HR.out] at he h1
    subst he
    have H1 := Box.mk h1
    have H2 := Box.mk h2
    clear h1 h2
    go_wp2_with fail
    go_ret
    exact ⟨rfl, H1.out, H2.out⟩
  · obtain ⟨ha0, ha1, ha2, ha3⟩ := h.cells
    have hf0 := h.frozen (i := 0)
    have HC := Box.mk h
    clear h
    by_cases hz : y.size = 0
    · have HR := Box.mk (show lineS ⟨2, l, t, []⟩ y = (0, ⟨0, l, t, []⟩) by unfold lineS; simp [hz])
      have hye := empty_y hz
      generalize lineS ⟨2, l, t, []⟩ y = R at *
      clear hz hy
      go_enter Tryz.func137, Tryz.ntmps137
      go_wp2_with fail
      go_ret
      exact RetFin.ok HR.out rfl HC.out.setP (grownBy_setC _ _ _ _)
    · have HR := Box.mk (show lineS ⟨2, l, t, []⟩ y = (2, zeroC) by unfold lineS; simp [hz])
      have hye := full_y hz
      generalize lineS ⟨2, l, t, []⟩ y = R at *
      clear hz hy
      go_enter Tryz.func137, Tryz.ntmps137
      go_wp2_with fail
      go_ret
      exact RetFin.err HR.out rfl (by decide) (grownBy_of (Below.refl _ _) _)
  · obtain ⟨ha0, ha1, ha2, ha3⟩ := h.cells
    have hf0 := h.frozen (i := 0)
    have HC := Box.mk h
    clear h
    by_cases hz : y.size = 0
    · have HR := Box.mk (show lineS ⟨3, l, t, []⟩ y = (0, ⟨4, l, t, []⟩) by unfold lineS; simp [hz])
      have hye := empty_y hz
      generalize lineS ⟨3, l, t, []⟩ y = R at *
      clear hz hy
      go_enter Tryz.func137, Tryz.ntmps137
      go_wp2_with fail
      go_ret
      exact RetFin.ok HR.out rfl HC.out.setP (grownBy_setC _ _ _ _)
    · have HR1 := Box.mk (fun (hf : (parseF y).isSome = true) => show lineS ⟨3, l, t, []⟩ y = (0, ⟨3, l, t, []⟩) by unfold lineS; simp [hz, hf])
      have HR2 := Box.mk (fun (hf : ¬ (parseF y).isSome = true) => show lineS ⟨3, l, t, []⟩ y = (2, zeroC) by unfold lineS; simp [hz, hf])
      have hye := full_y hz
      have HY := Box.mk (show y.size ≤ maxLen from by unfold maxLen; omega)
      generalize lineS ⟨3, l, t, []⟩ y = R at *
      clear hz hy
      go_enter Tryz.func137, Tryz.ntmps137
      go_wp2_with fail
      refine (fParse_any y _ HY.out).mono ?_
      rintro e w1 ⟨he, hb1⟩
      have HC1 := Box.mk (HC.out.keep hb1)
      have HB1 := Box.mk hb1
      clear hb1
      rcases hq : parseF y with _ | ⟨fn, fv⟩
      · rw [hq] at he
        simp only [parseV] at he
        subst he
        have HR := Box.mk (HR2.out (by rw [hq]; simp))
        clear hq HR1 HR2
        go_wp2_with fail
        go_ret
        exact RetFin.err HR.out rfl (by decide) (grownBy_of (below_trans HB1.out (below_oneF _ _)) _)
      · rw [hq] at he
        simp only [parseV] at he
        subst he
        have HR := Box.mk (HR1.out (by rw [hq]; rfl))
        clear hq HR1 HR2
        go_wp2_with fail
        go_ret
        exact RetFin.ok HR.out rfl (HC1.out.keep (below_oneF _ _)) (grownBy_of (below_trans HB1.out (below_oneF _ _)) _)
end Go.Proofs.YtejbkbccljoldaaGreatDoor
namespace Go.Proofs.YtejbkbccljoldaaGreatDoor
open Go.RowKit

/-- What readLine returns, and what it leaves of the state. -/
def RetLine (w : World) (g B : Nat) (v : Value) (r : Int × Chk) (e : Ending) (w' : World) : Prop :=
  e = .returned (.int .i64 r.1) ∧ (r.1 = 0 → ∃ v', CVar w' g r.2.ph r.2.left r.2.tr v' ∧ Own B w' v' r.2.line ∧ (v'.ownBlock = v.ownBlock ∨ v'.ownBlock = none ∨ ∃ k, v'.ownBlock = some k ∧ w.heap.size ≤ k)) ∧ Touch w w' g v.ownBlock
theorem RetLine.err {w w' : World} {g B : Nat} {v : Value} {r : Int × Chk} {e : Ending} {er : Int} (hr : r = (er, zeroC)) (he : e = .returned (.int .i64 er)) (h0 : ¬ er = 0) (ht : Touch w w' g v.ownBlock) : RetLine w g B v r e w' := by
  subst hr; exact ⟨he, fun h => absurd h h0, ht⟩
theorem RetLine.ok {w w' : World} {g B : Nat} {v v' : Value} {r : Int × Chk} {e : Ending} {p l t : Int} {ln : List UInt8} (hr : r = (0, ⟨p, l, t, ln⟩)) (he : e = .returned (.int .i64 0)) (hc : CVar w' g p l t v') (ho : Own B w' v' ln)
    (hb : v'.ownBlock = v.ownBlock ∨ v'.ownBlock = none ∨ ∃ k, v'.ownBlock = some k ∧ w.heap.size ≤ k) (ht : Touch w w' g v.ownBlock) : RetLine w g B v r e w' := by
  subst hr; exact ⟨he, fun _ => ⟨v', hc, ho, hb⟩, ht⟩
theorem own_cap {w : World} {a : Option Addr} {m : List UInt8} {z : UInt8} {c : Nat} (h : IsBytes w a (m ++ [z]) c) : m.length + 1 ≤ c := by
  rcases h with ⟨_, e, _⟩ | ⟨y, _, h1, _, _⟩
  · simp at e
  · simpa using h1
theorem own_lastC {w : World} {ad : Addr} {m : List UInt8} {z : UInt8} {c : Nat} (h : IsBytes w (some ad) (m ++ [z]) c) : w.cell? (ad.add m.length) = some (.int .u8 (z.toNat : Int)) := by
  rcases h with ⟨e, _⟩ | ⟨y, e, _, _, hc⟩
  · cases e
  · obtain rfl := Option.some.inj e
    have := hc m.length (by simp)
    simpa using this
set_option maxRecDepth 100000 in
set_option maxHeartbeats 2000000 in
theorem readLine_full (l t : Int) (x : UInt8) (g : Nat) (v : Value) (w : World) (hc : CVar w g 3 l t v) (ht0 : 0 ≤ t ∧ t ≤ 1024) (ht : 1024 < t + 1) :
    Calls Tryz.prog 120 #[.pointer (some ⟨g, 0, none⟩), .int .u8 x.toNat] w fun e w' => e = .returned (.int .i64 3) ∧ Touch w w' g v.ownBlock := by
  obtain ⟨ha0, ha1, ha2, ha3⟩ := hc.cells
  have hf2 := hc.frozen (i := 2)
  obtain ⟨hd0, hd1, hd2, hd3⟩ := (hc.setT (z := t + 1)).cells
  clear hc
  go_enter Tryz.func120, Tryz.ntmps120
  go_wp2_with fail
  go_ret
  exact ⟨rfl, Touch.ofVar (grownBy_setC _ _ _ _) _⟩
theorem Own.bytes2 {B : Nat} {w : World} {a : Option Addr} {l : List UInt8} {n c : Nat} (h : Own B w (.slice a n c) l) (_ : l ≠ []) : IsBytes w a l c := h.bytes
set_option maxRecDepth 100000 in
set_option maxHeartbeats 4000000 in
theorem readLine_n (p l t : Int) (line : List UInt8) (x : UInt8) (g B : Nat) (v : Value) (w : World) (hc : CVar w g p l t v) (ho : Own B w v line) (hB : B ≤ w.heap.size) (hg : g < B) (hp : p = 0 ∧ l = 0 ∧ t = 0 ∨ p = 2) (hl : line.length ≤ 129) :
    Calls Tryz.prog 120 #[.pointer (some ⟨g, 0, none⟩), .int .u8 x.toNat] w (RetLine w g B v (byteS ⟨p, l, t, line⟩ t x)) := by
  have HPP := Box.mk hp
  have ep : (p == 3) = false := by rw [beq_eq_false_iff_ne]; rcases hp with h | h <;> omega
  clear hp
  obtain ⟨va, vc, rfl, hvb⟩ := ho.val
  rcases last_cases line with rfl | ⟨m, z, rfl⟩
  · have hcr : crB [] = false := rfl
    obtain ⟨n, hn⟩ : ∃ n : Nat, n = ([] : List UInt8).length := ⟨_, rfl⟩
    rw [← hn] at hc ho ⊢
    have HN := Box.mk (show n = 0 from hn)
    have hni : (n : Int) ≤ 0 := by rw [hn]; decide
    clear hn
    obtain ⟨ha0, ha1, ha2, ha3⟩ := hc.cells
    have HC := Box.mk (show CVar w g p l t (.slice va n vc) from hc)
    have HO := Box.mk (show Own B w (.slice va n vc) [] from ho)
    have HT := Box.mk (show Touch w w g (Value.slice va n vc).ownBlock from Touch.refl _ _ _)
    have hsz : B ≤ w.heap.size := by exact hB
    obtain ⟨hd0, hd1, hd2, hd3⟩ := HC.out.cells
    have hf3 := HC.out.frozen (i := 3)
    clear hc ho hvb
    by_cases hx : x = 10
    · subst hx
      have HP := Box.mk (byteS_ten (s := ⟨p, l, t, []⟩) (t := t) hcr)
      clear hcr
      rw [show (10 : UInt8).toNat = 10 from rfl]
      go_enter Tryz.func120, Tryz.ntmps120
      go_wp2_with fail
      go_ret
      exact RetLine.err HP.out rfl (by decide) HT.out
    · have e10 : ((x.toNat : Int) == 10) = false := by
        rw [beq_eq_false_iff_ne]; intro e; exact hx (UInt8.toNat_inj.1 (by rw [show (10 : UInt8).toNat = 10 from rfl]; omega))
      go_enter Tryz.func120, Tryz.ntmps120
      go_wp2_with (at_builtin; refine wpList_append_ownb _ rfl _ _ rfl rfl (HO.out.keep (below_oneF w (.cells #[.int .u8 (x.toNat : Int)] 5))) rfl (r := [x]) (isBytes_oneC w x) (by simp) (by simp; omega) ?_)
      intro v5 w5 hown hgr hbl
      have HBL := Box.mk (show v5.ownBlock = (Value.slice va n vc).ownBlock ∨ v5.ownBlock = none ∨ ∃ k, v5.ownBlock = some k ∧ w.heap.size ≤ k by
        rcases hbl with h | h
        · exact .inl h
        · exact .inr (.inr ⟨_, h, by have h9 := HT.out.size; (try simp only [World.size_setCell] at h9); (try simp only [World.size_alloc, World.size_setCell]); omega⟩))
      obtain ⟨ln, hln⟩ : ∃ ln : List UInt8, ln = [] ++ [x] := ⟨_, rfl⟩
      have hown : Own B w5 v5 ln := by rw [hln]; simpa using hown
      obtain ⟨na, nc, rfl, hnb⟩ := hown.val
      have hgr := grownBy_afterC (below_oneF w (.cells #[.int .u8 (x.toNat : Int)] 5)) hgr
      have HC5 := Box.mk (HC.out.grownC hgr (fun e => by have := (HO.out.lt e.symm).1; omega))
      have HT5 := Box.mk (HT.out.trans (Touch.ofRow hgr g) (.inl rfl))
      have HO5 := Box.mk (hown.setC (g := g) (i := 3) (u := .slice na ln.length nc) hg)
      have HLN := Box.mk (show ln.length = n + 1 by rw [hln]; rw [HN.out]; rfl)
      have HLE := Box.mk hln
      have hl130 : ln.length ≤ 130 := by have := HLN.out; have := HN.out; omega
      clear hown hgr hbl hnb hln
      have hf5 := HC5.out.frozen (i := 3)
      obtain ⟨hb0, hb1, hb2, hb3⟩ := HC5.out.cells
      have HC6 := Box.mk (HC5.out.setV (u := .slice na ln.length nc))
      obtain ⟨hc0, hc1, hc2, hc3⟩ := HC6.out.cells
      have HT6 := Box.mk (HT5.out.trans (Touch.ofVar (grownBy_setC w5 g 3 (.slice na ln.length nc)) none) (.inr (.inl rfl)))
      by_cases hlong : 128 < ln.length ∧ ¬ x = 13
      · have h128 := hlong.1
        have HP := Box.mk (byteS_long (s := ⟨p, l, t, []⟩) (t := t) hcr hx (by have h8 := hlong.1; rw [HLN.out, HN.out] at h8; exact h8) hlong.2)
        have e13 : ((x.toNat : Int) != 13) = true := by
          rw [bne_iff_ne]; intro e; exact hlong.2 (UInt8.toNat_inj.1 (by rw [show (13 : UInt8).toNat = 13 from rfl]; omega))
        clear hlong hx hcr
        go_wp2_with fail
        go_ret
        exact RetLine.err HP.out rfl (by decide) HT6.out
      · have HP := Box.mk (show byteS ⟨p, l, t, []⟩ t x = (0, ⟨p, l, t, ln⟩) by
          rw [HLE.out]
          exact byteS_more hcr hx (fun h => hlong ⟨by rw [HLN.out, HN.out]; exact h.1, h.2⟩))
        by_cases h128 : 128 < ln.length
        · have e13 : ((x.toNat : Int) != 13) = false := by
            have hx13 : x = 13 := Decidable.byContradiction fun h => hlong ⟨h128, h⟩
            rw [hx13]; rfl
          clear hlong hx hcr
          go_wp2_with fail
          go_ret
          exact RetLine.ok HP.out rfl HC6.out HO5.out HBL.out HT6.out
        · clear hlong hx hcr
          go_wp2_with fail
          go_ret
          exact RetLine.ok HP.out rfl HC6.out HO5.out HBL.out HT6.out
  · have hnl : (m ++ [z]).length = m.length + 1 := by simp
    rw [hnl] at hc ho hl ⊢
    obtain ⟨ad, hva⟩ := isBytes_some hvb
    have hcap := own_cap hvb
    obtain ⟨ha0, ha1, ha2, ha3⟩ := hc.cells
    have HC := Box.mk (show CVar w g p l t (.slice va (m.length + 1) vc) from hc)
    have HO := Box.mk (show Own B w (.slice va (m.length + 1) vc) (m ++ [z]) from ho)
    have HT := Box.mk (show Touch w w g (Value.slice va (m.length + 1) vc).ownBlock from Touch.refl _ _ _)
    have hsz : B ≤ w.heap.size := by exact hB
    obtain ⟨hd0, hd1, hd2, hd3⟩ := HC.out.cells
    have hf3 := HC.out.frozen (i := 3)
    clear hc ho hvb
    have hcell := own_lastC (ad := ad) (z := z) (m := m) (c := vc) (w := w) (by rw [← hva]; have h := HO.out.bytes2 (by simp); exact h)
    by_cases hz : z = 13
    · subst hz
      have hcell : (w).cell? (ad.add m.length) = some (.int .u8 13) := hcell
      subst hva
      by_cases hx : x = 10
      · subst hx
        have HP0 := Box.mk (byteS_line (m := m) (p := p) (l := l) (t0 := t) (t := t))
        have hcv := conv_bytes (isBytes_front (HO.out.bytes2 (by simp)))
        have HY := Box.mk (show (⟨m.toArray⟩ : ByteArray).size ≤ 1000 by show m.toArray.size ≤ 1000; rw [List.size_toArray]; omega)
        generalize (⟨m.toArray⟩ : ByteArray) = y at *
        have HC2 := Box.mk (HC.out.setV (u := .slice none 0 0))
        generalize hR : lineS ⟨p, l, t, []⟩ y = R
        have HR := Box.mk hR
        clear hR
        rw [show (10 : UInt8).toNat = 10 from rfl]
        go_enter Tryz.func120, Tryz.ntmps120
        go_wp2_with fail
        refine (finishLine_any p l t g y _ HC2.out (by rcases HPP.out with h | h; exact .inl h; exact .inr (.inl h)) HY.out).mono ?_
        rintro e w3 ⟨he, h1, h2⟩
        rw [HR.out] at he h1
        subst he
        have H1 := Box.mk h1
        have HT3 := Box.mk ((HT.out.trans (Touch.ofVar (grownBy_setC w g 3 (.slice none 0 0)) none) (.inr (.inl rfl))).trans (Touch.ofVar h2 none) (.inr (.inl rfl)))
        clear h1 h2 hcv
        go_wp2_with fail
        go_ret
        refine ⟨by rw [HP0.out, HR.out]; rfl, fun h0 => ?_, HT3.out⟩
        rw [HP0.out, HR.out] at h0 ⊢
        obtain ⟨h3, h4⟩ := H1.out h0
        exact ⟨.slice none 0 0, h3, by rw [h4]; exact Own.start _ _, .inr (.inl rfl)⟩
      · have HP := Box.mk (byteS_bad (s := ⟨p, l, t, m ++ [13]⟩) (t := t) (by show crB (m ++ [13]) = true; rw [crB_app]; rfl) hx)
        have e10 : ((x.toNat : Int) == 10) = false := by
          rw [beq_eq_false_iff_ne]; intro e; exact hx (UInt8.toNat_inj.1 (by rw [show (10 : UInt8).toNat = 10 from rfl]; omega))
        clear hx
        go_enter Tryz.func120, Tryz.ntmps120
        go_wp2_with fail
        go_ret
        exact RetLine.err HP.out rfl (by decide) HT.out
    · have hcr : crB (m ++ [z]) = false := by rw [crB_app]; simpa using hz
      have ez : ((z.toNat : Int) == 13) = false := by
        rw [beq_eq_false_iff_ne]; intro e; exact hz (UInt8.toNat_inj.1 (by rw [show (13 : UInt8).toNat = 13 from rfl]; omega))
      clear hz
      by_cases hx : x = 10
      · subst hx
        subst hva
        have HP := Box.mk (byteS_ten (s := ⟨p, l, t, m ++ [z]⟩) (t := t) hcr)
        clear hcr
        rw [show (10 : UInt8).toNat = 10 from rfl]
        go_enter Tryz.func120, Tryz.ntmps120
        go_wp2_with fail
        go_ret
        exact RetLine.err HP.out rfl (by decide) HT.out
      · subst hva
        have e10 : ((x.toNat : Int) == 10) = false := by
          rw [beq_eq_false_iff_ne]; intro e; exact hx (UInt8.toNat_inj.1 (by rw [show (10 : UInt8).toNat = 10 from rfl]; omega))
        go_enter Tryz.func120, Tryz.ntmps120
        go_wp2_with (at_builtin; refine wpList_append_ownb _ rfl _ _ rfl rfl (HO.out.keep (below_oneF w (.cells #[.int .u8 (x.toNat : Int)] 5))) rfl (r := [x]) (isBytes_oneC w x) (by simp; omega) (by simp; omega) ?_)
        intro v5 w5 hown hgr hbl
        have HBL := Box.mk (show v5.ownBlock = (Value.slice (some ad) (m.length + 1) vc).ownBlock ∨ v5.ownBlock = none ∨ ∃ k, v5.ownBlock = some k ∧ w.heap.size ≤ k by
          rcases hbl with h | h
          · exact .inl h
          · exact .inr (.inr ⟨_, h, by have h9 := HT.out.size; (try simp only [World.size_setCell] at h9); (try simp only [World.size_alloc, World.size_setCell]); omega⟩))
        obtain ⟨ln, hln⟩ : ∃ ln : List UInt8, ln = (m ++ [z]) ++ [x] := ⟨_, rfl⟩
        have hown : Own B w5 v5 ln := by rw [hln]; simpa using hown
        obtain ⟨na, nc, rfl, hnb⟩ := hown.val
        have hgr := grownBy_afterC (below_oneF w (.cells #[.int .u8 (x.toNat : Int)] 5)) hgr
        have HC5 := Box.mk (HC.out.grownC hgr (fun e => by have := (HO.out.lt e.symm).1; omega))
        have HT5 := Box.mk (HT.out.trans (Touch.ofRow hgr g) (.inl rfl))
        have HO5 := Box.mk (hown.setC (g := g) (i := 3) (u := .slice na ln.length nc) hg)
        have HLN := Box.mk (show ln.length = (m.length + 1) + 1 by rw [hln]; simp)
        have HLE := Box.mk hln
        have hl130 : ln.length ≤ 130 := by have := HLN.out; omega
        clear hown hgr hbl hnb hln
        have hf5 := HC5.out.frozen (i := 3)
        obtain ⟨hb0, hb1, hb2, hb3⟩ := HC5.out.cells
        have HC6 := Box.mk (HC5.out.setV (u := .slice na ln.length nc))
        obtain ⟨hc0, hc1, hc2, hc3⟩ := HC6.out.cells
        have HT6 := Box.mk (HT5.out.trans (Touch.ofVar (grownBy_setC w5 g 3 (.slice na ln.length nc)) none) (.inr (.inl rfl)))
        by_cases hlong : 128 < ln.length ∧ ¬ x = 13
        · have h128 := hlong.1
          have HP := Box.mk (byteS_long (s := ⟨p, l, t, (m ++ [z])⟩) (t := t) hcr hx (by have h8 := hlong.1; rw [HLN.out] at h8; simpa using h8) hlong.2)
          have e13 : ((x.toNat : Int) != 13) = true := by
            rw [bne_iff_ne]; intro e; exact hlong.2 (UInt8.toNat_inj.1 (by rw [show (13 : UInt8).toNat = 13 from rfl]; omega))
          clear hlong hx hcr
          go_wp2_with fail
          go_ret
          exact RetLine.err HP.out rfl (by decide) HT6.out
        · have HP := Box.mk (show byteS ⟨p, l, t, (m ++ [z])⟩ t x = (0, ⟨p, l, t, ln⟩) by
            rw [HLE.out]
            exact byteS_more hcr hx (fun h => hlong ⟨by rw [HLN.out]; simpa using h.1, h.2⟩))
          by_cases h128 : 128 < ln.length
          · have e13 : ((x.toNat : Int) != 13) = false := by
              have hx13 : x = 13 := Decidable.byContradiction fun h => hlong ⟨h128, h⟩
              rw [hx13]; rfl
            clear hlong hx hcr
            go_wp2_with fail
            go_ret
            exact RetLine.ok HP.out rfl HC6.out HO5.out HBL.out HT6.out
          · clear hlong hx hcr
            go_wp2_with fail
            go_ret
            exact RetLine.ok HP.out rfl HC6.out HO5.out HBL.out HT6.out
set_option maxRecDepth 100000 in
set_option maxHeartbeats 4000000 in
theorem readLine_3 (l t : Int) (line : List UInt8) (x : UInt8) (g B : Nat) (v : Value) (w : World) (hc : CVar w g 3 l t v) (ho : Own B w v line) (hB : B ≤ w.heap.size) (hg : g < B) (ht0 : 0 ≤ t) (ht : t + 1 ≤ 1024) (hl : line.length ≤ 129) :
    Calls Tryz.prog 120 #[.pointer (some ⟨g, 0, none⟩), .int .u8 x.toNat] w (RetLine w g B v (byteS ⟨3, l, t, line⟩ (t + 1) x)) := by
  obtain ⟨va, vc, rfl, hvb⟩ := ho.val
  rcases last_cases line with rfl | ⟨m, z, rfl⟩
  · have hcr : crB [] = false := rfl
    obtain ⟨n, hn⟩ : ∃ n : Nat, n = ([] : List UInt8).length := ⟨_, rfl⟩
    rw [← hn] at hc ho ⊢
    have HN := Box.mk (show n = 0 from hn)
    have hni : (n : Int) ≤ 0 := by rw [hn]; decide
    clear hn
    obtain ⟨ha0, ha1, ha2, ha3⟩ := hc.cells
    have hf2 := hc.frozen (i := 2)
    have HC := Box.mk (show CVar (w.setCell ⟨g, 2, none⟩ (.int .i64 (t + 1))) g 3 l (t + 1) (.slice va n vc) from hc.setT)
    have HO := Box.mk (show Own B (w.setCell ⟨g, 2, none⟩ (.int .i64 (t + 1))) (.slice va n vc) [] from ho.setC hg)
    have HT := Box.mk (show Touch w (w.setCell ⟨g, 2, none⟩ (.int .i64 (t + 1))) g (Value.slice va n vc).ownBlock from Touch.ofVar (grownBy_setC _ _ _ _) _)
    have hsz : B ≤ (w.setCell ⟨g, 2, none⟩ (.int .i64 (t + 1))).heap.size := by rw [World.size_setCell]; exact hB
    obtain ⟨hd0, hd1, hd2, hd3⟩ := HC.out.cells
    have hf3 := HC.out.frozen (i := 3)
    clear hc ho hvb
    by_cases hx : x = 10
    · subst hx
      have HP := Box.mk (byteS_ten (s := ⟨3, l, t, []⟩) (t := (t + 1)) hcr)
      clear hcr
      rw [show (10 : UInt8).toNat = 10 from rfl]
      go_enter Tryz.func120, Tryz.ntmps120
      go_wp2_with fail
      go_ret
      exact RetLine.err HP.out rfl (by decide) HT.out
    · have e10 : ((x.toNat : Int) == 10) = false := by
        rw [beq_eq_false_iff_ne]; intro e; exact hx (UInt8.toNat_inj.1 (by rw [show (10 : UInt8).toNat = 10 from rfl]; omega))
      go_enter Tryz.func120, Tryz.ntmps120
      go_wp2_with (at_builtin; refine wpList_append_ownb _ rfl _ _ rfl rfl (HO.out.keep (below_oneF (w.setCell ⟨g, 2, none⟩ (.int .i64 (t + 1))) (.cells #[.int .u8 (x.toNat : Int)] 5))) rfl (r := [x]) (by have h := isBytes_oneC (w.setCell ⟨g, 2, none⟩ (.int .i64 (t + 1))) x; rw [World.size_setCell] at h; exact h) (by simp) (by simp; omega) ?_)
      intro v5 w5 hown hgr hbl
      have HBL := Box.mk (show v5.ownBlock = (Value.slice va n vc).ownBlock ∨ v5.ownBlock = none ∨ ∃ k, v5.ownBlock = some k ∧ w.heap.size ≤ k by
        rcases hbl with h | h
        · exact .inl h
        · exact .inr (.inr ⟨_, h, by have h9 := HT.out.size; (try simp only [World.size_setCell] at h9); (try simp only [World.size_alloc, World.size_setCell]); omega⟩))
      obtain ⟨ln, hln⟩ : ∃ ln : List UInt8, ln = [] ++ [x] := ⟨_, rfl⟩
      have hown : Own B w5 v5 ln := by rw [hln]; simpa using hown
      obtain ⟨na, nc, rfl, hnb⟩ := hown.val
      have hgr := grownBy_afterC (below_oneF (w.setCell ⟨g, 2, none⟩ (.int .i64 (t + 1))) (.cells #[.int .u8 (x.toNat : Int)] 5)) hgr
      have HC5 := Box.mk (HC.out.grownC hgr (fun e => by have := (HO.out.lt e.symm).1; omega))
      have HT5 := Box.mk (HT.out.trans (Touch.ofRow hgr g) (.inl rfl))
      have HO5 := Box.mk (hown.setC (g := g) (i := 3) (u := .slice na ln.length nc) hg)
      have HLN := Box.mk (show ln.length = n + 1 by rw [hln]; rw [HN.out]; rfl)
      have HLE := Box.mk hln
      have hl130 : ln.length ≤ 130 := by have := HLN.out; have := HN.out; omega
      clear hown hgr hbl hnb hln
      have hf5 := HC5.out.frozen (i := 3)
      obtain ⟨hb0, hb1, hb2, hb3⟩ := HC5.out.cells
      have HC6 := Box.mk (HC5.out.setV (u := .slice na ln.length nc))
      obtain ⟨hc0, hc1, hc2, hc3⟩ := HC6.out.cells
      have HT6 := Box.mk (HT5.out.trans (Touch.ofVar (grownBy_setC w5 g 3 (.slice na ln.length nc)) none) (.inr (.inl rfl)))
      by_cases hlong : 128 < ln.length ∧ ¬ x = 13
      · have h128 := hlong.1
        have HP := Box.mk (byteS_long (s := ⟨3, l, t, []⟩) (t := (t + 1)) hcr hx (by have h8 := hlong.1; rw [HLN.out, HN.out] at h8; exact h8) hlong.2)
        have e13 : ((x.toNat : Int) != 13) = true := by
          rw [bne_iff_ne]; intro e; exact hlong.2 (UInt8.toNat_inj.1 (by rw [show (13 : UInt8).toNat = 13 from rfl]; omega))
        clear hlong hx hcr
        go_wp2_with fail
        go_ret
        exact RetLine.err HP.out rfl (by decide) HT6.out
      · have HP := Box.mk (show byteS ⟨3, l, t, []⟩ (t + 1) x = (0, ⟨3, l, (t + 1), ln⟩) by
          rw [HLE.out]
          exact byteS_more hcr hx (fun h => hlong ⟨by rw [HLN.out, HN.out]; exact h.1, h.2⟩))
        by_cases h128 : 128 < ln.length
        · have e13 : ((x.toNat : Int) != 13) = false := by
            have hx13 : x = 13 := Decidable.byContradiction fun h => hlong ⟨h128, h⟩
            rw [hx13]; rfl
          clear hlong hx hcr
          go_wp2_with fail
          go_ret
          exact RetLine.ok HP.out rfl HC6.out HO5.out HBL.out HT6.out
        · clear hlong hx hcr
          go_wp2_with fail
          go_ret
          exact RetLine.ok HP.out rfl HC6.out HO5.out HBL.out HT6.out
  · have hnl : (m ++ [z]).length = m.length + 1 := by simp
    rw [hnl] at hc ho hl ⊢
    obtain ⟨ad, hva⟩ := isBytes_some hvb
    have hcap := own_cap hvb
    obtain ⟨ha0, ha1, ha2, ha3⟩ := hc.cells
    have hf2 := hc.frozen (i := 2)
    have HC := Box.mk (show CVar (w.setCell ⟨g, 2, none⟩ (.int .i64 (t + 1))) g 3 l (t + 1) (.slice va (m.length + 1) vc) from hc.setT)
    have HO := Box.mk (show Own B (w.setCell ⟨g, 2, none⟩ (.int .i64 (t + 1))) (.slice va (m.length + 1) vc) (m ++ [z]) from ho.setC hg)
    have HT := Box.mk (show Touch w (w.setCell ⟨g, 2, none⟩ (.int .i64 (t + 1))) g (Value.slice va (m.length + 1) vc).ownBlock from Touch.ofVar (grownBy_setC _ _ _ _) _)
    have hsz : B ≤ (w.setCell ⟨g, 2, none⟩ (.int .i64 (t + 1))).heap.size := by rw [World.size_setCell]; exact hB
    obtain ⟨hd0, hd1, hd2, hd3⟩ := HC.out.cells
    have hf3 := HC.out.frozen (i := 3)
    clear hc ho hvb
    have hcell := own_lastC (ad := ad) (z := z) (m := m) (c := vc) (w := (w.setCell ⟨g, 2, none⟩ (.int .i64 (t + 1)))) (by rw [← hva]; have h := HO.out.bytes2 (by simp); exact h)
    by_cases hz : z = 13
    · subst hz
      have hcell : ((w.setCell ⟨g, 2, none⟩ (.int .i64 (t + 1)))).cell? (ad.add m.length) = some (.int .u8 13) := hcell
      subst hva
      by_cases hx : x = 10
      · subst hx
        have HP0 := Box.mk (byteS_line (m := m) (p := 3) (l := l) (t0 := t) (t := (t + 1)))
        have hcv := conv_bytes (isBytes_front (HO.out.bytes2 (by simp)))
        have HY := Box.mk (show (⟨m.toArray⟩ : ByteArray).size ≤ 1000 by show m.toArray.size ≤ 1000; rw [List.size_toArray]; omega)
        generalize (⟨m.toArray⟩ : ByteArray) = y at *
        have HC2 := Box.mk (HC.out.setV (u := .slice none 0 0))
        generalize hR : lineS ⟨3, l, (t + 1), []⟩ y = R
        have HR := Box.mk hR
        clear hR
        rw [show (10 : UInt8).toNat = 10 from rfl]
        go_enter Tryz.func120, Tryz.ntmps120
        go_wp2_with fail
        refine (finishLine_any 3 l (t + 1) g y _ HC2.out (.inr (.inr rfl)) HY.out).mono ?_
        rintro e w3 ⟨he, h1, h2⟩
        rw [HR.out] at he h1
        subst he
        have H1 := Box.mk h1
        have HT3 := Box.mk ((HT.out.trans (Touch.ofVar (grownBy_setC (w.setCell ⟨g, 2, none⟩ (.int .i64 (t + 1))) g 3 (.slice none 0 0)) none) (.inr (.inl rfl))).trans (Touch.ofVar h2 none) (.inr (.inl rfl)))
        clear h1 h2 hcv
        go_wp2_with fail
        go_ret
        refine ⟨by rw [HP0.out, HR.out]; rfl, fun h0 => ?_, HT3.out⟩
        rw [HP0.out, HR.out] at h0 ⊢
        obtain ⟨h3, h4⟩ := H1.out h0
        exact ⟨.slice none 0 0, h3, by rw [h4]; exact Own.start _ _, .inr (.inl rfl)⟩
      · have HP := Box.mk (byteS_bad (s := ⟨3, l, t, m ++ [13]⟩) (t := (t + 1)) (by show crB (m ++ [13]) = true; rw [crB_app]; rfl) hx)
        have e10 : ((x.toNat : Int) == 10) = false := by
          rw [beq_eq_false_iff_ne]; intro e; exact hx (UInt8.toNat_inj.1 (by rw [show (10 : UInt8).toNat = 10 from rfl]; omega))
        clear hx
        go_enter Tryz.func120, Tryz.ntmps120
        go_wp2_with fail
        go_ret
        exact RetLine.err HP.out rfl (by decide) HT.out
    · have hcr : crB (m ++ [z]) = false := by rw [crB_app]; simpa using hz
      have ez : ((z.toNat : Int) == 13) = false := by
        rw [beq_eq_false_iff_ne]; intro e; exact hz (UInt8.toNat_inj.1 (by rw [show (13 : UInt8).toNat = 13 from rfl]; omega))
      clear hz
      by_cases hx : x = 10
      · subst hx
        subst hva
        have HP := Box.mk (byteS_ten (s := ⟨3, l, t, m ++ [z]⟩) (t := (t + 1)) hcr)
        clear hcr
        rw [show (10 : UInt8).toNat = 10 from rfl]
        go_enter Tryz.func120, Tryz.ntmps120
        go_wp2_with fail
        go_ret
        exact RetLine.err HP.out rfl (by decide) HT.out
      · subst hva
        have e10 : ((x.toNat : Int) == 10) = false := by
          rw [beq_eq_false_iff_ne]; intro e; exact hx (UInt8.toNat_inj.1 (by rw [show (10 : UInt8).toNat = 10 from rfl]; omega))
        go_enter Tryz.func120, Tryz.ntmps120
        go_wp2_with (at_builtin; refine wpList_append_ownb _ rfl _ _ rfl rfl (HO.out.keep (below_oneF (w.setCell ⟨g, 2, none⟩ (.int .i64 (t + 1))) (.cells #[.int .u8 (x.toNat : Int)] 5))) rfl (r := [x]) (by have h := isBytes_oneC (w.setCell ⟨g, 2, none⟩ (.int .i64 (t + 1))) x; rw [World.size_setCell] at h; exact h) (by simp; omega) (by simp; omega) ?_)
        intro v5 w5 hown hgr hbl
        have HBL := Box.mk (show v5.ownBlock = (Value.slice (some ad) (m.length + 1) vc).ownBlock ∨ v5.ownBlock = none ∨ ∃ k, v5.ownBlock = some k ∧ w.heap.size ≤ k by
          rcases hbl with h | h
          · exact .inl h
          · exact .inr (.inr ⟨_, h, by have h9 := HT.out.size; (try simp only [World.size_setCell] at h9); (try simp only [World.size_alloc, World.size_setCell]); omega⟩))
        obtain ⟨ln, hln⟩ : ∃ ln : List UInt8, ln = (m ++ [z]) ++ [x] := ⟨_, rfl⟩
        have hown : Own B w5 v5 ln := by rw [hln]; simpa using hown
        obtain ⟨na, nc, rfl, hnb⟩ := hown.val
        have hgr := grownBy_afterC (below_oneF (w.setCell ⟨g, 2, none⟩ (.int .i64 (t + 1))) (.cells #[.int .u8 (x.toNat : Int)] 5)) hgr
        have HC5 := Box.mk (HC.out.grownC hgr (fun e => by have := (HO.out.lt e.symm).1; omega))
        have HT5 := Box.mk (HT.out.trans (Touch.ofRow hgr g) (.inl rfl))
        have HO5 := Box.mk (hown.setC (g := g) (i := 3) (u := .slice na ln.length nc) hg)
        have HLN := Box.mk (show ln.length = (m.length + 1) + 1 by rw [hln]; simp)
        have HLE := Box.mk hln
        have hl130 : ln.length ≤ 130 := by have := HLN.out; omega
        clear hown hgr hbl hnb hln
        have hf5 := HC5.out.frozen (i := 3)
        obtain ⟨hb0, hb1, hb2, hb3⟩ := HC5.out.cells
        have HC6 := Box.mk (HC5.out.setV (u := .slice na ln.length nc))
        obtain ⟨hc0, hc1, hc2, hc3⟩ := HC6.out.cells
        have HT6 := Box.mk (HT5.out.trans (Touch.ofVar (grownBy_setC w5 g 3 (.slice na ln.length nc)) none) (.inr (.inl rfl)))
        by_cases hlong : 128 < ln.length ∧ ¬ x = 13
        · have h128 := hlong.1
          have HP := Box.mk (byteS_long (s := ⟨3, l, t, (m ++ [z])⟩) (t := (t + 1)) hcr hx (by have h8 := hlong.1; rw [HLN.out] at h8; simpa using h8) hlong.2)
          have e13 : ((x.toNat : Int) != 13) = true := by
            rw [bne_iff_ne]; intro e; exact hlong.2 (UInt8.toNat_inj.1 (by rw [show (13 : UInt8).toNat = 13 from rfl]; omega))
          clear hlong hx hcr
          go_wp2_with fail
          go_ret
          exact RetLine.err HP.out rfl (by decide) HT6.out
        · have HP := Box.mk (show byteS ⟨3, l, t, (m ++ [z])⟩ (t + 1) x = (0, ⟨3, l, (t + 1), ln⟩) by
            rw [HLE.out]
            exact byteS_more hcr hx (fun h => hlong ⟨by rw [HLN.out]; simpa using h.1, h.2⟩))
          by_cases h128 : 128 < ln.length
          · have e13 : ((x.toNat : Int) != 13) = false := by
              have hx13 : x = 13 := Decidable.byContradiction fun h => hlong ⟨h128, h⟩
              rw [hx13]; rfl
            clear hlong hx hcr
            go_wp2_with fail
            go_ret
            exact RetLine.ok HP.out rfl HC6.out HO5.out HBL.out HT6.out
          · clear hlong hx hcr
            go_wp2_with fail
            go_ret
            exact RetLine.ok HP.out rfl HC6.out HO5.out HBL.out HT6.out
theorem readLine_any (s : Chk) (x : UInt8) (g B : Nat) (v : Value) (w : World) (hc : CVar w g s.ph s.left s.tr v) (ho : Own B w v s.line) (hB : B ≤ w.heap.size) (hg : g < B) (hs : OkC s) (h1 : ¬ s.ph = 1) (h4 : ¬ s.ph = 4) :
    Calls Tryz.prog 120 #[.pointer (some ⟨g, 0, none⟩), .int .u8 x.toNat] w (RetLine w g B v (stepS s x)) := by
  have hl := hs.len
  have hph := hs.ph
  have hlf := hs.left h1
  have htr := hs.tr
  have ht0 := hs.tr0
  obtain ⟨p, l, t, ln⟩ := s
  simp only [] at hl hph hlf htr ht0 h1 h4 hc ho
  by_cases h3 : p = 3
  · subst h3
    by_cases ht : 1024 < t + 1
    · have e : stepS ⟨3, l, t, ln⟩ x = (3, zeroC) := by unfold stepS; simp [ht]
      rw [e]
      refine (readLine_full l t x g v w hc htr ht).mono ?_
      rintro e w' ⟨he, h⟩
      exact RetLine.err rfl he (by decide) h
    · have e : stepS ⟨3, l, t, ln⟩ x = byteS ⟨3, l, t, ln⟩ (t + 1) x := by unfold stepS; simp [ht]
      rw [e]
      exact readLine_3 l t ln x g B v w hc ho hB hg htr.1 (by omega) hl
  · have e : stepS ⟨p, l, t, ln⟩ x = byteS ⟨p, l, t, ln⟩ t x := by unfold stepS; simp [h3]
    rw [e]
    exact readLine_n p l t ln x g B v w hc ho hB hg (by
      have : p = 0 ∨ p = 2 := by omega
      rcases this with h | h
      · exact .inl ⟨h, hlf, ht0 (by omega)⟩
      · exact .inr h) hl
end Go.Proofs.YtejbkbccljoldaaGreatDoor
namespace Go.Proofs.YtejbkbccljoldaaGreatDoor
open Go.RowKit

theorem isBytes_piece {w : World} {ad : Addr} {l : List UInt8} {c k q : Nat} (h : IsBytes w (some ad) l c) (_hk : k < l.length) (hq : k + q ≤ l.length) : IsBytes w (some (ad.add k)) ((l.drop k).take q) (c - k) := by
  rcases h with ⟨e, _⟩ | ⟨y, e, h1, h2, h3⟩
  · cases e
  · obtain rfl := Option.some.inj e
    refine .inr ⟨_, rfl, by rw [List.length_take, List.length_drop]; omega, by omega, fun j hj => ?_⟩
    rw [List.length_take, List.length_drop] at hj
    have h4 := h3 (k + j) (by omega)
    rw [List.getElem_take, List.getElem_drop, Addr.add_add]
    exact h4
/-- In Feed's loop. -/
structure FeedP (w : World) (room : Int) (s1 : Chk) (v bv : Value) (out : List UInt8) (k : Nat) (W : World) : Prop where
  ok : OkC s1
  var : CVar W w.heap.size s1.ph s1.left s1.tr v
  line : Own (w.heap.size + 2) W v s1.line
  res : CVar W (w.heap.size + 1) 0 0 0 (.slice none 0 0)
  own : Own (w.heap.size + 2) W bv out
  apart : ∀ q q', v.ownBlock = some q → bv.ownBlock = some q' → q ≠ q'
  below : Below w.heap.size w W
  size : w.heap.size + 2 ≤ W.heap.size
  len : out.length ≤ k
  room : out.length = 0 ∨ (out.length : Int) ≤ room
/-- A byte of a line has been read. -/
theorem FeedP.read {w : World} {room : Int} {s1 s2 : Chk} {v v' bv : Value} {out : List UInt8} {k : Nat} {W W' : World} (h : FeedP w room s1 v bv out k W) (ho : OkC s2) (hc : CVar W' w.heap.size s2.ph s2.left s2.tr v') (hl : Own (w.heap.size + 2) W' v' s2.line)
    (hb : v'.ownBlock = v.ownBlock ∨ v'.ownBlock = none ∨ ∃ q, v'.ownBlock = some q ∧ W.heap.size ≤ q) (ht : Touch W W' w.heap.size v.ownBlock) : FeedP w room s2 v' bv out (k + 1) W' := by
  refine ⟨ho, hc, hl, h.res.touch ht (by omega) (fun e => by have := (h.line.lt e.symm).1; omega), h.own.touch ht (by omega) (fun q e e2 => h.apart q q e2.symm e rfl), fun q q' e1 e2 => ?_,
    Below.touch h.below ht (by have := h.size; omega) (Nat.le_refl _) (fun q e => by have := (h.line.lt e).1; omega), Nat.le_trans h.size ht.size, by have := h.len; omega, h.room⟩
  rcases hb with hb | hb | ⟨r, hb, hr⟩
  · exact h.apart q q' (hb ▸ e1) e2
  · rw [hb] at e1; cases e1
  · have h1 : q = r := (Option.some.inj (hb.symm.trans e1)).symm
    have h2 := (h.own.lt e2).2
    omega
/-- Bytes of the body have been read, and the state's bytes left are written. -/
theorem FeedP.data {w : World} {room : Int} {s1 : Chk} {v bv bv' : Value} {out d : List UInt8} {k : Nat} {W W1 W2 : World} (h : FeedP w room s1 v bv out k W) (h1 : s1.ph = 1) (hd : 0 < d.length) (hdl : (d.length : Int) ≤ s1.left) (hdr : (out.length : Int) + d.length ≤ room)
    (ho : Own (w.heap.size + 2) W1 bv' (out ++ d)) (hgr : W.grownBy W1 bv.ownBlock) (hbl : bv'.ownBlock = bv.ownBlock ∨ bv'.ownBlock = some W.heap.size)
    (hc : CVar W2 w.heap.size (if s1.left - d.length = 0 then 2 else 1) (s1.left - d.length) s1.tr v) (hg2 : W1.grownBy W2 (some w.heap.size)) :
    FeedP w room ⟨if s1.left - d.length = 0 then 2 else 1, s1.left - d.length, s1.tr, s1.line⟩ v bv' (out ++ d) (k + d.length) W2 := by
  have hw := h.size
  have hok : OkC ⟨if s1.left - d.length = 0 then 2 else 1, s1.left - d.length, s1.tr, s1.line⟩ := by
    have hd2 := h.ok.data h1
    have ht := h.ok.tr0 (by omega)
    by_cases e : s1.left - d.length = 0
    · simp only [if_pos e]
      exact okC_mk (by decide) h.ok.line h.ok.tr (fun _ => ht) (fun h => absurd h (by decide)) (fun _ => e) (fun _ => h.ok.empty (.inl h1))
    · simp only [if_neg e]
      exact okC_mk (by decide) h.ok.line h.ok.tr (fun _ => ht) (fun _ => by omega) (fun h => absurd rfl h) (fun _ => h.ok.empty (.inl h1))
  have hl1 := h.line.grown hgr (fun q e e2 => h.apart q q e e2.symm rfl)
  refine ⟨hok, hc, hl1.grown hg2 (fun q e e2 => by have := (hl1.lt e).1; have := Option.some.inj e2; omega), ?_, ho.grown hg2 (fun q e e2 => by have := (ho.lt e).1; have := Option.some.inj e2; omega), fun q q' e1 e2 => ?_,
    (h.below.grown hgr h.below.size (fun q e => by have := (h.own.lt e).1; omega)).grown hg2 (by have := hgr.size; omega) (fun q e => by have := Option.some.inj e; omega), by have := hgr.size; have := hg2.size; omega, by have := h.len; rw [List.length_append]; omega, .inr (by rw [List.length_append]; omega)⟩
  · exact (h.res.grownC hgr (fun e => by have := (h.own.lt e.symm).1; omega)).grownC hg2 (fun e => by have := Option.some.inj e; omega)
  · rcases hbl with hb | hb
    · exact h.apart q q' e1 (hb ▸ e2)
    · have h3 : q' = W.heap.size := (Option.some.inj (hb.symm.trans e2)).symm
      have h4 := (h.line.lt e1).2
      omega
theorem Own.freshA {B : Nat} {w : World} {a : Option Addr} {n c : Nat} {l : List UInt8} (h : Own B w (.slice a n c) l) (x : Addr) (hx : a = some x) (hl : l ≠ []) : B ≤ x.block := by
  obtain ⟨_, h2⟩ := h
  rcases h2 with ⟨_, h3⟩ | ⟨g, cap, cur, hv, hg, _⟩
  · exact absurd (List.eq_nil_of_length_eq_zero h3) hl
  · injection hv with e1 _ _
    rw [hx] at e1
    injection e1 with e1
    rw [e1]; exact hg
/-- What the project's Feed returns; the line lies in memory of the call's own. -/
def RetFeedF (w : World) (r : Int × Chk × List UInt8 × Nat) (e : Ending) (w' : World) : Prop :=
  ∃ a c oa oc, e = .returned (.tuple #[.agg #[.int .i64 r.2.1.ph, .int .i64 r.2.1.left, .int .i64 r.2.1.tr, .slice a r.2.1.line.length c], .slice oa r.2.2.1.length oc, .int .i64 r.2.2.2, .int .i64 r.1]) ∧ IsBytes w' a r.2.1.line c ∧ IsBytes w' oa r.2.2.1 oc ∧ Below w.heap.size w w' ∧ ∀ x, a = some x → r.2.1.line ≠ [] → w.heap.size ≤ x.block
set_option maxRecDepth 100000 in
set_option maxHeartbeats 4000000 in
theorem projFeedF_any (s : Chk) (l : List UInt8) (room : Int) (la ba : Option Addr) (lc bc : Nat) (w : World) (h : IsBytes w la s.line lc) (hb : IsBytes w ba l bc) (hs : OkC s) (hl : l.length ≤ 4000000000) (hr0 : -9223372036854775808 ≤ room) (hr1 : room ≤ 9223372036854775807) :
    Calls Tryz.prog 92 #[.agg #[.int .i64 s.ph, .int .i64 s.left, .int .i64 s.tr, .slice la s.line.length lc], .slice ba l.length bc, .int .i64 room] w (RetFeedF w (feedS room s [] 0 l)) := by
  obtain ⟨W2, hW2⟩ : ∃ W2, W2 = (w.alloc (.cells #[.int .i64 s.ph, .int .i64 s.left, .int .i64 s.tr, .slice la s.line.length lc] 35)).alloc (.cells #[.int .i64 0, .int .i64 0, .int .i64 0, .slice none 0 0] 35) := ⟨_, rfl⟩
  have hb0 : Below w.heap.size w W2 := by rw [hW2]; exact below_twoF (below_oneF w _) _
  have hz2 : W2.heap.size = w.heap.size + 2 := by rw [hW2, World.size_alloc, World.size_alloc]
  have HC0 := Box.mk (show CVar W2 w.heap.size s.ph s.left s.tr (.slice la s.line.length lc) by rw [hW2]; exact CVar.keep (heap_alloc_new _ _) (below_oneF _ _))
  have HR0 := Box.mk (show CVar W2 (w.heap.size + 1) 0 0 0 (.slice none 0 0) by
      have h := heap_alloc_new (w.alloc (.cells #[.int .i64 s.ph, .int .i64 s.left, .int .i64 s.tr, .slice la s.line.length lc] 35)) (.cells #[.int .i64 0, .int .i64 0, .int .i64 0, .slice none 0 0] 35)
      rw [World.size_alloc] at h; rw [hW2]; exact h)
  have HB0 := Box.mk hb0
  have HLB := Box.mk (h.keep hb0)
  have HZ2 := Box.mk hz2
  have hlz : s.line.length ≤ 129 := hs.len
  have HBB := Box.mk hb
  have hcapb : l.length ≤ bc := by
    rcases hb with ⟨_, e, e2⟩ | ⟨_, _, h1, _, _⟩
    · subst e; simp
    · exact h1
  have HOK0 := Box.mk hs
  obtain ⟨R, hR⟩ : ∃ R, R = feedS room s [] 0 l := ⟨_, rfl⟩
  rw [← hR]
  have HEQ := Box.mk (show R = feedS room s [] 0 (l.drop 0) from hR)
  clear hR
  clear h hb hs hb0 hz2
  have HW2 := Box.mk hW2
  clear hW2
  go_enter Tryz.func92, Tryz.ntmps92
  go_wp2_with fail
  go_step3
  go_wp2_with (at_builtin; refine wpList_append_ownb _ rfl _ _ rfl rfl (Own.start (w.heap.size + 2) _) rfl (r := s.line) (by rw [← HW2.out]; exact HLB.out) (by simp; omega) (by rw [← HW2.out, HZ2.out]; exact Nat.le_refl _) ?_)
  intro v3 w3 hown hgr _
  have hown : Own (w.heap.size + 2) w3 v3 s.line := by simpa using hown
  have hgr : W2.grownBy w3 none := by rw [HW2.out]; exact hgr
  obtain ⟨na, nc, rfl, _⟩ := hown.val
  have HC3 := Box.mk (HC0.out.grownC hgr (by simp))
  have HR3 := Box.mk (HR0.out.grownC hgr (by simp))
  have HJ := Box.mk (show FeedP w room s (.slice na s.line.length nc) (.slice none 0 0) [] 0 (w3.setCell ⟨w.heap.size, 3, none⟩ (.slice na s.line.length nc)) from
    ⟨HOK0.out, HC3.out.setV, hown.setC (by omega), HR3.out.other (by show w.heap.size + 1 ≠ w.heap.size; omega), Own.start _ _, fun _ _ _ e => (by cases e),
      (HB0.out.grown hgr (by rw [HZ2.out]; omega) (fun q e => by cases e)).setCell (p := ⟨w.heap.size, 3, none⟩) (Nat.le_refl _) _, by rw [World.size_setCell]; have := hgr.size; rw [HZ2.out] at this; exact this, Nat.le_refl _, .inl rfl⟩)
  obtain ⟨hd0, hd1, hd2, hd3⟩ := HC3.out.cells
  have hf3 := HC3.out.frozen (i := 3)
  clear hown hgr HC0 HR0 HB0 HLB
  go_wp2_with fail
  clear hd0 hd1 hd2 hd3 hf3 HC3 HR3
  go_step3
  go_wp2_with fail
  go_loopw [10, 11] (fun v iv wr => ∃ k : Nat, k ≤ l.length ∧ iv = .int .i64 k ∧ ∃ (s1 : Chk) (va : Value) (out : List UInt8), Box (FeedP w room s1 va v out k wr ∧ R = feedS room s1 out k (l.drop k))) (fun _ iv _ => l.length - (intOf iv).toNat)
  case atStart => exact ⟨0, Nat.zero_le _, rfl, s, _, [], ⟨HJ.out, HEQ.out⟩⟩
  case round =>
    clear HJ HEQ HW2
    obtain ⟨k, hk, rfl, s1, va, out, HM⟩ := hrel
    obtain ⟨oa, oc, rfl, hob⟩ := HM.out.1.own.val
    obtain ⟨la2, lc2, rfl, hlb⟩ := HM.out.1.line.val
    have HFP := Box.mk HM.out.1
    have HEQM := Box.mk HM.out.2
    have HOB := Box.mk hob
    have HLB := Box.mk hlb
    obtain ⟨hd0, hd1, hd2, hd3⟩ := HFP.out.var.cells
    have hol : out.length ≤ k := HFP.out.len
    have hszr := HFP.out.below.size
    have hsz2 := HFP.out.size
    have HRM := Box.mk HFP.out.room
    clear hob hlb HM
    obtain ⟨hr0, hr1, hr2, hr3⟩ := HFP.out.res.cells
    have hz0 := HFP.out.res.frozen (i := 0)
    have hz1 := HFP.out.res.frozen (i := 1)
    have hz2 := HFP.out.res.frozen (i := 2)
    have hz3 := HFP.out.res.frozen (i := 3)
    by_cases hlt : k < l.length
    · obtain ⟨bad, rfl, hbc⟩ := isBytes_at (HBB.out.keep HFP.out.below) hlt
      have HEQ2 := Box.mk (show R = feedS room s1 out k (l[k] :: l.drop (k + 1)) by rw [← List.drop_eq_getElem_cons hlt]; exact HEQM.out)
      generalize l[k] = x at *
      by_cases h4 : s1.ph = 4
      · have e4 : (s1.ph == 4) = true := by rw [h4]; rfl
        have HP := Box.mk (show R = (0, s1, out, k) by rw [HEQ2.out, feedS_stop (.inl h4)])
        clear HEQ2 h4 HEQM
        go_wp2_with fail
        (try rw [Exit.noGoto_ret])
        refine bodyPost_ret (results_row_tmp3C rfl _ _ (w.heap.size + 1) _ _ _ _ rfl HFP.out.res.set4 Tryz.underlying35 rfl sizeC) rfl ?_
        exact ⟨la2, lc2, oa, oc, by rw [HP.out]; rfl, by rw [HP.out]; exact HFP.out.res.set4B HLB.out, by rw [HP.out]; exact HFP.out.res.set4B HOB.out, below_set4 HFP.out.below (by omega), by rw [HP.out]; exact fun x e hne => by have := HFP.out.line.freshA x e hne; omega⟩
      · have e4 : (s1.ph == 4) = false := by rw [beq_eq_false_iff_ne]; exact h4
        by_cases h1 : s1.ph = 1
        · have e1 : (s1.ph == 1) = true := by rw [h1]; rfl
          have hlf := HFP.out.ok.data h1
          have hbr : -9223372036854775808 ≤ room - (out.length : Int) ∧ room - (out.length : Int) ≤ 9223372036854775807 := by
            rcases HRM.out with h | h <;> omega
          have hbr1 := hbr.1
          have hbr2 := hbr.2
          clear hbr
          by_cases hr : room ≤ out.length
          · have HP := Box.mk (show R = (0, s1, out, k) by rw [HEQ2.out, feedS_stop (.inr ⟨h1, hr⟩)])
            have hmin : ∀ (ts : Array TypeId) (t : TypeId) (W : World), (Builtin.min_ ts t #[.int .i64 s1.left, .int .i64 (room - (out.length : Int)), .int .i64 ((l.length : Int) - (k : Int))]).run Tryz.prog W = .ok (.int .i64 (room - (out.length : Int))) W := fun ts t W => by
              rw [run_min_int3, if_pos (show room - (out.length : Int) < s1.left by omega), if_neg (by omega)]
            clear HEQ2 h4 h1 HEQM
            go_wp2_with fail
            (try rw [Exit.noGoto_ret])
            refine bodyPost_ret (results_row_tmp3C rfl _ _ (w.heap.size + 1) _ _ _ _ rfl HFP.out.res.set4 Tryz.underlying35 rfl sizeC) rfl ?_
            exact ⟨la2, lc2, oa, oc, by rw [HP.out]; rfl, by rw [HP.out]; exact HFP.out.res.set4B HLB.out, by rw [HP.out]; exact HFP.out.res.set4B HOB.out, below_set4 HFP.out.below (by omega), by rw [HP.out]; exact fun x e hne => by have := HFP.out.line.freshA x e hne; omega⟩
          · have hmq : ∃ q : Nat, (∀ (ts : Array TypeId) (t : TypeId) (W : World), (Builtin.min_ ts t #[.int .i64 s1.left, .int .i64 (room - (out.length : Int)), .int .i64 ((l.length : Int) - (k : Int))]).run Tryz.prog W = .ok (.int .i64 (q : Int)) W) ∧ 1 ≤ q ∧ (q : Int) ≤ s1.left ∧ (out.length : Int) + q ≤ room ∧ k + q ≤ l.length := by
              refine ⟨(if (l.length : Int) - (k : Int) < (if room - (out.length : Int) < s1.left then room - (out.length : Int) else s1.left) then (l.length : Int) - (k : Int) else (if room - (out.length : Int) < s1.left then room - (out.length : Int) else s1.left)).toNat, fun ts t W => ?_, ?_, ?_, ?_, ?_⟩
              · rw [run_min_int3, Int.toNat_of_nonneg]
                (repeat' split) <;> omega
              all_goals ((repeat' split) <;> omega)
            obtain ⟨q, hmin, hq1, hq2, hq3, hq4⟩ := hmq
            obtain ⟨d, hd⟩ : ∃ d, d = (l.drop k).take q := ⟨_, rfl⟩
            have hdl : d.length = q := by rw [hd, List.length_take, List.length_drop]; omega
            have HDL := Box.mk hdl
            have HD := Box.mk hd
            have HDB := Box.mk (show IsBytes wr (some (bad.add k)) d (bc - k) by rw [hd]; exact isBytes_piece (HBB.out.keep HFP.out.below) hlt hq4)
            have H1 := Box.mk h1
            clear hd hdl HEQ2 h4 h1
            go_wp2_with (at_builtin; refine wpList_append_ownb _ rfl _ _ rfl rfl HFP.out.own (r := d) (by show Value.slice (some (bad.add k)) (k + q - k) (bc - k) = _; rw [HDL.out, Nat.add_sub_cancel_left]) HDB.out (by have := HDL.out; omega) (by omega) ?_)
            intro v5 w5 hown hgr hbl
            obtain ⟨np, hnp⟩ : ∃ np : Int, (if s1.left - (q : Int) = 0 then 2 else 1) = np := ⟨_, rfl⟩
            have HNP := Box.mk hnp
            have HOWN := Box.mk hown
            have HGR := Box.mk hgr
            have HBL := Box.mk hbl
            obtain ⟨o2, ho2⟩ : ∃ o2, o2 = out ++ d := ⟨_, rfl⟩
            have HO2 := Box.mk ho2
            have HC5 := Box.mk (HFP.out.var.grownC hgr (fun e => by have := (HFP.out.own.lt e.symm).1; omega))
            obtain ⟨he0, he1, he2, he3⟩ := HC5.out.cells
            obtain ⟨nb, ncp, rfl, _⟩ := hown.val
            clear hown hgr hbl hnp ho2 hd0 hd1 hd2 hd3 hr0 hr1 hr2 hr3 hz0 hz1 hz2 hz3
            go_wp2_with fail
            refine (leave_any w.heap.size s1.ph s1.left s1.tr (s1.left - q) np _ _ HC5.out (by rw [← HNP.out, H1.out])).mono ?_
            rintro e w6 ⟨rfl, hc6, hg6⟩
            have HC6 := Box.mk hc6
            have HG6 := Box.mk hg6
            clear hc6 hg6
            have HN := Box.mk (show FeedP w room ⟨np, s1.left - q, s1.tr, s1.line⟩ (.slice la2 s1.line.length lc2) (.slice nb (out.length + d.length) ncp) o2 (k + q) w6 by
              have hq := HDL.out
              have h9 := HFP.out.data (d := d) (W2 := w6) H1.out (by omega) (by omega) (by omega) HOWN.out HGR.out HBL.out (by rw [hq, HNP.out]; exact HC6.out) HG6.out
              rw [HO2.out, ← List.length_append]
              rw [hq, HNP.out] at h9
              exact h9)
            go_wp2_with fail
            go_roundw
            case rel =>
              refine ⟨k + q, by omega, by go_num, ⟨np, s1.left - q, s1.tr, s1.line⟩, _, o2, ⟨HN.out, ?_⟩⟩
              rw [HEQM.out]
              obtain ⟨q0, hq0⟩ : ∃ q0, q = q0 + 1 := ⟨q - 1, by omega⟩
              have h9 := feedS_block room q0 s1 out k (l.drop k) H1.out (by rw [List.length_drop]; omega) (by omega) (by omega)
              rw [← hq0, HNP.out, List.drop_drop] at h9
              rw [h9, HO2.out, HD.out]
            case measure => simp [intOf]; omega
        · have e1 : (s1.ph == 1) = false := by rw [beq_eq_false_iff_ne]; exact h1
          have HST := Box.mk (And.intro h4 h1)
          obtain ⟨r, hr⟩ : ∃ r, r = stepS s1 x := ⟨_, rfl⟩
          have HREQ := Box.mk hr
          clear hr HEQM h4 h1 hr0 hr1 hr2 hr3 hz0 hz1 hz2 hz3
          go_wp2_with fail
          refine (readLine_any s1 x w.heap.size (w.heap.size + 2) _ _ HFP.out.var HFP.out.line HFP.out.size (by omega) HFP.out.ok HST.out.2 HST.out.1).mono ?_
          rintro e w6 ⟨he, hok, ht⟩
          rw [← HREQ.out] at he hok
          subst he
          have HT := Box.mk ht
          have HOK := Box.mk hok
          clear ht hok hd0 hd1 hd2 hd3
          by_cases h0 : r.1 = 0
          · have er : (r.1 != 0) = false := by rw [h0]; rfl
            obtain ⟨v', hc, ho, hb⟩ := HOK.out h0
            have HN := Box.mk (HFP.out.read (by rw [HREQ.out]; exact okC_step HFP.out.ok HST.out.2 HST.out.1 (by rw [← HREQ.out]; exact h0)) hc ho hb HT.out)
            have HZ := Box.mk h0
            clear hc ho hb h0
            go_wp2_with fail
            go_roundw
            case rel =>
              refine ⟨k + 1, by omega, by go_num, r.2, v', out, ⟨HN.out, ?_⟩⟩
              rw [HEQ2.out, feedS_ok HST.out.1 HST.out.2 (by rw [← HREQ.out]; exact HZ.out), ← HREQ.out]
            case measure => simp [intOf]; omega
          · have er : (r.1 != 0) = true := by rw [bne_iff_ne]; exact h0
            have HP := Box.mk (show R = (r.1, zeroC, [], 0) by rw [HEQ2.out, feedS_err HST.out.1 HST.out.2 (by rw [← HREQ.out]; exact h0), ← HREQ.out])
            have HR7 := Box.mk (HFP.out.res.touch HT.out (by omega) (fun e => by have := (HFP.out.line.lt e.symm).1; omega))
            have HB7 := Box.mk (Below.touch HFP.out.below HT.out (by omega) (Nat.le_refl _) (fun q e => by have := (HFP.out.line.lt e).1; omega))
            obtain ⟨hr0, hr1, hr2, hr3⟩ := HR7.out.cells
            have hz0 := HR7.out.frozen (i := 0)
            have hz1 := HR7.out.frozen (i := 1)
            have hz2 := HR7.out.frozen (i := 2)
            have hz3 := HR7.out.frozen (i := 3)
            clear h0 HEQ2 HREQ HOK
            go_wp2_with fail
            (try rw [Exit.noGoto_ret])
            refine bodyPost_ret (results_row_tmp3C rfl _ _ (w.heap.size + 1) _ _ _ _ rfl HR7.out.set4 Tryz.underlying35 rfl sizeC) rfl ?_
            exact ⟨none, 0, none, 0, by rw [HP.out]; rfl, by rw [HP.out]; exact .inl ⟨rfl, rfl, rfl⟩, by rw [HP.out]; exact .inl ⟨rfl, rfl, rfl⟩, below_set4 HB7.out (by omega), fun x e => by cases e⟩
    · have HP := Box.mk (show R = (0, s1, out, k) by rw [HEQM.out, List.drop_of_length_le (by omega)]; rfl)
      obtain rfl : k = l.length := by omega
      clear HEQM
      go_wp2_with fail
      (try rw [Exit.noGoto_ret])
      refine bodyPost_ret (results_row_tmp3C rfl _ _ (w.heap.size + 1) _ _ _ _ rfl HFP.out.res.set4 Tryz.underlying35 rfl sizeC) rfl ?_
      exact ⟨la2, lc2, oa, oc, by rw [HP.out]; rfl, by rw [HP.out]; exact HFP.out.res.set4B HLB.out, by rw [HP.out]; exact HFP.out.res.set4B HOB.out, below_set4 HFP.out.below (by omega), by rw [HP.out]; exact fun x e hne => by have := HFP.out.line.freshA x e hne; omega⟩
end Go.Proofs.YtejbkbccljoldaaGreatDoor
