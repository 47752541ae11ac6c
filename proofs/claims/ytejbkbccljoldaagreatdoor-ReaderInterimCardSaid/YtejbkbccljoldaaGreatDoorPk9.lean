/- The project's reader: readLength, readToClose. The project's reader: the steps of Next. The project's reader: copyOf. The project's reader: Next. Finish, the first readers. The laws HeadEnd and HeadGrows. -/
import Derived.Test.YtejbkbccljoldaaGreatDoorPk1
import Derived.Test.YtejbkbccljoldaaGreatDoorPk2
import Derived.Test.YtejbkbccljoldaaGreatDoorPk3
import Derived.Test.YtejbkbccljoldaaGreatDoorPk4
import Derived.Test.YtejbkbccljoldaaGreatDoorPk5
import Derived.Test.YtejbkbccljoldaaGreatDoorPk6
import Derived.Test.YtejbkbccljoldaaGreatDoorPk7
import Derived.Test.YtejbkbccljoldaaGreatDoorPk8
import Derived.Test.YtejbkbccljoldaaGreatDoorRows
import Derived.WalkKit
import Derived.WalkSpells
import Derived.WalkLawsBesides
import Derived.BigQuiet
import Derived.Deep.QuietTactic
import Derived.Lib.Bytealg
import Derived.Lib.IndexLaws
import Derived.Lib.Hide
import Derived.Laws.IdiomStrings
import Derived.Lib.SlTrimSet
import Derived.Lib.IndexBytes
import Derived.Lib.Split
import Derived.Deep.AppendLies
import Derived.Shelf.Strings.SlTrimAscii
import Derived.Shelf.Strings.SplitShaped
import Derived.Shelf.LaysM
import Derived.Shelf.Strings.BuilderK
import Derived.Shelf.Strconv.Itoa4
import Derived.Shelf.Strings.Prefix
import Derived.Shelf.Bytes.SlIndexWhole
import Derived.Test.YtejbkbccljoldaaGreatDoorProg
import Derived.Lib.SplitLaws
import Derived.WalkSmall
import Derived.ProofKit
import Derived.OpenShut
import Derived.Lib.Strings
import Derived.SliceStrings
import Derived.Deep.Quiet
import Derived.Tactics
import Derived.KernelRfl
import Derived.Below
import Derived.Laws.Bits64
import Derived.Lib.SlBytesConst
import Derived.Maps.AppendAt
import Derived.Laws.AppendOwnNone
import Derived.Great.BuildSlice
import Derived.Laws.Rows
import Derived.Laws.BitsAllLaws
import Derived.Laws.Shifts
import Derived.Maps.OwnOps
import Derived.Maps.OwnSet
import Derived.Deep.SlicePairs
import Derived.Lib.AppendZerosOnto
import Derived.Lib.AppendStr
import Derived.Laws.CopyOwn
import Derived.OwnWalk
import Derived.Laws.Strings3
import Derived.Laws.Concat
import Derived.Lib.ItoaMem
import Derived.Deep.RegionHeld3
import Derived.IntWalk
import Derived.Laws.RangeAny
import Derived.LoopTactic
import Derived.Sort.Grow
import Derived.Lib.ConvBytes
import Derived.Deep.DeepCutAuto
import Derived.Deep.MidRow
import Derived.Laws.Tables
import Derived.Deep.WholeRow
import Derived.StillTailTactics
import Derived.Deep.CutBlock
import Derived.Lib.LaidTab
import Derived.LaidSub
import Derived.Laws.Bits64b
import Derived.Lib.FrozenHead2
import Derived.Deep.Matrix
import Derived.Lib.LazyBuf
import Derived.ArgAppend
namespace Go.Proofs.YtejbkbccljoldaaGreatDoor
open Go.RowKit

set_option linter.unusedVariables false
theorem run_uptoZ (w : World) (ad : Option Addr) (n c k : Nat) (hk : k ≤ n) (hc : n ≤ c) : (Instr.sliceAt 23 (.slice ad n c) none (some (.int .i64 (k : Int))) none).run Tryz.prog w = .ok (.slice ad k c) w := by
  have es : (sizeOf (Tryz.prog.elem 23)).run Tryz.prog w = .ok 1 w := by rw [show Tryz.prog.elem 23 = 5 by kernel_rfl]; exact sizeOf_u8H w
  rw [run_sliceAt_slice w 23 _ _ _ _ (by kernel_rfl), run_slice_h w 23 _ _ _ (by kernel_rfl) .i64 (k : Int) (by omega) (by omega), es]
  have ha : Option.map (fun x : Addr => x.add 0) ad = ad := by cases ad <;> simp [Addr.add]
  simp [Result.andThen, sliced, ha]
theorem mTakeN_nil (g : Nat) (cs : Array Value) (da : Option Addr) (n dc : Nat) (w : World) (hn : n = 0) (hm : MVr w g cs) :
    Calls Tryz.prog 91 #[.pointer (some ⟨g, 0, none⟩), .slice da n dc] w fun e w' => e = .returned (.tuple #[.agg #[.int .i64 0, .slice none 0 0], .int .i64 0, .int .i64 0]) ∧ MVr w' g cs ∧ w.grownBy w' (some g) := by
  subst hn
  exact mTake_nil g cs da dc w hm
theorem mTakeN_some (g : Nat) (cs : Array Value) (z : Int) (d : List UInt8) (da : Option Addr) (n dc : Nat) (w : World) (hn : d.length = n) (hm : MVr w g cs) (h17 : cs[17]? = some (.int .i64 z)) (hz : 0 ≤ z ∧ z ≤ 1000000000) (hu : NoU8 cs) (hd : IsBytes w da d dc) (hl : n ≤ 1000000) (h0 : 0 < n) :
    Calls Tryz.prog 91 #[.pointer (some ⟨g, 0, none⟩), .slice da n dc] w fun e w' => ∃ pa pc, e = .returned (.tuple #[.agg #[.int .i64 2, .slice pa n pc], .int .i64 n, .int .i64 0]) ∧ IsBytes w' pa d pc ∧ MVr w' g (cs.setIfInBounds 17 (.int .i64 (z + n))) ∧ w.grownBy w' (some g) := by
  subst hn
  exact mTake_some g cs z d da dc w hm h17 hz hu hd hl h0
theorem noU8_set {cs : Array Value} {i : Nat} {z : Int} (h : NoU8 cs) : NoU8 (cs.setIfInBounds i (.int .i64 z)) := fun j y e => by
  by_cases hj : i = j
  · subst hj
    rw [Array.getElem?_setIfInBounds] at e
    simp only [if_true] at e
    split at e
    · injection e with e; cases e
    · cases e
  · rw [Array.getElem?_setIfInBounds_ne hj] at e
    exact h j y e
set_option maxRecDepth 100000 in
set_option maxHeartbeats 1000000 in
theorem mLen_end (b : List UInt8) (most body room : Int) (ba : Option Addr) (bc : Nat) (g : Nat) (cs : Array Value) (w : World) (hm : MVr w g cs) (p left : Int) (h2 : cs[2]? = some (.int .i64 p)) (h16 : cs[16]? = some (.int .i64 left)) (h0 : left = 0) :
    Calls Tryz.prog 67 #[.pointer (some ⟨g, 0, none⟩), .slice ba b.length bc, .agg #[.int .i64 most, .int .i64 body, .int .i64 room]] w fun e w' => e = .returned (.tuple #[.agg #[.int .i64 3, .slice none 0 0], .int .i64 0, .int .i64 0]) ∧ MVr w' g (cs.setIfInBounds 2 (.int .i64 2)) ∧ w.grownBy w' (some g) := by
  obtain ⟨W1, hW1⟩ : ∃ W1, W1 = (w.alloc (.cells #[.int .i64 most, .int .i64 body, .int .i64 room] 80)).alloc (.cells #[.int .i64 0, .slice none 0 0] 41) := ⟨_, rfl⟩
  have HB1 := Box.mk (show Below w.heap.size w W1 by rw [hW1]; exact below_twoF (below_oneF _ _) _)
  have HL1 := Box.mk (show LVr W1 w.heap.size most body room by rw [hW1]; exact LVr.keep (heap_alloc_new w (.cells #[.int .i64 most, .int .i64 body, .int .i64 room] 80)) (below_oneF _ _))
  have HO := Box.mk (show PVr W1 (w.heap.size + 1) #[.int .i64 0, .slice none 0 0] by
    have h := heap_alloc_new (w.alloc (.cells #[.int .i64 most, .int .i64 body, .int .i64 room] 80)) (.cells #[.int .i64 0, .slice none 0 0] 41)
    rw [World.size_alloc] at h
    rw [hW1]; exact h)
  have HW1 := Box.mk hW1
  have HM1 := Box.mk (hm.keep HB1.out)
  have hlt := hm.lt
  have hlw : w.heap.size + 1 < W1.heap.size := (Array.getElem?_eq_some_iff.1 HO.out).1
  clear hW1 hm
  have hm16 : W1.cell? ⟨g, 16, none⟩ = some (.int .i64 left) := by rw [HM1.out.cell]; exact h16
  have hle : left ≤ 0 := by omega
  have H2 := Box.mk h2
  clear h2 h16 h0
  go_enter Tryz.func67, Tryz.ntmps67
  go_upto_region 1 with fail
  rw [← HW1.out]
  clear HW1
  go_wp2_with fail
  refine (mEnd_any g cs p 0 W1 HM1.out H2.out).mono ?_
  rintro e w2 ⟨rfl, hm2, hg2⟩
  have HM2 := Box.mk hm2
  have HP2 := Box.mk (show PVr w2 (w.heap.size + 1) #[.int .i64 0, .slice none 0 0] from (hg2.block _ hlw (fun e => by injection e with e; omega)).trans HO.out)
  have HG2 := Box.mk (grownBy_trans (grownBy_of HB1.out (some g)) hg2)
  clear hm2 hg2 HM1 HO HB1 HL1
  go_wp2_with (refine wpList_store_row rfl 41 _ _ rfl (w.heap.size + 1) #[.int .i64 3, .slice none 0 0] rfl rfl 41 _ HP2.out sizePt rfl (onePt ..) ?_)
  (try simp only [Exit.inBlock, Exit.then])
  refine bodyPost_ret (results_rtt rfl _ _ (w.heap.size + 1) 41 #[.int .i64 3, .slice none 0 0] (0, 0) _ rfl (setRow_heap _ _ _ _ _ _ HP2.out) Tryz.underlying41 rfl sizePt) rfl ?_
  exact ⟨rfl, (setRow_other _ _ _ _ (by omega)).trans HM2.out, grownBy_own HG2.out (by omega) _⟩
set_option maxRecDepth 100000 in
set_option maxHeartbeats 1000000 in
theorem mLen_no (b : List UInt8) (most body room : Int) (ba : Option Addr) (bc : Nat) (g : Nat) (cs : Array Value) (w : World) (hb : IsBytes w ba b bc) (hl : b.length ≤ 1000000) (hm : MVr w g cs) (left z : Int) (h16 : cs[16]? = some (.int .i64 left)) (h17 : cs[17]? = some (.int .i64 z)) (hz : 0 ≤ z ∧ z ≤ 1000000000) (hn : NoU8 cs) (hs : 17 < cs.size) (h0 : 0 < left ∧ left ≤ 1000000000) (q : Nat) (hq : minI (minI left room) b.length = (q : Int)) (hql : q ≤ b.length) (hqL : (q : Int) ≤ left) (hq0 : q = 0) :
    Calls Tryz.prog 67 #[.pointer (some ⟨g, 0, none⟩), .slice ba b.length bc, .agg #[.int .i64 most, .int .i64 body, .int .i64 room]] w fun e w' => e = .returned (.tuple #[.agg #[.int .i64 0, .slice none 0 0], .int .i64 0, .int .i64 0]) ∧ MVr w' g (cs.setIfInBounds 16 (.int .i64 (left - (q : Int)))) ∧ w.grownBy w' (some g) := by
  obtain ⟨W1, hW1⟩ : ∃ W1, W1 = (w.alloc (.cells #[.int .i64 most, .int .i64 body, .int .i64 room] 80)).alloc (.cells #[.int .i64 0, .slice none 0 0] 41) := ⟨_, rfl⟩
  have HB1 := Box.mk (show Below w.heap.size w W1 by rw [hW1]; exact below_twoF (below_oneF _ _) _)
  have HL1 := Box.mk (show LVr W1 w.heap.size most body room by rw [hW1]; exact LVr.keep (heap_alloc_new w (.cells #[.int .i64 most, .int .i64 body, .int .i64 room] 80)) (below_oneF _ _))
  have HO := Box.mk (show PVr W1 (w.heap.size + 1) #[.int .i64 0, .slice none 0 0] by
    have h := heap_alloc_new (w.alloc (.cells #[.int .i64 most, .int .i64 body, .int .i64 room] 80)) (.cells #[.int .i64 0, .slice none 0 0] 41)
    rw [World.size_alloc] at h
    rw [hW1]; exact h)
  have HW1 := Box.mk hW1
  have HM1 := Box.mk (hm.keep HB1.out)
  have hlt := hm.lt
  have hlw : w.heap.size + 1 < W1.heap.size := (Array.getElem?_eq_some_iff.1 HO.out).1
  clear hW1 hm
  have hm16 : W1.cell? ⟨g, 16, none⟩ = some (.int .i64 left) := by rw [HM1.out.cell]; exact h16
  have hgt : ¬ left ≤ 0 := by omega
  have H17 := Box.mk h17
  have HN := Box.mk hn
  have HQ := Box.mk hq
  have H16 := Box.mk h16
  have HBB := Box.mk (hb.keep HB1.out)
  have hcap : b.length ≤ bc := isBytes_cap hb
  have HTL := Box.mk (show (b.take q).length = q by rw [List.length_take]; omega)
  obtain ⟨h0a, h0b⟩ := h0
  clear hb h16 h17 hn hq
  have HQ0 := Box.mk hq0
  clear hq0
  go_enter Tryz.func67, Tryz.ntmps67
  go_upto_region 1 with fail
  rw [← HW1.out]
  clear HW1
  go_wp2_with fail
  rename_i KK hKK
  refine wp_region_local (S := [.val (.pointer (some ⟨g, 0, none⟩)), .val (.pointer (some ⟨g, 0, none⟩)), .val (.pointer (some ⟨g, 16, none⟩)), .val (.int .i64 left), .val (.pointer (some ⟨w.heap.size, 2, none⟩)), .val (.int .i64 room), .val (.slice ba b.length bc), .val (.int .i64 b.length), .val (.int .i64 (q : Int)), .val (.int .i64 (q : Int))])
    (by kernel_rfl) (by kernel_rfl) (by kernel_rfl) ?_ ?_
  · refine ⟨?_, ?_, ?_, ?_, ?_, ?_, ?_, ?_, ?_, ?_, trivial⟩ <;> intro a w' hb hf hd
    · exact ⟨wanted_none rfl, loc_move rfl (hf.base 0 rfl)⟩
    · exact ⟨wanted_none rfl, loc_nilCheck rfl (hd 0 rfl) rfl⟩
    · exact ⟨wanted_none rfl, loc_fieldMs rfl (hd 1 rfl) (by decide) rfl rfl⟩
    · exact ⟨wanted_none rfl, loc_cell rfl (hd 2 rfl) (by rw [(HM1.out.keep hb).cell]; exact H16.out) (agg_int _) rfl⟩
    · exact ⟨wanted_none rfl, loc_fieldLm rfl (hf.base 5 rfl) (by decide) rfl⟩
    · exact ⟨wanted_none rfl, loc_cell rfl (hd 4 rfl) (by rw [cell_of_row _ _ _ _ _ _ (HL1.out.keep hb)]; rfl) (agg_int _) rfl⟩
    · exact ⟨wanted_none rfl, loc_move rfl (hf.base 1 rfl)⟩
    · exact ⟨wanted_none rfl, loc_len rfl (hd 6 rfl) rfl⟩
    · exact ⟨wanted_none rfl, loc_minZ3 rfl (hd 3 rfl) (hd 5 rfl) (hd 7 rfl) HQ.out rfl⟩
    · exact ⟨wanted_none rfl, loc_assign rfl (hd 8 rfl)⟩
  · intro a2 w2 hv hf hh
    have e9 : a2.eval (.tmp 9) = .int .i64 (q : Int) := hh 9 (by decide)
    clear hh
    rw [fr_putAll hf]
    clear hf
    simp only [putAll, e9]
    generalize a2.eval (.tmp 20) = u20
    generalize a2.eval (.tmp 21) = u21
    generalize a2.eval (.tmp 22) = u22
    generalize a2.eval (.tmp 23) = u23
    generalize a2.eval (.tmp 24) = u24
    generalize a2.eval (.tmp 25) = u25
    generalize a2.eval (.tmp 26) = u26
    generalize a2.eval (.tmp 27) = u27
    generalize a2.eval (.tmp 28) = u28
    clear e9 a2
    simp only [Act.put, List.setIfInBounds_toArray, List.set_cons_succ, List.set_cons_zero]
    refine hKK _ _ ?_
    clear hKK
    have HM2 := Box.mk (HM1.out.keep hv)
    have HP2 := Box.mk (HO.out.keep hv)
    have HBB2 := Box.mk (HBB.out.keep hv)
    have HG2 := Box.mk (grownBy_of (below_trans HB1.out hv) (some g))
    have hc16 : w2.cell? ⟨g, 16, none⟩ = some (.int .i64 left) := by rw [HM2.out.cell]; exact H16.out
    have hz16 : w2.frozen? ⟨g, 16, none⟩ = false := HM2.out.frozen 16
    have hlw2 : w.heap.size + 1 < w2.heap.size := Nat.lt_of_lt_of_le hlw hv.size
    clear hv HM1 HO HBB HB1 HL1 hm16 hlw
    go_upto_region 5 with fail
    obtain ⟨W3, hW3⟩ : ∃ W3, W3 = w2.setCell ⟨g, 16, none⟩ (.int .i64 (left - (q : Int))) := ⟨_, rfl⟩
    have HG3a := Box.mk (show w2.grownBy W3 (some g) by rw [hW3]; exact grownBy_setC _ _ _ _)
    have HM3 := Box.mk (show MVr W3 g (cs.setIfInBounds 16 (.int .i64 (left - (q : Int)))) by rw [hW3]; exact HM2.out.put)
    have HP3 := Box.mk (show PVr W3 (w.heap.size + 1) #[.int .i64 0, .slice none 0 0] from (HG3a.out.block _ hlw2 (fun e => by injection e with e; omega)).trans HP2.out)
    have HBB3 := Box.mk (HBB2.out.grownR HG3a.out (row_awayR HM2.out HN.out HBB2.out))
    have HG3 := Box.mk (grownBy_trans HG2.out HG3a.out)
    have H173 := Box.mk (show (cs.setIfInBounds 16 (.int .i64 (left - (q : Int))))[17]? = some (.int .i64 z) by rw [Array.getElem?_setIfInBounds_ne (by decide)]; exact H17.out)
    have HN3 := Box.mk (noU8_set (i := 16) (z := left - (q : Int)) HN.out)
    have hlw3 : w.heap.size + 1 < W3.heap.size := (Array.getElem?_eq_some_iff.1 HP3.out).1
    have hsl : ∀ W, (Instr.sliceAt 23 (.slice ba b.length bc) none (some (.int .i64 (q : Int))) none).run Tryz.prog W = .ok (.slice ba q bc) W := fun W => run_uptoZ W ba b.length bc q hql hcap
    rw [← hW3]
    clear hW3 hc16 hz16 HM2 HP2 HBB2 HG2 HG3a HN
    go_wp2_with fail
    refine (mTakeN_nil g _ ba q bc W3 HQ0.out HM3.out).mono ?_
    rintro e w4 ⟨rfl, hm4, hg4⟩
    have HM4 := Box.mk hm4
    have HP4 := Box.mk (show PVr w4 (w.heap.size + 1) #[.int .i64 0, .slice none 0 0] from (hg4.block _ hlw3 (fun e => by injection e with e; omega)).trans HP3.out)
    have HG4 := Box.mk (grownBy_trans HG3.out hg4)
    clear hm4 hg4 HM3 HP3 HG3 HBB3 H173
    go_wp2_with (refine wpList_store_row rfl 41 _ _ rfl (w.heap.size + 1) #[.int .i64 0, .slice none 0 0] rfl rfl 41 _ HP4.out sizePt rfl (onePt ..) ?_)
    (try simp only [Exit.inBlock, Exit.then])
    refine bodyPost_ret (results_rtt rfl _ _ (w.heap.size + 1) 41 #[.int .i64 0, .slice none 0 0] (0, 0) _ rfl (setRow_heap _ _ _ _ _ _ HP4.out) Tryz.underlying41 rfl sizePt) rfl ?_
    exact ⟨rfl, (setRow_other _ _ _ _ (by omega)).trans HM4.out, grownBy_own HG4.out (by omega) _⟩
set_option maxRecDepth 100000 in
set_option maxHeartbeats 1000000 in
theorem mLen_some (b : List UInt8) (most body room : Int) (ba : Option Addr) (bc : Nat) (g : Nat) (cs : Array Value) (w : World) (hb : IsBytes w ba b bc) (hl : b.length ≤ 1000000) (hm : MVr w g cs) (left z : Int) (h16 : cs[16]? = some (.int .i64 left)) (h17 : cs[17]? = some (.int .i64 z)) (hz : 0 ≤ z ∧ z ≤ 1000000000) (hn : NoU8 cs) (hs : 17 < cs.size) (h0 : 0 < left ∧ left ≤ 1000000000) (q : Nat) (hq : minI (minI left room) b.length = (q : Int)) (hql : q ≤ b.length) (hqL : (q : Int) ≤ left) (hq0 : 0 < q) :
    Calls Tryz.prog 67 #[.pointer (some ⟨g, 0, none⟩), .slice ba b.length bc, .agg #[.int .i64 most, .int .i64 body, .int .i64 room]] w fun e w' => ∃ pa pc, e = .returned (.tuple #[.agg #[.int .i64 2, .slice pa q pc], .int .i64 q, .int .i64 0]) ∧ IsBytes w' pa (b.take q) pc ∧ MVr w' g ((cs.setIfInBounds 16 (.int .i64 (left - (q : Int)))).setIfInBounds 17 (.int .i64 (z + (q : Int)))) ∧ w.grownBy w' (some g) := by
  obtain ⟨W1, hW1⟩ : ∃ W1, W1 = (w.alloc (.cells #[.int .i64 most, .int .i64 body, .int .i64 room] 80)).alloc (.cells #[.int .i64 0, .slice none 0 0] 41) := ⟨_, rfl⟩
  have HB1 := Box.mk (show Below w.heap.size w W1 by rw [hW1]; exact below_twoF (below_oneF _ _) _)
  have HL1 := Box.mk (show LVr W1 w.heap.size most body room by rw [hW1]; exact LVr.keep (heap_alloc_new w (.cells #[.int .i64 most, .int .i64 body, .int .i64 room] 80)) (below_oneF _ _))
  have HO := Box.mk (show PVr W1 (w.heap.size + 1) #[.int .i64 0, .slice none 0 0] by
    have h := heap_alloc_new (w.alloc (.cells #[.int .i64 most, .int .i64 body, .int .i64 room] 80)) (.cells #[.int .i64 0, .slice none 0 0] 41)
    rw [World.size_alloc] at h
    rw [hW1]; exact h)
  have HW1 := Box.mk hW1
  have HM1 := Box.mk (hm.keep HB1.out)
  have hlt := hm.lt
  have hlw : w.heap.size + 1 < W1.heap.size := (Array.getElem?_eq_some_iff.1 HO.out).1
  clear hW1 hm
  have hm16 : W1.cell? ⟨g, 16, none⟩ = some (.int .i64 left) := by rw [HM1.out.cell]; exact h16
  have hgt : ¬ left ≤ 0 := by omega
  have H17 := Box.mk h17
  have HN := Box.mk hn
  have HQ := Box.mk hq
  have H16 := Box.mk h16
  have HBB := Box.mk (hb.keep HB1.out)
  have hcap : b.length ≤ bc := isBytes_cap hb
  have HTL := Box.mk (show (b.take q).length = q by rw [List.length_take]; omega)
  obtain ⟨h0a, h0b⟩ := h0
  clear hb h16 h17 hn hq
  go_enter Tryz.func67, Tryz.ntmps67
  go_upto_region 1 with fail
  rw [← HW1.out]
  clear HW1
  go_wp2_with fail
  rename_i KK hKK
  refine wp_region_local (S := [.val (.pointer (some ⟨g, 0, none⟩)), .val (.pointer (some ⟨g, 0, none⟩)), .val (.pointer (some ⟨g, 16, none⟩)), .val (.int .i64 left), .val (.pointer (some ⟨w.heap.size, 2, none⟩)), .val (.int .i64 room), .val (.slice ba b.length bc), .val (.int .i64 b.length), .val (.int .i64 (q : Int)), .val (.int .i64 (q : Int))])
    (by kernel_rfl) (by kernel_rfl) (by kernel_rfl) ?_ ?_
  · refine ⟨?_, ?_, ?_, ?_, ?_, ?_, ?_, ?_, ?_, ?_, trivial⟩ <;> intro a w' hb hf hd
    · exact ⟨wanted_none rfl, loc_move rfl (hf.base 0 rfl)⟩
    · exact ⟨wanted_none rfl, loc_nilCheck rfl (hd 0 rfl) rfl⟩
    · exact ⟨wanted_none rfl, loc_fieldMs rfl (hd 1 rfl) (by decide) rfl rfl⟩
    · exact ⟨wanted_none rfl, loc_cell rfl (hd 2 rfl) (by rw [(HM1.out.keep hb).cell]; exact H16.out) (agg_int _) rfl⟩
    · exact ⟨wanted_none rfl, loc_fieldLm rfl (hf.base 5 rfl) (by decide) rfl⟩
    · exact ⟨wanted_none rfl, loc_cell rfl (hd 4 rfl) (by rw [cell_of_row _ _ _ _ _ _ (HL1.out.keep hb)]; rfl) (agg_int _) rfl⟩
    · exact ⟨wanted_none rfl, loc_move rfl (hf.base 1 rfl)⟩
    · exact ⟨wanted_none rfl, loc_len rfl (hd 6 rfl) rfl⟩
    · exact ⟨wanted_none rfl, loc_minZ3 rfl (hd 3 rfl) (hd 5 rfl) (hd 7 rfl) HQ.out rfl⟩
    · exact ⟨wanted_none rfl, loc_assign rfl (hd 8 rfl)⟩
  · intro a2 w2 hv hf hh
    have e9 : a2.eval (.tmp 9) = .int .i64 (q : Int) := hh 9 (by decide)
    clear hh
    rw [fr_putAll hf]
    clear hf
    simp only [putAll, e9]
    generalize a2.eval (.tmp 20) = u20
    generalize a2.eval (.tmp 21) = u21
    generalize a2.eval (.tmp 22) = u22
    generalize a2.eval (.tmp 23) = u23
    generalize a2.eval (.tmp 24) = u24
    generalize a2.eval (.tmp 25) = u25
    generalize a2.eval (.tmp 26) = u26
    generalize a2.eval (.tmp 27) = u27
    generalize a2.eval (.tmp 28) = u28
    clear e9 a2
    simp only [Act.put, List.setIfInBounds_toArray, List.set_cons_succ, List.set_cons_zero]
    refine hKK _ _ ?_
    clear hKK
    have HM2 := Box.mk (HM1.out.keep hv)
    have HP2 := Box.mk (HO.out.keep hv)
    have HBB2 := Box.mk (HBB.out.keep hv)
    have HG2 := Box.mk (grownBy_of (below_trans HB1.out hv) (some g))
    have hc16 : w2.cell? ⟨g, 16, none⟩ = some (.int .i64 left) := by rw [HM2.out.cell]; exact H16.out
    have hz16 : w2.frozen? ⟨g, 16, none⟩ = false := HM2.out.frozen 16
    have hlw2 : w.heap.size + 1 < w2.heap.size := Nat.lt_of_lt_of_le hlw hv.size
    clear hv HM1 HO HBB HB1 HL1 hm16 hlw
    go_upto_region 5 with fail
    obtain ⟨W3, hW3⟩ : ∃ W3, W3 = w2.setCell ⟨g, 16, none⟩ (.int .i64 (left - (q : Int))) := ⟨_, rfl⟩
    have HG3a := Box.mk (show w2.grownBy W3 (some g) by rw [hW3]; exact grownBy_setC _ _ _ _)
    have HM3 := Box.mk (show MVr W3 g (cs.setIfInBounds 16 (.int .i64 (left - (q : Int)))) by rw [hW3]; exact HM2.out.put)
    have HP3 := Box.mk (show PVr W3 (w.heap.size + 1) #[.int .i64 0, .slice none 0 0] from (HG3a.out.block _ hlw2 (fun e => by injection e with e; omega)).trans HP2.out)
    have HBB3 := Box.mk (HBB2.out.grownR HG3a.out (row_awayR HM2.out HN.out HBB2.out))
    have HG3 := Box.mk (grownBy_trans HG2.out HG3a.out)
    have H173 := Box.mk (show (cs.setIfInBounds 16 (.int .i64 (left - (q : Int))))[17]? = some (.int .i64 z) by rw [Array.getElem?_setIfInBounds_ne (by decide)]; exact H17.out)
    have HN3 := Box.mk (noU8_set (i := 16) (z := left - (q : Int)) HN.out)
    have hlw3 : w.heap.size + 1 < W3.heap.size := (Array.getElem?_eq_some_iff.1 HP3.out).1
    have hsl : ∀ W, (Instr.sliceAt 23 (.slice ba b.length bc) none (some (.int .i64 (q : Int))) none).run Tryz.prog W = .ok (.slice ba q bc) W := fun W => run_uptoZ W ba b.length bc q hql hcap
    rw [← hW3]
    clear hW3 hc16 hz16 HM2 HP2 HBB2 HG2 HG3a HN
    go_wp2_with fail
    refine (mTakeN_some g _ z (b.take q) ba q bc W3 HTL.out HM3.out H173.out hz HN3.out (isBytes_takeR HBB3.out q) (by omega) hq0).mono ?_
    rintro e w4 ⟨pa, pc, rfl, hd4, hm4, hg4⟩
    have HM4 := Box.mk hm4
    have HD4 := Box.mk hd4
    have HP4 := Box.mk (show PVr w4 (w.heap.size + 1) #[.int .i64 0, .slice none 0 0] from (hg4.block _ hlw3 (fun e => by injection e with e; omega)).trans HP3.out)
    have HG4 := Box.mk (grownBy_trans HG3.out hg4)
    clear hm4 hg4 HM3 HP3 HG3 HBB3 H173 hd4
    go_wp2_with (refine wpList_store_row rfl 41 _ _ rfl (w.heap.size + 1) #[.int .i64 2, .slice pa q pc] rfl rfl 41 _ HP4.out sizePt rfl (onePt ..) ?_)
    (try simp only [Exit.inBlock, Exit.then])
    refine bodyPost_ret (results_rtt rfl _ _ (w.heap.size + 1) 41 #[.int .i64 2, .slice pa q pc] (0, 0) _ rfl (setRow_heap _ _ _ _ _ _ HP4.out) Tryz.underlying41 rfl sizePt) rfl ?_
    exact ⟨pa, pc, rfl, HD4.out.same fun x e hl => setRow_other _ _ _ _ (row_awayR HP4.out (noU8_22 rfl) HD4.out x e hl), (setRow_other _ _ _ _ (by omega)).trans HM4.out, grownBy_own HG4.out (by omega) _⟩
set_option maxRecDepth 100000 in
set_option maxHeartbeats 1000000 in
theorem mClose_no (b : List UInt8) (most body room : Int) (ba : Option Addr) (bc : Nat) (g : Nat) (cs : Array Value) (w : World) (hb : IsBytes w ba b bc) (hl : b.length ≤ 1000000) (hm : MVr w g cs) (z : Int) (h17 : cs[17]? = some (.int .i64 z)) (hz : 0 ≤ z ∧ z ≤ 1000000000) (hy : 0 ≤ body ∧ body ≤ 1000000000) (hn : NoU8 cs) (q : Nat) (hq : minI (minI room (body + 1 - z)) b.length = (q : Int)) (hql : q ≤ b.length) (hq0 : q = 0) :
    Calls Tryz.prog 69 #[.pointer (some ⟨g, 0, none⟩), .slice ba b.length bc, .agg #[.int .i64 most, .int .i64 body, .int .i64 room]] w fun e w' => e = .returned (.tuple #[.agg #[.int .i64 0, .slice none 0 0], .int .i64 0, .int .i64 0]) ∧ MVr w' g cs ∧ w.grownBy w' (some g) := by
  obtain ⟨W1, hW1⟩ : ∃ W1, W1 = (w.alloc (.cells #[.int .i64 most, .int .i64 body, .int .i64 room] 80)).alloc (.cells #[.int .i64 0, .slice none 0 0] 41) := ⟨_, rfl⟩
  have HB1 := Box.mk (show Below w.heap.size w W1 by rw [hW1]; exact below_twoF (below_oneF _ _) _)
  have HL1 := Box.mk (show LVr W1 w.heap.size most body room by rw [hW1]; exact LVr.keep (heap_alloc_new w (.cells #[.int .i64 most, .int .i64 body, .int .i64 room] 80)) (below_oneF _ _))
  have HO := Box.mk (show PVr W1 (w.heap.size + 1) #[.int .i64 0, .slice none 0 0] by
    have h := heap_alloc_new (w.alloc (.cells #[.int .i64 most, .int .i64 body, .int .i64 room] 80)) (.cells #[.int .i64 0, .slice none 0 0] 41)
    rw [World.size_alloc] at h
    rw [hW1]; exact h)
  have HW1 := Box.mk hW1
  have HM1 := Box.mk (hm.keep HB1.out)
  have hlt := hm.lt
  have hlw : w.heap.size + 1 < W1.heap.size := (Array.getElem?_eq_some_iff.1 HO.out).1
  clear hW1 hm
  have hm17 : W1.cell? ⟨g, 17, none⟩ = some (.int .i64 z) := by rw [HM1.out.cell]; exact h17
  have H17 := Box.mk h17
  have HN := Box.mk hn
  have HBB := Box.mk (hb.keep HB1.out)
  have hcap : b.length ≤ bc := isBytes_cap hb
  have HTL := Box.mk (show (b.take q).length = q by rw [List.length_take]; omega)
  have HCALL := Box.mk (mRoom_any g cs most body room z W1 HM1.out h17 hy hz)
  obtain ⟨rk, hrk⟩ : ∃ rk : Int, rk = minI room (body + 1 - z) := ⟨_, rfl⟩
  rw [← hrk] at HCALL hq
  have hmn : ∀ (ts : Array TypeId) (t : TypeId) (W : World), (Builtin.min_ ts t #[.int .i64 rk, .int .i64 b.length]).run Tryz.prog W = .ok (.int .i64 (q : Int)) W := fun ts t W => by
    rw [run_min_int2]
    have h := hq
    unfold minI at h
    congr 2
    rw [← h]
    split <;> split <;> omega
  have hl1 : W1.cell? ⟨w.heap.size, 1, none⟩ = some (.int .i64 body) := by rw [cell_of_row _ _ _ _ _ _ HL1.out]; rfl
  clear hb h17 hn hq hrk
  have eq0 : ((q : Int) != 0) = false := by rw [hq0]; rfl
  have HQ0 := Box.mk hq0
  clear hq0
  go_enter Tryz.func69, Tryz.ntmps69
  go_upto_region 1 with fail
  rw [← HW1.out]
  clear HW1
  go_wp2_with (refine wpList_load_row rfl 80 _ rfl w.heap.size rfl 80 #[.int .i64 most, .int .i64 body, .int .i64 room] (0, 0) _ HL1.out Tryz.underlying80 rfl sizeLm ?_)
  refine HCALL.out.mono ?_
  rintro e w2 ⟨rfl, hv⟩
  have HDR : ∀ n, Below W1.heap.size W1 (w2.drewN n) := fun n => below_trans hv (below_drewN (Below.refl _ _) n)
  have HM2 := Box.mk (fun n => HM1.out.keep (HDR n))
  have HP2 := Box.mk (fun n => HO.out.keep (HDR n))
  have HBB2 := Box.mk (fun n => HBB.out.keep (HDR n))
  have HG2 := Box.mk (fun n => grownBy_of (below_trans HB1.out (HDR n)) (some g))
  have hc17 : w2.cell? ⟨g, 17, none⟩ = some (.int .i64 z) := by rw [(HM1.out.keep hv).cell]; exact H17.out
  have hlw2 : ∀ n, w.heap.size + 1 < (w2.drewN n).heap.size := fun n => Nat.lt_of_lt_of_le hlw (HDR n).size
  have hlb : w2.cell? ⟨w.heap.size, 1, none⟩ = some (.int .i64 body) := by rw [cell_of_row _ _ _ _ _ _ (HL1.out.keep hv)]; rfl
  have HLW := Box.mk hlw2
  have hsl : ∀ W, (Instr.sliceAt 23 (.slice ba b.length bc) none (some (.int .i64 (q : Int))) none).run Tryz.prog W = .ok (.slice ba q bc) W := fun W => run_uptoZ W ba b.length bc q hql hcap
  clear hv HM1 HO HBB HB1 HL1 hm17 hlw hl1 HCALL HDR hlw2
  go_wp2_with fail
  go_quiet (fail)
  go_wp2_with fail
  refine (mTakeN_nil g cs ba q bc _ HQ0.out (HM2.out _)).mono ?_
  rintro e w4 ⟨rfl, hm4, hg4⟩
  have HM4 := Box.mk hm4
  have HP4 := Box.mk (show PVr w4 (w.heap.size + 1) #[.int .i64 0, .slice none 0 0] from (hg4.block _ (HLW.out _) (fun e => by injection e with e; omega)).trans (HP2.out _))
  have HG4 := Box.mk (grownBy_trans (HG2.out _) hg4)
  clear hm4 hg4 HM2 HP2 HG2 HBB2
  go_wp2_with (refine wpList_store_row rfl 41 _ _ rfl (w.heap.size + 1) #[.int .i64 0, .slice none 0 0] rfl rfl 41 _ HP4.out sizePt rfl (onePt ..) ?_)
  (try simp only [Exit.inBlock, Exit.then])
  refine bodyPost_ret (results_rtt rfl _ _ (w.heap.size + 1) 41 #[.int .i64 0, .slice none 0 0] (0, 0) _ rfl (setRow_heap _ _ _ _ _ _ HP4.out) Tryz.underlying41 rfl sizePt) rfl ?_
  exact ⟨rfl, (setRow_other _ _ _ _ (by omega)).trans HM4.out, grownBy_own HG4.out (by omega) _⟩
set_option maxRecDepth 100000 in
set_option maxHeartbeats 1000000 in
theorem mClose_full (b : List UInt8) (most body room : Int) (ba : Option Addr) (bc : Nat) (g : Nat) (cs : Array Value) (w : World) (hb : IsBytes w ba b bc) (hl : b.length ≤ 1000000) (hm : MVr w g cs) (z : Int) (h17 : cs[17]? = some (.int .i64 z)) (hz : 0 ≤ z ∧ z ≤ 1000000000) (hy : 0 ≤ body ∧ body ≤ 1000000000) (hn : NoU8 cs) (q : Nat) (hq : minI (minI room (body + 1 - z)) b.length = (q : Int)) (hql : q ≤ b.length) (hq0 : 0 < q) (hbs : body < z + (q : Int)) :
    Calls Tryz.prog 69 #[.pointer (some ⟨g, 0, none⟩), .slice ba b.length bc, .agg #[.int .i64 most, .int .i64 body, .int .i64 room]] w fun e w' => e = .returned (.tuple #[.agg #[.int .i64 0, .slice none 0 0], .int .i64 0, .int .i64 9]) ∧ w.grownBy w' (some g) := by
  obtain ⟨W1, hW1⟩ : ∃ W1, W1 = (w.alloc (.cells #[.int .i64 most, .int .i64 body, .int .i64 room] 80)).alloc (.cells #[.int .i64 0, .slice none 0 0] 41) := ⟨_, rfl⟩
  have HB1 := Box.mk (show Below w.heap.size w W1 by rw [hW1]; exact below_twoF (below_oneF _ _) _)
  have HL1 := Box.mk (show LVr W1 w.heap.size most body room by rw [hW1]; exact LVr.keep (heap_alloc_new w (.cells #[.int .i64 most, .int .i64 body, .int .i64 room] 80)) (below_oneF _ _))
  have HO := Box.mk (show PVr W1 (w.heap.size + 1) #[.int .i64 0, .slice none 0 0] by
    have h := heap_alloc_new (w.alloc (.cells #[.int .i64 most, .int .i64 body, .int .i64 room] 80)) (.cells #[.int .i64 0, .slice none 0 0] 41)
    rw [World.size_alloc] at h
    rw [hW1]; exact h)
  have HW1 := Box.mk hW1
  have HM1 := Box.mk (hm.keep HB1.out)
  have hlt := hm.lt
  have hlw : w.heap.size + 1 < W1.heap.size := (Array.getElem?_eq_some_iff.1 HO.out).1
  clear hW1 hm
  have hm17 : W1.cell? ⟨g, 17, none⟩ = some (.int .i64 z) := by rw [HM1.out.cell]; exact h17
  have H17 := Box.mk h17
  have HN := Box.mk hn
  have HBB := Box.mk (hb.keep HB1.out)
  have hcap : b.length ≤ bc := isBytes_cap hb
  have HTL := Box.mk (show (b.take q).length = q by rw [List.length_take]; omega)
  have HCALL := Box.mk (mRoom_any g cs most body room z W1 HM1.out h17 hy hz)
  obtain ⟨rk, hrk⟩ : ∃ rk : Int, rk = minI room (body + 1 - z) := ⟨_, rfl⟩
  rw [← hrk] at HCALL hq
  have hmn : ∀ (ts : Array TypeId) (t : TypeId) (W : World), (Builtin.min_ ts t #[.int .i64 rk, .int .i64 b.length]).run Tryz.prog W = .ok (.int .i64 (q : Int)) W := fun ts t W => by
    rw [run_min_int2]
    have h := hq
    unfold minI at h
    congr 2
    rw [← h]
    split <;> split <;> omega
  have hl1 : W1.cell? ⟨w.heap.size, 1, none⟩ = some (.int .i64 body) := by rw [cell_of_row _ _ _ _ _ _ HL1.out]; rfl
  clear hb h17 hn hq hrk
  go_enter Tryz.func69, Tryz.ntmps69
  go_upto_region 1 with fail
  rw [← HW1.out]
  clear HW1
  go_wp2_with (refine wpList_load_row rfl 80 _ rfl w.heap.size rfl 80 #[.int .i64 most, .int .i64 body, .int .i64 room] (0, 0) _ HL1.out Tryz.underlying80 rfl sizeLm ?_)
  refine HCALL.out.mono ?_
  rintro e w2 ⟨rfl, hv⟩
  have HDR : ∀ n, Below W1.heap.size W1 (w2.drewN n) := fun n => below_trans hv (below_drewN (Below.refl _ _) n)
  have HM2 := Box.mk (fun n => HM1.out.keep (HDR n))
  have HP2 := Box.mk (fun n => HO.out.keep (HDR n))
  have HBB2 := Box.mk (fun n => HBB.out.keep (HDR n))
  have HG2 := Box.mk (fun n => grownBy_of (below_trans HB1.out (HDR n)) (some g))
  have hc17 : w2.cell? ⟨g, 17, none⟩ = some (.int .i64 z) := by rw [(HM1.out.keep hv).cell]; exact H17.out
  have hlw2 : ∀ n, w.heap.size + 1 < (w2.drewN n).heap.size := fun n => Nat.lt_of_lt_of_le hlw (HDR n).size
  have hlb : w2.cell? ⟨w.heap.size, 1, none⟩ = some (.int .i64 body) := by rw [cell_of_row _ _ _ _ _ _ (HL1.out.keep hv)]; rfl
  have HLW := Box.mk hlw2
  have hsl : ∀ W, (Instr.sliceAt 23 (.slice ba b.length bc) none (some (.int .i64 (q : Int))) none).run Tryz.prog W = .ok (.slice ba q bc) W := fun W => run_uptoZ W ba b.length bc q hql hcap
  clear hv HM1 HO HBB HB1 HL1 hm17 hlw hl1 HCALL HDR hlw2
  have eq0 : ((q : Int) != 0) = true := by rw [bne_iff_ne]; omega
  have hgt : z + (q : Int) > body := by omega
  obtain ⟨hz0, hz1⟩ := hz
  clear hbs
  go_wp2_with fail
  go_quiet (fail)
  go_wp2_with (refine wpList_store_row rfl 41 _ _ rfl (w.heap.size + 1) #[.int .i64 0, .slice none 0 0] rfl rfl 41 _ (HP2.out _) sizePt rfl (onePt ..) ?_)
  (try simp only [Exit.inBlock, Exit.then])
  refine bodyPost_ret (results_rtt rfl _ _ (w.heap.size + 1) 41 #[.int .i64 0, .slice none 0 0] (0, 0) _ rfl (setRow_heap _ _ _ _ _ _ (HP2.out _)) Tryz.underlying41 rfl sizePt) rfl ?_
  exact ⟨rfl, grownBy_own (HG2.out _) (by omega) _⟩
set_option maxRecDepth 100000 in
set_option maxHeartbeats 1000000 in
theorem mClose_some (b : List UInt8) (most body room : Int) (ba : Option Addr) (bc : Nat) (g : Nat) (cs : Array Value) (w : World) (hb : IsBytes w ba b bc) (hl : b.length ≤ 1000000) (hm : MVr w g cs) (z : Int) (h17 : cs[17]? = some (.int .i64 z)) (hz : 0 ≤ z ∧ z ≤ 1000000000) (hy : 0 ≤ body ∧ body ≤ 1000000000) (hn : NoU8 cs) (q : Nat) (hq : minI (minI room (body + 1 - z)) b.length = (q : Int)) (hql : q ≤ b.length) (hq0 : 0 < q) (hbs : ¬ body < z + (q : Int)) :
    Calls Tryz.prog 69 #[.pointer (some ⟨g, 0, none⟩), .slice ba b.length bc, .agg #[.int .i64 most, .int .i64 body, .int .i64 room]] w fun e w' => ∃ pa pc, e = .returned (.tuple #[.agg #[.int .i64 2, .slice pa q pc], .int .i64 q, .int .i64 0]) ∧ IsBytes w' pa (b.take q) pc ∧ MVr w' g (cs.setIfInBounds 17 (.int .i64 (z + (q : Int)))) ∧ w.grownBy w' (some g) := by
  obtain ⟨W1, hW1⟩ : ∃ W1, W1 = (w.alloc (.cells #[.int .i64 most, .int .i64 body, .int .i64 room] 80)).alloc (.cells #[.int .i64 0, .slice none 0 0] 41) := ⟨_, rfl⟩
  have HB1 := Box.mk (show Below w.heap.size w W1 by rw [hW1]; exact below_twoF (below_oneF _ _) _)
  have HL1 := Box.mk (show LVr W1 w.heap.size most body room by rw [hW1]; exact LVr.keep (heap_alloc_new w (.cells #[.int .i64 most, .int .i64 body, .int .i64 room] 80)) (below_oneF _ _))
  have HO := Box.mk (show PVr W1 (w.heap.size + 1) #[.int .i64 0, .slice none 0 0] by
    have h := heap_alloc_new (w.alloc (.cells #[.int .i64 most, .int .i64 body, .int .i64 room] 80)) (.cells #[.int .i64 0, .slice none 0 0] 41)
    rw [World.size_alloc] at h
    rw [hW1]; exact h)
  have HW1 := Box.mk hW1
  have HM1 := Box.mk (hm.keep HB1.out)
  have hlt := hm.lt
  have hlw : w.heap.size + 1 < W1.heap.size := (Array.getElem?_eq_some_iff.1 HO.out).1
  clear hW1 hm
  have hm17 : W1.cell? ⟨g, 17, none⟩ = some (.int .i64 z) := by rw [HM1.out.cell]; exact h17
  have H17 := Box.mk h17
  have HN := Box.mk hn
  have HBB := Box.mk (hb.keep HB1.out)
  have hcap : b.length ≤ bc := isBytes_cap hb
  have HTL := Box.mk (show (b.take q).length = q by rw [List.length_take]; omega)
  have HCALL := Box.mk (mRoom_any g cs most body room z W1 HM1.out h17 hy hz)
  obtain ⟨rk, hrk⟩ : ∃ rk : Int, rk = minI room (body + 1 - z) := ⟨_, rfl⟩
  rw [← hrk] at HCALL hq
  have hmn : ∀ (ts : Array TypeId) (t : TypeId) (W : World), (Builtin.min_ ts t #[.int .i64 rk, .int .i64 b.length]).run Tryz.prog W = .ok (.int .i64 (q : Int)) W := fun ts t W => by
    rw [run_min_int2]
    have h := hq
    unfold minI at h
    congr 2
    rw [← h]
    split <;> split <;> omega
  have hl1 : W1.cell? ⟨w.heap.size, 1, none⟩ = some (.int .i64 body) := by rw [cell_of_row _ _ _ _ _ _ HL1.out]; rfl
  clear hb h17 hn hq hrk
  go_enter Tryz.func69, Tryz.ntmps69
  go_upto_region 1 with fail
  rw [← HW1.out]
  clear HW1
  go_wp2_with (refine wpList_load_row rfl 80 _ rfl w.heap.size rfl 80 #[.int .i64 most, .int .i64 body, .int .i64 room] (0, 0) _ HL1.out Tryz.underlying80 rfl sizeLm ?_)
  refine HCALL.out.mono ?_
  rintro e w2 ⟨rfl, hv⟩
  have HDR : ∀ n, Below W1.heap.size W1 (w2.drewN n) := fun n => below_trans hv (below_drewN (Below.refl _ _) n)
  have HM2 := Box.mk (fun n => HM1.out.keep (HDR n))
  have HP2 := Box.mk (fun n => HO.out.keep (HDR n))
  have HBB2 := Box.mk (fun n => HBB.out.keep (HDR n))
  have HG2 := Box.mk (fun n => grownBy_of (below_trans HB1.out (HDR n)) (some g))
  have hc17 : w2.cell? ⟨g, 17, none⟩ = some (.int .i64 z) := by rw [(HM1.out.keep hv).cell]; exact H17.out
  have hlw2 : ∀ n, w.heap.size + 1 < (w2.drewN n).heap.size := fun n => Nat.lt_of_lt_of_le hlw (HDR n).size
  have hlb : w2.cell? ⟨w.heap.size, 1, none⟩ = some (.int .i64 body) := by rw [cell_of_row _ _ _ _ _ _ (HL1.out.keep hv)]; rfl
  have HLW := Box.mk hlw2
  have hsl : ∀ W, (Instr.sliceAt 23 (.slice ba b.length bc) none (some (.int .i64 (q : Int))) none).run Tryz.prog W = .ok (.slice ba q bc) W := fun W => run_uptoZ W ba b.length bc q hql hcap
  clear hv HM1 HO HBB HB1 HL1 hm17 hlw hl1 HCALL HDR hlw2
  have eq0 : ((q : Int) != 0) = true := by rw [bne_iff_ne]; omega
  have hgt : ¬ z + (q : Int) > body := by omega
  obtain ⟨hz0, hz1⟩ := hz
  clear hbs
  go_wp2_with fail
  go_quiet (fail)
  go_wp2_with fail
  refine (mTakeN_some g cs z (b.take q) ba q bc _ HTL.out (HM2.out _) H17.out ⟨hz0, hz1⟩ HN.out (isBytes_takeR (HBB2.out _) q) (by omega) hq0).mono ?_
  rintro e w4 ⟨pa, pc, rfl, hd4, hm4, hg4⟩
  have HM4 := Box.mk hm4
  have HD4 := Box.mk hd4
  have HP4 := Box.mk (show PVr w4 (w.heap.size + 1) #[.int .i64 0, .slice none 0 0] from (hg4.block _ (HLW.out _) (fun e => by injection e with e; omega)).trans (HP2.out _))
  have HG4 := Box.mk (grownBy_trans (HG2.out _) hg4)
  clear hm4 hg4 HM2 HP2 HG2 HBB2 hd4
  go_wp2_with (refine wpList_store_row rfl 41 _ _ rfl (w.heap.size + 1) #[.int .i64 2, .slice pa q pc] rfl rfl 41 _ HP4.out sizePt rfl (onePt ..) ?_)
  (try simp only [Exit.inBlock, Exit.then])
  refine bodyPost_ret (results_rtt rfl _ _ (w.heap.size + 1) 41 #[.int .i64 2, .slice pa q pc] (0, 0) _ rfl (setRow_heap _ _ _ _ _ _ HP4.out) Tryz.underlying41 rfl sizePt) rfl ?_
  exact ⟨pa, pc, rfl, HD4.out.same fun x e hl => setRow_other _ _ _ _ (row_awayR HP4.out (noU8_22 rfl) HD4.out x e hl), (setRow_other _ _ _ _ (by omega)).trans HM4.out, grownBy_own HG4.out (by omega) _⟩
end Go.Proofs.YtejbkbccljoldaaGreatDoor
namespace Go.Proofs.YtejbkbccljoldaaGreatDoor
open Go.RowKit

set_option linter.unusedVariables false
theorem mLen_any (P : Nat → Prop) (s : RS) (b : List UInt8) (most body room : Int) (ba : Option Addr) (bc : Nat) (fa ga la : Option Addr) (fc gc lc : Nat) (g : Nat) (w : World) (hb : IsBytes w ba b bc) (hl : b.length ≤ 1000000) (hm : MVr w g #[.bool s.rep, .string s.meth, .int .i64 s.ph, .string s.m, .string s.t, .int .i64 s.z, .slice fa (List.length s.xs) fc, .bool s.fr, .slice none 0 0, .int .i64 s.st, .string s.rs, .int .i64 s.z2, .slice ga (List.length s.ys) gc, .slice none 0 0, .int .i64 s.fk, .int .i64 s.fl, .int .i64 s.left, .int .i64 s.size, .int .i64 s.ck.ph, .int .i64 s.ck.left, .int .i64 s.ck.tr, .slice la (List.length s.ck.line) lc]) (hr : RMem P w s fa ga la lc) (hlf : ∀ y, la = some y → s.ck.line ≠ [] → P y.block) (hPg : ∀ k, P k → k ≠ g) (hP : ∀ k, w.heap.size ≤ k → P k) (hs : OkN body s) (hp : s.ph = 1) (hb0 : 0 ≤ body ∧ body ≤ 1000000000) (hr0 : 0 ≤ room ∧ room ≤ 1000000000) (hk : s.fk = 1 ∨ s.fk = 2) :
    Calls Tryz.prog 67 #[.pointer (some ⟨g, 0, none⟩), .slice ba b.length bc, .agg #[.int .i64 most, .int .i64 body, .int .i64 room]] w (RetM P w g (moreX s b body room)) := by
  unfold moreX
  rw [if_pos hk]
  by_cases h0 : s.fk = 1 ∨ s.left = 0
  · rw [if_pos h0]
    have hz : s.left = 0 := by
      rcases h0 with h | h
      · exact hs.n1 hp h
      · exact h
    refine (mLen_end b most body room ba bc g _ w hm s.ph s.left rfl rfl hz).mono ?_
    rintro e w' ⟨he, h1, hg⟩
    have h2 := hr.grown hg hPg hm (noU8_22 rfl)
    exact .inl ⟨rfl, fa, fc, ga, gc, la, lc, none, 0, he, h1, ⟨h2.f1, h2.f2, h2.ln, h2.n1, h2.n2⟩, hlf, .inl ⟨rfl, rfl, rfl⟩, hg⟩
  · rw [if_neg h0]
    have hk2 : s.fk = 2 := by omega
    have hleft := hs.ok.left hk2
    have hsz := hs.ok.size
    have hm1 := minI_le s.left room
    have hm2 := minI_le (minI s.left room) b.length
    obtain ⟨q, hqq⟩ : ∃ q : Nat, minI (minI s.left room) b.length = (q : Int) := Int.eq_ofNat_of_zero_le (by omega)
    rw [hqq, Int.toNat_natCast]
    by_cases hq : q = 0
    · rw [if_pos (by omega)]
      refine (mLen_no b most body room ba bc g _ w hb hl hm s.left s.size rfl rfl hsz (noU8_22 rfl) (show 17 < 22 by decide) (by omega) q hqq (by omega) (by omega) hq).mono ?_
      rintro e w' ⟨he, h1, hg⟩
      rw [show s.left - (q : Int) = s.left by omega] at h1
      exact .inl ⟨rfl, fa, fc, ga, gc, la, lc, none, 0, he, h1, hr.grown hg hPg hm (noU8_22 rfl), hlf, .inl ⟨rfl, rfl, rfl⟩, hg⟩
    · rw [if_neg (by omega)]
      refine (mLen_some b most body room ba bc g _ w hb hl hm s.left s.size rfl rfl hsz (noU8_22 rfl) (show 17 < 22 by decide) (by omega) q hqq (by omega) (by omega) (by omega)).mono ?_
      rintro e w' ⟨pa, pc, he, hd, h1, hg⟩
      have h2 := hr.grown hg hPg hm (noU8_22 rfl)
      have hlt : (b.take q).length = q := by rw [List.length_take]; omega
      exact .inl ⟨rfl, fa, fc, ga, gc, la, lc, pa, pc, by dsimp only; rw [hlt]; exact he, h1, ⟨h2.f1, h2.f2, h2.ln, h2.n1, h2.n2⟩, hlf, hd, hg⟩
theorem mClose_any (P : Nat → Prop) (s : RS) (b : List UInt8) (most body room : Int) (ba : Option Addr) (bc : Nat) (fa ga la : Option Addr) (fc gc lc : Nat) (g : Nat) (w : World) (hb : IsBytes w ba b bc) (hl : b.length ≤ 1000000) (hm : MVr w g #[.bool s.rep, .string s.meth, .int .i64 s.ph, .string s.m, .string s.t, .int .i64 s.z, .slice fa (List.length s.xs) fc, .bool s.fr, .slice none 0 0, .int .i64 s.st, .string s.rs, .int .i64 s.z2, .slice ga (List.length s.ys) gc, .slice none 0 0, .int .i64 s.fk, .int .i64 s.fl, .int .i64 s.left, .int .i64 s.size, .int .i64 s.ck.ph, .int .i64 s.ck.left, .int .i64 s.ck.tr, .slice la (List.length s.ck.line) lc]) (hr : RMem P w s fa ga la lc) (hlf : ∀ y, la = some y → s.ck.line ≠ [] → P y.block) (hPg : ∀ k, P k → k ≠ g) (hP : ∀ k, w.heap.size ≤ k → P k) (hs : OkN body s) (hp : s.ph = 1) (hb0 : 0 ≤ body ∧ body ≤ 1000000000) (hr0 : 0 ≤ room ∧ room ≤ 1000000000) (hk : s.fk = 4) :
    Calls Tryz.prog 69 #[.pointer (some ⟨g, 0, none⟩), .slice ba b.length bc, .agg #[.int .i64 most, .int .i64 body, .int .i64 room]] w (RetM P w g (moreX s b body room)) := by
  unfold moreX
  rw [if_neg (by omega), if_neg (by omega)]
  have hsz := hs.ok.size
  have hsb := hs.sz hp
  have hm1 := minI_le room b.length
  have hm2 := minI_le (minI room b.length) (body + 1 - s.size)
  have hm3 := minI_le room (body + 1 - s.size)
  have hm4 := minI_le (minI room (body + 1 - s.size)) b.length
  obtain ⟨q, hqq⟩ : ∃ q : Nat, minI (minI room b.length) (body + 1 - s.size) = (q : Int) := Int.eq_ofNat_of_zero_le (by omega)
  have hq2 : minI (minI room (body + 1 - s.size)) b.length = (q : Int) := by omega
  rw [hqq, Int.toNat_natCast]
  by_cases hq : q = 0
  · rw [if_pos (by omega)]
    refine (mClose_no b most body room ba bc g _ w hb hl hm s.size rfl hsz hb0 (noU8_22 rfl) q hq2 (by omega) hq).mono ?_
    rintro e w' ⟨he, h1, hg⟩
    exact .inl ⟨rfl, fa, fc, ga, gc, la, lc, none, 0, he, h1, hr.grown hg hPg hm (noU8_22 rfl), hlf, .inl ⟨rfl, rfl, rfl⟩, hg⟩
  · rw [if_neg (by omega)]
    by_cases hbs : body < s.size + (q : Int)
    · rw [if_pos hbs]
      refine (mClose_full b most body room ba bc g _ w hb hl hm s.size rfl hsz hb0 (noU8_22 rfl) q hq2 (by omega) (by omega) hbs).mono ?_
      rintro e w' ⟨he, hg⟩
      exact retM_err rfl (by decide) he hg
    · rw [if_neg hbs]
      refine (mClose_some b most body room ba bc g _ w hb hl hm s.size rfl hsz hb0 (noU8_22 rfl) q hq2 (by omega) (by omega) hbs).mono ?_
      rintro e w' ⟨pa, pc, he, hd, h1, hg⟩
      have h2 := hr.grown hg hPg hm (noU8_22 rfl)
      have hlt : (b.take q).length = q := by rw [List.length_take]; omega
      exact .inl ⟨rfl, fa, fc, ga, gc, la, lc, pa, pc, by dsimp only; rw [hlt]; exact he, h1, ⟨h2.f1, h2.f2, h2.ln, h2.n1, h2.n2⟩, hlf, hd, hg⟩
theorem mChunk_any (P : Nat → Prop) (s : RS) (b : List UInt8) (most body room : Int) (ba : Option Addr) (bc : Nat) (fa ga la : Option Addr) (fc gc lc : Nat) (g : Nat) (w : World) (hb : IsBytes w ba b bc) (hl : b.length ≤ 1000000) (hm : MVr w g #[.bool s.rep, .string s.meth, .int .i64 s.ph, .string s.m, .string s.t, .int .i64 s.z, .slice fa (List.length s.xs) fc, .bool s.fr, .slice none 0 0, .int .i64 s.st, .string s.rs, .int .i64 s.z2, .slice ga (List.length s.ys) gc, .slice none 0 0, .int .i64 s.fk, .int .i64 s.fl, .int .i64 s.left, .int .i64 s.size, .int .i64 s.ck.ph, .int .i64 s.ck.left, .int .i64 s.ck.tr, .slice la (List.length s.ck.line) lc]) (hr : RMem P w s fa ga la lc) (hlf : ∀ y, la = some y → s.ck.line ≠ [] → P y.block) (hPg : ∀ k, P k → k ≠ g) (hP : ∀ k, w.heap.size ≤ k → P k) (hs : OkN body s) (hp : s.ph = 1) (hb0 : 0 ≤ body ∧ body ≤ 1000000000) (hr0 : 0 ≤ room ∧ room ≤ 1000000000) (hk : s.fk = 3) :
    Calls Tryz.prog 68 #[.pointer (some ⟨g, 0, none⟩), .slice ba b.length bc, .agg #[.int .i64 most, .int .i64 body, .int .i64 room]] w (RetM P w g (moreX s b body room)) := by
  unfold moreX
  rw [if_neg (by omega), if_pos hk]
  have hsz := hs.ok.size
  have hfl := (feedS_len (minI room (body + 1 - s.size)) s.ck b).1
  have hF : feedS (minI room (body + 1 - s.size)) s.ck [] 0 b = ((feedS (minI room (body + 1 - s.size)) s.ck [] 0 b).1, (feedS (minI room (body + 1 - s.size)) s.ck [] 0 b).2.1, (feedS (minI room (body + 1 - s.size)) s.ck [] 0 b).2.2.1, (feedS (minI room (body + 1 - s.size)) s.ck [] 0 b).2.2.2) := rfl
  generalize (feedS (minI room (body + 1 - s.size)) s.ck [] 0 b).1 = er at *
  generalize (feedS (minI room (body + 1 - s.size)) s.ck [] 0 b).2.1 = c at *
  generalize (feedS (minI room (body + 1 - s.size)) s.ck [] 0 b).2.2.1 = out at *
  generalize (feedS (minI room (body + 1 - s.size)) s.ck [] 0 b).2.2.2 = n at *
  have hol : out.length ≤ 1000000 := Nat.le_trans hfl hl
  by_cases h0 : er = 0
  · rw [if_neg (fun h => h h0)]
    by_cases hbs : body < s.size + ((List.length out : Nat) : Int)
    · rw [if_pos hbs]
      refine (mChunk_full s b most body room ba bc fa ga la fc gc lc g w hb hl hm hr.ln hs.ok.ck hsz hb0 hr0 er c out n hF hol h0 hbs).mono ?_
      rintro e w' ⟨he, hg⟩
      exact retM_err rfl (by decide) he hg
    · rw [if_neg hbs]
      by_cases ho : 0 < out.length
      · rw [if_pos ho]
        refine (mChunk_data s b most body room ba bc fa ga la fc gc lc g w hb hl hm hr.ln hs.ok.ck hsz hb0 hr0 er c out n hF hol h0 hbs ho).mono ?_
        rintro e w' ⟨a, cc, oa, oc, he, h1, h3, h4, h5, hg⟩
        have h2 := hr.grown hg hPg hm (noU8_22 rfl)
        exact .inl ⟨rfl, fa, fc, ga, gc, a, cc, oa, oc, he, h1, ⟨h2.f1, h2.f2, h3, h2.n1, h2.n2⟩, (fun y e hx => hP _ (h5 y e hx)), h4, hg⟩
      · rw [if_neg ho]
        have hz : s.size + ((List.length out : Nat) : Int) = s.size := by omega
        by_cases hp4 : c.ph = 4
        · rw [if_pos hp4]
          refine (mChunk_end s b most body room ba bc fa ga la fc gc lc g w hb hl hm hr.ln hs.ok.ck hsz hb0 hr0 er c out n hF hol h0 hbs ho hp4).mono ?_
          rintro e w' ⟨a, cc, he, h1, h3, h5, hg⟩
          rw [hz] at h1
          have h2 := hr.grown hg hPg hm (noU8_22 rfl)
          exact .inl ⟨rfl, fa, fc, ga, gc, a, cc, none, 0, he, h1, ⟨h2.f1, h2.f2, h3, h2.n1, h2.n2⟩, (fun y e hx => hP _ (h5 y e hx)), .inl ⟨rfl, rfl, rfl⟩, hg⟩
        · rw [if_neg hp4]
          refine (mChunk_no s b most body room ba bc fa ga la fc gc lc g w hb hl hm hr.ln hs.ok.ck hsz hb0 hr0 er c out n hF hol h0 hbs ho hp4).mono ?_
          rintro e w' ⟨a, cc, he, h1, h3, h5, hg⟩
          rw [hz] at h1
          have h2 := hr.grown hg hPg hm (noU8_22 rfl)
          exact .inl ⟨rfl, fa, fc, ga, gc, a, cc, none, 0, he, h1, ⟨h2.f1, h2.f2, h3, h2.n1, h2.n2⟩, (fun y e hx => hP _ (h5 y e hx)), .inl ⟨rfl, rfl, rfl⟩, hg⟩
  · rw [if_pos h0]
    refine (mChunk_err s b most body room ba bc fa ga la fc gc lc g w hb hl hm hr.ln hs.ok.ck hsz hb0 hr0 er c out n hF hol h0).mono ?_
    rintro e w' ⟨he, hg⟩
    exact retM_err rfl h0 he hg
theorem mDone_any (P : Nat → Prop) (s : RS) (b : List UInt8) (most body room : Int) (ba : Option Addr) (bc : Nat) (fa ga la : Option Addr) (fc gc lc : Nat) (g : Nat) (w : World) (hm : MVr w g #[.bool s.rep, .string s.meth, .int .i64 s.ph, .string s.m, .string s.t, .int .i64 s.z, .slice fa (List.length s.xs) fc, .bool s.fr, .slice none 0 0, .int .i64 s.st, .string s.rs, .int .i64 s.z2, .slice ga (List.length s.ys) gc, .slice none 0 0, .int .i64 s.fk, .int .i64 s.fl, .int .i64 s.left, .int .i64 s.size, .int .i64 s.ck.ph, .int .i64 s.ck.left, .int .i64 s.ck.tr, .slice la (List.length s.ck.line) lc]) (hr : RMem P w s fa ga la lc) (hlf : ∀ y, la = some y → s.ck.line ≠ [] → P y.block) :
    Calls Tryz.prog 50 #[.pointer (some ⟨g, 0, none⟩), .slice ba b.length bc, .agg #[.int .i64 most, .int .i64 body, .int .i64 room]] w (RetM P w g ⟨0, s, 0, [], 0⟩) :=
  (mNothing_any g ba b.length bc most body room w).mono fun e w' ⟨he, hb⟩ => .inl ⟨rfl, fa, fc, ga, gc, la, lc, none, 0, he, hm.keep hb, hr.keep hb, hlf, .inl ⟨rfl, rfl, rfl⟩, grownBy_of hb _⟩
/-- The step that Next takes, and what it returns. -/
theorem mStep_any (P : Nat → Prop) (s : RS) (b : List UInt8) (most body room : Int) (ba : Option Addr) (bc : Nat) (fa ga la : Option Addr) (fc gc lc : Nat) (g : Nat) (mm : Int) (w : World) (hb : IsBytes w ba b bc) (hl : b.length ≤ 1000000) (hm : MVr w g #[.bool s.rep, .string s.meth, .int .i64 s.ph, .string s.m, .string s.t, .int .i64 s.z, .slice fa (List.length s.xs) fc, .bool s.fr, .slice none 0 0, .int .i64 s.st, .string s.rs, .int .i64 s.z2, .slice ga (List.length s.ys) gc, .slice none 0 0, .int .i64 s.fk, .int .i64 s.fl, .int .i64 s.left, .int .i64 s.size, .int .i64 s.ck.ph, .int .i64 s.ck.left, .int .i64 s.ck.tr, .slice la (List.length s.ck.line) lc]) (hr : RMem P w s fa ga la lc) (hlf : ∀ y, la = some y → s.ck.line ≠ [] → P y.block) (hok : HdOk w mm) (hP : ∀ k, w.heap.size ≤ k → P k) (hPg : ∀ k, P k → k ≠ g) (hs : OkN body s) (hb0 : 0 ≤ body ∧ body ≤ 1000000000) (r0 : Int) (hr0 : 0 ≤ r0 ∧ r0 ≤ 1000000000) (hrm : (if room ≤ 0 then 0 else room) = r0) :
    ∃ f, Calls Tryz.prog 31 #[.pointer (some ⟨g, 0, none⟩)] w (fun e w' => e = .returned (.func (.func f) #[] #[]) ∧ w = w') ∧ (Tryz.prog.funcs[f]?).map (fun fn => fn.name != "runtime.NumGoroutine" && fn.body.isSome) = some true ∧
      ∀ W, Below w.heap.size w W → Calls Tryz.prog f #[.pointer (some ⟨g, 0, none⟩), .slice ba b.length bc, .agg #[.int .i64 most, .int .i64 body, .int .i64 r0]] W (RetM P W g (nextX s b most body room)) := by
  have hPW : ∀ W, Below w.heap.size w W → ∀ k, W.heap.size ≤ k → P k := fun W hW k hk => hP k (Nat.le_trans hW.size hk)
  have hnx : nextX s b most body room = if s.ph = 0 then firstX s b most body else if s.ph = 1 then moreX s b body r0 else ⟨0, s, 0, [], 0⟩ := by
    unfold nextX; rw [hrm]
  rcases hs.ph with hp | hp | hp
  · refine ⟨_, mStep_head g _ w hm (by rw [← hp]; rfl), by kernel_rfl, fun W hW => ?_⟩
    rw [hnx, if_pos hp]
    exact mHead_any P s b most body r0 ba bc fa ga la fc gc lc g mm W (hb.keep hW) hl (hm.keep hW) (hr.keep hW) hlf (hok.keep hW) (hPW W hW) hPg hs
  · have hph : (#[.bool s.rep, .string s.meth, .int .i64 s.ph, .string s.m, .string s.t, .int .i64 s.z, .slice fa (List.length s.xs) fc, .bool s.fr, .slice none 0 0, .int .i64 s.st, .string s.rs, .int .i64 s.z2, .slice ga (List.length s.ys) gc, .slice none 0 0, .int .i64 s.fk, .int .i64 s.fl, .int .i64 s.left, .int .i64 s.size, .int .i64 s.ck.ph, .int .i64 s.ck.left, .int .i64 s.ck.tr, .slice la (List.length s.ck.line) lc] : Array Value)[2]? = some (.int .i64 1) := by rw [← hp]; rfl
    rw [hnx, if_neg (by omega), if_pos hp]
    by_cases h3 : s.fk = 3
    · refine ⟨_, mStep_body g _ s.fk _ w hm hph rfl (hs.k1 hp) (by rw [if_pos h3]), by kernel_rfl, fun W hW => ?_⟩
      exact mChunk_any P s b most body r0 ba bc fa ga la fc gc lc g W (hb.keep hW) hl (hm.keep hW) (hr.keep hW) hlf hPg (hPW W hW) hs hp hb0 hr0 h3
    · by_cases h4 : s.fk = 4
      · refine ⟨_, mStep_body g _ s.fk _ w hm hph rfl (hs.k1 hp) (by rw [if_neg h3, if_pos h4]), by kernel_rfl, fun W hW => ?_⟩
        exact mClose_any P s b most body r0 ba bc fa ga la fc gc lc g W (hb.keep hW) hl (hm.keep hW) (hr.keep hW) hlf hPg (hPW W hW) hs hp hb0 hr0 h4
      · refine ⟨_, mStep_body g _ s.fk _ w hm hph rfl (hs.k1 hp) (by rw [if_neg h3, if_neg h4]), by kernel_rfl, fun W hW => ?_⟩
        exact mLen_any P s b most body r0 ba bc fa ga la fc gc lc g W (hb.keep hW) hl (hm.keep hW) (hr.keep hW) hlf hPg (hPW W hW) hs hp hb0 hr0 (by have := hs.k1 hp; omega)
  · refine ⟨_, mStep_done g _ w hm (by rw [← hp]; rfl), by kernel_rfl, fun W hW => ?_⟩
    rw [hnx, if_neg (by omega), if_neg (by omega)]
    exact mDone_any P s b most body r0 ba bc fa ga la fc gc lc g W (hm.keep hW) (hr.keep hW) hlf
end Go.Proofs.YtejbkbccljoldaaGreatDoor
namespace Go.Proofs.YtejbkbccljoldaaGreatDoor
open Go.RowKit

set_option linter.unusedVariables false
set_option maxRecDepth 100000 in
set_option maxHeartbeats 4000000 in
theorem cloneY_nil (w : World) : Calls Tryz.prog 47 #[.slice none 0 0] w fun e w' => e = .returned (.slice none 0 0) ∧ w = w' := by
  have hnil : ∀ W, (binOp .eql 23 (.slice none 0 0) (.slice none 0 0)).run Tryz.prog W = .ok (.bool true) W := fun W => run_eql_slice_nil W _ _ none 0 0 Tryz.underlying23
  go_enter Tryz.func47, Tryz.ntmps47
  go_wp2_with fail
  go_ret
  exact ⟨rfl, rfl⟩
set_option maxRecDepth 100000 in
set_option maxHeartbeats 4000000 in
theorem copyOf_any (B : Nat → Prop) (s : RS) (fa ga la : Option Addr) (fc gc lc : Nat) (w : World) (hm : RMem B w s fa ga la lc) (hs : OkR s) :
    Calls Tryz.prog 30 #[.agg #[.bool s.rep, .string s.meth, .int .i64 s.ph, .string s.m, .string s.t, .int .i64 s.z, .slice fa (List.length s.xs) fc, .bool s.fr, .slice none 0 0, .int .i64 s.st, .string s.rs, .int .i64 s.z2, .slice ga (List.length s.ys) gc, .slice none 0 0, .int .i64 s.fk, .int .i64 s.fl, .int .i64 s.left, .int .i64 s.size, .int .i64 s.ck.ph, .int .i64 s.ck.left, .int .i64 s.ck.tr, .slice la (List.length s.ck.line) lc]] w fun e w' => ∃ f1 d1 f3 d3 f5 d5, e = .returned (.agg #[.bool s.rep, .string s.meth, .int .i64 s.ph, .string s.m, .string s.t, .int .i64 s.z, .slice f1 (List.length s.xs) d1, .bool s.fr, .slice none 0 0, .int .i64 s.st, .string s.rs, .int .i64 s.z2, .slice f3 (List.length s.ys) d3, .slice none 0 0, .int .i64 s.fk, .int .i64 s.fl, .int .i64 s.left, .int .i64 s.size, .int .i64 s.ck.ph, .int .i64 s.ck.left, .int .i64 s.ck.tr, .slice f5 (List.length s.ck.line) d5]) ∧ RMem (fun k => w.heap.size ≤ k) w' s f1 f3 f5 d5 ∧ (∀ y, f5 = some y → w.heap.size ≤ y.block) ∧ Below w.heap.size w w' := by
  obtain ⟨cs, hcs⟩ : ∃ cs : Array Value, cs = #[.bool s.rep, .string s.meth, .int .i64 s.ph, .string s.m, .string s.t, .int .i64 s.z, .slice fa (List.length s.xs) fc, .bool s.fr, .slice none 0 0, .int .i64 s.st, .string s.rs, .int .i64 s.z2, .slice ga (List.length s.ys) gc, .slice none 0 0, .int .i64 s.fk, .int .i64 s.fl, .int .i64 s.left, .int .i64 s.size, .int .i64 s.ck.ph, .int .i64 s.ck.left, .int .i64 s.ck.tr, .slice la (List.length s.ck.line) lc] := ⟨_, rfl⟩
  have HCS := Box.mk hcs
  have hcs1 : cs.all (·.oneCell') = true := by rw [hcs]; exact oneRd ..
  rw [← hcs]
  clear hcs
  obtain ⟨W0, hW0⟩ : ∃ W0, W0 = (w.alloc (.cells cs 37)).alloc (.cells #[.bool false, .string ⟨#[]⟩, .int .i64 0, .string ⟨#[]⟩, .string ⟨#[]⟩, .int .i64 0, .slice none 0 0, .bool false, .slice none 0 0, .int .i64 0, .string ⟨#[]⟩, .int .i64 0, .slice none 0 0, .slice none 0 0, .int .i64 0, .int .i64 0, .int .i64 0, .int .i64 0, .int .i64 0, .int .i64 0, .int .i64 0, .slice none 0 0] 37) := ⟨_, rfl⟩
  have HB0 := Box.mk (show Below w.heap.size w W0 by rw [hW0]; exact below_twoF (below_oneF _ _) _)
  have HV0 := Box.mk (show RVr W0 w.heap.size cs by rw [hW0]; exact RVr.keep (heap_alloc_new w (.cells cs 37)) (below_oneF _ _))
  have HR0 := Box.mk (show RVr W0 (w.heap.size + 1) #[.bool false, .string ⟨#[]⟩, .int .i64 0, .string ⟨#[]⟩, .string ⟨#[]⟩, .int .i64 0, .slice none 0 0, .bool false, .slice none 0 0, .int .i64 0, .string ⟨#[]⟩, .int .i64 0, .slice none 0 0, .slice none 0 0, .int .i64 0, .int .i64 0, .int .i64 0, .int .i64 0, .int .i64 0, .int .i64 0, .int .i64 0, .slice none 0 0] by
    have h := heap_alloc_new (w.alloc (.cells cs 37)) (.cells #[.bool false, .string ⟨#[]⟩, .int .i64 0, .string ⟨#[]⟩, .string ⟨#[]⟩, .int .i64 0, .slice none 0 0, .bool false, .slice none 0 0, .int .i64 0, .string ⟨#[]⟩, .int .i64 0, .slice none 0 0, .slice none 0 0, .int .i64 0, .int .i64 0, .int .i64 0, .int .i64 0, .int .i64 0, .int .i64 0, .int .i64 0, .slice none 0 0] 37)
    rw [World.size_alloc] at h
    rw [hW0]; exact h)
  have HW0 := Box.mk hW0
  have HM := Box.mk hm
  have hx64 := hs.xs.2
  have hy64 := hs.ys.2
  have hlw : w.heap.size + 1 < W0.heap.size := HR0.out.lt
  have hln : s.ck.line.length ≤ 129 := hs.ck.len
  clear hW0 hm hs
  go_enter Tryz.func30, Tryz.ntmps30
  go_upto_region 1 with fail
  rw [← HW0.out]
  clear HW0
  have hv1 : W0.cell? ⟨w.heap.size, 6, none⟩ = some (.slice fa (List.length s.xs) fc) := by rw [RVr.cell HV0.out, HCS.out]; rfl
  go_wp2_with fail
  refine (cloneF_any s.xs fa fc W0 (HM.out.f1.keep HB0.out) (by omega)).mono ?_
  rintro e w1c ⟨f1, d1, rfl, hf1, hn1, hb1⟩
  have hv1b : w1c.cell? ⟨w.heap.size, 6, none⟩ = some (.slice fa (List.length s.xs) fc) := by rw [RVr.cell (HV0.out.keep hb1), HCS.out]; rfl
  have hz1b : w1c.frozen? ⟨w.heap.size, 6, none⟩ = false := frozen_of_row w1c _ 6 _ _ (HV0.out.keep hb1)
  clear hv1
  go_upto_region 2 with (refine wpList_store_slice rfl _ _ _ rfl rfl rfl (by kernel_rfl) hv1b hz1b ?_)
  obtain ⟨c1, hc1⟩ : ∃ y0 : Array Value, y0 = #[.bool s.rep, .string s.meth, .int .i64 s.ph, .string s.m, .string s.t, .int .i64 s.z, .slice f1 (List.length s.xs) d1, .bool s.fr, .slice none 0 0, .int .i64 s.st, .string s.rs, .int .i64 s.z2, .slice ga (List.length s.ys) gc, .slice none 0 0, .int .i64 s.fk, .int .i64 s.fl, .int .i64 s.left, .int .i64 s.size, .int .i64 s.ck.ph, .int .i64 s.ck.left, .int .i64 s.ck.tr, .slice la (List.length s.ck.line) lc] := ⟨_, rfl⟩
  have Hc1 := Box.mk hc1
  clear hc1
  obtain ⟨W1, hW1⟩ : ∃ W1, W1 = w1c.setCell ⟨w.heap.size, 6, none⟩ (.slice f1 (List.length s.xs) d1) := ⟨_, rfl⟩
  have HV1 := Box.mk (show RVr W1 w.heap.size c1 by rw [hW1]; have h := RVr.put (i := 6) (v := .slice f1 (List.length s.xs) d1) (HV0.out.keep hb1); rw [show cs.setIfInBounds 6 (.slice f1 (List.length s.xs) d1) = c1 by rw [HCS.out, Hc1.out]; rfl] at h; exact h)
  have hoth1 : ∀ k, k ≠ w.heap.size → W1.heap[k]? = w1c.heap[k]? := fun k hk => by rw [hW1]; exact heap_setCell_other _ _ _ _ (by show k ≠ w.heap.size; exact hk)
  have HR1 := Box.mk (show RVr W1 (w.heap.size + 1) #[.bool false, .string ⟨#[]⟩, .int .i64 0, .string ⟨#[]⟩, .string ⟨#[]⟩, .int .i64 0, .slice none 0 0, .bool false, .slice none 0 0, .int .i64 0, .string ⟨#[]⟩, .int .i64 0, .slice none 0 0, .slice none 0 0, .int .i64 0, .int .i64 0, .int .i64 0, .int .i64 0, .int .i64 0, .int .i64 0, .int .i64 0, .slice none 0 0] from (hoth1 _ (by omega)).trans (HR0.out.keep hb1))
  have HB1 := Box.mk (show Below w.heap.size w W1 by rw [hW1]; exact (below_trans HB0.out hb1).setCell (p := ⟨w.heap.size, 6, none⟩) (Nat.le_refl _) _)
  have hlw1 : w.heap.size + 1 < W1.heap.size := HR1.out.lt
  have HF1_1 := Box.mk (show FldsIn W1 f1 s.xs ∧ ∀ y, f1 = some y → w.heap.size + 1 < y.block from ⟨hf1.same fun y e => hoth1 _ (by have := hn1 y e; omega), fun y e => by have := hn1 y e; omega⟩)
  rw [← hW1]
  clear hW1 hv1b hz1b hoth1 HV0 HR0 HB0 hb1 hf1 hn1
  have hv2 : W1.cell? ⟨w.heap.size, 8, none⟩ = some (.slice none 0 0) := by rw [RVr.cell HV1.out, Hc1.out]; rfl
  go_wp2_with fail
  refine (cloneY_nil W1).mono ?_
  rintro e w2c ⟨rfl, hww2⟩
  have hb2 : Below W1.heap.size W1 w2c := by rw [← hww2]; exact Below.refl _ _
  clear hww2
  have hv2b : w2c.cell? ⟨w.heap.size, 8, none⟩ = some (.slice none 0 0) := by rw [RVr.cell (HV1.out.keep hb2), Hc1.out]; rfl
  have hz2b : w2c.frozen? ⟨w.heap.size, 8, none⟩ = false := frozen_of_row w2c _ 8 _ _ (HV1.out.keep hb2)
  clear hv2
  go_upto_region 3 with (refine wpList_store_slice rfl _ _ _ rfl rfl rfl (by kernel_rfl) hv2b hz2b ?_)
  obtain ⟨c2, hc2⟩ : ∃ y0 : Array Value, y0 = #[.bool s.rep, .string s.meth, .int .i64 s.ph, .string s.m, .string s.t, .int .i64 s.z, .slice f1 (List.length s.xs) d1, .bool s.fr, .slice none 0 0, .int .i64 s.st, .string s.rs, .int .i64 s.z2, .slice ga (List.length s.ys) gc, .slice none 0 0, .int .i64 s.fk, .int .i64 s.fl, .int .i64 s.left, .int .i64 s.size, .int .i64 s.ck.ph, .int .i64 s.ck.left, .int .i64 s.ck.tr, .slice la (List.length s.ck.line) lc] := ⟨_, rfl⟩
  have Hc2 := Box.mk hc2
  clear hc2
  obtain ⟨W2, hW2⟩ : ∃ W2, W2 = w2c.setCell ⟨w.heap.size, 8, none⟩ (.slice none 0 0) := ⟨_, rfl⟩
  have HV2 := Box.mk (show RVr W2 w.heap.size c2 by rw [hW2]; have h := RVr.put (i := 8) (v := .slice none 0 0) (HV1.out.keep hb2); rw [show c1.setIfInBounds 8 (.slice none 0 0) = c2 by rw [Hc1.out, Hc2.out]; rfl] at h; exact h)
  have hoth2 : ∀ k, k ≠ w.heap.size → W2.heap[k]? = w2c.heap[k]? := fun k hk => by rw [hW2]; exact heap_setCell_other _ _ _ _ (by show k ≠ w.heap.size; exact hk)
  have HR2 := Box.mk (show RVr W2 (w.heap.size + 1) #[.bool false, .string ⟨#[]⟩, .int .i64 0, .string ⟨#[]⟩, .string ⟨#[]⟩, .int .i64 0, .slice none 0 0, .bool false, .slice none 0 0, .int .i64 0, .string ⟨#[]⟩, .int .i64 0, .slice none 0 0, .slice none 0 0, .int .i64 0, .int .i64 0, .int .i64 0, .int .i64 0, .int .i64 0, .int .i64 0, .int .i64 0, .slice none 0 0] from (hoth2 _ (by omega)).trans (HR1.out.keep hb2))
  have HB2 := Box.mk (show Below w.heap.size w W2 by rw [hW2]; exact (below_trans HB1.out hb2).setCell (p := ⟨w.heap.size, 8, none⟩) (Nat.le_refl _) _)
  have hlw2 : w.heap.size + 1 < W2.heap.size := HR2.out.lt
  have HF1_2 := Box.mk (show FldsIn W2 f1 s.xs ∧ ∀ y, f1 = some y → w.heap.size + 1 < y.block from ⟨(HF1_1.out.1.keep hb2).same fun y e => hoth2 _ (by have := HF1_1.out.2 y e; omega), HF1_1.out.2⟩)
  rw [← hW2]
  clear hW2 hv2b hz2b hoth2 HV1 HR1 HB1 hb2 HF1_1 Hc1
  have hv3 : W2.cell? ⟨w.heap.size, 12, none⟩ = some (.slice ga (List.length s.ys) gc) := by rw [RVr.cell HV2.out, Hc2.out]; rfl
  go_wp2_with fail
  refine (cloneF_any s.ys ga gc W2 (HM.out.f2.keep HB2.out) (by omega)).mono ?_
  rintro e w3c ⟨f3, d3, rfl, hf3, hn3, hb3⟩
  have hv3b : w3c.cell? ⟨w.heap.size, 12, none⟩ = some (.slice ga (List.length s.ys) gc) := by rw [RVr.cell (HV2.out.keep hb3), Hc2.out]; rfl
  have hz3b : w3c.frozen? ⟨w.heap.size, 12, none⟩ = false := frozen_of_row w3c _ 12 _ _ (HV2.out.keep hb3)
  clear hv3
  go_upto_region 4 with (refine wpList_store_slice rfl _ _ _ rfl rfl rfl (by kernel_rfl) hv3b hz3b ?_)
  obtain ⟨c3, hc3⟩ : ∃ y0 : Array Value, y0 = #[.bool s.rep, .string s.meth, .int .i64 s.ph, .string s.m, .string s.t, .int .i64 s.z, .slice f1 (List.length s.xs) d1, .bool s.fr, .slice none 0 0, .int .i64 s.st, .string s.rs, .int .i64 s.z2, .slice f3 (List.length s.ys) d3, .slice none 0 0, .int .i64 s.fk, .int .i64 s.fl, .int .i64 s.left, .int .i64 s.size, .int .i64 s.ck.ph, .int .i64 s.ck.left, .int .i64 s.ck.tr, .slice la (List.length s.ck.line) lc] := ⟨_, rfl⟩
  have Hc3 := Box.mk hc3
  clear hc3
  obtain ⟨W3, hW3⟩ : ∃ W3, W3 = w3c.setCell ⟨w.heap.size, 12, none⟩ (.slice f3 (List.length s.ys) d3) := ⟨_, rfl⟩
  have HV3 := Box.mk (show RVr W3 w.heap.size c3 by rw [hW3]; have h := RVr.put (i := 12) (v := .slice f3 (List.length s.ys) d3) (HV2.out.keep hb3); rw [show c2.setIfInBounds 12 (.slice f3 (List.length s.ys) d3) = c3 by rw [Hc2.out, Hc3.out]; rfl] at h; exact h)
  have hoth3 : ∀ k, k ≠ w.heap.size → W3.heap[k]? = w3c.heap[k]? := fun k hk => by rw [hW3]; exact heap_setCell_other _ _ _ _ (by show k ≠ w.heap.size; exact hk)
  have HR3 := Box.mk (show RVr W3 (w.heap.size + 1) #[.bool false, .string ⟨#[]⟩, .int .i64 0, .string ⟨#[]⟩, .string ⟨#[]⟩, .int .i64 0, .slice none 0 0, .bool false, .slice none 0 0, .int .i64 0, .string ⟨#[]⟩, .int .i64 0, .slice none 0 0, .slice none 0 0, .int .i64 0, .int .i64 0, .int .i64 0, .int .i64 0, .int .i64 0, .int .i64 0, .int .i64 0, .slice none 0 0] from (hoth3 _ (by omega)).trans (HR2.out.keep hb3))
  have HB3 := Box.mk (show Below w.heap.size w W3 by rw [hW3]; exact (below_trans HB2.out hb3).setCell (p := ⟨w.heap.size, 12, none⟩) (Nat.le_refl _) _)
  have hlw3 : w.heap.size + 1 < W3.heap.size := HR3.out.lt
  have HF1_3 := Box.mk (show FldsIn W3 f1 s.xs ∧ ∀ y, f1 = some y → w.heap.size + 1 < y.block from ⟨(HF1_2.out.1.keep hb3).same fun y e => hoth3 _ (by have := HF1_2.out.2 y e; omega), HF1_2.out.2⟩)
  have HF3_3 := Box.mk (show FldsIn W3 f3 s.ys ∧ ∀ y, f3 = some y → w.heap.size + 1 < y.block from ⟨hf3.same fun y e => hoth3 _ (by have := hn3 y e; omega), fun y e => by have := hn3 y e; omega⟩)
  rw [← hW3]
  clear hW3 hv3b hz3b hoth3 HV2 HR2 HB2 hb3 hf3 hn3 HF1_2 Hc2
  have hv4 : W3.cell? ⟨w.heap.size, 13, none⟩ = some (.slice none 0 0) := by rw [RVr.cell HV3.out, Hc3.out]; rfl
  go_wp2_with fail
  refine (cloneY_nil W3).mono ?_
  rintro e w4c ⟨rfl, hww4⟩
  have hb4 : Below W3.heap.size W3 w4c := by rw [← hww4]; exact Below.refl _ _
  clear hww4
  have hv4b : w4c.cell? ⟨w.heap.size, 13, none⟩ = some (.slice none 0 0) := by rw [RVr.cell (HV3.out.keep hb4), Hc3.out]; rfl
  have hz4b : w4c.frozen? ⟨w.heap.size, 13, none⟩ = false := frozen_of_row w4c _ 13 _ _ (HV3.out.keep hb4)
  clear hv4
  go_upto_region 5 with (refine wpList_store_slice rfl _ _ _ rfl rfl rfl (by kernel_rfl) hv4b hz4b ?_)
  obtain ⟨c4, hc4⟩ : ∃ y0 : Array Value, y0 = #[.bool s.rep, .string s.meth, .int .i64 s.ph, .string s.m, .string s.t, .int .i64 s.z, .slice f1 (List.length s.xs) d1, .bool s.fr, .slice none 0 0, .int .i64 s.st, .string s.rs, .int .i64 s.z2, .slice f3 (List.length s.ys) d3, .slice none 0 0, .int .i64 s.fk, .int .i64 s.fl, .int .i64 s.left, .int .i64 s.size, .int .i64 s.ck.ph, .int .i64 s.ck.left, .int .i64 s.ck.tr, .slice la (List.length s.ck.line) lc] := ⟨_, rfl⟩
  have Hc4 := Box.mk hc4
  clear hc4
  obtain ⟨W4, hW4⟩ : ∃ W4, W4 = w4c.setCell ⟨w.heap.size, 13, none⟩ (.slice none 0 0) := ⟨_, rfl⟩
  have HV4 := Box.mk (show RVr W4 w.heap.size c4 by rw [hW4]; have h := RVr.put (i := 13) (v := .slice none 0 0) (HV3.out.keep hb4); rw [show c3.setIfInBounds 13 (.slice none 0 0) = c4 by rw [Hc3.out, Hc4.out]; rfl] at h; exact h)
  have hoth4 : ∀ k, k ≠ w.heap.size → W4.heap[k]? = w4c.heap[k]? := fun k hk => by rw [hW4]; exact heap_setCell_other _ _ _ _ (by show k ≠ w.heap.size; exact hk)
  have HR4 := Box.mk (show RVr W4 (w.heap.size + 1) #[.bool false, .string ⟨#[]⟩, .int .i64 0, .string ⟨#[]⟩, .string ⟨#[]⟩, .int .i64 0, .slice none 0 0, .bool false, .slice none 0 0, .int .i64 0, .string ⟨#[]⟩, .int .i64 0, .slice none 0 0, .slice none 0 0, .int .i64 0, .int .i64 0, .int .i64 0, .int .i64 0, .int .i64 0, .int .i64 0, .int .i64 0, .slice none 0 0] from (hoth4 _ (by omega)).trans (HR3.out.keep hb4))
  have HB4 := Box.mk (show Below w.heap.size w W4 by rw [hW4]; exact (below_trans HB3.out hb4).setCell (p := ⟨w.heap.size, 13, none⟩) (Nat.le_refl _) _)
  have hlw4 : w.heap.size + 1 < W4.heap.size := HR4.out.lt
  have HF1_4 := Box.mk (show FldsIn W4 f1 s.xs ∧ ∀ y, f1 = some y → w.heap.size + 1 < y.block from ⟨(HF1_3.out.1.keep hb4).same fun y e => hoth4 _ (by have := HF1_3.out.2 y e; omega), HF1_3.out.2⟩)
  have HF3_4 := Box.mk (show FldsIn W4 f3 s.ys ∧ ∀ y, f3 = some y → w.heap.size + 1 < y.block from ⟨(HF3_3.out.1.keep hb4).same fun y e => hoth4 _ (by have := HF3_3.out.2 y e; omega), HF3_3.out.2⟩)
  rw [← hW4]
  clear hW4 hv4b hz4b hoth4 HV3 HR3 HB3 hb4 HF1_3 HF3_3 Hc3
  have hv5 : W4.cell? ⟨w.heap.size, 21, none⟩ = some (.slice la (List.length s.ck.line) lc) := by rw [RVr.cell HV4.out, Hc4.out]; rfl
  go_wp2_with fail
  refine (cloneY_any s.ck.line la lc W4 (HM.out.ln.keep HB4.out) (by omega)).mono ?_
  rintro e w5c ⟨f5, d5, rfl, hf5, hn5, hb5⟩
  have HNL := Box.mk (show ∀ y, f5 = some y → w.heap.size ≤ y.block from fun y e => by have := hn5 y e; omega)
  clear hn5
  have hv5b : w5c.cell? ⟨w.heap.size, 21, none⟩ = some (.slice la (List.length s.ck.line) lc) := by rw [RVr.cell (HV4.out.keep hb5), Hc4.out]; rfl
  have hz5b : w5c.frozen? ⟨w.heap.size, 21, none⟩ = false := frozen_of_row w5c _ 21 _ _ (HV4.out.keep hb5)
  clear hv5
  go_upto_region 6 with (refine wpList_store_slice rfl _ _ _ rfl rfl rfl (by kernel_rfl) hv5b hz5b ?_)
  obtain ⟨c5, hc5⟩ : ∃ y0 : Array Value, y0 = #[.bool s.rep, .string s.meth, .int .i64 s.ph, .string s.m, .string s.t, .int .i64 s.z, .slice f1 (List.length s.xs) d1, .bool s.fr, .slice none 0 0, .int .i64 s.st, .string s.rs, .int .i64 s.z2, .slice f3 (List.length s.ys) d3, .slice none 0 0, .int .i64 s.fk, .int .i64 s.fl, .int .i64 s.left, .int .i64 s.size, .int .i64 s.ck.ph, .int .i64 s.ck.left, .int .i64 s.ck.tr, .slice f5 (List.length s.ck.line) d5] := ⟨_, rfl⟩
  have Hc5 := Box.mk hc5
  clear hc5
  obtain ⟨W5, hW5⟩ : ∃ W5, W5 = w5c.setCell ⟨w.heap.size, 21, none⟩ (.slice f5 (List.length s.ck.line) d5) := ⟨_, rfl⟩
  have HV5 := Box.mk (show RVr W5 w.heap.size c5 by rw [hW5]; have h := RVr.put (i := 21) (v := .slice f5 (List.length s.ck.line) d5) (HV4.out.keep hb5); rw [show c4.setIfInBounds 21 (.slice f5 (List.length s.ck.line) d5) = c5 by rw [Hc4.out, Hc5.out]; rfl] at h; exact h)
  have hoth5 : ∀ k, k ≠ w.heap.size → W5.heap[k]? = w5c.heap[k]? := fun k hk => by rw [hW5]; exact heap_setCell_other _ _ _ _ (by show k ≠ w.heap.size; exact hk)
  have HR5 := Box.mk (show RVr W5 (w.heap.size + 1) #[.bool false, .string ⟨#[]⟩, .int .i64 0, .string ⟨#[]⟩, .string ⟨#[]⟩, .int .i64 0, .slice none 0 0, .bool false, .slice none 0 0, .int .i64 0, .string ⟨#[]⟩, .int .i64 0, .slice none 0 0, .slice none 0 0, .int .i64 0, .int .i64 0, .int .i64 0, .int .i64 0, .int .i64 0, .int .i64 0, .int .i64 0, .slice none 0 0] from (hoth5 _ (by omega)).trans (HR4.out.keep hb5))
  have HB5 := Box.mk (show Below w.heap.size w W5 by rw [hW5]; exact (below_trans HB4.out hb5).setCell (p := ⟨w.heap.size, 21, none⟩) (Nat.le_refl _) _)
  have hlw5 : w.heap.size + 1 < W5.heap.size := HR5.out.lt
  have HF1_5 := Box.mk (show FldsIn W5 f1 s.xs ∧ ∀ y, f1 = some y → w.heap.size + 1 < y.block from ⟨(HF1_4.out.1.keep hb5).same fun y e => hoth5 _ (by have := HF1_4.out.2 y e; omega), HF1_4.out.2⟩)
  have HF3_5 := Box.mk (show FldsIn W5 f3 s.ys ∧ ∀ y, f3 = some y → w.heap.size + 1 < y.block from ⟨(HF3_4.out.1.keep hb5).same fun y e => hoth5 _ (by have := HF3_4.out.2 y e; omega), HF3_4.out.2⟩)
  have HF5_5 := Box.mk (show IsBytes W5 f5 s.ck.line d5 from hf5.same fun y e hl => hoth5 _ (row_awayR (HV4.out.keep hb5) (by rw [Hc4.out]; exact noU8_22 rfl) hf5 y e hl))
  rw [← hW5]
  clear hW5 hv5b hz5b hoth5 HV4 HR4 HB4 hb5 hf5 HF1_4 HF3_4 Hc4
  have hcs22 : c5.size = 22 := by rw [Hc5.out]; rfl
  have hc51 : c5.all (·.oneCell') = true := by rw [Hc5.out]; exact oneRd ..
  have HSZ := Box.mk (show (Tryz.prog.info? 37).map (·.size) = some c5.size by rw [hcs22]; exact sizeRd)
  go_wp2_with (first | refine wpList_load_row rfl 37 _ rfl w.heap.size rfl 37 c5 (0, 0) _ HV5.out Tryz.underlying37 rfl HSZ.out ?_ | refine wpList_store_row rfl 37 _ _ rfl (w.heap.size + 1) c5 rfl rfl 37 _ HR5.out HSZ.out (by rw [hcs22]; rfl) hc51 ?_)
  (try simp only [Exit.inBlock, Exit.then])
  refine bodyPost_ret (results_r rfl _ _ (w.heap.size + 1) 37 c5 (0, 0) _ rfl (setRow_heap _ _ _ _ _ _ HR5.out) Tryz.underlying37 rfl HSZ.out) rfl ?_
  have hsame : ∀ k, k ≠ w.heap.size + 1 → (W5.setRow (w.heap.size + 1) c5).heap[k]? = W5.heap[k]? := fun k hk => setRow_other _ _ _ _ hk
  exact ⟨f1, d1, f3, d3, f5, d5, by rw [Hc5.out], ⟨HF1_5.out.1.same fun y e => hsame _ (by have := HF1_5.out.2 y e; omega), HF3_5.out.1.same fun y e => hsame _ (by have := HF3_5.out.2 y e; omega), HF5_5.out.same fun y e hl => hsame _ (row_awayR HR5.out (noU8_22 rfl) HF5_5.out y e hl), fun y e _ => by have := HF1_5.out.2 y e; omega, fun y e _ => by have := HF3_5.out.2 y e; omega⟩, HNL.out, below_setRow HB5.out (by omega) _⟩
end Go.Proofs.YtejbkbccljoldaaGreatDoor
namespace Go.Proofs.YtejbkbccljoldaaGreatDoor
open Go.RowKit

set_option linter.unusedVariables false
/-- What the project's Next returns, in memory: the line is its own. -/
def RetXF (B : Nat → Prop) (w : World) (x : NX) (e : Ending) (w' : World) : Prop :=
  ∃ fa fc ga gc la lc pa pc, e = .returned (.tuple #[.agg #[.bool x.r.rep, .string x.r.meth, .int .i64 x.r.ph, .string x.r.m, .string x.r.t, .int .i64 x.r.z, .slice fa (List.length x.r.xs) fc, .bool x.r.fr, .slice none 0 0, .int .i64 x.r.st, .string x.r.rs, .int .i64 x.r.z2, .slice ga (List.length x.r.ys) gc, .slice none 0 0, .int .i64 x.r.fk, .int .i64 x.r.fl, .int .i64 x.r.left, .int .i64 x.r.size, .int .i64 x.r.ck.ph, .int .i64 x.r.ck.left, .int .i64 x.r.ck.tr, .slice la (List.length x.r.ck.line) lc], .agg #[.int .i64 x.kind, .slice pa (List.length x.data) pc], .int .i64 x.n, .int .i64 x.er]) ∧ RMem B w' x.r fa ga la lc ∧ (∀ y, la = some y → x.r.ck.line ≠ [] → w.heap.size ≤ y.block) ∧ IsBytes w' pa x.data pc ∧ Below w.heap.size w w'
section
variable {ops : Array Oper} {rest : List Oper} {o : Oper} {act : Act} {Q : Exit → Act → World → Prop}
theorem wpList_callV {P : Program} {w : World} (hgd : o.guard = none) {y : Operand} {f : FuncId} {args : List Operand} {ts : Array TypeId} (ho : o.op = .call { callee := .value y, args := args.toArray, argTypes := ts }) (hy : act.eval y = .func (.func f) #[] #[])
    (hf : (P.funcs[f]?).map (fun fn => fn.name != "runtime.NumGoroutine" && fn.body.isSome) = some true) {R : Ending → World → Prop} (h : Calls P f (args.map act.eval).toArray w R) (hK : ∀ e w', R e w' → ∃ v, e = .returned v ∧ wpList P ops Q rest (act.put o.dst v) w') : wpList P ops Q (o :: rest) act w :=
  wpList_plain hgd fun K2 hK2 => wp_callV ho hy hf h fun e w' hr => by
    obtain ⟨v, he, hk⟩ := hK e w' hr
    exact ⟨v, he, hK2 _ _ hk⟩
end
theorem run_loadMs (w : World) (g : Nat) (cs : Array Value) (h : MVr w g cs) (hs : cs.size = 22) : (Instr.loadAt 72 (.pointer (some ⟨g, 0, none⟩))).run Tryz.prog w = .ok (.agg cs) w := by
  unfold MVr at h
  simp [Instr.loadAt, Instr.sureAddr, run_loadVar_row w g _ 72 _ _ _ h Tryz.underlying72 rfl (by rw [hs]; exact sizeMs)]
theorem run_loadPt (w : World) (g : Nat) (cs : Array Value) (h : PVr w g cs) (hs : cs.size = 2) : (Instr.loadAt 41 (.pointer (some ⟨g, 0, none⟩))).run Tryz.prog w = .ok (.agg cs) w := by
  unfold PVr at h
  simp [Instr.loadAt, Instr.sureAddr, run_loadVar_row w g _ 41 _ _ _ h Tryz.underlying41 rfl (by rw [hs]; exact sizePt)]
/-- Ahead of the return: the message, the part, the results, what they hold. -/
structure NxJ (w : World) (g gp lim : Nat) (x : NX) (f4 g4 l4 : Option Addr) (e4 : Nat) (pa : Option Addr) (pc : Nat) (cr pr r2 r3 : Array Value) (W : World) : Prop where
  m : MVr W g cr
  p : PVr W gp pr
  r2 : RVr W (w.heap.size + 1) r2
  r3 : PVr W (w.heap.size + 2) r3
  bl : Below w.heap.size w W
  rm : RMem (fun k => lim ≤ k ∧ k ≠ g) W x.r f4 g4 l4 e4
  dt : IsBytes W pa x.data pc
theorem NxJ.keep {w : World} {g gp lim : Nat} {x : NX} {f4 g4 l4 : Option Addr} {e4 : Nat} {pa : Option Addr} {pc : Nat} {cr pr r2 r3 : Array Value} {W W' : World} (h : NxJ w g gp lim x f4 g4 l4 e4 pa pc cr pr r2 r3 W) (hb : Below W.heap.size W W') : NxJ w g gp lim x f4 g4 l4 e4 pa pc cr pr r2 r3 W' := ⟨h.m.keep hb, h.p.keep hb, h.r2.keep hb, h.r3.keep hb, below_trans h.bl hb, h.rm.keep hb, h.dt.keep hb⟩
theorem rmem_row {W : World} {lim g q : Nat} {s : RS} {f4 g4 l4 : Option Addr} {e4 : Nat} {cs ds : Array Value} {T : TypeId} {fz : Nat × Nat} (h : RMem (fun k => lim ≤ k ∧ k ≠ g) W s f4 g4 l4 e4) (hq : q < lim) (hr : W.heap[q]? = some (.cells cs T fz)) (hn : NoU8 cs) : RMem (fun k => lim ≤ k ∧ k ≠ g) (W.setRow q ds) s f4 g4 l4 e4 :=
  ⟨sameNe h.f1 fun y e hx => setRow_other _ _ _ _ (by have := (h.n1 y e hx).1; omega), sameNe h.f2 fun y e hx => setRow_other _ _ _ _ (by have := (h.n2 y e hx).1; omega), isBytes_rowR hr hn h.ln, h.n1, h.n2⟩
theorem nextX_err {s : RS} {b : List UInt8} {most body room : Int} (h : ¬ (nextX s b most body room).er = 0) : ∃ er, nextX s b most body room = errX er ∧ ¬ er = 0 := by
  have hf : ∀ (x : RS) (f : Int × Int × Int) (n : Nat), ¬ (finX x f n body).er = 0 → ∃ er, finX x f n body = errX er ∧ ¬ er = 0 := fun x f n h => by
    unfold finX at h ⊢
    split at h
    · rename_i h1; rw [if_pos h1]; exact ⟨_, rfl, h⟩
    · rename_i h1; rw [if_neg h1]
      split at h
      · rename_i h2; rw [if_pos h2]; exact ⟨_, rfl, h⟩
      · exact absurd rfl h
  unfold nextX at h ⊢
  split at h
  · rename_i hp
    rw [if_pos hp]
    unfold firstX at h ⊢
    split at h
    · exact absurd rfl h
    · rename_i h1
      rw [if_neg h1]
      split at h
      · rename_i h2; rw [if_pos h2]; exact ⟨_, rfl, h⟩
      · rename_i h2
        rw [if_neg h2]
        unfold headX at h ⊢
        split at h
        · rename_i h3
          rw [if_pos h3]
          split at h
          · rename_i h4; rw [if_pos h4]; exact ⟨_, rfl, h⟩
          · rename_i h4
            rw [if_neg h4]
            split at h
            · rename_i h5; rw [if_pos h5]; exact ⟨_, rfl, h⟩
            · rename_i h5
              rw [if_neg h5]
              split at h
              · exact absurd rfl h
              · rename_i h6; rw [if_neg h6]; exact hf _ _ _ h
        · rename_i h3
          rw [if_neg h3]
          split at h
          · rename_i h4; rw [if_pos h4]; exact ⟨_, rfl, h⟩
          · rename_i h4; rw [if_neg h4]; exact hf _ _ _ h
  · rename_i hp
    rw [if_neg hp]
    split at h
    · rename_i hp1
      rw [if_pos hp1]
      generalize (if room ≤ 0 then (0 : Int) else room) = r0 at *
      unfold moreX at h ⊢
      split at h
      · exfalso
        split at h
        · exact h rfl
        · split at h <;> exact h rfl
      · rename_i h1
        rw [if_neg h1]
        split at h
        · rename_i h2
          rw [if_pos h2]
          split at h
          · rename_i h3; rw [if_pos h3]; exact ⟨_, rfl, h⟩
          · rename_i h3
            rw [if_neg h3]
            split at h
            · rename_i h4; rw [if_pos h4]; exact ⟨_, rfl, h⟩
            · exfalso
              split at h
              · exact h rfl
              · split at h <;> exact h rfl
        · rename_i h2
          rw [if_neg h2]
          split at h
          · exact absurd rfl h
          · rename_i h3
            rw [if_neg h3]
            split at h
            · rename_i h4; rw [if_pos h4]; exact ⟨_, rfl, h⟩
            · exact absurd rfl h
    · exact absurd rfl h
set_option maxRecDepth 100000 in
set_option maxHeartbeats 1000000 in
theorem projNextF_any (B : Nat → Prop) (s : RS) (b : List UInt8) (most body room : Int) (ba : Option Addr) (bc : Nat) (fa ga la : Option Addr) (fc gc lc : Nat) (w : World) (mm : Int) (hb : IsBytes w ba b bc) (hl : b.length ≤ 1000000) (hm : RMem B w s fa ga la lc) (hok : HdOk w mm) (hs : OkN body s) (hb0 : 0 ≤ body ∧ body ≤ 1000000000) (hr0 : -1000000000 ≤ room ∧ room ≤ 1000000000) (hB : ∀ g, w.heap.size ≤ g → B g) :
    Calls Tryz.prog 12 #[.agg #[.bool s.rep, .string s.meth, .int .i64 s.ph, .string s.m, .string s.t, .int .i64 s.z, .slice fa (List.length s.xs) fc, .bool s.fr, .slice none 0 0, .int .i64 s.st, .string s.rs, .int .i64 s.z2, .slice ga (List.length s.ys) gc, .slice none 0 0, .int .i64 s.fk, .int .i64 s.fl, .int .i64 s.left, .int .i64 s.size, .int .i64 s.ck.ph, .int .i64 s.ck.left, .int .i64 s.ck.tr, .slice la (List.length s.ck.line) lc], .slice ba b.length bc, .int .i64 most, .int .i64 body, .int .i64 room] w (RetXF B w (nextX s b most body room)) := by
  obtain ⟨cs, hcs⟩ : ∃ cs : Array Value, cs = #[.bool s.rep, .string s.meth, .int .i64 s.ph, .string s.m, .string s.t, .int .i64 s.z, .slice fa (List.length s.xs) fc, .bool s.fr, .slice none 0 0, .int .i64 s.st, .string s.rs, .int .i64 s.z2, .slice ga (List.length s.ys) gc, .slice none 0 0, .int .i64 s.fk, .int .i64 s.fl, .int .i64 s.left, .int .i64 s.size, .int .i64 s.ck.ph, .int .i64 s.ck.left, .int .i64 s.ck.tr, .slice la (List.length s.ck.line) lc] := ⟨_, rfl⟩
  have HCS := Box.mk hcs
  have hcs22 : cs.size = 22 := by rw [hcs]; rfl
  have HSZ := Box.mk (show (Tryz.prog.info? 37).map (·.size) = some cs.size by rw [hcs22]; exact sizeRd)
  have hcs1 : cs.all (·.oneCell') = true := by rw [hcs]; exact oneRd ..
  rw [← hcs]
  clear hcs
  obtain ⟨W3, hW3⟩ : ∃ W3, W3 = ((w.alloc (.cells cs 37)).alloc (.cells #[.bool false, .string ⟨#[]⟩, .int .i64 0, .string ⟨#[]⟩, .string ⟨#[]⟩, .int .i64 0, .slice none 0 0, .bool false, .slice none 0 0, .int .i64 0, .string ⟨#[]⟩, .int .i64 0, .slice none 0 0, .slice none 0 0, .int .i64 0, .int .i64 0, .int .i64 0, .int .i64 0, .int .i64 0, .int .i64 0, .int .i64 0, .slice none 0 0] 37)).alloc (.cells #[.int .i64 0, .slice none 0 0] 41) := ⟨_, rfl⟩
  have hb1 := below_oneF w (.cells cs 37)
  have hb2 := below_twoF hb1 (.cells #[.bool false, .string ⟨#[]⟩, .int .i64 0, .string ⟨#[]⟩, .string ⟨#[]⟩, .int .i64 0, .slice none 0 0, .bool false, .slice none 0 0, .int .i64 0, .string ⟨#[]⟩, .int .i64 0, .slice none 0 0, .slice none 0 0, .int .i64 0, .int .i64 0, .int .i64 0, .int .i64 0, .int .i64 0, .int .i64 0, .int .i64 0, .slice none 0 0] 37)
  have hb3 := below_trans hb2 (below_oneF _ (.cells #[.int .i64 0, .slice none 0 0] 41))
  have HBW := Box.mk (show Below w.heap.size w W3 by rw [hW3]; exact hb3)
  have HV1 := Box.mk (show RVr W3 w.heap.size cs by rw [hW3]; exact RVr.keep (RVr.keep (heap_alloc_new w (.cells cs 37)) (below_oneF _ _)) (below_oneF _ _))
  have HV2 := Box.mk (show RVr W3 (w.heap.size + 1) #[.bool false, .string ⟨#[]⟩, .int .i64 0, .string ⟨#[]⟩, .string ⟨#[]⟩, .int .i64 0, .slice none 0 0, .bool false, .slice none 0 0, .int .i64 0, .string ⟨#[]⟩, .int .i64 0, .slice none 0 0, .slice none 0 0, .int .i64 0, .int .i64 0, .int .i64 0, .int .i64 0, .int .i64 0, .int .i64 0, .int .i64 0, .slice none 0 0] by
    have h := heap_alloc_new (w.alloc (.cells cs 37)) (.cells #[.bool false, .string ⟨#[]⟩, .int .i64 0, .string ⟨#[]⟩, .string ⟨#[]⟩, .int .i64 0, .slice none 0 0, .bool false, .slice none 0 0, .int .i64 0, .string ⟨#[]⟩, .int .i64 0, .slice none 0 0, .slice none 0 0, .int .i64 0, .int .i64 0, .int .i64 0, .int .i64 0, .int .i64 0, .int .i64 0, .int .i64 0, .slice none 0 0] 37)
    rw [World.size_alloc] at h
    rw [hW3]; exact RVr.keep h (below_oneF _ _))
  have HV3 := Box.mk (show PVr W3 (w.heap.size + 2) #[.int .i64 0, .slice none 0 0] by
    have h := heap_alloc_new ((w.alloc (.cells cs 37)).alloc (.cells #[.bool false, .string ⟨#[]⟩, .int .i64 0, .string ⟨#[]⟩, .string ⟨#[]⟩, .int .i64 0, .slice none 0 0, .bool false, .slice none 0 0, .int .i64 0, .string ⟨#[]⟩, .int .i64 0, .slice none 0 0, .slice none 0 0, .int .i64 0, .int .i64 0, .int .i64 0, .int .i64 0, .int .i64 0, .int .i64 0, .int .i64 0, .slice none 0 0] 37)) (.cells #[.int .i64 0, .slice none 0 0] 41)
    rw [World.size_alloc, World.size_alloc] at h
    rw [hW3]; exact h)
  have HW3 := Box.mk hW3
  have HM := Box.mk hm
  have HRC := Box.mk (copyOf_any B s fa ga la fc gc lc W3 (hm.keep HBW.out) hs.ok)
  rw [← HCS.out] at HRC
  have HBB := Box.mk (hb.keep HBW.out)
  have hl3 : w.heap.size + 2 < W3.heap.size := (Array.getElem?_eq_some_iff.1 HV3.out).1
  clear hb hm hb1 hb2 hb3 hW3
  have HOK := Box.mk (hok.keep HBW.out)
  have HS := Box.mk hs
  have Hb0 := Box.mk hb0
  obtain ⟨r0, hrm⟩ : ∃ r0 : Int, (if room ≤ 0 then 0 else room) = r0 := ⟨_, rfl⟩
  have hr2 : 0 ≤ r0 ∧ r0 ≤ 1000000000 := by rw [← hrm]; split <;> omega
  have HRM := Box.mk hrm
  have HLM := Box.mk (fun W => limitsOf_any most body room W hb0)
  rw [hrm] at HLM
  clear hs hb0 hrm hok
  obtain ⟨x, hx⟩ : ∃ x, nextX s b most body room = x := ⟨_, rfl⟩
  have HX := Box.mk hx
  have HERR := Box.mk (show ¬ x.er = 0 → ∃ er, x = errX er ∧ ¬ er = 0 by rw [← hx]; exact nextX_err)
  rw [hx]
  clear hx
  go_enter Tryz.func12, Tryz.ntmps12
  go_upto_region 1 with fail
  rw [← HW3.out]
  clear HW3
  go_wp2_with (refine wpList_load_row rfl 37 _ rfl w.heap.size rfl 37 cs (0, 0) _ HV1.out Tryz.underlying37 rfl HSZ.out ?_)
  refine HRC.out.mono ?_
  rintro e w4 ⟨f1, d1, f3, d3, f5, d5, he, hm4, hlf4, hb4⟩
  obtain ⟨cp, hcp⟩ : ∃ cp : Array Value, cp = #[.bool s.rep, .string s.meth, .int .i64 s.ph, .string s.m, .string s.t, .int .i64 s.z, .slice f1 (List.length s.xs) d1, .bool s.fr, .slice none 0 0, .int .i64 s.st, .string s.rs, .int .i64 s.z2, .slice f3 (List.length s.ys) d3, .slice none 0 0, .int .i64 s.fk, .int .i64 s.fl, .int .i64 s.left, .int .i64 s.size, .int .i64 s.ck.ph, .int .i64 s.ck.left, .int .i64 s.ck.tr, .slice f5 (List.length s.ck.line) d5] := ⟨_, rfl⟩
  rw [← hcp] at he
  subst he
  have HCP := Box.mk hcp
  have hcp22 : cp.size = 22 := by rw [hcp]; rfl
  have hcp1 : cp.all (·.oneCell') = true := by rw [hcp]; exact oneRd ..
  have HSM := Box.mk (show (Tryz.prog.info? 72).map (·.size) = some cp.size by rw [hcp22]; exact sizeMs)
  have HNM := Box.mk (show MVr (w4.alloc (.cells #[.bool false, .string ⟨#[]⟩, .int .i64 0, .string ⟨#[]⟩, .string ⟨#[]⟩, .int .i64 0, .slice none 0 0, .bool false, .slice none 0 0, .int .i64 0, .string ⟨#[]⟩, .int .i64 0, .slice none 0 0, .slice none 0 0, .int .i64 0, .int .i64 0, .int .i64 0, .int .i64 0, .int .i64 0, .int .i64 0, .int .i64 0, .slice none 0 0] 72)) w4.heap.size #[.bool false, .string ⟨#[]⟩, .int .i64 0, .string ⟨#[]⟩, .string ⟨#[]⟩, .int .i64 0, .slice none 0 0, .bool false, .slice none 0 0, .int .i64 0, .string ⟨#[]⟩, .int .i64 0, .slice none 0 0, .slice none 0 0, .int .i64 0, .int .i64 0, .int .i64 0, .int .i64 0, .int .i64 0, .int .i64 0, .int .i64 0, .slice none 0 0] from heap_alloc_new w4 (.cells #[.bool false, .string ⟨#[]⟩, .int .i64 0, .string ⟨#[]⟩, .string ⟨#[]⟩, .int .i64 0, .slice none 0 0, .bool false, .slice none 0 0, .int .i64 0, .string ⟨#[]⟩, .int .i64 0, .slice none 0 0, .slice none 0 0, .int .i64 0, .int .i64 0, .int .i64 0, .int .i64 0, .int .i64 0, .int .i64 0, .int .i64 0, .slice none 0 0] 72))
  have hw4 := hb4.size
  have HM4 := Box.mk hm4
  have HB4 := Box.mk hb4
  clear hcp hm4 hb4 HRC HSZ hcs22 hcs1 HCS HV1 HM
  go_upto_region 2 with (refine wpList_store_row rfl 72 _ _ rfl w4.heap.size cp rfl rfl 72 _ HNM.out HSM.out (by rw [hcp22]; rfl) hcp1 ?_)
  obtain ⟨W5, hW5⟩ : ∃ W5, W5 = (w4.alloc (.cells #[.bool false, .string ⟨#[]⟩, .int .i64 0, .string ⟨#[]⟩, .string ⟨#[]⟩, .int .i64 0, .slice none 0 0, .bool false, .slice none 0 0, .int .i64 0, .string ⟨#[]⟩, .int .i64 0, .slice none 0 0, .slice none 0 0, .int .i64 0, .int .i64 0, .int .i64 0, .int .i64 0, .int .i64 0, .int .i64 0, .int .i64 0, .slice none 0 0] 72)).setRow w4.heap.size cp := ⟨_, rfl⟩
  have HM5 := Box.mk (show MVr W5 w4.heap.size #[.bool s.rep, .string s.meth, .int .i64 s.ph, .string s.m, .string s.t, .int .i64 s.z, .slice f1 (List.length s.xs) d1, .bool s.fr, .slice none 0 0, .int .i64 s.st, .string s.rs, .int .i64 s.z2, .slice f3 (List.length s.ys) d3, .slice none 0 0, .int .i64 s.fk, .int .i64 s.fl, .int .i64 s.left, .int .i64 s.size, .int .i64 s.ck.ph, .int .i64 s.ck.left, .int .i64 s.ck.tr, .slice f5 (List.length s.ck.line) d5] by rw [hW5, ← HCP.out]; exact setRow_heap _ _ _ _ _ _ HNM.out)
  have hb45 : Below w4.heap.size w4 W5 := by rw [hW5]; exact below_setRow (below_oneF _ _) (Nat.le_refl _) _
  have hb35 := below_trans HB4.out hb45
  have HR5 := Box.mk (show RMem (fun k => W3.heap.size ≤ k ∧ k ≠ w4.heap.size) W5 s f1 f3 f5 d5 from ⟨HM4.out.f1.keep hb45, HM4.out.f2.keep hb45, HM4.out.ln.keep hb45, fun y e hx => ⟨HM4.out.n1 y e hx, by have := HM4.out.f1.old e hx; omega⟩, fun y e hx => ⟨HM4.out.n2 y e hx, by have := HM4.out.f2.old e hx; omega⟩⟩)
  have HLF5 := Box.mk (show ∀ y, f5 = some y → s.ck.line ≠ [] → W3.heap.size ≤ y.block ∧ y.block ≠ w4.heap.size from fun y e hx => ⟨hlf4 y e, by have := HM4.out.ln.old e hx; omega⟩)
  have HBB5 := Box.mk (HBB.out.keep hb35)
  have HOK5 := Box.mk (HOK.out.keep hb35)
  have HV25 := Box.mk (HV2.out.keep hb35)
  have HV35 := Box.mk (HV3.out.keep hb35)
  have HBW5 := Box.mk (below_trans HBW.out hb35)
  have hw5 : w4.heap.size < W5.heap.size := HM5.out.lt
  rw [← hW5]
  clear hW5 hb45 hb35 HM4 HB4 HNM HSM hcp1 hcp22 HCP HBB HOK HV2 HV3 HBW hlf4
  obtain ⟨f, hst, hfb, hcall⟩ := mStep_any (fun k => W3.heap.size ≤ k ∧ k ≠ w4.heap.size) s b most body room ba bc f1 f3 f5 d1 d3 d5 w4.heap.size mm W5 HBB5.out hl HM5.out HR5.out HLF5.out HOK5.out (fun k hk => ⟨by omega, by omega⟩) (fun k hk => hk.2) HS.out Hb0.out r0 hr2 HRM.out
  rw [HX.out] at hcall
  have HST := Box.mk hst
  have HFB := Box.mk hfb
  have HCL := Box.mk hcall
  clear hst hfb hcall
  go_wp2_with fail
  refine HST.out.mono ?_
  rintro e w6 ⟨rfl, rfl⟩
  clear HST HRM HS Hb0 HX HOK5 HBB5 HM5 HR5
  go_wp2_with fail
  refine (HLM.out W5).mono ?_
  rintro e w7 ⟨rfl, hb7⟩
  have HCL7 := Box.mk (HCL.out w7 hb7)
  have HV27 := Box.mk (HV25.out.keep hb7)
  have HV37 := Box.mk (HV35.out.keep hb7)
  have HBW7 := Box.mk (below_trans HBW5.out hb7)
  have hw7 := hb7.size
  clear HCL hb7 HLM HV25 HV35 HBW5
  rename_i KK hKK
  refine hKK _ _ ?_
  clear hKK
  refine wpList_callV rfl rfl rfl HFB.out HCL7.out ?_
  intro e w8 hret
  rcases hret with ⟨h0, f4, c4, g4, d4, l4, e4, pa, pc, he, hm8, hr8, hl8, hd8, hg8⟩ | ⟨h0, k8, n8, he, hg8⟩
  · obtain ⟨pr, hpr⟩ : ∃ pr : Array Value, pr = #[.int .i64 x.kind, .slice pa (List.length x.data) pc] := ⟨_, rfl⟩
    rw [← hpr] at he
    refine ⟨_, he, ?_⟩
    have HPR := Box.mk hpr
    have hpr2 : pr.size = 2 := by rw [hpr]; rfl
    have hpr1 : pr.all (·.oneCell') = true := by rw [hpr]; exact onePt ..
    have HSP := Box.mk (show (Tryz.prog.info? 41).map (·.size) = some pr.size by rw [hpr2]; exact sizePt)
    obtain ⟨cr, hcr⟩ : ∃ cr : Array Value, cr = #[.bool x.r.rep, .string x.r.meth, .int .i64 x.r.ph, .string x.r.m, .string x.r.t, .int .i64 x.r.z, .slice f4 (List.length x.r.xs) c4, .bool x.r.fr, .slice none 0 0, .int .i64 x.r.st, .string x.r.rs, .int .i64 x.r.z2, .slice g4 (List.length x.r.ys) d4, .slice none 0 0, .int .i64 x.r.fk, .int .i64 x.r.fl, .int .i64 x.r.left, .int .i64 x.r.size, .int .i64 x.r.ck.ph, .int .i64 x.r.ck.left, .int .i64 x.r.ck.tr, .slice l4 (List.length x.r.ck.line) e4] := ⟨_, rfl⟩
    have HCR := Box.mk hcr
    have hcr22 : cr.size = 22 := by rw [hcr]; rfl
    have hcr1 : cr.all (·.oneCell') = true := by rw [hcr]; exact oneRd ..
    rw [← hcr] at hm8
    have HNP := Box.mk (show PVr (w8.alloc (.cells #[.int .i64 0, .slice none 0 0] 41)) w8.heap.size #[.int .i64 0, .slice none 0 0] from heap_alloc_new w8 (.cells #[.int .i64 0, .slice none 0 0] 41))
    have hsz8 := hg8.size
    have HM8 := Box.mk hm8
    have HR8 := Box.mk hr8
    have HLF8 := Box.mk (show ∀ y, l4 = some y → x.r.ck.line ≠ [] → w.heap.size ≤ y.block from fun y e hx => by have := (hl8 y e hx).1; omega)
    clear hl8
    have HD8 := Box.mk hd8
    have HV28 := Box.mk (show RVr w8 (w.heap.size + 1) #[.bool false, .string ⟨#[]⟩, .int .i64 0, .string ⟨#[]⟩, .string ⟨#[]⟩, .int .i64 0, .slice none 0 0, .bool false, .slice none 0 0, .int .i64 0, .string ⟨#[]⟩, .int .i64 0, .slice none 0 0, .slice none 0 0, .int .i64 0, .int .i64 0, .int .i64 0, .int .i64 0, .int .i64 0, .int .i64 0, .int .i64 0, .slice none 0 0] from (hg8.block _ HV27.out.lt (fun e => by injection e with e; omega)).trans HV27.out)
    have HV38 := Box.mk (show PVr w8 (w.heap.size + 2) #[.int .i64 0, .slice none 0 0] from (hg8.block _ (Array.getElem?_eq_some_iff.1 HV37.out).1 (fun e => by injection e with e; omega)).trans HV37.out)
    have HBW8 := Box.mk (HBW7.out.grown hg8 HBW7.out.size (fun q e => by injection e with e; omega))
    have H0 := Box.mk h0
    clear hpr hcr hm8 hr8 hd8 hg8 he h0 HV27 HV37 HBW7 HCL7 HFB
    go_upto_region 4 with (refine wpList_store_row rfl 41 _ _ rfl w8.heap.size pr rfl rfl 41 _ HNP.out HSP.out (by rw [hpr2]; rfl) hpr1 ?_)
    obtain ⟨W9, hW9⟩ : ∃ W9, W9 = (w8.alloc (.cells #[.int .i64 0, .slice none 0 0] 41)).setRow w8.heap.size pr := ⟨_, rfl⟩
    have HP9 := Box.mk (show PVr W9 w8.heap.size pr by rw [hW9]; exact setRow_heap _ _ _ _ _ _ HNP.out)
    have hb89 : Below w8.heap.size w8 W9 := by rw [hW9]; exact below_setRow (below_oneF _ _) (Nat.le_refl _) _
    have HJ9 := Box.mk (show NxJ w w4.heap.size w8.heap.size W3.heap.size x f4 g4 l4 e4 pa pc cr pr #[.bool false, .string ⟨#[]⟩, .int .i64 0, .string ⟨#[]⟩, .string ⟨#[]⟩, .int .i64 0, .slice none 0 0, .bool false, .slice none 0 0, .int .i64 0, .string ⟨#[]⟩, .int .i64 0, .slice none 0 0, .slice none 0 0, .int .i64 0, .int .i64 0, .int .i64 0, .int .i64 0, .int .i64 0, .int .i64 0, .int .i64 0, .slice none 0 0] #[.int .i64 0, .slice none 0 0] W9 from ⟨HM8.out.keep hb89, HP9.out, HV28.out.keep hb89, HV38.out.keep hb89, below_trans HBW8.out hb89, HR8.out.keep hb89, HD8.out.keep hb89⟩)
    rw [← hW9]
    clear hW9 hb89 HP9 HM8 HR8 HD8 HV28 HV38 HBW8 HNP
    go_wp2_with fail
    rename_i KK hKK
    refine wp_region_phases [3, 4] (fun p => match p with | 0 => [0, 1, 2] | 1 => [1, 2] | _ => [2, 5, 6])
      (fun p => match p with | 0 => [.val (.agg cr), .val (.agg pr), .val (.int .i64 x.n), .any, .nope, .nope, .nope] | 1 => [.any, .val (.agg pr), .val (.int .i64 x.n), .any, .any, .nope, .nope] | _ => [.any, .any, .val (.int .i64 x.n), .any, .any, .val (.int .i64 x.n), .val (.int .i64 0)])
      (fun p => match p with | 0 => NxJ w w4.heap.size w8.heap.size W3.heap.size x f4 g4 l4 e4 pa pc cr pr #[.bool false, .string ⟨#[]⟩, .int .i64 0, .string ⟨#[]⟩, .string ⟨#[]⟩, .int .i64 0, .slice none 0 0, .bool false, .slice none 0 0, .int .i64 0, .string ⟨#[]⟩, .int .i64 0, .slice none 0 0, .slice none 0 0, .int .i64 0, .int .i64 0, .int .i64 0, .int .i64 0, .int .i64 0, .int .i64 0, .int .i64 0, .slice none 0 0] #[.int .i64 0, .slice none 0 0] | 1 => NxJ w w4.heap.size w8.heap.size W3.heap.size x f4 g4 l4 e4 pa pc cr pr cr #[.int .i64 0, .slice none 0 0] | _ => NxJ w w4.heap.size w8.heap.size W3.heap.size x f4 g4 l4 e4 pa pc cr pr cr pr)
      (by kernel_rfl) (by kernel_rfl) (by kernel_rfl) (by kernel_rfl) (by kernel_rfl) (by kernel_rfl) ?_ HJ9.out ?_ ?_ ?_
    · intro p wa wb h hb
      match p, h with
      | 0, h => exact NxJ.keep h hb
      | 1, h => exact NxJ.keep h hb
      | (_ + 2), h => exact NxJ.keep h hb
    · intro p hp
      match p, hp with
      | 0, _ =>
        refine ⟨?_, ?_, ?_, trivial⟩ <;> intro a1 wx hv hf hd
        · exact ⟨wanted_none rfl, loc_load rfl (by rw [show a1.eval (.tmp 14) = .pointer (some ⟨w4.heap.size, 0, none⟩) from hf.base 14 rfl]; exact run_loadMs _ _ _ hv.m hcr22) rfl⟩
        · exact ⟨wanted_none rfl, loc_load rfl (by rw [show a1.eval (.tmp 16) = .pointer (some ⟨w8.heap.size, 0, none⟩) from hf.base 16 rfl]; exact run_loadPt _ _ _ hv.p hpr2) rfl⟩
        · exact ⟨wanted_none rfl, loc_move rfl (hf.base 17 rfl)⟩
      | 1, _ =>
        refine ⟨?_, ?_, trivial⟩ <;> intro a1 wx hv hf hd
        · exact ⟨wanted_none rfl, loc_load rfl (by rw [show a1.eval (.tmp 16) = .pointer (some ⟨w8.heap.size, 0, none⟩) from hf.base 16 rfl]; exact run_loadPt _ _ _ hv.p hpr2) rfl⟩
        · exact ⟨wanted_none rfl, loc_move rfl (hf.base 17 rfl)⟩
      | 2, _ =>
        refine ⟨?_, ?_, ?_, trivial⟩ <;> intro a1 wx hv hf hd
        · exact ⟨wanted_none rfl, loc_move rfl (hf.base 17 rfl)⟩
        · exact ⟨wanted_none rfl, loc_assign rfl (hd 2 rfl)⟩
        · exact ⟨wanted_none rfl, loc_assign rfl rfl⟩
    · intro p hp
      match p, hp with
      | 0, _ =>
        intro a2 wx hv hf hd
        refine ⟨wanted_none rfl, wp_store_row 37 _ _ rfl (w.heap.size + 1) cr (hf.base 10 rfl) (hd 0 rfl) 37 _ hv.r2 (by rw [hcr22]; exact sizeRd) (by rw [hcr22]; rfl) hcr1 ?_⟩
        exact ⟨undef, rfl, ⟨(setRow_other _ _ _ _ (by omega)).trans hv.m, (setRow_other _ _ _ _ (by omega)).trans hv.p, setRow_heap _ _ _ _ _ _ hv.r2, (setRow_other _ _ _ _ (by omega)).trans hv.r3, below_setRow hv.bl (by omega) _, rmem_row hv.rm (by omega) hv.r2 (noU8_22 rfl), isBytes_rowR hv.r2 (noU8_22 rfl) hv.dt⟩, trivial, ⟨.inr fun _ _ _ => trivial, .inr fun _ _ h => h, .inr fun _ _ h => h, .inl rfl, .inr fun _ _ h => h.elim, .inr fun _ _ h => h.elim, .inr fun _ _ h => h.elim, trivial⟩⟩
      | 1, _ =>
        intro a2 wx hv hf hd
        have e11 : a2.eval (.tmp 11) = .pointer (some ⟨w.heap.size + 2, 0, none⟩) := hf.base 11 rfl
        refine ⟨wanted_none rfl, wp_store_row 41 _ _ rfl (w.heap.size + 2) pr e11 (hd 1 rfl) 41 _ hv.r3 HSP.out (by rw [hpr2]; rfl) hpr1 ?_⟩
        exact ⟨undef, rfl, ⟨(setRow_other _ _ _ _ (by omega)).trans hv.m, (setRow_other _ _ _ _ (by omega)).trans hv.p, (setRow_other _ _ _ _ (by omega)).trans hv.r2, setRow_heap _ _ _ _ _ _ hv.r3, below_setRow hv.bl (by omega) _, rmem_row hv.rm (by omega) hv.r3 (noU8_22 rfl), isBytes_rowR hv.r3 (noU8_22 rfl) hv.dt⟩, trivial, ⟨.inr fun _ _ _ => trivial, .inr fun _ _ _ => trivial, .inr fun _ _ h => h, .inr fun _ _ _ => trivial, .inl rfl, .inr fun _ _ h => h.elim, .inr fun _ _ h => h.elim, trivial⟩⟩
    · intro a2 w10 hv hf hh
      have e12 : a2.eval (.tmp 12) = .int .i64 x.n := hh 5 (by decide)
      have e13 : a2.eval (.tmp 13) = .int .i64 0 := hh 6 (by decide)
      clear hh
      rw [fr_putAll hf]
      clear hf
      simp only [putAll, e12, e13]
      generalize a2.eval (.tmp 38) = u38
      generalize a2.eval (.tmp 39) = u39
      generalize a2.eval (.tmp 40) = u40
      clear e12 e13 a2
      simp only [Act.put, List.setIfInBounds_toArray, List.set_cons_succ, List.set_cons_zero]
      refine hKK _ _ ?_
      clear hKK
      go_wp2_with fail
      (try simp only [Exit.inBlock, Exit.then])
      refine bodyPost_ret (results_rrttR rfl _ _ (w.heap.size + 1) (w.heap.size + 2) 37 41 cr pr (0, 0) (0, 0) _ _ rfl rfl hv.r2 hv.r3 Tryz.underlying37 rfl (by rw [hcr22]; exact sizeRd) Tryz.underlying41 rfl HSP.out) rfl ?_
      exact ⟨f4, c4, g4, d4, l4, e4, pa, pc, by rw [HCR.out, HPR.out, H0.out]; rfl, ⟨hv.rm.f1, hv.rm.f2, hv.rm.ln, fun y e hx => hB _ (by have := (hv.rm.n1 y e hx).1; omega), fun y e hx => hB _ (by have := (hv.rm.n2 y e hx).1; omega)⟩, HLF8.out, hv.dt, hv.bl⟩
  · obtain ⟨er, rfl, hne⟩ := HERR.out h0
    have he : e = .returned (.tuple #[.agg #[.int .i64 k8, .slice none 0 0], .int .i64 n8, .int .i64 er]) := he
    refine ⟨_, he, ?_⟩
    have e0 : (er != 0) = true := by rw [bne_iff_ne]; exact hne
    have HNP := Box.mk (show PVr (w8.alloc (.cells #[.int .i64 0, .slice none 0 0] 41)) w8.heap.size #[.int .i64 0, .slice none 0 0] from heap_alloc_new w8 (.cells #[.int .i64 0, .slice none 0 0] 41))
    have hsz8 := hg8.size
    have HV28 := Box.mk (show RVr w8 (w.heap.size + 1) #[.bool false, .string ⟨#[]⟩, .int .i64 0, .string ⟨#[]⟩, .string ⟨#[]⟩, .int .i64 0, .slice none 0 0, .bool false, .slice none 0 0, .int .i64 0, .string ⟨#[]⟩, .int .i64 0, .slice none 0 0, .slice none 0 0, .int .i64 0, .int .i64 0, .int .i64 0, .int .i64 0, .int .i64 0, .int .i64 0, .int .i64 0, .slice none 0 0] from (hg8.block _ HV27.out.lt (fun e => by injection e with e; omega)).trans HV27.out)
    have HV38 := Box.mk (show PVr w8 (w.heap.size + 2) #[.int .i64 0, .slice none 0 0] from (hg8.block _ (Array.getElem?_eq_some_iff.1 HV37.out).1 (fun e => by injection e with e; omega)).trans HV37.out)
    have HBW8 := Box.mk (HBW7.out.grown hg8 HBW7.out.size (fun q e => by injection e with e; omega))
    clear hg8 he h0 HV27 HV37 HBW7 HCL7 HFB HERR hne
    go_upto_region 4 with (refine wpList_store_row rfl 41 _ _ rfl w8.heap.size #[.int .i64 k8, .slice none 0 0] rfl rfl 41 _ HNP.out sizePt rfl (onePt ..) ?_)
    obtain ⟨W9, hW9⟩ : ∃ W9, W9 = (w8.alloc (.cells #[.int .i64 0, .slice none 0 0] 41)).setRow w8.heap.size #[.int .i64 k8, .slice none 0 0] := ⟨_, rfl⟩
    have hb89 : Below w8.heap.size w8 W9 := by rw [hW9]; exact below_setRow (below_oneF _ _) (Nat.le_refl _) _
    have HV29 := Box.mk (HV28.out.keep hb89)
    have HV39 := Box.mk (HV38.out.keep hb89)
    have HBW9 := Box.mk (below_trans HBW8.out hb89)
    rw [← hW9]
    clear hW9 hb89 HV28 HV38 HBW8 HNP
    have HPN := Box.mk (show PVr (W9.setRow (w.heap.size + 1) #[.bool false, .string ⟨#[]⟩, .int .i64 0, .string ⟨#[]⟩, .string ⟨#[]⟩, .int .i64 0, .slice none 0 0, .bool false, .slice none 0 0, .int .i64 0, .string ⟨#[]⟩, .int .i64 0, .slice none 0 0, .slice none 0 0, .int .i64 0, .int .i64 0, .int .i64 0, .int .i64 0, .int .i64 0, .int .i64 0, .int .i64 0, .slice none 0 0]) (w.heap.size + 2) #[.int .i64 0, .slice none 0 0] from (setRow_other _ _ _ _ (by omega)).trans HV39.out)
    go_wp2_with (first | (refine wpList_store_row rfl 37 _ _ rfl (w.heap.size + 1) #[.bool false, .string ⟨#[]⟩, .int .i64 0, .string ⟨#[]⟩, .string ⟨#[]⟩, .int .i64 0, .slice none 0 0, .bool false, .slice none 0 0, .int .i64 0, .string ⟨#[]⟩, .int .i64 0, .slice none 0 0, .slice none 0 0, .int .i64 0, .int .i64 0, .int .i64 0, .int .i64 0, .int .i64 0, .int .i64 0, .int .i64 0, .slice none 0 0] rfl rfl 37 _ HV29.out sizeRd rfl (oneRd ..) ?_) | (refine wpList_store_row rfl 41 _ _ rfl (w.heap.size + 2) #[.int .i64 0, .slice none 0 0] rfl rfl 41 _ HPN.out sizePt rfl (onePt ..) ?_))
    (try simp only [Exit.inBlock, Exit.then])
    refine bodyPost_ret (results_rrttR rfl _ _ (w.heap.size + 1) (w.heap.size + 2) 37 41 #[.bool false, .string ⟨#[]⟩, .int .i64 0, .string ⟨#[]⟩, .string ⟨#[]⟩, .int .i64 0, .slice none 0 0, .bool false, .slice none 0 0, .int .i64 0, .string ⟨#[]⟩, .int .i64 0, .slice none 0 0, .slice none 0 0, .int .i64 0, .int .i64 0, .int .i64 0, .int .i64 0, .int .i64 0, .int .i64 0, .int .i64 0, .slice none 0 0] #[.int .i64 0, .slice none 0 0] (0, 0) (0, 0) _ _ rfl rfl ((setRow_other _ _ _ _ (by omega)).trans (setRow_heap _ _ _ _ _ _ HV29.out)) (setRow_heap _ _ _ _ _ _ HPN.out) Tryz.underlying37 rfl sizeRd Tryz.underlying41 rfl sizePt) rfl ?_
    have HBF := below_setRow (g := w.heap.size + 2) (below_setRow (g := w.heap.size + 1) HBW9.out (by omega) #[.bool false, .string ⟨#[]⟩, .int .i64 0, .string ⟨#[]⟩, .string ⟨#[]⟩, .int .i64 0, .slice none 0 0, .bool false, .slice none 0 0, .int .i64 0, .string ⟨#[]⟩, .int .i64 0, .slice none 0 0, .slice none 0 0, .int .i64 0, .int .i64 0, .int .i64 0, .int .i64 0, .int .i64 0, .int .i64 0, .int .i64 0, .slice none 0 0]) (by omega) #[.int .i64 0, .slice none 0 0]
    exact ⟨none, 0, none, 0, none, 0, none, 0, rfl, ⟨FldsIn.nil _ _, FldsIn.nil _ _, .inl ⟨rfl, rfl, rfl⟩, (fun y hy => by cases hy), (fun y hy => by cases hy)⟩, (fun y hy => by cases hy), .inl ⟨rfl, rfl, rfl⟩, HBF⟩
theorem projNext_any (B : Nat → Prop) (s : RS) (b : List UInt8) (most body room : Int) (ba : Option Addr) (bc : Nat) (fa ga la : Option Addr) (fc gc lc : Nat) (w : World) (mm : Int) (hb : IsBytes w ba b bc) (hl : b.length ≤ 1000000) (hm : RMem B w s fa ga la lc) (hok : HdOk w mm) (hs : OkN body s) (hb0 : 0 ≤ body ∧ body ≤ 1000000000) (hr0 : -1000000000 ≤ room ∧ room ≤ 1000000000) (hB : ∀ g, w.heap.size ≤ g → B g) :
    Calls Tryz.prog 12 #[.agg #[.bool s.rep, .string s.meth, .int .i64 s.ph, .string s.m, .string s.t, .int .i64 s.z, .slice fa (List.length s.xs) fc, .bool s.fr, .slice none 0 0, .int .i64 s.st, .string s.rs, .int .i64 s.z2, .slice ga (List.length s.ys) gc, .slice none 0 0, .int .i64 s.fk, .int .i64 s.fl, .int .i64 s.left, .int .i64 s.size, .int .i64 s.ck.ph, .int .i64 s.ck.left, .int .i64 s.ck.tr, .slice la (List.length s.ck.line) lc], .slice ba b.length bc, .int .i64 most, .int .i64 body, .int .i64 room] w (RetX B w (nextX s b most body room)) :=
  (projNextF_any B s b most body room ba bc fa ga la fc gc lc w mm hb hl hm hok hs hb0 hr0 hB).mono fun e w' ⟨f4, c4, g4, d4, l4, e4, pa, pc, he, h1, _, h3, h4⟩ => ⟨f4, c4, g4, d4, l4, e4, pa, pc, he, h1, h3, h4⟩
end Go.Proofs.YtejbkbccljoldaaGreatDoor
namespace Go.Proofs.YtejbkbccljoldaaGreatDoor
open Go.RowKit

set_option linter.unusedVariables false
set_option maxRecDepth 100000 in
set_option maxHeartbeats 1000000 in
theorem forRequest_any (w : World) : Calls Tryz.prog 23 #[] w fun e w' => e = .returned (.agg #[.bool false, .string ⟨#[]⟩, .int .i64 0, .string ⟨#[]⟩, .string ⟨#[]⟩, .int .i64 0, .slice none 0 0, .bool false, .slice none 0 0, .int .i64 0, .string ⟨#[]⟩, .int .i64 0, .slice none 0 0, .slice none 0 0, .int .i64 0, .int .i64 0, .int .i64 0, .int .i64 0, .int .i64 0, .int .i64 0, .int .i64 0, .slice none 0 0]) ∧ Below w.heap.size w w' := by
  obtain ⟨W1, hW1⟩ : ∃ W1, W1 = w.alloc (.cells #[.bool false, .string ⟨#[]⟩, .int .i64 0, .string ⟨#[]⟩, .string ⟨#[]⟩, .int .i64 0, .slice none 0 0, .bool false, .slice none 0 0, .int .i64 0, .string ⟨#[]⟩, .int .i64 0, .slice none 0 0, .slice none 0 0, .int .i64 0, .int .i64 0, .int .i64 0, .int .i64 0, .int .i64 0, .int .i64 0, .int .i64 0, .slice none 0 0] 37) := ⟨_, rfl⟩
  have HB1 := Box.mk (show Below w.heap.size w W1 by rw [hW1]; exact below_oneF _ _)
  have HO := Box.mk (show RVr W1 w.heap.size #[.bool false, .string ⟨#[]⟩, .int .i64 0, .string ⟨#[]⟩, .string ⟨#[]⟩, .int .i64 0, .slice none 0 0, .bool false, .slice none 0 0, .int .i64 0, .string ⟨#[]⟩, .int .i64 0, .slice none 0 0, .slice none 0 0, .int .i64 0, .int .i64 0, .int .i64 0, .int .i64 0, .int .i64 0, .int .i64 0, .int .i64 0, .slice none 0 0] by rw [hW1]; exact heap_alloc_new _ _)
  have HW1 := Box.mk hW1
  clear hW1
  go_enter Tryz.func23, Tryz.ntmps23
  go_upto_region 1 with fail
  rw [← HW1.out]
  clear HW1
  go_wp2_with (refine wpList_store_row rfl 37 _ _ rfl w.heap.size #[.bool false, .string ⟨#[]⟩, .int .i64 0, .string ⟨#[]⟩, .string ⟨#[]⟩, .int .i64 0, .slice none 0 0, .bool false, .slice none 0 0, .int .i64 0, .string ⟨#[]⟩, .int .i64 0, .slice none 0 0, .slice none 0 0, .int .i64 0, .int .i64 0, .int .i64 0, .int .i64 0, .int .i64 0, .int .i64 0, .int .i64 0, .slice none 0 0] rfl rfl 37 _ HO.out sizeRd rfl (oneRd ..) ?_)
  (try simp only [Exit.inBlock, Exit.then])
  refine bodyPost_ret (results_r rfl _ _ w.heap.size 37 #[.bool false, .string ⟨#[]⟩, .int .i64 0, .string ⟨#[]⟩, .string ⟨#[]⟩, .int .i64 0, .slice none 0 0, .bool false, .slice none 0 0, .int .i64 0, .string ⟨#[]⟩, .int .i64 0, .slice none 0 0, .slice none 0 0, .int .i64 0, .int .i64 0, .int .i64 0, .int .i64 0, .int .i64 0, .int .i64 0, .int .i64 0, .slice none 0 0] (0, 0) _ rfl (setRow_heap _ _ _ _ _ _ HO.out) Tryz.underlying37 rfl sizeRd) rfl ?_
  exact ⟨rfl, below_setRow HB1.out (Nat.le_refl _) _⟩
set_option maxRecDepth 100000 in
set_option maxHeartbeats 1000000 in
theorem forReply_any (p : ByteArray) (w : World) : Calls Tryz.prog 25 #[.string p] w fun e w' => e = .returned (.agg #[.bool true, .string p, .int .i64 0, .string ⟨#[]⟩, .string ⟨#[]⟩, .int .i64 0, .slice none 0 0, .bool false, .slice none 0 0, .int .i64 0, .string ⟨#[]⟩, .int .i64 0, .slice none 0 0, .slice none 0 0, .int .i64 0, .int .i64 0, .int .i64 0, .int .i64 0, .int .i64 0, .int .i64 0, .int .i64 0, .slice none 0 0]) ∧ Below w.heap.size w w' := by
  have hbd : ∀ W, (Instr.build 37 #[(0, .bool true), (1, .string p)]).run Tryz.prog W = .ok (.agg #[.bool true, .string p, .int .i64 0, .string ⟨#[]⟩, .string ⟨#[]⟩, .int .i64 0, .slice none 0 0, .bool false, .slice none 0 0, .int .i64 0, .string ⟨#[]⟩, .int .i64 0, .slice none 0 0, .slice none 0 0, .int .i64 0, .int .i64 0, .int .i64 0, .int .i64 0, .int .i64 0, .int .i64 0, .int .i64 0, .slice none 0 0]) W := fun W => run_build (P := Tryz.prog) W 37 #[(0, .bool true), (1, .string p)] #[.bool true, .string p, .int .i64 0, .string ⟨#[]⟩, .string ⟨#[]⟩, .int .i64 0, .slice none 0 0, .bool false, .slice none 0 0, .int .i64 0, .string ⟨#[]⟩, .int .i64 0, .slice none 0 0, .slice none 0 0, .int .i64 0, .int .i64 0, .int .i64 0, .int .i64 0, .int .i64 0, .int .i64 0, .int .i64 0, .slice none 0 0] (by kernel_rfl)
  obtain ⟨W1, hW1⟩ : ∃ W1, W1 = w.alloc (.cells #[.bool false, .string ⟨#[]⟩, .int .i64 0, .string ⟨#[]⟩, .string ⟨#[]⟩, .int .i64 0, .slice none 0 0, .bool false, .slice none 0 0, .int .i64 0, .string ⟨#[]⟩, .int .i64 0, .slice none 0 0, .slice none 0 0, .int .i64 0, .int .i64 0, .int .i64 0, .int .i64 0, .int .i64 0, .int .i64 0, .int .i64 0, .slice none 0 0] 37) := ⟨_, rfl⟩
  have HB1 := Box.mk (show Below w.heap.size w W1 by rw [hW1]; exact below_oneF _ _)
  have HO := Box.mk (show RVr W1 w.heap.size #[.bool false, .string ⟨#[]⟩, .int .i64 0, .string ⟨#[]⟩, .string ⟨#[]⟩, .int .i64 0, .slice none 0 0, .bool false, .slice none 0 0, .int .i64 0, .string ⟨#[]⟩, .int .i64 0, .slice none 0 0, .slice none 0 0, .int .i64 0, .int .i64 0, .int .i64 0, .int .i64 0, .int .i64 0, .int .i64 0, .int .i64 0, .slice none 0 0] by rw [hW1]; exact heap_alloc_new _ _)
  have HW1 := Box.mk hW1
  clear hW1
  go_enter Tryz.func25, Tryz.ntmps25
  go_upto_region 1 with fail
  rw [← HW1.out]
  clear HW1
  go_wp2_with (refine wpList_store_row rfl 37 _ _ rfl w.heap.size #[.bool true, .string p, .int .i64 0, .string ⟨#[]⟩, .string ⟨#[]⟩, .int .i64 0, .slice none 0 0, .bool false, .slice none 0 0, .int .i64 0, .string ⟨#[]⟩, .int .i64 0, .slice none 0 0, .slice none 0 0, .int .i64 0, .int .i64 0, .int .i64 0, .int .i64 0, .int .i64 0, .int .i64 0, .int .i64 0, .slice none 0 0] rfl rfl 37 _ HO.out sizeRd rfl (oneRd ..) ?_)
  (try simp only [Exit.inBlock, Exit.then])
  refine bodyPost_ret (results_r rfl _ _ w.heap.size 37 #[.bool true, .string p, .int .i64 0, .string ⟨#[]⟩, .string ⟨#[]⟩, .int .i64 0, .slice none 0 0, .bool false, .slice none 0 0, .int .i64 0, .string ⟨#[]⟩, .int .i64 0, .slice none 0 0, .slice none 0 0, .int .i64 0, .int .i64 0, .int .i64 0, .int .i64 0, .int .i64 0, .int .i64 0, .int .i64 0, .slice none 0 0] (0, 0) _ rfl (setRow_heap _ _ _ _ _ _ HO.out) Tryz.underlying37 rfl sizeRd) rfl ?_
  exact ⟨rfl, below_setRow HB1.out (Nat.le_refl _) _⟩
end Go.Proofs.YtejbkbccljoldaaGreatDoor
namespace Go.Proofs.YtejbkbccljoldaaGreatDoor
open Go.RowKit

theorem endGo_cons (i : Nat) (x : UInt8) (r : List UInt8) : endGo i (x :: r) = if (x :: r).take 4 = crlf2 then ((i + 4 : Nat) : Int) else endGo (i + 1) r := by rw [endGo]
theorem endZ_take (l : List UInt8) (n : Nat) : endZ (l.take n) = if endZ l ≤ (n : Int) then endZ l else -1 := by
  have := endGo_take l n 0
  rw [Nat.zero_add] at this
  exact this
end Go.Proofs.YtejbkbccljoldaaGreatDoor
