/- The library's sort at fields and at strings, and Compact at strings: by the shelf's contracts. The landed normal: its two contracts. The laws of package normal: made, awake. Plans: mathematics, and the reference's check of one. Plans: the reference's weight of a stage and verdict on a window; variables of small structs. The contracts of the small functions over words: rotations, constants, the first state. The schedule of a block, as the code reckons it. One block, as the code reckons it. 'v, k := s, f()': two new variables, filled by a load and a call, in whatever order. -/
import Derived.Test.YtgmbfiikkogenaaGreatDoorPk1
import Derived.Test.YtgmbfiikkogenaaGreatDoorPk2
import Derived.Test.YtgmbfiikkogenaaGreatDoorPk3
import Derived.Test.YtgmbfiikkogenaaGreatDoorPk4
import Derived.Test.YtgmbfiikkogenaaGreatDoorRows
import Derived.WalkKit
import Derived.WalkSpells
import Derived.WalkLawsBesides
import Derived.BigQuiet
import Derived.Deep.QuietTactic
import Derived.Lib.Bytealg
import Derived.Lib.IndexLaws
import Derived.Lib.Hide
import Derived.Laws.IdiomStrings
import Derived.Lib.SlTrimSet
import Derived.Lib.IndexBytes
import Derived.Lib.Split
import Derived.Deep.AppendLies
import Derived.Shelf.SlGeneric
import Derived.Shelf.Strings.SlTrimAscii
import Derived.Shelf.Strings.SplitShaped
import Derived.Shelf.LaysM
import Derived.Shelf.Strings.BuilderK
import Derived.Shelf.Strconv.Itoa4
import Derived.Shelf.Strings.Builder2
import Derived.Shelf.SlLaysF0
import Derived.Shelf.SlLaysM
import Derived.Shelf.SlLaysN
import Derived.Ground.SlsfProg
import Derived.Ground.SlgmProg
import Derived.Ground.SlgnProg
import Derived.Test.YtgmbfiikkogenaaGreatDoorProg
import Derived.Lib.SplitLaws
import Derived.WalkSmall
import Derived.ProofKit
import Derived.OpenShut
import Derived.Lib.Strings
import Derived.SliceStrings
import Derived.Deep.Quiet
import Derived.Tactics
import Derived.KernelRfl
import Derived.Below
import Derived.Laws.Bits64
import Derived.Lib.SlBytesConst
import Derived.Maps.AppendAt
import Derived.Laws.AppendOwnNone
import Derived.Great.BuildSlice
import Derived.Laws.Rows
import Derived.Laws.BitsAllLaws
import Derived.Laws.Shifts
import Derived.Maps.OwnOps
import Derived.Maps.OwnSet
import Derived.Deep.SlicePairs
import Derived.Lib.AppendZerosOnto
import Derived.Lib.AppendStr
import Derived.Laws.CopyOwn
import Derived.OwnWalk
import Derived.Laws.Strings3
import Derived.Laws.Concat
import Derived.Lib.ItoaMem
import Derived.Deep.RegionHeld3
import Derived.IntWalk
import Derived.Sort.Grow
import Derived.Lib.LaidTab
import Derived.LaidSub
import Derived.Sort.Walk0
import Derived.Laws.OwnMore
import Derived.ArgAppend
import Derived.Shelf.Strings.OnBuilder
import Derived.Laws.Tables
import Derived.Maps.RangeWalk
import Derived.Lib.SlicesCompact
import Derived.Shelf.SlSortCmp.Insertion
import Derived.Sort.Statements
import Derived.Shelf.SlSortCmp.WholeK
import Derived.Shelf.SlSortCmp.NoneTotal
import Derived.Shelf.SortM.Plain
import Derived.Shelf.SlicesG.CompactS
import Derived.Shelf.Small.Strs
import Derived.Sort.OwnSorted
import Derived.Deep.DeepCutAuto
import Derived.Deep.CutBlock
import Derived.Deep.WholeRow
import Derived.StillTailTactics
namespace Go.Proofs.YtgmbfiikkogenaaGreatDoor
open Go.RowKit
open Go.Sort
set_option linter.unusedSimpArgs false
set_option linter.unusedVariables false

def encF (x : Fld) : List Value := [.string x.1, .string x.2]
theorem agFN (w : World) : (isAgg 46).run Tryz.prog w = .ok true w := by
  unfold isAgg; rw [Sem.run_bind, run_underlying Tryz.underlying46 w]; rfl
theorem szFN (w : World) : (Go.sizeOf 46).run Tryz.prog w = .ok 2 w := by
  obtain ⟨i0, hi, hz0, hz1, hz2⟩ := info_parts Tryz.info46
  simp [Go.sizeOf, typeInfo, hi, hz1]
set_option maxHeartbeats 1000000 in
theorem byName_any (x y : Fld) (W : World) : Calls Tryz.prog 38 #[.agg #[.string x.1, .string x.2], .agg #[.string y.1, .string y.2]] W fun e w' => e = .returned (.int .i64 (cfF x y)) ∧ ∃ q os', w' = grow (W.drewN q) os' := by
  have hcon : ∀ W', Calls Tryz.prog 63 #[.string x.1, .string y.1] W' fun e w' => e = .returned (.int .i64 (cfF x y)) ∧ w' = W' := fun W' => Any.strings_Compare Tryz.lays106 x.1 y.1 W'
  generalize cfF x y = r at *
  go_enter Tryz.func38, Tryz.ntmps38
  go_wp2_with fail
  refine (hcon _).mono ?_
  rintro e w' ⟨rfl, rfl⟩
  go_wp2_with fail
  go_ret
  exact ⟨rfl, 0, _, by rw [alloc_eq_grow, alloc_eq_grow, grow_grow]; rfl⟩
theorem cmpF (blk off size : Nat) (w : World) : CmpLays Tryz.prog 38 #[] encF 2 cfF blk off size w := fun _ _ _ _ x y => byName_any x y _
theorem holdsF {w : World} {g : Nat} {l : List Fld} (h : FldsIn w (some ⟨g, 0, none⟩) l) (hf : ∀ j, w.frozen? ⟨g, j, none⟩ = false) : HoldsK encF 2 w g 0 l.toArray := by
  intro j hj
  have hj' : j < l.length * 2 := by simpa using hj
  have hk : j / 2 < l.length := by omega
  refine ⟨?_, hf _⟩
  show w.cell? ⟨g, 0 + j, none⟩ = some ((flatK encF 2 l.toArray)[j]!)
  rw [get_flatK encF 2 l.toArray j (by simpa using hj')]
  obtain ⟨x, e, h1, h2⟩ := h (j / 2) hk
  obtain rfl := Option.some.inj e
  rw [Addr.add_lit] at h1 h2
  have hel : l.toArray[j / 2]! = l[j / 2] := by rw [getElem!_pos l.toArray (j / 2) (by simpa using hk)]; simp
  rw [hel, Nat.zero_add]
  rcases Nat.mod_two_eq_zero_or_one j with hm | hm
  · have e1 : j / 2 * 2 = j := by omega
    rw [hm]
    rw [e1, Nat.zero_add] at h1
    exact h1
  · have e1 : j / 2 * 2 + 1 = j := by omega
    rw [hm]
    rw [e1, Nat.zero_add] at h2
    exact h2
theorem holdsF_in {w : World} {g : Nat} {d : Array Fld} (h : HoldsK encF 2 w g 0 d) : FldsIn w (some ⟨g, 0, none⟩) d.toList := by
  intro j hj
  have hj' : j < d.size := by simpa using hj
  have hel : d[j]! = d.toList[j] := by rw [getElem!_pos d j hj']; simp
  refine ⟨_, rfl, ?_, ?_⟩
  · have h1 := (h (j * 2) (by simp; omega)).1
    rw [get_flatK encF 2 d (j * 2) (by omega)] at h1
    rw [Addr.add_lit, Nat.zero_add]
    rw [Nat.zero_add, show j * 2 / 2 = j by omega, show j * 2 % 2 = 0 by omega, hel] at h1
    exact h1
  · have h1 := (h (j * 2 + 1) (by simp; omega)).1
    rw [get_flatK encF 2 d (j * 2 + 1) (by omega)] at h1
    rw [Addr.add_lit, Nat.zero_add]
    rw [Nat.zero_add, show (j * 2 + 1) / 2 = j by omega, show (j * 2 + 1) % 2 = 1 by omega, hel] at h1
    exact h1
theorem grownBy_put {α : Type} [Inhabited α] {w : World} {g n : Nat} {os : Array Obj} (enc : α → Value) (d : Array α) : w.grownBy (grow (putRow enc (Sort.ahead w n) g 0 d) os) (some g) := by
  refine ⟨rfl, rfl, rfl, by simp, fun k hk hne => ?_⟩
  rw [heap_grow_old _ _ (by simpa using hk)]
  have : g ≠ k := fun e => hne (by rw [e])
  simp [putRow, mapBlock, Sort.ahead, Array.getElem?_modify, this]
theorem outN_nil {X : List Fld} (h : ∀ s, s ∈ ([] : List ByteArray) ↔ s ∈ X.map (fun f => lowS f.1)) : outN X = [] := by
  have : X = [] := by
    cases X with
    | nil => rfl
    | cons f r => have := (h (lowS f.1)).2 (by simp); cases this
  rw [this]; rfl
theorem frozen_cells {w : World} {g : Nat} {cur : Array Value} {e : TypeId} (hb : w.heap[g]? = some (.cells cur e (0, 0))) (j : Nat) : w.frozen? ⟨g, j, none⟩ = false := by simp [World.frozen?, hb]

theorem nmSortF_ok : SortFOk := by
  intro F v B w h hl
  obtain ⟨a, cap, hsh, hfl, hcap⟩ := h.shape
  obtain ⟨h1, h2⟩ := h
  rcases h2 with ⟨rfl, h0⟩ | ⟨g, cap', cur, rfl, hg, hc, hcap', hm, hsz, ht⟩
  · have hF : F = [] := List.eq_nil_of_length_eq_zero h0
    subst hF
    have hcon : Calls Tryz.prog 37 #[.slice none 0 0, .func (.func 38) #[] #[]] w fun e w' => e = .returned (.tuple #[]) ∧ w' = w := AnyF.slices_SortFunc_none Tryz.sortF none 0 _ w
    refine hcon.mono ?_
    rintro e w' ⟨rfl, rfl⟩
    exact ⟨rfl, Below.refl _ _, [], none, 0, rfl, Nat.le_refl _, ⟨FldsIn.nil _ _, fun _ => ⟨rfl, rfl⟩⟩, rfl, fun X _ hmem _ => (outN_nil hmem).symm⟩
  · injection hsh with e1 _ e3
    subst e1 e3
    have hlt := (Array.getElem?_eq_some_iff.1 hc).1
    have hH := holdsF hfl.1 (frozen_cells hc)
    have eg : ∀ args w, (callFunc 38 args).run Tryz.prog w = .ok (.enter 38 args) w := enters_of Tryz.func38 (by kernel_rfl) rfl
    have hcon : Calls Tryz.prog 37 #[.slice (some ⟨g, 0, none⟩) F.toArray.size cap', .func (.func 38) #[] #[]] w fun e w' =>
        e = .returned (.tuple #[]) ∧ ∃ d' n os, PermIn 0 F.toArray.size F.toArray d' ∧ SortedIn (ltOf cfF) 0 F.toArray.size d' ∧ w' = sortWorldK encF 2 w g 0 n d' os :=
      AnyQ.slices_SortFunc Tryz.sortF 2 agFN szFN encF (fun _ => rfl) (fun x v hv => by simp [encF] at hv; rcases hv with rfl | rfl <;> rfl) cfF swoF 38 #[] g 0 cap' F.toArray w eg (cmpF g 0 _ w) hH hlt (by simp; omega)
    rw [List.size_toArray] at hcon
    refine hcon.mono ?_
    rintro e w' ⟨rfl, d', n, os, hp, hs, rfl⟩
    have hds : d'.size = F.toArray.size := hp.1
    have hH' := holdsK_sortWorldK_c encF 2 w g 0 F.toArray d' n os hH hlt hds
    have hgr : w.grownBy (sortWorldK encF 2 w g 0 n d' os) (some g) := grownBy_put id (flatK encF 2 d')
    refine ⟨rfl, ⟨hgr.os, hgr.tape, hgr.output, hgr.size, fun k hk => hgr.block k (by omega) (fun e => by have := Option.some.inj e; omega)⟩, d'.toList, some ⟨g, 0, none⟩, cap', rfl, hcap, ⟨holdsF_in hH', fun e => by cases e⟩, by simpa using hds, fun X hn hmem hv => ?_⟩
    exact sorted_outN X F d' (by simpa using hp) (by simpa using hs) hn hmem hv

theorem holdsS {w : World} {g : Nat} {l : List ByteArray} {cur : Array Value} {e : TypeId} (hb : w.heap[g]? = some (.cells cur e (0, 0))) (ht : cur.toList.take (l.length * 1) = strV l) : Go.Sort.Holds encStr w g 0 (lsB l).toArray := by
  refine holds_of_block hb ?_
  unfold lsB at *
  rw [List.length_map]
  rw [Nat.mul_one] at ht
  rw [ht]
  unfold strV
  rw [List.map_map]
  refine List.map_congr_left fun s _ => ?_
  rfl
theorem nmSortS_ok : SortSOk := by
  intro l g cap B w h hl
  obtain ⟨h1, h2⟩ := h
  rcases h2 with ⟨e, _⟩ | ⟨g', cap', cur, e, hg, hc, hcap, hm, hsz, ht⟩
  · cases e
  · injection e with e1 _ e3
    have e1 := Option.some.inj e1
    injection e1 with e1
    subst e1 e3
    have hlt := (Array.getElem?_eq_some_iff.1 hc).1
    have hll : (lsB l).length = l.length := by unfold lsB; simp
    have hcon : Calls Tryz.prog 73 #[.slice (some ⟨g, 0, none⟩) (lsB l).length cap] w fun e w' =>
        e = .returned (.tuple #[]) ∧ ∃ n os, w' = grow (putRow encStr (Sort.ahead w n) g 0 ((lsB l).mergeSort fun x y => decide (x ≤ y)).toArray) os :=
      AnyM.slices_Sort_string Tryz.sortS g 0 cap (lsB l) w (holdsS hc ht) hlt (by omega)
    rw [hll] at hcon
    refine hcon.mono ?_
    rintro e w' ⟨rfl, n, os, rfl⟩
    have hgr : w.grownBy (grow (putRow encStr (Sort.ahead w n) g 0 ((lsB l).mergeSort fun x y => decide (x ≤ y)).toArray) os) (some g) := grownBy_put _ _
    have hheap := heap_sorted (n := n) (os := os) ((lsB l).mergeSort fun x y => decide (x ≤ y)).toArray hc
    have hzl : ((lsB l).mergeSort fun x y => decide (x ≤ y)).length = l.length := by rw [List.length_mergeSort, hll]
    have htk := take_putCells cur ((lsB l).mergeSort fun x y => decide (x ≤ y)) (by rw [hzl, hsz]; omega)
    have hres := comp_names l
    refine ⟨rfl, ⟨hgr.os, hgr.tape, hgr.output, hgr.size, fun k hk => hgr.block k (by omega) (fun e => by have := Option.some.inj e; omega)⟩, ?_⟩
    generalize grow (putRow encStr (Sort.ahead w n) g 0 ((lsB l).mergeSort fun x y => decide (x ≤ y)).toArray) os = W at *
    generalize ((lsB l).mergeSort fun x y => decide (x ≤ y)) = zs at *
    have hH : Go.Sort.Holds encStr W g 0 zs.toArray := holds_of_block hheap htk
    have hltW := (Array.getElem?_eq_some_iff.1 hheap).1
    have hcon2 : Calls Tryz.prog 74 #[.slice (some ⟨g, 0, none⟩) zs.length cap] W fun e w' =>
        e = .returned (.slice (some ⟨g, 0, none⟩) (Lib.compact zs).length cap) ∧ ∃ q, w' = putRow encStr (Sort.ahead W q) g 0 (Lib.compact zs ++ List.replicate (zs.length - (Lib.compact zs).length) []).toArray :=
      AnyG.slices_Compact_string Tryz.compS g 0 cap zs W hH (by omega) (by omega)
    rw [hzl] at hcon2
    refine hcon2.mono ?_
    rintro e w2 ⟨rfl, q, rfl⟩
    have hcz : byB (Lib.compact zs) = namesS l := by rw [← hres]; unfold Lib.compact; simp
    have hcl : (Lib.compact zs).length = (namesS l).length := by rw [← hcz]; unfold byB; simp
    have hnl := namesS_len l
    have hgr2 : W.grownBy (putRow encStr (Sort.ahead W q) g 0 (Lib.compact zs ++ List.replicate (l.length - (Lib.compact zs).length) []).toArray) (some g) := by
      have := grownBy_put (w := W) (g := g) (n := q) (os := #[]) encStr (Lib.compact zs ++ List.replicate (l.length - (Lib.compact zs).length) []).toArray
      rwa [grow_empty] at this
    refine ⟨by rw [hcl], ⟨hgr2.os, hgr2.tape, hgr2.output, hgr2.size, fun k hk => hgr2.block k (by omega) (fun e => by have := Option.some.inj e; omega)⟩, fun j hj => ?_, by omega, fun e => by cases e⟩
    have hj2 : j < (Lib.compact zs).length := by omega
    have hc3 := cell?_putRow encStr (Sort.ahead W q) g 0 zs.toArray (Lib.compact zs ++ List.replicate (l.length - (Lib.compact zs).length) []).toArray hH (by simp; omega) j (by simp; omega)
    refine ⟨_, rfl, ?_⟩
    rw [Addr.add_lit, hc3, getElem!_pos _ j (by simp; omega)]
    have e1 : (Lib.compact zs ++ List.replicate (l.length - (Lib.compact zs).length) []).toArray[j]'(by simp; omega) = (Lib.compact zs)[j] := by
      simp [List.getElem_append_left hj2]
    rw [e1]
    have e2 : (namesS l)[j] = ⟨(Lib.compact zs)[j].toArray⟩ := by
      have : (byB (Lib.compact zs))[j]'(by unfold byB; simpa using hj2) = ⟨(Lib.compact zs)[j].toArray⟩ := by unfold byB; simp
      rw [← this]
      congr 1
      exact hcz.symm
    rw [e2]
end Go.Proofs.YtgmbfiikkogenaaGreatDoor
namespace Go.Proofs.YtgmbfiikkogenaaGreatDoor
open Go.RowKit
set_option linter.unusedVariables false

/-- Fields of no more than so many bytes. -/
def MedF (l : List Fld) : Prop := (∀ f ∈ l, f.1.size ≤ 100000000 ∧ f.2.size ≤ 100000000) ∧ l.length ≤ 1000 ∧ total (valuesL l cnN) ≤ 3000000000
theorem MedF.short {l : List Fld} (h : MedF l) : ShortF l := fun f hf => by have := h.1 f hf; unfold maxLen; omega
theorem total_valuesM {x : List Fld} (h : ∀ f ∈ x, f.1.size ≤ 100000000 ∧ f.2.size ≤ 100000000) (n : ByteArray) : total (valuesL x n) ≤ x.length * 100000001 := by
  unfold valuesL
  induction x with
  | nil => exact Nat.zero_le _
  | cons f t ih =>
    have h1 := ih (fun g hg => h g (List.mem_cons_of_mem _ hg))
    have h2 := (h f (List.mem_cons_self ..)).2
    clear h ih
    rw [List.filter_cons, List.length_cons, Nat.add_mul, Nat.one_mul]
    split
    · simp only [List.map_cons, total]
      exact Nat.le_trans (Nat.add_le_add (Nat.add_le_add_right h2 1) h1) (Nat.le_of_eq (Nat.add_comm _ _))
    · exact Nat.le_trans h1 (Nat.le_add_right _ _)
theorem MedF.totals {l : List Fld} (h : MedF l) (n : ByteArray) : total (valuesL l n) ≤ 70000000000000 := by
  exact Nat.le_trans (total_valuesM h.1 n) (Nat.le_trans (Nat.mul_le_mul_right _ h.2.1) (by decide))
theorem medF_small {l : List Fld} (h : SmallF l) (hl : l.length ≤ 1000) : MedF l :=
  ⟨fun f hf => by have := h f hf; omega, hl, by have := small_total h hl cnN; omega⟩
theorem fieldsN_len (l : List Fld) (ig : List ByteArray) : (fieldsN l ig).length ≤ l.length := by
  have h1 := outN_len (keptN l ig)
  have h2 : (keptN l ig).length ≤ l.length := Nat.le_trans (withoutL_len _ _) (Nat.le_trans (withoutL_len _ _) (stripL_len _))
  unfold fieldsN
  omega

theorem nFields_any (l : List Fld) (ig : List ByteArray) (a b : Option Addr) (cap cb : Nat) (w : World) (mm : Int) (hmx : MaxOk w mm) (h : FldsC w a l cap) (hc : l.length ≤ cap) (hm : MedF l) (hi : StrsC w b ig cb) (hiz : ∀ x ∈ ig, x.size ≤ maxLen) (hil : ig.length ≤ 1000) :
    Calls Tryz.prog 23 #[.slice a l.length cap, .slice b ig.length cb] w (RetFldC w (fieldsN l ig)) :=
  nmFields_any nmSortF_ok l ig a b cap cb w mm h.1 hm.short (by have := hm.2.1; omega) hmx hm.2.2 hm.totals hi hiz (by omega)
end Go.Proofs.YtgmbfiikkogenaaGreatDoor
namespace Go.Proofs.YtgmbfiikkogenaaGreatDoor
open Go.RowKit
set_option linter.unusedSimpArgs false
set_option linter.unusedVariables false

theorem refFields_eq {l r : List Fld} {ig : List ByteArray} {a b : Option Addr} {cap cb : Nat} (w : World) (h : FldsC w a l cap) (hm : MedF l) (hi : StrsC w b ig cb) (hiz : ∀ x ∈ ig, x.size ≤ maxLen) (hil : ig.length ≤ 1000) (hr : fieldsN l ig = r) :
    Calls Tryz.prog 25 #[.slice a l.length cap, .slice b ig.length cb] w (RetFldC w r) := by
  subst hr
  exact refFields_any l ig a b cap cb w h.1 hm.short (by have := hm.2.1; omega) hm.2.2 hm.totals hi.1 hiz (by omega)
theorem StrsC.none (w : World) : StrsC w none [] 0 := ⟨StrsIn.nil _ _, Nat.le_refl _, fun _ => rfl⟩
set_option maxHeartbeats 400000 in
theorem sameIn_any (x y : List ByteArray) (a b : Option Addr) (ca cb : Nat) (w : World) (hx : StrsIn w a x) (hy : StrsIn w b y) (_hxl : x.length ≤ 8796093022208) (_hyl : y.length ≤ 8796093022208) :
    Calls Tryz.prog 27 #[.slice a x.length ca, .slice b y.length cb] w fun e w' => e = .returned (.bool (sameS x y)) ∧ Below w.heap.size w w' := by
  have HX := Lib.hid hx
  have HY := Lib.hid hy
  clear hx hy
  go_enter Tryz.func27, Tryz.ntmps27
  by_cases hl : x.length = y.length
  · have HL := Lib.hid hl
    have hl1 : ((x.length : Int) != (y.length : Int)) = false := by simp [hl]
    have hl2 : x.length ≤ y.length := by omega
    clear hl
    go_wp2
    go_loopw [5] (fun i wr => ∃ k : Nat, k ≤ x.length ∧ i = .int .i64 k ∧ Hid (∀ j (h1 : j < x.length) (h2 : j < y.length), j < k → x[j] = y[j]) ∧ Hid (Below w.heap.size w wr)) (fun i _ => x.length - (intOf i).toNat)
    case atStart => exact ⟨0, Nat.zero_le _, rfl, Lib.hid (by intro j _ _ h; omega), Lib.hid (Below.refl _ _)⟩
    case round =>
      obtain ⟨k, hk, rfl, HP, HB⟩ := hrel
      by_cases hlt : k < x.length
      · have hlt2 : k < y.length := by omega
        obtain ⟨x1, rfl, c1⟩ := (HX.out.keep HB.out) k hlt
        obtain ⟨x2, rfl, c2⟩ := (HY.out.keep HB.out) k hlt2
        by_cases he : x[k] = y[k]
        · have ht : (x[k].toList == y[k].toList) = true := by rw [toList_eq]; simp [he]
          have HE := Lib.hid he
          clear he
          go_wp2_with fail
          go_quiet (fail)
          go_wp2
          go_roundw
          case rel => exact ⟨k + 1, by omega, by go_num, Lib.hid (by
            intro j h1 h2 hj
            by_cases e : j = k
            · subst e; exact HE.out
            · exact HP.out j h1 h2 (by omega)), Lib.hid (below_drewN HB.out _)⟩
          case measure => simp [intOf]; omega
        · have ht : (x[k].toList == y[k].toList) = false := by rw [toList_eq]; simp [he]
          have HE := Lib.hid he
          clear he
          go_wp2_with fail
          go_quiet (fail)
          go_wp2
          go_ret
          exact ⟨ret_bool (sameS_no hlt hlt2 HE.out).symm, below_drewN HB.out _⟩
      · go_wp2
        go_ret
        exact ⟨ret_bool (sameS_yes HL.out (fun j h1 h2 => HP.out j h1 h2 (by omega))).symm, HB.out⟩
  · have HL := Lib.hid hl
    have hl1 : ((x.length : Int) != (y.length : Int)) = true := by simp; omega
    clear hl
    go_wp2
    go_ret
    exact ⟨ret_bool (sameS_len HL.out).symm, Below.refl _ _⟩

theorem sameIn_self (x : List ByteArray) (a b : Option Addr) (ca cb : Nat) (w : World) (hx : StrsIn w a x) (hy : StrsIn w b x) (h : x.length ≤ 8796093022208) :
    Calls Tryz.prog 27 #[.slice a x.length ca, .slice b x.length cb] w fun e w' => e = .returned (.bool true) ∧ Below w.heap.size w w' := by
  refine (sameIn_any x x a b ca cb w hx hy h h).mono ?_
  rintro e w' ⟨rfl, hb⟩
  exact ⟨by unfold sameS; simp, hb⟩
theorem sameFlds_self (x : List Fld) (a b : Option Addr) (ca cb : Nat) (w : World) (hx : FldsIn w a x) (hy : FldsIn w b x) (h : x.length ≤ 2000000) :
    Calls Tryz.prog 22 #[.slice a x.length ca, .slice b x.length cb] w fun e w' => e = .returned (.bool true) ∧ Below w.heap.size w w' := by
  refine (sameFields_any x x a b ca cb w hx hy h h).mono ?_
  rintro e w' ⟨rfl, hb⟩
  exact ⟨by rw [sameF_self], hb⟩

end Go.Proofs.YtgmbfiikkogenaaGreatDoor
namespace Go.Proofs.YtgmbfiikkogenaaGreatDoor
open Go.RowKit

/-- A plan. -/
structure Pl where
  ws : List Int
  ms : Int
  num : Int
  den : Int
  hold : Int
  win : Int
/-- The first k weights ascend. -/
def ascK (l : List Int) : Nat → Bool
  | 0 => true
  | k + 1 => ascK l k && (decide (1 ≤ l.getD k 0) && decide (l.getD k 0 ≤ 10000) && (decide (k = 0) || decide (l.getD (k - 1) 0 < l.getD k 0)))
def Pl.nums (p : Pl) : Prop := 1 ≤ p.ws.length ∧ p.ws.length ≤ 8 ∧ 1 ≤ p.ms ∧ p.ms ≤ 1000000 ∧ 0 ≤ p.num ∧ p.num ≤ 1000000 ∧ 1 ≤ p.den ∧ p.den ≤ 1000000 ∧ 1 ≤ p.hold ∧ p.hold ≤ 100 ∧ 1 ≤ p.win ∧ p.win ≤ 1000000
instance (p : Pl) : Decidable p.nums := by unfold Pl.nums; infer_instance
def Pl.ok (p : Pl) : Bool := decide p.nums && ascK p.ws p.ws.length
end Go.Proofs.YtgmbfiikkogenaaGreatDoor
namespace Go.Proofs.YtgmbfiikkogenaaGreatDoor
open Go.RowKit

/-- Block g is a variable with these cells. -/
def VarA (w : World) (g : Nat) (cs : Array Value) (t : TypeId) : Prop := w.heap[g]? = some (.cells cs t (0, 0))
theorem VarA.lt {w : World} {g : Nat} {cs : Array Value} {t : TypeId} (h : VarA w g cs t) : g < w.heap.size := (Array.getElem?_eq_some_iff.1 h).1
theorem VarA.keep {w w' : World} {g : Nat} {cs : Array Value} {t : TypeId} (h : VarA w g cs t) (hb : Below w.heap.size w w') : VarA w' g cs t := by
  have := h.lt
  unfold VarA at *
  rw [hb.block g this]; exact h
theorem VarA.cell {w : World} {g i : Nat} {cs : Array Value} {t : TypeId} {v : Value} (h : VarA w g cs t) (hv : cs[i]? = some v) : w.cell? ⟨g, i, none⟩ = some v := by
  rw [cell_of_row _ _ _ _ _ _ h]; exact hv
theorem VarA.frozen {w : World} {g i : Nat} {cs : Array Value} {t : TypeId} (h : VarA w g cs t) : w.frozen? ⟨g, i, none⟩ = false := by
  unfold VarA at h; simp [World.frozen?, h]
theorem VarA.set {w : World} {g i : Nat} {cs : Array Value} {t : TypeId} {v : Value} (h : VarA w g cs t) : VarA (w.setCell ⟨g, i, none⟩ v) g (cs.setIfInBounds i v) t := by
  unfold VarA; rw [heap_setCell_same _ _ _ _ _ _ h]
theorem VarA.other {w : World} {g : Nat} {cs : Array Value} {t : TypeId} {x : Addr} {v : Value} (h : VarA w g cs t) (hne : g ≠ x.block) : VarA (w.setCell x v) g cs t := by
  unfold VarA; rw [heap_setCell_other _ _ _ _ hne]; exact h
theorem VarA.new (w : World) (cs : Array Value) (t : TypeId) : VarA (w.alloc (.cells cs t)) w.heap.size cs t := heap_alloc_new _ _
theorem VarA.below {w : World} {g : Nat} {cs : Array Value} {t : TypeId} (h : VarA w g cs t) (o : Obj) : VarA (w.alloc o) g cs t := h.keep (below_oneF _ _)

theorem VarA.row_other {w : World} {g j : Nat} {cs u : Array Value} {t : TypeId} (h : VarA w g cs t) (hne : g ≠ j) : VarA (w.setRow j u) g cs t := by
  unfold VarA at *
  rw [setRow_other _ _ _ _ hne]; exact h
theorem VarA.row {w : World} {g : Nat} {cs : Array Value} {t : TypeId} (h : VarA w g cs t) : ∀ (j : Nat) (v : Value), cs[j]? = some v → w.cell? ((⟨g, 0, none⟩ : Addr).add j) = some v := fun j v hv => by
  rw [Addr.add_lit, Nat.zero_add]; exact h.cell hv

/-- A window. -/
structure Wn where
  tot : Int
  err : Int
  age : Int
def Wn.cells (v : Wn) : Array Value := #[.int .i64 v.tot, .int .i64 v.err, .int .i64 v.age]
def Wn.fits (v : Wn) : Prop := 0 ≤ v.tot ∧ v.tot ≤ 1000000000 ∧ 0 ≤ v.err ∧ v.err ≤ 1000000000
instance (v : Wn) : Decidable v.fits := by unfold Wn.fits; infer_instance
def verdV (p : Pl) (v : Wn) : Int := if p.ok = true ∧ v.fits then (if v.tot < p.ms then 1 else if p.num * v.tot < v.err * p.den then 3 else 2) else 0
end Go.Proofs.YtgmbfiikkogenaaGreatDoor
namespace Go.Proofs.YtgmbfiikkogenaaGreatDoor
open Go.RowKit

theorem bnot_and31 (n : Nat) (h0 : 0 < n) (hn : n < 32) : bits .and .u64 (18446744073709551616 - (n : Int)) 31 = ((32 - n : Nat) : Int) := by
  have e : (18446744073709551616 - (n : Int)) = ((18446744073709551616 - n : Nat) : Int) := by omega
  rw [e, show (31 : Int) = ((31 : Nat) : Int) by rfl, bits_and_u64_nat _ _ (by omega) (by decide), show 31 = 2 ^ 5 - 1 by decide, Nat.and_two_pow_sub_one_eq_mod]
  have : (18446744073709551616 - n) % 2 ^ 5 = 32 - n := by omega
  rw [this]
theorem wrap_neg (n : Nat) (h0 : 0 < n) (hn : n < 32) : IntKind.u64.wrap (-(n : Int)) = 18446744073709551616 - (n : Int) := by
  rw [IntKind.wrap_u64]; omega

theorem rot_bits (x : UInt32) (n : Nat) (h0 : 0 < n) (hn : n < 32) : bits BinOp.or IntKind.u32 (vU x / 2 ^ n) (vU x * 2 ^ (32 - n) % 4294967296) = vU (rotr x n) := by
  rw [vU_shr' x n hn, vU_shl' x (32 - n) (by omega), vU_or]; rfl
theorem rot_bits' (x : UInt32) (n : Nat) (h0 : 0 < n) (hn : n < 32) : bits BinOp.or IntKind.u32 (vU x * 2 ^ (32 - n) % 4294967296) (vU x / 2 ^ (32 - (32 - n))) = vU (rotr x n) := by
  rw [show 32 - (32 - n) = n by omega, vU_shr' x n hn, vU_shl' x (32 - n) (by omega), vU_or, UInt32.or_comm]; rfl

set_option maxHeartbeats 400000 in
theorem rotl_any (x : UInt32) (n : Nat) (z : Int) (hz : z = -(n : Int)) (h0 : 0 < n) (hn : n < 32) (w : World) :
    Calls Tryz.prog 107 #[.int .u32 (vU x), .int .i64 z] w fun e w' => e = .returned (.int .u32 (vU (rotr x n))) ∧ w = w' := by
  subst hz
  have h1 := bnot_and31 n h0 hn
  have h2 := wrap_neg n h0 hn
  go_enter Tryz.func107, Tryz.ntmps107
  go_wp2
  go_ret
  exact ⟨ret_int (rot_bits' x n h0 hn), rfl⟩

set_option maxHeartbeats 400000 in
theorem right_any (x : UInt32) (n : Nat) (h0 : 0 < n) (hn : n < 32) (w : World) :
    Calls Tryz.prog 70 #[.int .u32 (vU x), .int .i64 n] w fun e w' => e = .returned (.int .u32 (vU (rotr x n))) ∧ ∃ m, w' = w.drewN m := by
  go_enter Tryz.func70, Tryz.ntmps70
  go_wp2_with fail
  go_quiet (fail)
  go_wp2
  go_ret
  exact ⟨ret_int (rot_bits x n h0 hn), _, rfl⟩

set_option maxHeartbeats 400000 in
theorem turned_any (x : UInt32) (i j k : Nat) (z1 z2 z3 : Int) (e1 : z1 = (i : Int)) (e2 : z2 = (j : Int)) (e3 : z3 = (k : Int)) (hi : 0 < i ∧ i < 32) (hj : 0 < j ∧ j < 32) (hk : 0 < k ∧ k < 32) (w : World) :
    Calls Tryz.prog 94 #[.int .u32 (vU x), .int .i64 z1, .int .i64 z2, .int .i64 z3] w fun e w' => e = .returned (.int .u32 (vU (sum3 x i j k))) ∧ w = w' := by
  subst e1 e2 e3
  obtain ⟨hi0, hi⟩ := hi
  obtain ⟨hj0, hj⟩ := hj
  obtain ⟨hk0, hk⟩ := hk
  have hx := vU_xor
  go_enter Tryz.func94, Tryz.ntmps94
  go_wp2_with fail
  refine (rotl_any x i _ (by omega) hi0 hi w).mono ?_
  rintro e w1 ⟨rfl, rfl⟩
  go_wp2_with fail
  refine (rotl_any x j _ (by omega) hj0 hj w).mono ?_
  rintro e w1 ⟨rfl, rfl⟩
  go_wp2_with fail
  refine (rotl_any x k _ (by omega) hk0 hk w).mono ?_
  rintro e w1 ⟨rfl, rfl⟩
  go_wp2_with fail
  go_ret
  exact ⟨ret_int (by unfold sum3; first | rfl | simp only [vU_xor]), rfl⟩

theorem zero8 : (Tryz.prog.info? 74).map (fun i => (i.zero, i.size)) = some (some (.agg #[.int .u32 0, .int .u32 0, .int .u32 0, .int .u32 0, .int .u32 0, .int .u32 0, .int .u32 0, .int .u32 0]), 8) := by kernel_rfl
def zeros64 : Array Value := (List.replicate 64 (Value.int .u32 0)).toArray
theorem zero64 : (Tryz.prog.info? 109).map (fun i => (i.zero, i.size)) = some (some (.agg zeros64), 64) := by kernel_rfl
def zeroBlk : Array Value := (List.replicate 64 (Value.int .u8 0)).toArray
theorem zeroB64 : (Tryz.prog.info? 104).map (fun i => (i.zero, i.size)) = some (some (.agg zeroBlk), 64) := by kernel_rfl
def dzero : Array Value := #[.int .u32 0, .int .u32 0, .int .u32 0, .int .u32 0, .int .u32 0, .int .u32 0, .int .u32 0, .int .u32 0, .int .i64 0, .slice none 0 0]
/-- A digest's state as the code holds it. -/
def digV (s : St) (n : Int) (t : Value) : Array Value := #[vW s.a, vW s.b, vW s.c, vW s.d, vW s.e, vW s.f, vW s.g, vW s.h, .int .i64 n, t]
theorem digV_one (s : St) (n : Int) (a : Option Addr) (l c : Nat) : (digV s n (.slice a l c)).all (·.oneCell') = true := by
  unfold digV vW; simp [Value.oneCell']

theorem ret_row {P : Program} {fn : Func} {R : Ending → World → Prop} {a : Act} {w : World} {p : Tmp} {ty t : TypeId} {g : Nat} {cs : Array Value} {fr : Nat × Nat} {d : TypeDesc}
    (h : fn.results = #[.cell p ty]) (hd : a.defers = []) (hp : a.tmps.getD p undef = .pointer (some ⟨g, 0, none⟩)) (hg : w.heap[g]? = some (.cells cs t fr))
    (hu : P.underlying ty = some d) (hs : (match d with | .struct _ | .array _ _ => true | _ => false) = true) (hi : (P.info? ty).map (·.size) = some cs.size) (hR : R (.returned (.agg cs)) w) : bodyPost P fn R .ret a w :=
  bodyPost_ret (results_cell_row h _ _ g t cs fr d hp hg hu hs hi) hd hR

theorem initS_cells : initS.cells = #[.int .u32 1779033703, .int .u32 3144134277, .int .u32 1013904242, .int .u32 2773480762, .int .u32 1359893119, .int .u32 2600822924, .int .u32 528734635, .int .u32 1541459225] := by kernel_rfl
def kkV : Array Value := (kk.map vW).toArray
set_option maxHeartbeats 400000 in
theorem initial_any (w : World) :
    Calls Tryz.prog 48 #[] w fun e w' => e = .returned (.agg initS.cells) ∧ Below w.heap.size w w' := by
  go_enter Tryz.func48, Tryz.ntmps48
  go_wp2_with fail
  (try simp only [Exit.inBlock, Exit.then])
  exact ret_row rfl rfl rfl (heap_alloc_new _ _) Tryz.underlying74 rfl (by kernel_rfl) ⟨by rw [initS_cells], (Below.refl _ _).alloc (Nat.le_refl _) _⟩

section
variable {P : Program} {ops : Array Oper} {rest : List Oper} {o : Oper} {a : Act} {w : World} {Q : Exit → Act → World → Prop}
theorem wpList_build_to (hg : o.guard = none) (t : TypeId) (parts : Array (Nat × Operand)) (ho : o.op = .build t parts) {cells : Array Value}
    (hf : P.built t (parts.map fun (i, x) => (i, a.eval x)).toList = some cells) (h : wpList P ops Q rest (a.put o.dst (.agg cells)) w) : wpList P ops Q (o :: rest) a w :=
  wpList_build hg t parts ho (by rw [hf]; rfl) (by rw [hf]; exact h)
end
theorem kkV_size : kkV.size = 64 := by kernel_rfl
theorem kkV_one : kkV.all (·.oneCell') = true := by kernel_rfl
theorem zeros64_ne : ¬ zeros64 = #[] := by intro h; have := congrArg Array.size h; revert this; decide
theorem zeroBlk_ne : ¬ zeroBlk = #[] := by intro h; have := congrArg Array.size h; revert this; decide
theorem size64 : (Tryz.prog.info? 109).map (·.size) = some 64 := by kernel_rfl
theorem sizeB64 : (Tryz.prog.info? 104).map (·.size) = some 64 := by kernel_rfl
theorem size8 : (Tryz.prog.info? 74).map (·.size) = some 8 := by kernel_rfl
theorem sizeDig : (Tryz.prog.info? 76).map (·.size) = some 10 := by kernel_rfl

set_option maxRecDepth 100000 in
set_option maxHeartbeats 1000000 in
theorem constants_any (w : World) :
    Calls Tryz.prog 71 #[] w fun e w' => e = .returned (.agg kkV) ∧ Below w.heap.size w w' := by
  have hz := (zero_of_info (P := Tryz.prog) zero64).1
  have hne := zeros64_ne
  go_enter Tryz.func71, Tryz.ntmps71
  go_wp2_with (first
    | (refine wpList_build_to (cells := kkV) rfl 109 _ rfl (by kernel_rfl) ?_)
    | (refine wpList_store_row rfl 109 _ _ rfl w.heap.size kkV rfl rfl _ zeros64 (heap_alloc_new _ _) (by rw [kkV_size]; exact size64) rfl kkV_one ?_))
  (try simp only [Exit.inBlock, Exit.then])
  refine ret_row rfl rfl rfl (setRow_heap _ _ _ _ _ _ (heap_alloc_new _ _)) Tryz.underlying109 rfl (by rw [kkV_size]; exact size64) ⟨rfl, ?_⟩
  exact below_setRow ((Below.refl _ _).alloc (Nat.le_refl _) _) (Nat.le_refl _) _

/-- The cells cs lie at the beginning of block g. -/
def RowAt (w : World) (g : Nat) (cs : Array Value) : Prop := ∀ j v, cs.toList[j]? = some v → w.cell? ⟨g, j, none⟩ = some v
theorem RowAt.of {w : World} {g : Nat} {cs : Array Value} {t : TypeId} {fr : Nat × Nat} (h : w.heap[g]? = some (.cells cs t fr)) : RowAt w g cs := fun j v hj => by
  rw [cell_of_row w g j cs t fr h]; simpa using hj
theorem RowAt.keep {w w' : World} {g : Nat} {cs : Array Value} (h : RowAt w g cs) (hb : Below w.heap.size w w') : RowAt w' g cs := fun j v hj => below_cell hb (h j v hj)
section
variable {P : Program} {ops : Array Oper} {rest : List Oper} {o : Oper} {a : Act} {w : World} {Q : Exit → Act → World → Prop}
theorem run_loadVar_at (w : World) (g : Nat) (ty : TypeId) (cs : Array Value) (d : TypeDesc) (hg : RowAt w g cs)
    (hu : P.underlying ty = some d) (hd : (match d with | .struct _ | .array _ _ => true | _ => false) = true) (hi : (P.info? ty).map (·.size) = some cs.size) :
    (loadVar ty ⟨g, 0, none⟩).run P w = .ok (.agg cs) w := by
  have hl : (loadCells ⟨g, 0, none⟩ cs.toList.length).run P w = .ok cs.toList.toArray w :=
    run_loadCells_list (P := P) w ⟨g, 0, none⟩ cs.toList (fun j v hv => by
      have hadd : (⟨g, 0, none⟩ : Addr).add j = ⟨g, j, none⟩ := by unfold Addr.add; split <;> simp_all
      rw [hadd]
      exact hg j v hv)
  cases hq : P.info? ty with
  | none => simp [hq] at hi
  | some i =>
    have hs : i.size = cs.size := by simpa [hq] using hi
    have hagg : (isAgg ty).run P w = .ok true w := by
      unfold isAgg
      rw [Sem.run_bind, run_underlying hu w]
      cases d <;> simp_all
    simp only [Array.length_toList, Array.toArray_toList] at hl
    simp [loadVar, Sem.run_bind, hagg, sizeOf, typeInfo, hq, hs, hl]
theorem wpList_load_at (hgd : o.guard = none) (ty : TypeId) (x : Operand) (ho : o.op = .load ty x)
    (g : Nat) (hx : a.eval x = .pointer (some ⟨g, 0, none⟩)) (cs : Array Value) (d : TypeDesc) (hg : RowAt w g cs)
    (hu : P.underlying ty = some d) (hd : (match d with | .struct _ | .array _ _ => true | _ => false) = true) (hi : (P.info? ty).map (·.size) = some cs.size)
    (h : wpList P ops Q rest (a.put o.dst (.agg cs)) w) : wpList P ops Q (o :: rest) a w :=
  wpList_plain hgd fun K hK => by
    unfold Oper.wp execOp
    simp only [ho, hx, Instr.loadAt, Instr.sureAddr, Sem.run_bind, Sem.run_pure, Result.andThen_ok, run_loadVar_at w g ty cs d hg hu hd hi]
    exact hK _ _ h
end
theorem alloc_cell_keep {w : World} {g : Nat} {cs : Array Value} (h : RowAt w g cs) (o : Obj) : RowAt (w.alloc o) g cs := h.keep ((Below.refl _ _).alloc (Nat.le_refl _) _)

set_option maxHeartbeats 400000 in
theorem digStart_any (w : World) (hg : RowAt w 0 initS.cells) :
    Calls Tryz.prog 39 #[] w fun e w' => e = .returned (.agg (digV initS 0 (.slice none 0 0))) ∧ Below w.heap.size w w' := by
  have HG := Lib.hid (alloc_cell_keep hg (.cells #[.int .u32 0, .int .u32 0, .int .u32 0, .int .u32 0, .int .u32 0, .int .u32 0, .int .u32 0, .int .u32 0, .int .i64 0, .slice none 0 0] 76))
  clear hg
  have hsn := run_storeCells_new (P := Tryz.prog) w 76 #[.int .u32 0, .int .u32 0, .int .u32 0, .int .u32 0, .int .u32 0, .int .u32 0, .int .u32 0, .int .u32 0, .int .i64 0, .slice none 0 0] (digV initS 0 (.slice none 0 0)) sizeDig rfl (digV_one _ _ _ _ _)
  go_enter Tryz.func39, Tryz.ntmps39
  go_wp2_with (first
    | (refine wpList_load_at rfl 74 _ rfl _ rfl initS.cells _ HG.out Tryz.underlying74 rfl (by kernel_rfl) ?_)
    | (refine wpList_build_to (cells := digV initS 0 (.slice none 0 0)) rfl 76 _ rfl (by kernel_rfl) ?_))
  (try simp only [Exit.inBlock, Exit.then])
  exact ret_row (g := w.heap.size) (cs := digV initS 0 (.slice none 0 0)) rfl rfl rfl (heap_alloc_new _ _) Tryz.underlying76 rfl sizeDig ⟨rfl, (Below.refl _ _).alloc (Nat.le_refl _) _⟩
end Go.Proofs.YtgmbfiikkogenaaGreatDoor
namespace Go.Proofs.YtgmbfiikkogenaaGreatDoor
open Go.RowKit

def wordsV (l : List UInt32) : Array Value := (l.map vW).toArray
theorem wordsV_size (l : List UInt32) : (wordsV l).size = l.length := by unfold wordsV; simp
theorem wordsV_at (l : List UInt32) (j : Nat) (hj : j < l.length) : (wordsV l)[j]? = some (vW l[j]) := by unfold wordsV; simp [hj]
theorem wordsV_set (l : List UInt32) (j : Nat) (x : UInt32) : (wordsV l).setIfInBounds j (vW x) = wordsV (l.set j x) := by
  unfold wordsV
  apply Array.ext'
  simp [List.map_set]
theorem wordsV_zeros : zeros64 = wordsV (List.replicate 64 0) := by kernel_rfl
def blkV (b : List UInt8) : Array Value := (bytesV b).toArray

/-- The words ws lie in block g, a block made since w0. -/
def Words (w0 wr : World) (g : Nat) (ws : List UInt32) : Prop := wr.heap[g]? = some (.cells (wordsV ws) 109 (0, 0)) ∧ Below g w0 wr
theorem Words.cell {w0 wr : World} {g : Nat} {ws : List UInt32} (h : Words w0 wr g ws) (j : Nat) (hj : j < ws.length) : wr.cell? ⟨g, j, none⟩ = some (.int .u32 (vU ws[j])) := by
  rw [cell_of_row _ _ _ _ _ _ h.1, wordsV_at _ _ hj]; rfl
theorem Words.cell' {w0 wr : World} {g : Nat} {ws : List UInt32} (h : Words w0 wr g ws) (j : Nat) {x : UInt32} (hx : Hid (ws[j]? = some x)) : wr.cell? ⟨g, j, none⟩ = some (.int .u32 (vU x)) := by
  obtain ⟨hj, rfl⟩ := List.getElem?_eq_some_iff.1 hx.out
  exact h.cell j hj
theorem Words.drawn {w0 wr : World} {g : Nat} {ws : List UInt32} (h : Words w0 wr g ws) (n : Nat) : Words w0 (wr.drewN n) g ws :=
  ⟨h.1, h.2.os, h.2.tape, h.2.output, h.2.size, h.2.block⟩
theorem Words.drew1 {w0 wr : World} {g : Nat} {ws : List UInt32} (h : Words w0 wr g ws) : Words w0 { wr with drawn := wr.drawn + 1 } g ws := h.drawn 1
theorem Words.frozen {w0 wr : World} {g : Nat} {ws : List UInt32} (h : Words w0 wr g ws) (j : Nat) : wr.frozen? ⟨g, j, none⟩ = false := frozen_of_row _ _ _ _ _ h.1
theorem Words.set {w0 wr : World} {g : Nat} {ws : List UInt32} (h : Words w0 wr g ws) (j : Nat) (x : UInt32) : Words w0 (wr.setCell ⟨g, j, none⟩ (.int .u32 (vU x))) g (ws.set j x) :=
  ⟨by rw [heap_setCell_same _ _ _ _ _ _ h.1, ← wordsV_set]; rfl, h.2.setCell (p := ⟨g, j, none⟩) (Nat.le_refl _) _⟩
theorem Words.old {w0 wr : World} {g k : Nat} {ws : List UInt32} (h : Words w0 wr g ws) (hk : k < g) {j : Nat} {v : Value} (hc : w0.cell? ⟨k, j, none⟩ = some v) : wr.cell? ⟨k, j, none⟩ = some v := by
  rw [← hc]; simp only [World.cell?]; rw [h.2.block k hk]

theorem w4_snoc (l : List UInt8) (k : Nat) (hk : k < l.length) : w4 (l.take (k + 1)) = (w4 (l.take k) <<< 8) ||| l[k].toUInt32 := by
  unfold w4
  rw [List.take_succ_eq_append_getElem hk, List.foldl_append]; rfl
theorem vU_shl8 (x : UInt32) : vU x * (256 : Int) % (4294967296 : Int) = vU (x <<< 8) := vU_shl' x 8 (by decide)
theorem vU_byte (c : UInt8) : ((c.toNat : Nat) : Int) = vU c.toUInt32 := by unfold vU; simp

theorem getD_zeros (n j : Nat) : (List.replicate n (0 : UInt32)).getD j 0 = 0 := by
  rw [List.getD_eq_getElem?_getD, List.getElem?_replicate]; split <;> rfl
theorem sizeOf_u8 (W : World) : (sizeOf 5).run Tryz.prog W = .ok 1 W := by
  have h := Tryz.info5
  cases hq : Tryz.prog.info? 5 with
  | none => simp [hq] at h
  | some i => simp [hq] at h; simp [sizeOf, typeInfo, hq, h]
theorem run_slice_blk (W : World) (g l h : Nat) (zl zh : Int) (hzl : zl = l) (hzh : zh = h) (hlh : l < h) (hh : h ≤ 64) :
    (Instr.sliceAt 104 (.pointer (some ⟨g, 0, none⟩)) (some (.int .i64 zl)) (some (.int .i64 zh)) none).run Tryz.prog W = .ok (.slice (some ⟨g, l, none⟩) (h - l) (64 - l)) W := by
  subst hzl hzh
  have e64 : Tryz.prog.arrayLen 104 = 64 := by kernel_rfl
  have es : (sizeOf (Tryz.prog.elem 104)).run Tryz.prog W = .ok 1 W := by rw [show Tryz.prog.elem 104 = 5 by kernel_rfl]; exact sizeOf_u8 W
  rw [run_sliceAt_array_lh W 104 ⟨g, 0, none⟩ (by kernel_rfl) .i64 .i64 (l : Int) (h : Int) (by omega) (by omega) (by rw [e64]; omega), es, e64]
  simp only [Result.andThen, slicedAt, Int.toNat_natCast, Nat.mul_one]
  rw [if_neg (by omega), Addr.add_lit, Nat.zero_add]
theorem vU_or_byte (x : UInt32) (c : UInt8) : bits .or .u32 (vU x) ((c.toNat : Nat) : Int) = vU (x ||| c.toUInt32) := by rw [vU_byte, vU_or]
theorem vU_or_byte' (x : UInt32) (c : UInt8) : bits .or .u32 (vU x) (((c.toNat : Nat) : Int) % (4294967296 : Int)) = vU (x ||| c.toUInt32) := by
  have : ((c.toNat : Nat) : Int) % (4294967296 : Int) = (c.toNat : Nat) := by have := c.toNat_lt; omega
  rw [this, vU_or_byte]
theorem rotl_still (x : UInt32) (n : Nat) (z : Int) (hz : z = -(n : Int)) (h0 : 0 < n) (hn : n < 32) (w : World) :
    Calls Tryz.prog 107 #[.int .u32 (vU x), .int .i64 z] w fun e w' => e = .returned (.int .u32 (vU (rotr x n))) ∧ w' = w :=
  (rotl_any x n z hz h0 hn w).mono fun _ _ h => ⟨h.1, h.2.symm⟩
theorem vU_shr3 (x : UInt32) : vU x / (8 : Int) = vU (x >>> 3) := vU_shr' x 3 (by decide)
theorem vU_shr10 (x : UInt32) : vU x / (1024 : Int) = vU (x >>> 10) := vU_shr' x 10 (by decide)
theorem sched_len (b : List UInt8) : (sched b).length = 64 := by unfold sched; rw [schN_len, sch16_len]
theorem sched_size (b : List UInt8) : (Tryz.prog.info? 109).map (·.size) = some (wordsV (sched b)).size := by rw [wordsV_size, sched_len]; exact size64
theorem sched_size' (b : List UInt8) : zeros64.size = (wordsV (sched b)).size := by rw [wordsV_size, sched_len]; rfl
theorem wordsV_one (l : List UInt32) : (wordsV l).all (·.oneCell') = true := by
  unfold wordsV
  rw [Array.all_eq_true_iff_forall_mem]
  intro x hx
  simp at hx
  obtain ⟨y, _, rfl⟩ := hx
  rfl
theorem sched_idx (n : Nat) (hn : n < 48) : ∃ k k2 k15 k16 k7 : Nat, Hid (16 + n = k ∧ 14 + n = k2 ∧ 1 + n = k15 ∧ n = k16 ∧ 9 + n = k7) ∧ IntKind.i64.wrap ((k : Int) - 2) = k2 ∧ IntKind.i64.wrap ((k : Int) - 15) = k15 ∧
    IntKind.i64.wrap ((k : Int) - 16) = k16 ∧ IntKind.i64.wrap ((k : Int) - 7) = k7 ∧ (k : Int) < 64 ∧ (k2 : Int) < 64 ∧ (k15 : Int) < 64 ∧ (k16 : Int) < 64 ∧ (k7 : Int) < 64 := by
  refine ⟨16 + n, 14 + n, 1 + n, n, 9 + n, Lib.hid ⟨rfl, rfl, rfl, rfl, rfl⟩, ?_, ?_, ?_, ?_, by omega, by omega, by omega, by omega, by omega⟩
  all_goals (simp only [IntKind.wrap, IntKind.bits, IntKind.signed]; simp; omega)
theorem sched_next (ws l : List UInt32) (n k k2 k15 k16 k7 : Nat) (hn : n < 48) (hK : 16 + n = k ∧ 14 + n = k2 ∧ 1 + n = k15 ∧ n = k16 ∧ 9 + n = k7) (hl : ws.length = 64) (h1 : ws.take (16 + n) = schN l n)
    (h2 : k2 < ws.length) (h15 : k15 < ws.length) (h16 : k16 < ws.length) (h7 : k7 < ws.length) :
    ∀ y, y = ws[k16] + ws[k7] + sg0 ws[k15] + sg1 ws[k2] → (ws.set k y).take (k + 1) = schN l (n + 1) ∧ (ws.set k y).length = 64 := by
  rintro y rfl
  obtain ⟨rfl, rfl, rfl, rfl, rfl⟩ := hK
  refine ⟨?_, by simpa using hl⟩
  have hlen : (schN l n).length = 16 + n := by rw [← h1, List.length_take]; omega
  have hg : ∀ j (hj : j < 16 + n), (schN l n).getD j 0 = ws[j]'(by omega) := fun j hj => by
    rw [← h1, List.getD_eq_getElem?_getD, List.getElem?_take_of_lt hj, List.getElem?_eq_getElem (by omega), Option.getD_some]
  rw [List.take_succ_eq_append_getElem (by simp; omega), List.take_set_of_le (Nat.le_refl _), h1, schN]
  congr 1
  unfold nextW
  rw [hlen, hg _ (by omega), hg _ (by omega), hg _ (by omega), hg _ (by omega)]
  simp only [show 16 + n - 16 = n by omega, show 16 + n - 7 = 9 + n by omega, show 16 + n - 15 = 1 + n by omega, show 16 + n - 2 = 14 + n by omega]
  simp
theorem sch_take (b : List UInt8) (ws : List UInt32) (k : Nat) (hk : k < 16) (hl : ws.length = 64) (h1 : ws.take k = (sch16 b).take k) (h3 : ws.getD k 0 = w4 ((b.drop (4 * k)).take 4)) : ws.take (k + 1) = (sch16 b).take (k + 1) := by
  rw [List.take_succ_eq_append_getElem (by omega), List.take_succ_eq_append_getElem (by rw [sch16_len]; exact hk), h1]
  have e1 : ws.getD k 0 = ws[k] := by rw [List.getD_eq_getElem?_getD, List.getElem?_eq_getElem (by omega), Option.getD_some]
  have e2 : (sch16 b)[k]'(by rw [sch16_len]; exact hk) = w4 ((b.drop (4 * k)).take 4) := by unfold sch16; simp
  rw [e2, ← h3, e1]
theorem sch_inner (b : List UInt8) (ws l : List UInt32) (k m : Nat) (h : 4 * k + m < b.length) (hl : ws.length = 64) (h1 : ws.take k = l.take k) (h2 : ∀ j, k < j → ws.getD j 0 = 0) (h3 : ws.getD k 0 = w4 ((b.drop (4 * k)).take m)) (hk : k < ws.length := by omega) :
    ∀ y, y = ws[k] <<< 8 ||| b[4 * k + m].toUInt32 → (ws.set k y).take k = l.take k ∧ (∀ j, k < j → (ws.set k y).getD j 0 = 0) ∧ (ws.set k y).getD k 0 = w4 ((b.drop (4 * k)).take (m + 1)) ∧ (ws.set k y).length = 64 := by
  rintro y rfl
  refine ⟨by rw [List.take_set_of_le (Nat.le_refl _)]; exact h1, fun j hj => ?_, ?_, by simpa using hl⟩
  · have := h2 j hj
    rw [List.getD_eq_getElem?_getD] at this ⊢
    rw [List.getElem?_set_ne (by omega)]; exact this
  · rw [List.getD_eq_getElem?_getD, List.getElem?_set_self hk, Option.getD_some, w4_snoc _ _ (by simp; omega), ← h3, List.getD_eq_getElem?_getD, List.getElem?_eq_getElem hk]
    simp
/-- What is known of the world when the schedule begins. -/
theorem schedule_world (w : World) (b : List UInt8) (W : World) (hW : W = ((w.alloc (.cells (blkV b) 104)).alloc (.cells zeros64 109)).alloc (.cells zeros64 109)) :
    Words W W (w.heap.size + 2) (List.replicate 64 0) ∧ (∀ j (hj : j < b.length), W.cell? ⟨w.heap.size, j, none⟩ = some (.int .u8 b[j].toNat)) ∧ Below w.heap.size w W ∧ W.heap[w.heap.size + 1]? = some (.cells zeros64 109 (0, 0)) := by
  subst hW
  refine ⟨⟨?_, Below.refl _ _⟩, fun j hj => ?_, ?_, ?_⟩
  · rw [← wordsV_zeros]
    have := heap_alloc_new ((w.alloc (.cells (blkV b) 104)).alloc (.cells zeros64 109)) (.cells zeros64 109)
    simpa using this
  · have h1 : (w.alloc (.cells (blkV b) 104)).cell? ⟨w.heap.size, j, none⟩ = some (.int .u8 b[j].toNat) := by
      rw [cell_of_row _ _ _ _ _ _ (heap_alloc_new _ _)]
      unfold blkV bytesV
      simp [hj]
    exact below_cell ((Below.refl _ _).alloc (Nat.le_refl _) _) (below_cell ((Below.refl _ _).alloc (Nat.le_refl _) _) h1)
  · exact (((Below.refl _ _).alloc (Nat.le_refl _) _).alloc (by simp) _).alloc (by rw [World.size_alloc, World.size_alloc]; omega) _
  · rw [(Below.alloc (Below.refl _ _) (Nat.le_refl _) _).block (w.heap.size + 1) (by simp)]
    have := heap_alloc_new (w.alloc (.cells (blkV b) 104)) (.cells zeros64 109)
    simpa using this

set_option maxRecDepth 100000 in
set_option maxHeartbeats 2000000 in
theorem schedule_any (b : List UInt8) (hb : b.length = 64) (w : World) :
    Calls Tryz.prog 93 #[.agg (blkV b)] w fun e w' => e = .returned (.agg (wordsV (sched b))) ∧ Below w.heap.size w w' := by
  have hz := (zero_of_info (P := Tryz.prog) zero64).1
  have hne := zeros64_ne
  go_enter Tryz.func93, Tryz.ntmps93
  go_wp2_with fail
  obtain ⟨W, hWe⟩ : ∃ W, W = ((w.alloc (.cells (blkV b) 104)).alloc (.cells zeros64 109)).alloc (.cells zeros64 109) := ⟨_, rfl⟩
  have HF := Lib.hid (schedule_world w b W hWe)
  rw [← hWe]
  clear hWe hz hne
  go_loopw [10] (fun i wr => ∃ (k : Nat) (ws : List UInt32), k ≤ 16 ∧ i = .int .i64 k ∧ ws.length = 64 ∧ Hid (ws.take k = (sch16 b).take k ∧ (∀ j, k ≤ j → ws.getD j 0 = 0) ∧ Words W wr (w.heap.size + 2) ws)) (fun i _ => 16 - (intOf i).toNat)
  case atStart => exact ⟨0, List.replicate 64 0, Nat.zero_le _, rfl, by simp, Lib.hid ⟨by simp, fun j _ => getD_zeros _ _, HF.out.1⟩⟩
  case round =>
    obtain ⟨k, ws, hk, rfl, hl, HP⟩ := hrel
    by_cases hlt : k < 16
    · have hsl := fun W => run_slice_blk W w.heap.size (4 * k) (4 * k + 4) (4 * (k : Int)) (4 * (k : Int) + 4) (by omega) (by omega) (by omega) (by omega)
      rw [show 4 * k + 4 - 4 * k = 4 by omega] at hsl
      go_wp2_with fail
      clear hsl
      go_loopw [20] (fun i wr => ∃ (m : Nat) (ws : List UInt32), m ≤ 4 ∧ i = .int .i64 m ∧ ws.length = 64 ∧ Hid (ws.take k = (sch16 b).take k ∧ (∀ j, k < j → ws.getD j 0 = 0) ∧ ws.getD k 0 = w4 ((b.drop (4 * k)).take m) ∧ Words W wr (w.heap.size + 2) ws)) (fun i _ => 4 - (intOf i).toNat)
      case atStart => exact ⟨0, ws, Nat.zero_le _, rfl, hl, Lib.hid ⟨HP.out.1, fun j hj => HP.out.2.1 j (by omega), by rw [HP.out.2.1 k (Nat.le_refl _), List.take_zero]; rfl, HP.out.2.2⟩⟩
      case round =>
        clear hl
        obtain ⟨m, ws, hm, rfl, hl, HM⟩ := hrel
        by_cases hmt : m < 4
        · have hkl : 4 * k + m < b.length := by omega
          have hcb := HM.out.2.2.2.old (show w.heap.size < w.heap.size + 2 by omega) (HF.out.2.1 (4 * k + m) hkl)
          have hcx := HM.out.2.2.2.cell k (by omega)
          have hcf := HM.out.2.2.2.frozen k
          have HC := Lib.hid (sch_inner b ws (sch16 b) k m hkl hl HM.out.1 HM.out.2.1 HM.out.2.2.1)
          have HS := Lib.hid (fun x => HM.out.2.2.2.set k x)
          generalize ws[k] = x at *
          generalize b[4 * k + m] = c at *
          have ho := vU_or_byte'
          have hs := vU_shl8
          go_wp2_with fail
          go_roundw
          case rel =>
            obtain ⟨q1, q2, q3, q4⟩ := HC.out _ rfl
            exact ⟨m + 1, ws.set k (x <<< 8 ||| c.toUInt32), by omega, by go_num, q4, Lib.hid ⟨q1, q2, q3, HS.out _⟩⟩
          case measure => simp [intOf]; omega
        · have hm4 : m = 4 := by omega
          subst hm4
          go_wp2_with fail
          go_roundw
          case rel => exact ⟨k + 1, ws, by omega, by go_num, hl, Lib.hid ⟨sch_take b ws k hlt hl HM.out.1 HM.out.2.2.1, fun j hj => HM.out.2.1 j (by omega), HM.out.2.2.2⟩⟩
          case measure => simp [intOf]; omega
    · have HW0 := Lib.hid HP.out.2.2
      have HT0 : Hid (ws.take 16 = sch16 b) := Lib.hid (by have := HP.out.1; rw [show k = 16 by omega] at this; rw [this, List.take_of_length_le (Nat.le_of_eq (sch16_len b))])
      clear HP
      go_wp2_with fail
      go_loopw [7] (fun i wr => ∃ (n : Nat) (ws : List UInt32), n ≤ 48 ∧ i = .int .i64 ((16 + n : Nat) : Int) ∧ ws.length = 64 ∧ Hid (ws.take (16 + n) = schN (sch16 b) n ∧ Words W wr (w.heap.size + 2) ws)) (fun i _ => 64 - (intOf i).toNat)
      case atStart => exact ⟨0, ws, Nat.zero_le _, rfl, hl, Lib.hid ⟨HT0.out, HW0.out⟩⟩
      case round =>
        clear HT0 HW0 hl
        obtain ⟨n, ws, hn, rfl, hl, HM⟩ := hrel
        by_cases hnt : n < 48
        · obtain ⟨i, k2, k15, k16, k7, HK, hw2, hw15, hw16, hw7, hb, hb2, hb15, hb16, hb7⟩ := sched_idx n hnt
          have hc2 := HM.out.2.cell k2 (by omega)
          have hc15 := HM.out.2.cell k15 (by omega)
          have hc16 := HM.out.2.cell k16 (by omega)
          have hc7 := HM.out.2.cell k7 (by omega)
          have hc := HM.out.2.cell i (by omega)
          have hcf := HM.out.2.frozen i
          have HS := Lib.hid (fun x => HM.out.2.set i x)
          have HX := Lib.hid (sched_next ws (sch16 b) n i k2 k15 k16 k7 hnt HK.out hl HM.out.1 (by omega) (by omega) (by omega) (by omega))
          rw [show 16 + n = i from HK.out.1]
          have e16 : Hid (ws[k16]? = some ws[k16]) := Lib.hid (List.getElem?_eq_getElem _)
          have e7 : Hid (ws[k7]? = some ws[k7]) := Lib.hid (List.getElem?_eq_getElem _)
          generalize ws[k2] = x2 at *
          generalize ws[k15] = x15 at *
          generalize ws[k16] = x16 at *
          generalize ws[k7] = x7 at *
          have ha := vU_add'
          have ha' := vU_add
          have hx := vU_xor
          have hs3 := vU_shr3
          have hs10 := vU_shr10
          go_wp2_with fail
          go_quiet (fail)
          go_wp2_with fail
          have HW1 := Lib.hid (HM.out.2.drawn nq)
          clear hc2 hc15 hc16 hc7 hc hcf HS
          generalize wr.drewN nq = W1 at *
          have HW2 := Lib.hid (HW1.out.drew1)
          refine wp_region_still_tail 29 (by kernel_rfl) (by kernel_rfl) ?_
          simp only [List.take_succ_cons, List.take_zero, List.drop_succ_cons, List.drop_zero]
          generalize ({ W1 with drawn := W1.drawn + 1 } : World) = W2 at *
          have hc16 := HW2.out.cell' k16 e16
          have hc7 := HW2.out.cell' k7 e7
          have hc := HW2.out.cell i (by omega)
          have hcf := HW2.out.frozen i
          have HS := Lib.hid (fun x => HW2.out.set i x)
          repeat still_step
          still_call (rotl_still x15 7 (-7) rfl (by decide) (by decide) _)
          repeat still_step
          still_call (rotl_still x15 18 (-18) rfl (by decide) (by decide) _)
          repeat still_step
          still_call (rotl_still x2 17 (-17) rfl (by decide) (by decide) _)
          repeat still_step
          still_call (rotl_still x2 19 (-19) rfl (by decide) (by decide) _)
          repeat still_step
          refine wpStill_nil ?_
          go_wp2_with fail
          go_roundw
          case rel =>
            obtain ⟨q1, q2⟩ := HX.out _ rfl
            exact ⟨n + 1, ws.set i (x16 + x7 + sg0 x15 + sg1 x2), by omega, by rw [← HK.out.1]; go_num, q2, Lib.hid ⟨by rw [← q1, ← HK.out.1]; rfl, HS.out _⟩⟩
          case measure => simp [intOf]; omega
        · have hn48 : n = 48 := by omega
          have HV := Lib.hid (show ws = sched b by have := HM.out.1; rw [hn48, List.take_of_length_le (by omega)] at this; exact this)
          have HW3 := HM.out.2
          rw [HV.out] at HW3
          have HW4 := Lib.hid HW3
          clear HW3 HV
          go_wp2_with (first
            | (refine wpList_load_row rfl 109 _ rfl _ rfl 109 (wordsV (sched b)) (0, 0) _ HW4.out.1 Tryz.underlying109 rfl (sched_size b) ?_)
            | (refine wpList_store_row rfl 109 _ _ rfl (w.heap.size + 1) (wordsV (sched b)) rfl rfl 109 zeros64 ((HW4.out.2.block _ (by omega)).trans HF.out.2.2.2) (sched_size b) (sched_size' b) (wordsV_one _) ?_))
          refine ret_row rfl rfl rfl (setRow_heap _ _ _ _ _ _ ((HW4.out.2.block _ (by omega)).trans HF.out.2.2.2)) Tryz.underlying109 rfl (sched_size b) ⟨rfl, ?_⟩
          exact below_setRow ((HF.out.2.2.1).trans (HW4.out.2.mono (by omega))) (by omega) _
end Go.Proofs.YtgmbfiikkogenaaGreatDoor
namespace Go.Proofs.YtgmbfiikkogenaaGreatDoor
open Go.RowKit

/-- The words ws lie in block g, an array of eight. -/
def Eight (wr : World) (g : Nat) (ws : List UInt32) : Prop := wr.heap[g]? = some (.cells (wordsV ws) 74 (0, 0))
theorem Eight.cell {wr : World} {g : Nat} {ws : List UInt32} (h : Eight wr g ws) (j : Nat) (hj : j < ws.length) : wr.cell? ⟨g, j, none⟩ = some (.int .u32 (vU ws[j])) := by
  rw [cell_of_row _ _ _ _ _ _ h, wordsV_at _ _ hj]; rfl
theorem Eight.cell' {wr : World} {g : Nat} {ws : List UInt32} (h : Eight wr g ws) (j : Nat) {x : UInt32} (hx : ws[j]? = some x) : wr.cell? ⟨g, j, none⟩ = some (.int .u32 (vU x)) := by
  obtain ⟨hj, rfl⟩ := List.getElem?_eq_some_iff.1 hx
  exact h.cell j hj
theorem Eight.frozen {wr : World} {g : Nat} {ws : List UInt32} (h : Eight wr g ws) (j : Nat) : wr.frozen? ⟨g, j, none⟩ = false := frozen_of_row _ _ _ _ _ h
theorem Eight.set {wr : World} {g : Nat} {ws : List UInt32} (h : Eight wr g ws) (j : Nat) (x : UInt32) : Eight (wr.setCell ⟨g, j, none⟩ (.int .u32 (vU x))) g (ws.set j x) := by
  unfold Eight
  rw [heap_setCell_same _ _ _ _ _ _ h, ← wordsV_set]; rfl
theorem turned_still (x : UInt32) (i j k : Nat) (z1 z2 z3 : Int) (e1 : z1 = (i : Int)) (e2 : z2 = (j : Int)) (e3 : z3 = (k : Int)) (hi : 0 < i ∧ i < 32) (hj : 0 < j ∧ j < 32) (hk : 0 < k ∧ k < 32) (w : World) :
    Calls Tryz.prog 94 #[.int .u32 (vU x), .int .i64 z1, .int .i64 z2, .int .i64 z3] w fun e w' => e = .returned (.int .u32 (vU (sum3 x i j k))) ∧ w' = w :=
  (turned_any x i j k z1 z2 z3 e1 e2 e3 hi hj hk w).mono fun _ _ h => ⟨h.1, h.2.symm⟩
theorem vU_notx (x : UInt32) : bits .xor .u32 IntKind.u32.max (vU x) = vU (~~~x) := by
  have e : IntKind.u32.max = vU 4294967295 := by unfold vU; rfl
  rw [e, vU_xor]
  congr 1

theorem blk_size (b : List UInt8) (hb : b.length = 64) : (Tryz.prog.info? 104).map (·.size) = some (blkV b).size := by
  rw [show (blkV b).size = 64 by unfold blkV bytesV; simpa using hb]; exact sizeB64
theorem kk_len : kk.length = 64 := by decide
theorem wordsV_at' (ws : List UInt32) (n : Nat) (h : n < ws.length) : (wordsV ws)[n]? = some (.int .u32 (vU ws[n])) := wordsV_at ws n h
theorem kk_cell (n : Nat) (h : n < 64) {w : World} (hk : RowAt w 1 kkV) : w.cell? ⟨1, n, none⟩ = some (.int .u32 (vU (kk[n]'(by rw [kk_len]; exact h)))) := by
  refine hk n _ ?_
  have : kkV.toList[n]? = (kk.map vW)[n]? := by unfold kkV; rfl
  rw [this, List.getElem?_map, List.getElem?_eq_getElem (by rw [kk_len]; exact h)]; rfl
theorem kk_cell' (n : Nat) {x : UInt32} (h : kk[n]? = some x) {w : World} (hk : RowAt w 1 kkV) : w.cell? ⟨1, n, none⟩ = some (.int .u32 (vU x)) := by
  refine hk n _ ?_
  have : kkV.toList[n]? = (kk.map vW)[n]? := by unfold kkV; rfl
  rw [this, List.getElem?_map, h]; rfl
theorem rnd_next (ws : List UInt32) (s : St) (n : Nat) (xa xb xc xd xe xf xg xh : UInt32) (hl : n < ws.length) (hn : n < 64) (h : rnds kk ws s n = ⟨xa, xb, xc, xd, xe, xf, xg, xh⟩) :
    rnds kk ws s (n + 1) = ⟨xh + sum3 xe 6 11 25 + chS xe xf xg + kk[n]'(by rw [kk_len]; exact hn) + ws[n] + (sum3 xa 2 13 22 + majS xa xb xc), xa, xb, xc, xd + (xh + sum3 xe 6 11 25 + chS xe xf xg + kk[n]'(by rw [kk_len]; exact hn) + ws[n]), xe, xf, xg⟩ := by
  have e1 : kk.getD n 0 = kk[n]'(by rw [kk_len]; exact hn) := by rw [List.getD_eq_getElem?_getD, List.getElem?_eq_getElem (by rw [kk_len]; exact hn), Option.getD_some]
  have e2 : ws.getD n 0 = ws[n] := by rw [List.getD_eq_getElem?_getD, List.getElem?_eq_getElem hl, Option.getD_some]
  rw [rnds, h, e1, e2]; rfl
theorem infoU32 : (Tryz.prog.info? 73).map (fun i => (i.zero, i.size)) = some (some (.int .u32 0), 1) := by kernel_rfl
theorem sizeOf_u32 (W : World) : (sizeOf 73).run Tryz.prog W = .ok 1 W := by
  have h := infoU32
  cases hq : Tryz.prog.info? 73 with
  | none => simp [hq] at h
  | some i => simp [hq] at h; simp [sizeOf, typeInfo, hq, h]
theorem isAgg_u32 (W : World) : (isAgg 73).run Tryz.prog W = .ok false W := by
  unfold isAgg
  rw [Sem.run_bind, run_underlying Tryz.underlying73 W]; rfl
theorem run_index_u32 (W : World) (ty len : Nat) (V : Array Value) (n : Nat) (v : Value) (hu : Tryz.prog.underlying ty = some (.array len 73)) (hn : n < len) (hv : V[n]? = some v) :
    (Instr.index ty (.agg V) (.int .i64 (n : Int))).run Tryz.prog W = .ok v W := by
  have h1 : (0 : Int) ≤ (n : Int) ∧ (n : Int) < (len : Int) := ⟨by omega, by omega⟩
  simp only [Instr.index, asIntOf, Sem.run_bind, Sem.run_pure, Result.andThen_ok, run_underlying hu, h1, and_self, if_true, sizeOf_u32, part, isAgg_u32, Int.toNat_natCast, Nat.mul_one, hv]
  rfl
def z8 : Array Value := #[.int .u32 0, .int .u32 0, .int .u32 0, .int .u32 0, .int .u32 0, .int .u32 0, .int .u32 0, .int .u32 0]
/-- What is known of the world when the rounds begin: g the state's block, g + 2 the result's, k the words'. -/
def CompW (w W : World) (g k : Nat) (s : List UInt32) (ws : List UInt32) : Prop :=
  Eight W g s ∧ W.heap[g + 2]? = some (.cells z8 74 (0, 0)) ∧ W.heap[k]? = some (.cells (wordsV ws) 109 (0, 0)) ∧ RowAt W 1 kkV ∧ Below w.heap.size w W ∧ w.heap.size ≤ g ∧ g + 2 < W.heap.size
theorem comp_world0 (w : World) (s : List UInt32) (b : List UInt8) (hk : RowAt w 1 kkV) {W : World} (hW : W = ((w.alloc (.cells (wordsV s) 74)).alloc (.cells (blkV b) 104)).alloc (.cells z8 74)) :
    W.heap[w.heap.size + 1]? = some (.cells (blkV b) 104 (0, 0)) ∧ Eight W w.heap.size s ∧ W.heap[w.heap.size + 2]? = some (.cells z8 74 (0, 0)) ∧ RowAt W 1 kkV ∧ Below w.heap.size w W ∧ W.heap.size = w.heap.size + 3 := by
  subst hW
  have hs : (((w.alloc (.cells (wordsV s) 74)).alloc (.cells (blkV b) 104)).alloc (.cells z8 74)).heap.size = w.heap.size + 3 := by simp
  have hB : Below w.heap.size w (((w.alloc (.cells (wordsV s) 74)).alloc (.cells (blkV b) 104)).alloc (.cells z8 74)) :=
    (((Below.refl _ _).alloc (Nat.le_refl _) _).alloc (by simp) _).alloc (by rw [World.size_alloc, World.size_alloc]; omega) _
  refine ⟨?_, ?_, ?_, hk.keep hB, hB, hs⟩
  · rw [(Below.alloc (Below.refl _ _) (Nat.le_refl _) _).block (w.heap.size + 1) (by simp)]
    have := heap_alloc_new (w.alloc (.cells (wordsV s) 74)) (.cells (blkV b) 104)
    simpa using this
  · unfold Eight
    rw [(Below.alloc (Below.refl _ _) (Nat.le_refl _) _).block w.heap.size (by simp; omega), (Below.alloc (Below.refl _ _) (Nat.le_refl _) _).block w.heap.size (by simp)]
    exact heap_alloc_new _ _
  · have := heap_alloc_new ((w.alloc (.cells (wordsV s) 74)).alloc (.cells (blkV b) 104)) (.cells z8 74)
    simpa using this
theorem comp_world1 {w W0 w1 W : World} {s ws : List UInt32} (h2 : Eight W0 w.heap.size s) (h3 : W0.heap[w.heap.size + 2]? = some (.cells z8 74 (0, 0))) (h4 : RowAt W0 1 kkV) (h5 : Below w.heap.size w W0)
    (h6 : W0.heap.size = w.heap.size + 3) (hb : Below W0.heap.size W0 w1) (hW : W = (w1.alloc (.cells zeros64 109)).setRow w1.heap.size (wordsV ws)) :
    CompW w W w.heap.size w1.heap.size s ws := by
  subst hW
  have hB : Below w1.heap.size w1 ((w1.alloc (.cells zeros64 109)).setRow w1.heap.size (wordsV ws)) := below_setRow ((Below.refl _ _).alloc (Nat.le_refl _) _) (Nat.le_refl _) _
  have hB2 := below_trans hb hB
  have hs1 := hb.size
  refine ⟨?_, ?_, setRow_heap _ _ _ _ _ _ (heap_alloc_new _ _), h4.keep hB2, h5.trans (hB2.mono (by omega)), Nat.le_refl _, ?_⟩
  · unfold Eight
    rw [hB2.block _ (by omega)]; exact h2
  · rw [hB2.block _ (by omega)]; exact h3
  · have := hB.size
    omega
theorem CompW.keep {w W W' : World} {g k : Nat} {s ws : List UInt32} (h : CompW w W g k s ws) (hb : Below W.heap.size W W') : CompW w W' g k s ws := by
  obtain ⟨h1, h2, h3, h4, h5, h6, h7⟩ := h
  have hk : k < W.heap.size := by
    rcases Nat.lt_or_ge k W.heap.size with h | h
    · exact h
    · rw [Array.getElem?_eq_none h] at h3; cases h3
  refine ⟨?_, ?_, ?_, h4.keep hb, h5.trans (hb.mono h5.size), h6, by have := hb.size; omega⟩
  · unfold Eight; rw [hb.block _ (by omega)]; exact h1
  · rw [hb.block _ (by omega)]; exact h2
  · rw [hb.block _ hk]; exact h3
theorem CompW.drawn {w W : World} {g k : Nat} {s ws : List UInt32} (h : CompW w W g k s ws) (n : Nat) : CompW w (W.drewN n) g k s ws := h.keep ⟨rfl, rfl, rfl, Nat.le_refl _, fun _ _ => rfl⟩
theorem CompW.drew1 {w W : World} {g k : Nat} {s ws : List UInt32} (h : CompW w W g k s ws) : CompW w { W with drawn := W.drawn + 1 } g k s ws := h.drawn 1

/-- The last loop: the first m words are the sums. -/
def mix8 (l r : List UInt32) (m : Nat) : List UInt32 := (List.zipWith (· + ·) l r).take m ++ l.drop m
def Fin8 (w wr : World) (g : Nat) (l : List UInt32) : Prop :=
  Eight wr g l ∧ wr.heap[g + 2]? = some (.cells z8 74 (0, 0)) ∧ Below w.heap.size w wr ∧ w.heap.size ≤ g
theorem mix8_at {l r : List UInt32} {m : Nat} (h1 : l.length = 8) (h2 : r.length = 8) (hm : m < 8) : (mix8 l r m)[m]? = some l[m] := by
  have e : ((List.zipWith (· + ·) l r).take m).length = m := by simp [h1, h2]; omega
  unfold mix8
  rw [List.getElem?_append_right (by omega), e, Nat.sub_self, List.getElem?_drop, Nat.add_zero, List.getElem?_eq_getElem (by omega)]
theorem mix8_set {l r : List UInt32} {m : Nat} (h1 : l.length = 8) (h2 : r.length = 8) (hm : m < 8) : (mix8 l r m).set m (l[m] + r[m]) = mix8 l r (m + 1) := by
  have e : ((List.zipWith (· + ·) l r).take m).length = m := by simp [h1, h2]; omega
  have d : l.drop m = l[m] :: l.drop (m + 1) := List.drop_eq_getElem_cons (by omega)
  unfold mix8
  rw [List.take_succ_eq_append_getElem (by simp; omega), d, List.set_append_right _ _ (by omega), e, Nat.sub_self, List.set_cons_zero, List.getElem_zipWith]
  simp
theorem size8' (s : St) : (Tryz.prog.info? 74).map (·.size) = some (wordsV s.list).size := by rw [wordsV_size]; exact size8
theorem z8_size (s : St) : z8.size = (wordsV s.list).size := by rw [wordsV_size]; rfl
theorem Fin8.next {w wr : World} {g : Nat} {l r : List UInt32} {m : Nat} (h : Fin8 w wr g (mix8 l r m)) (h1 : l.length = 8) (h2 : r.length = 8) (hm : m < 8) (x : UInt32) (hx : x = l[m] + r[m]) : Fin8 w (wr.setCell ⟨g, m, none⟩ (.int .u32 (vU x))) g (mix8 l r (m + 1)) := by
  subst hx
  refine ⟨?_, ?_, h.2.2.1.setCell (p := ⟨g, m, none⟩) h.2.2.2 _, h.2.2.2⟩
  · rw [← mix8_set h1 h2 hm]; exact h.1.set m _
  · rw [heap_setCell_other _ _ _ _ (by simp)]; exact h.2.1
theorem mix8_end {w wr : World} {g : Nat} {a0 b0 c0 d0 e0 f0 g0 h0 xa xb xc xd xe xf xg xh : UInt32} {b : List UInt8} (h : Fin8 w wr g (mix8 [a0, b0, c0, d0, e0, f0, g0, h0] [xa, xb, xc, xd, xe, xf, xg, xh] 8))
    (he : rnds kk (sched b) ⟨a0, b0, c0, d0, e0, f0, g0, h0⟩ 64 = ⟨xa, xb, xc, xd, xe, xf, xg, xh⟩) : Fin8 w wr g (blockS ⟨a0, b0, c0, d0, e0, f0, g0, h0⟩ b).list := by
  have : (blockS ⟨a0, b0, c0, d0, e0, f0, g0, h0⟩ b).list = mix8 [a0, b0, c0, d0, e0, f0, g0, h0] [xa, xb, xc, xd, xe, xf, xg, xh] 8 := by
    unfold blockS; rw [he]; rfl
  rw [this]; exact h

set_option maxRecDepth 100000 in
set_option maxHeartbeats 600000 in
theorem compress_core (a0 b0 c0 d0 e0 f0 g0 h0 : UInt32) (b : List UInt8) (hb : b.length = 64) (w : World) (hk : RowAt w 1 kkV) :
    Calls Tryz.prog 64 #[.agg #[.int .u32 (vU a0), .int .u32 (vU b0), .int .u32 (vU c0), .int .u32 (vU d0), .int .u32 (vU e0), .int .u32 (vU f0), .int .u32 (vU g0), .int .u32 (vU h0)], .agg (blkV b)] w
      fun e w' => e = .returned (.agg (blockS ⟨a0, b0, c0, d0, e0, f0, g0, h0⟩ b).cells) ∧ Below w.heap.size w w' := by
  have HK := Lib.hid hk
  clear hk
  have hz := (zero_of_info (P := Tryz.prog) zero64).1
  have hne := zeros64_ne
  obtain ⟨W0, hW0⟩ : ∃ W0, W0 = ((w.alloc (.cells (wordsV [a0, b0, c0, d0, e0, f0, g0, h0]) 74)).alloc (.cells (blkV b) 104)).alloc (.cells z8 74) := ⟨_, rfl⟩
  have H0 := Lib.hid (comp_world0 w [a0, b0, c0, d0, e0, f0, g0, h0] b HK.out hW0)
  have HW0 := Lib.hid hW0
  clear hW0
  go_enter Tryz.func64, Tryz.ntmps64
  go_wp2_with (refine wpList_load_row rfl 104 _ rfl (w.heap.size + 1) rfl 104 (blkV b) (0, 0) _ (HW0.out ▸ H0.out.1) Tryz.underlying104 rfl (blk_size b hb) ?_)
  refine (schedule_any b hb _).mono ?_
  rintro e w1 ⟨rfl, hb1⟩
  have HB1 : Hid (Below W0.heap.size W0 w1) := Lib.hid (by rw [HW0.out]; exact hb1)
  clear hb1 HW0
  go_wp2_with (refine wpList_store_row rfl 109 _ _ rfl w1.heap.size (wordsV (sched b)) rfl rfl 109 zeros64 (heap_alloc_new _ _) (sched_size b) (sched_size' b) (wordsV_one _) ?_)
  obtain ⟨W, hW⟩ : ∃ W, W = (w1.alloc (.cells zeros64 109)).setRow w1.heap.size (wordsV (sched b)) := ⟨_, rfl⟩
  have HC := Lib.hid (comp_world1 H0.out.2.1 H0.out.2.2.1 H0.out.2.2.2.1 H0.out.2.2.2.2.1 H0.out.2.2.2.2.2 HB1.out hW)
  rw [← hW]
  clear hW HB1 H0 hz hne HK
  generalize w1.heap.size = k at *
  obtain ⟨g, HG⟩ : ∃ g, Box (w.heap.size = g) := ⟨_, ⟨rfl⟩⟩
  rw [show w.heap.size = g from HG.out] at HC ⊢
  have hc0 := HC.out.1.cell 0 (by simp)
  have hc1 := HC.out.1.cell 1 (by simp)
  have hc2 := HC.out.1.cell 2 (by simp)
  have hc3 := HC.out.1.cell 3 (by simp)
  have hc4 := HC.out.1.cell 4 (by simp)
  have hc5 := HC.out.1.cell 5 (by simp)
  have hc6 := HC.out.1.cell 6 (by simp)
  have hc7 := HC.out.1.cell 7 (by simp)
  simp only [List.getElem_cons_zero, List.getElem_cons_succ] at hc0 hc1 hc2 hc3 hc4 hc5 hc6 hc7
  go_quiet (fail)
  clear hc0 hc1 hc2 hc3 hc4 hc5 hc6 hc7
  have HC1 := Lib.hid (HC.out.drawn nq)
  generalize W.drewN nq = W1 at *
  go_wp2_with (refine wpList_load_row rfl 109 _ rfl k rfl 109 (wordsV (sched b)) (0, 0) _ HC1.out.2.2.1 Tryz.underlying109 rfl (sched_size b) ?_)
  obtain ⟨ws, HWS, hwl⟩ : ∃ ws, Box (sched b = ws) ∧ ws.length = 64 := ⟨_, ⟨rfl⟩, sched_len b⟩
  obtain ⟨V, HV⟩ : ∃ V, Box (wordsV ws = V) := ⟨_, ⟨rfl⟩⟩
  rw [show sched b = ws from HWS.out, show wordsV ws = V from HV.out]
  have HC2 : Hid (CompW w W1 g k [a0, b0, c0, d0, e0, f0, g0, h0] ws) := by rw [← HWS.out]; exact HC1
  clear HC HC1
  go_loopw [6, 7, 8, 9, 10, 11, 12, 13, 41] (fun va vb vc vd ve vf vg vh i wr => ∃ (n : Nat) (xa xb xc xd xe xf xg xh : UInt32), n ≤ 64 ∧ i = .int .i64 n ∧ va = .int .u32 (vU xa) ∧ vb = .int .u32 (vU xb) ∧ vc = .int .u32 (vU xc) ∧ vd = .int .u32 (vU xd) ∧ ve = .int .u32 (vU xe) ∧ vf = .int .u32 (vU xf) ∧ vg = .int .u32 (vU xg) ∧ vh = .int .u32 (vU xh) ∧
    Box (rnds kk ws ⟨a0, b0, c0, d0, e0, f0, g0, h0⟩ n = ⟨xa, xb, xc, xd, xe, xf, xg, xh⟩ ∧ CompW w wr g k [a0, b0, c0, d0, e0, f0, g0, h0] ws)) (fun _ _ _ _ _ _ _ _ i _ => 64 - (intOf i).toNat)
  case atStart => exact ⟨0, a0, b0, c0, d0, e0, f0, g0, h0, Nat.zero_le _, rfl, rfl, rfl, rfl, rfl, rfl, rfl, rfl, rfl, ⟨rfl, HC2.out⟩⟩
  case round =>
    clear HC2
    obtain ⟨n, xa, xb, xc, xd, xe, xf, xg, xh, hn, rfl, rfl, rfl, rfl, rfl, rfl, rfl, rfl, rfl, HM⟩ := hrel
    by_cases hlt : n < 64
    · have HN := Box.mk (rnd_next ws _ n _ _ _ _ _ _ _ _ (by omega) hlt HM.out.1)
      have hwc := wordsV_at' ws n (by omega)
      rw [HV.out] at hwc
      have hix := fun W => run_index_u32 W 109 64 V n _ Tryz.underlying109 hlt hwc
      clear hwc
      have hkc := kk_cell n hlt HM.out.2.2.2.2.1
      have HC3 := Box.mk HM.out.2
      have HE := Box.mk (List.getElem?_eq_getElem (by rw [kk_len]; exact hlt : n < kk.length))
      generalize ws[n] = xw at *
      generalize kk[n]'(by rw [kk_len]; exact hlt) = xk at *
      have ha := vU_add'
      have ha' := vU_add
      have hx := vU_xor
      have hy := vU_and
      have hnot := vU_notx
      clear HM hkc
      go_wp2_with fail
      have HC4 := Box.mk HC3.out.drew1
      refine wp_region_still_lit (by kernel_rfl) (by kernel_rfl) ?_
      generalize ({ wr with drawn := wr.drawn + 1 } : World) = W2 at *
      have hkc := kk_cell' n HE.out HC4.out.2.2.2.1
      repeat still_step
      still_call (turned_still xe 6 11 25 6 11 25 rfl rfl rfl (by decide) (by decide) (by decide) _)
      repeat still_step
      refine wpStill_nil ?_
      clear hkc
      go_wp2_with fail
      refine (turned_any xa 2 13 22 2 13 22 rfl rfl rfl (by decide) (by decide) (by decide) W2).mono ?_
      rintro e w2 ⟨rfl, rfl⟩
      go_wp2_with fail
      go_roundw
      case rel => exact ⟨n + 1, _, _, _, _, _, _, _, _, by omega, by go_num, rfl, rfl, rfl, rfl, rfl, rfl, rfl, rfl, ⟨HN.out, HC4.out⟩⟩
      case measure => simp [intOf]; omega
    · have HE := Box.mk (show rnds kk (sched b) ⟨a0, b0, c0, d0, e0, f0, g0, h0⟩ 64 = ⟨xa, xb, xc, xd, xe, xf, xg, xh⟩ by rw [HWS.out, ← HM.out.1, show n = 64 by omega])
      have HF : Box (Fin8 w wr g (mix8 [a0, b0, c0, d0, e0, f0, g0, h0] [xa, xb, xc, xd, xe, xf, xg, xh] 0)) := ⟨HM.out.2.1, HM.out.2.2.1, HM.out.2.2.2.2.2.1, HM.out.2.2.2.2.2.2.1⟩
      clear HM HWS HV hwl
      go_wp2_with fail
      go_loopw [102] (fun i wr => ∃ m : Nat, m ≤ 8 ∧ i = .int .i64 m ∧ Box (Fin8 w wr g (mix8 [a0, b0, c0, d0, e0, f0, g0, h0] [xa, xb, xc, xd, xe, xf, xg, xh] m))) (fun i _ => 8 - (intOf i).toNat)
      case atStart => exact ⟨0, Nat.zero_le _, rfl, HF⟩
      case round =>
        clear HF
        obtain ⟨m, hm, rfl, HM⟩ := hrel
        by_cases hmt : m < 8
        · have hix := fun W => run_index_u32 W 74 8 (wordsV [xa, xb, xc, xd, xe, xf, xg, xh]) m _ Tryz.underlying74 hmt (wordsV_at' [xa, xb, xc, xd, xe, xf, xg, xh] m hmt)
          change ∀ W, (Instr.index 74 (.agg #[.int .u32 (vU xa), .int .u32 (vU xb), .int .u32 (vU xc), .int .u32 (vU xd), .int .u32 (vU xe), .int .u32 (vU xf), .int .u32 (vU xg), .int .u32 (vU xh)]) _).run _ W = _ at hix
          have hf := HM.out.1.frozen m
          have HN := Box.mk (fun x hx => HM.out.next (l := [a0, b0, c0, d0, e0, f0, g0, h0]) (r := [xa, xb, xc, xd, xe, xf, xg, xh]) rfl rfl hmt x hx)
          have hc := HM.out.1.cell' m (mix8_at (l := [a0, b0, c0, d0, e0, f0, g0, h0]) (r := [xa, xb, xc, xd, xe, xf, xg, xh]) rfl rfl hmt)
          generalize [a0, b0, c0, d0, e0, f0, g0, h0][m]'hmt = x0 at *
          generalize [xa, xb, xc, xd, xe, xf, xg, xh][m]'hmt = x1 at *
          have ha := vU_add'
          have ha' := vU_add
          clear HM
          go_wp2_with fail
          go_roundw
          case rel => exact ⟨m + 1, by omega, by go_num, ⟨HN.out _ rfl⟩⟩
          case measure => simp [intOf]; omega
        · obtain ⟨sb, HS⟩ : ∃ sb, Box (blockS ⟨a0, b0, c0, d0, e0, f0, g0, h0⟩ b = sb) := ⟨_, ⟨rfl⟩⟩
          have HN := Box.mk (show Fin8 w wr g sb.list by have := HM.out; rw [show m = 8 by omega] at this; rw [← HS.out]; exact mix8_end this HE.out)
          clear HM HE
          go_wp2_with (first
            | (refine wpList_load_row rfl 74 _ rfl g rfl 74 _ (0, 0) _ HN.out.1 Tryz.underlying74 rfl (size8' sb) ?_)
            | (refine wpList_store_row rfl 74 _ _ rfl (g + 2) _ rfl rfl 74 z8 HN.out.2.1 (size8' sb) (z8_size sb) (wordsV_one _) ?_))
          refine ret_row rfl rfl rfl (setRow_heap _ _ _ _ _ _ HN.out.2.1) Tryz.underlying74 rfl (size8' sb) ⟨?_, ?_⟩
          · rw [HS.out]; rfl
          · exact below_setRow HN.out.2.2.1 (by have := HN.out.2.2.2; omega) _
theorem compress_any (s : St) (b : List UInt8) (hb : b.length = 64) (w : World) (hk : RowAt w 1 kkV) :
    Calls Tryz.prog 64 #[.agg s.cells, .agg (blkV b)] w fun e w' => e = .returned (.agg (blockS s b).cells) ∧ Below w.heap.size w w' := by
  obtain ⟨a0, b0, c0, d0, e0, f0, g0, h0⟩ := s
  exact compress_core a0 b0 c0 d0 e0 f0 g0 h0 b hb w hk
end Go.Proofs.YtgmbfiikkogenaaGreatDoor
namespace Go.Proofs.YtgmbfiikkogenaaGreatDoor
open Go.RowKit

theorem Act.put_put (a : Act) (d : Tmp) (v u : Value) : (a.put (some d) v).put (some d) u = a.put (some d) u := by
  unfold Act.put; simp
theorem Act.put_self (a : Act) (d : Tmp) : a.put (some d) (a.tmps.getD d undef) = a := by
  unfold Act.put
  have e : a.tmps.setIfInBounds d (a.tmps.getD d undef) = a.tmps := by
    apply Array.ext_getElem?
    intro i
    by_cases hi : d = i
    · subst hi
      rcases Nat.lt_or_ge d a.tmps.size with h | h
      · simp [h]
      · simp [Array.getElem?_eq_none h]; exact h
    · rw [Array.getElem?_setIfInBounds_ne hi]
  show ({ tmps := a.tmps.setIfInBounds d (a.tmps.getD d undef), defers := a.defers } : Act) = a
  rw [e]
theorem Act.eval_put (a : Act) (d : Tmp) (v : Value) (h : d < a.tmps.size) : (a.put (some d) v).eval (.tmp d) = v := by
  unfold Act.put Act.eval; simp [h]
theorem Act.eval_put_ne (a : Act) (d e : Tmp) (v : Value) (h : d ≠ e) : (a.put (some d) v).eval (.tmp e) = a.eval (.tmp e) := by
  unfold Act.put Act.eval; simp [Array.getElem?_setIfInBounds_ne h]
theorem Act.put_size (a : Act) (d : Option Tmp) (v : Value) : (a.put d v).tmps.size = a.tmps.size := by
  cases d <;> simp [Act.put]
theorem lt_of_row {w : World} {p : Nat} {o : Obj} (h : w.heap[p]? = some o) : p < w.heap.size := (Array.getElem?_eq_some_iff.1 h).1

/-- The frame with the four slots filled. -/
def four (a : Act) (d0 d1 d2 d3 : Tmp) (v0 v1 v2 v3 : Value) : Act := (((a.put (some d0) v0).put (some d1) v1).put (some d2) v2).put (some d3) v3
section
variable {a : Act} {d0 d1 d2 d3 : Tmp} {v0 v1 v2 v3 : Value}
theorem four_put0 (n01 : d0 ≠ d1) (n02 : d0 ≠ d2) (n03 : d0 ≠ d3) (v : Value) : (four a d0 d1 d2 d3 v0 v1 v2 v3).put (some d0) v = four a d0 d1 d2 d3 v v1 v2 v3 := by
  have h : ∀ {x y : Tmp}, x ≠ y → ∀ d, some x = some d → some y ≠ some d := fun hn d e e2 => hn (Option.some.inj (e.trans e2.symm))
  unfold four
  rw [Act.put_comm _ v3 v (h (Ne.symm n03)), Act.put_comm _ v2 v (h (Ne.symm n02)), Act.put_comm _ v1 v (h (Ne.symm n01)), Act.put_put]
theorem four_put1 (n12 : d1 ≠ d2) (n13 : d1 ≠ d3) (v : Value) : (four a d0 d1 d2 d3 v0 v1 v2 v3).put (some d1) v = four a d0 d1 d2 d3 v0 v v2 v3 := by
  have h : ∀ {x y : Tmp}, x ≠ y → ∀ d, some x = some d → some y ≠ some d := fun hn d e e2 => hn (Option.some.inj (e.trans e2.symm))
  unfold four
  rw [Act.put_comm _ v3 v (h (Ne.symm n13)), Act.put_comm _ v2 v (h (Ne.symm n12)), Act.put_put]
theorem four_put2 (n23 : d2 ≠ d3) (v : Value) : (four a d0 d1 d2 d3 v0 v1 v2 v3).put (some d2) v = four a d0 d1 d2 d3 v0 v1 v v3 := by
  have h : ∀ {x y : Tmp}, x ≠ y → ∀ d, some x = some d → some y ≠ some d := fun hn d e e2 => hn (Option.some.inj (e.trans e2.symm))
  unfold four
  rw [Act.put_comm _ v3 v (h (Ne.symm n23)), Act.put_put]
theorem four_put3 (v : Value) : (four a d0 d1 d2 d3 v0 v1 v2 v3).put (some d3) v = four a d0 d1 d2 d3 v0 v1 v2 v := by unfold four; rw [Act.put_put]
theorem four_eval (e : Tmp) (h0 : d0 ≠ e) (h1 : d1 ≠ e) (h2 : d2 ≠ e) (h3 : d3 ≠ e) : (four a d0 d1 d2 d3 v0 v1 v2 v3).eval (.tmp e) = a.eval (.tmp e) := by
  unfold four
  rw [Act.eval_put_ne _ _ _ _ h3, Act.eval_put_ne _ _ _ _ h2, Act.eval_put_ne _ _ _ _ h1, Act.eval_put_ne _ _ _ _ h0]
theorem four_eval0 (h : d0 < a.tmps.size) (h1 : d1 ≠ d0) (h2 : d2 ≠ d0) (h3 : d3 ≠ d0) : (four a d0 d1 d2 d3 v0 v1 v2 v3).eval (.tmp d0) = v0 := by
  unfold four
  rw [Act.eval_put_ne _ _ _ _ h3, Act.eval_put_ne _ _ _ _ h2, Act.eval_put_ne _ _ _ _ h1, Act.eval_put _ _ _ h]
theorem four_eval1 (h : d1 < a.tmps.size) (h2 : d2 ≠ d1) (h3 : d3 ≠ d1) : (four a d0 d1 d2 d3 v0 v1 v2 v3).eval (.tmp d1) = v1 := by
  unfold four
  rw [Act.eval_put_ne _ _ _ _ h3, Act.eval_put_ne _ _ _ _ h2, Act.eval_put _ _ _ (by rw [Act.put_size]; exact h)]
theorem four_eval2 (h : d2 < a.tmps.size) (h3 : d3 ≠ d2) : (four a d0 d1 d2 d3 v0 v1 v2 v3).eval (.tmp d2) = v2 := by
  unfold four
  rw [Act.eval_put_ne _ _ _ _ h3, Act.eval_put _ _ _ (by rw [Act.put_size, Act.put_size]; exact h)]
theorem four_eval3 (h : d3 < a.tmps.size) : (four a d0 d1 d2 d3 v0 v1 v2 v3).eval (.tmp d3) = v3 := by
  unfold four
  rw [Act.eval_put _ _ _ (by rw [Act.put_size, Act.put_size, Act.put_size]; exact h)]
end

theorem wp_act {P : Program} {c : Code} {Q : Exit → Act → World → Prop} {a : Act} {w : World} (h : ∀ a', a' = a → c.wp P Q a' w) : c.wp P Q a w := h a rfl
theorem wp_alloc_of {P : Program} {o : Oper} {a : Act} {w : World} {K : Act → World → Prop} {Q : Exit → Act → World → Prop} {ty : TypeId} {z : Array Value} (ho : o.op = .alloc ty)
    (hz : ∀ w, (zeroValue ty).run P w = .ok (.agg z) w) (_hne : ¬ z = #[]) (h : K (a.put o.dst (.pointer (some ⟨w.heap.size, 0, none⟩))) (w.alloc (.cells z ty))) : o.wp P a w K Q := by
  unfold Oper.wp execOp
  simp only [ho]
  go_simp
  exact h

section
variable {P : Program} {Q : Exit → Act → World → Prop} {o0 o1 o2 o3 o4 o5 : Oper}
set_option maxHeartbeats 1000000 in
theorem wp_region_two_vars {id : Nat} {a : Act} {w : World} (hm : P.follows .mixedOrders = true) (d0 d1 d2 d3 : Tmp) (T8 T64 : TypeId) (sv kv z zz : Array Value) (hT : T8 ≠ T64)
    (n01 : d0 ≠ d1) (n02 : d0 ≠ d2) (n03 : d0 ≠ d3) (n12 : d1 ≠ d2) (n13 : d1 ≠ d3) (n23 : d2 ≠ d3)
    (g : o0.guard = none ∧ o1.guard = none ∧ o2.guard = none ∧ o3.guard = none ∧ o4.guard = none ∧ o5.guard = none)
    (he : o0.after = #[] ∧ o1.after = #[] ∧ o2.after = #[] ∧ o3.after = #[]) (hd : o4.dst = none ∧ o5.dst = none) (he4 : ∀ e ∈ o4.after, e.on < 4) (he5 : ∀ e ∈ o5.after, e.on < 5)
    (hw4 : ∀ j, j < 4 → ∃ e ∈ o4.after, Region.binds .any e = true ∧ e.on = j) (hw5 : ∃ e ∈ o5.after, Region.binds .any e = true ∧ e.on = 4)
    (h0 : ∀ v0 v1 v2 v3 w' K, Below w.heap.size w w' → K ((four a d0 d1 d2 d3 v0 v1 v2 v3).put (some d0) (.agg sv)) w' → o0.wp P (four a d0 d1 d2 d3 v0 v1 v2 v3) w' K Q)
    (h1 : ∀ v0 v1 v2 v3 w' K, Below w.heap.size w w' → (∀ w'', Below w'.heap.size w' w'' → K ((four a d0 d1 d2 d3 v0 v1 v2 v3).put (some d1) (.agg kv)) w'') → o1.wp P (four a d0 d1 d2 d3 v0 v1 v2 v3) w' K Q)
    (h2 : ∀ v0 v1 v2 v3 w' K, K ((four a d0 d1 d2 d3 v0 v1 v2 v3).put (some d2) (.pointer (some ⟨w'.heap.size, 0, none⟩))) (w'.alloc (.cells z T8)) → o2.wp P (four a d0 d1 d2 d3 v0 v1 v2 v3) w' K Q)
    (h3 : ∀ v0 v1 v2 v3 w' K, K ((four a d0 d1 d2 d3 v0 v1 v2 v3).put (some d3) (.pointer (some ⟨w'.heap.size, 0, none⟩))) (w'.alloc (.cells zz T64)) → o3.wp P (four a d0 d1 d2 d3 v0 v1 v2 v3) w' K Q)
    (h4 : ∀ v1 v3 w' K p, w'.heap[p]? = some (.cells z T8 (0, 0)) → K ((four a d0 d1 d2 d3 (.agg sv) v1 (.pointer (some ⟨p, 0, none⟩)) v3).put o4.dst undef) (w'.setRow p sv) → o4.wp P (four a d0 d1 d2 d3 (.agg sv) v1 (.pointer (some ⟨p, 0, none⟩)) v3) w' K Q)
    (h5 : ∀ v0 v2 w' K q, w'.heap[q]? = some (.cells zz T64 (0, 0)) → K ((four a d0 d1 d2 d3 v0 (.agg kv) v2 (.pointer (some ⟨q, 0, none⟩))).put o5.dst undef) (w'.setRow q kv) → o5.wp P (four a d0 d1 d2 d3 v0 (.agg kv) v2 (.pointer (some ⟨q, 0, none⟩))) w' K Q)
    (hdone : ∀ w' p q, Below w.heap.size w w' → w.heap.size ≤ p → w.heap.size ≤ q → p ≠ q → w'.heap[p]? = some (.cells sv T8 (0, 0)) → w'.heap[q]? = some (.cells kv T64 (0, 0)) →
      Q .normal (four a d0 d1 d2 d3 (.agg sv) (.agg kv) (.pointer (some ⟨p, 0, none⟩)) (.pointer (some ⟨q, 0, none⟩))) w') : (Code.region id #[o0, o1, o2, o3, o4, o5] true).wp P Q a w := by
  obtain ⟨g0, g1, g2, g3, g4, g5⟩ := g
  obtain ⟨e0, e1, e2, e3⟩ := he
  refine wp_region_inv hm (fun m a' w' => ∃ b0 b1 b2 b3 b4 b5 v0 v1 v2 v3, m = #[b0, b1, b2, b3, b4, b5] ∧ a' = four a d0 d1 d2 d3 v0 v1 v2 v3 ∧ Below w.heap.size w w' ∧ (b0 = true → v0 = .agg sv) ∧ (b1 = true → v1 = .agg kv) ∧
    (b2 = true → ∃ p, v2 = .pointer (some ⟨p, 0, none⟩) ∧ w.heap.size ≤ p ∧ w'.heap[p]? = some (.cells (if b4 then sv else z) T8 (0, 0))) ∧
    (b3 = true → ∃ q, v3 = .pointer (some ⟨q, 0, none⟩) ∧ w.heap.size ≤ q ∧ w'.heap[q]? = some (.cells (if b5 then kv else zz) T64 (0, 0))) ∧ (b4 = true → b0 = true ∧ b1 = true ∧ b2 = true ∧ b3 = true) ∧ (b5 = true → b4 = true)) ?_ ?_ ?_
  · rintro m a' w' _ ⟨b0, b1, b2, b3, b4, b5, v0, v1, v2, v3, rfl, rfl, hB, f0, f1, f2, f3, f4, f5⟩ i hi
    obtain ⟨hl, x, hx, hall⟩ := mem_ready.1 hi
    have hlt : i < 6 := (Array.getElem?_eq_some_iff.1 hx).1
    match i, hlt with
    | 0, _ =>
      have hb : b0 = false := hl
      subst hb
      refine wpOp_plain rfl g0 (h0 _ _ _ _ w' _ hB ?_)
      exact ⟨true, b1, b2, b3, b4, b5, .agg sv, v1, v2, v3, rfl, four_put0 n01 n02 n03 _, hB, fun _ => rfl, f1, f2, f3, fun h => ⟨rfl, (f4 h).2⟩, f5⟩
    | 1, _ =>
      have hb : b1 = false := hl
      subst hb
      refine wpOp_plain rfl g1 (h1 _ _ _ _ w' _ hB fun w'' hb => ?_)
      refine ⟨b0, true, b2, b3, b4, b5, v0, .agg kv, v2, v3, rfl, four_put1 n12 n13 _, hB.trans (hb.mono hB.size), f0, fun _ => rfl, fun h => ?_, fun h => ?_, fun h => ⟨(f4 h).1, rfl, (f4 h).2.2⟩, f5⟩
      · obtain ⟨p, hp1, hp2, hp3⟩ := f2 h
        exact ⟨p, hp1, hp2, by rw [hb.block p (lt_of_row hp3)]; exact hp3⟩
      · obtain ⟨p, hp1, hp2, hp3⟩ := f3 h
        exact ⟨p, hp1, hp2, by rw [hb.block p (lt_of_row hp3)]; exact hp3⟩
    | 2, _ =>
      have hb : b2 = false := hl
      subst hb
      have hb4 : b4 = false := by cases b4 with | false => rfl | true => exact absurd (f4 rfl).2.2.1 (by simp)
      subst hb4
      have hn : Below w'.heap.size w' (w'.alloc (.cells z T8)) := (Below.refl _ _).alloc (Nat.le_refl _) _
      refine wpOp_plain rfl g2 (h2 _ _ _ _ w' _ ?_)
      refine ⟨b0, b1, true, b3, false, b5, v0, v1, _, v3, rfl, four_put2 n23 _, hB.trans (hn.mono hB.size), f0, f1, fun _ => ⟨_, rfl, hB.size, heap_alloc_new _ _⟩, fun h => ?_, fun h => absurd h (by simp), f5⟩
      obtain ⟨p, hp1, hp2, hp3⟩ := f3 h
      exact ⟨p, hp1, hp2, by rw [hn.block p (lt_of_row hp3)]; exact hp3⟩
    | 3, _ =>
      have hb : b3 = false := hl
      subst hb
      have hb4 : b4 = false := by cases b4 with | false => rfl | true => exact absurd (f4 rfl).2.2.2 (by simp)
      subst hb4
      have hb5 : b5 = false := by cases b5 with | false => rfl | true => exact absurd (f5 rfl) (by simp)
      subst hb5
      have hn : Below w'.heap.size w' (w'.alloc (.cells zz T64)) := (Below.refl _ _).alloc (Nat.le_refl _) _
      refine wpOp_plain rfl g3 (h3 _ _ _ _ w' _ ?_)
      refine ⟨b0, b1, b2, true, false, false, v0, v1, v2, _, rfl, four_put3 _, hB.trans (hn.mono hB.size), f0, f1, fun h => ?_, fun _ => ⟨_, rfl, hB.size, heap_alloc_new _ _⟩, fun h => absurd h (by simp), fun h => absurd h (by simp)⟩
      obtain ⟨p, hp1, hp2, hp3⟩ := f2 h
      exact ⟨p, hp1, hp2, by rw [hn.block p (lt_of_row hp3)]; exact hp3⟩
    | 4, _ =>
      have hb : b4 = false := hl
      subst hb
      have hx4 : x = o4 := (Option.some.inj hx).symm
      subst hx4
      have hw : ∀ j, j < 4 → (#[b0, b1, b2, b3, false, b5] : Array Bool).getD j false = true := fun j hj => by
        obtain ⟨e, he, hb, rfl⟩ := hw4 j hj
        exact hall e he hb
      have q0 : b0 = true := hw 0 (by decide)
      have q1 : b1 = true := hw 1 (by decide)
      have q2 : b2 = true := hw 2 (by decide)
      have q3 : b3 = true := hw 3 (by decide)
      have hb5 : b5 = false := by cases b5 with | false => rfl | true => exact absurd (f5 rfl) (by simp)
      subst hb5
      obtain ⟨p, rfl, hp2, hp3⟩ := f2 q2
      obtain ⟨q, rfl, hq2, hq3⟩ := f3 q3
      obtain rfl := f0 q0
      obtain rfl := f1 q1
      have hpq : p ≠ q := by
        rintro rfl
        rw [hp3] at hq3
        have := Option.some.inj hq3
        injection this with _ h2 _
        exact hT h2
      refine wpOp_plain rfl g4 (h4 _ _ w' _ p (by simpa using hp3) ?_)
      rw [hd.1]
      exact ⟨b0, b1, b2, b3, true, false, _, _, _, _, rfl, rfl, below_setRow hB hp2 _, fun _ => rfl, fun _ => rfl, fun _ => ⟨p, rfl, hp2, setRow_heap _ _ _ _ _ _ hp3⟩, fun _ => ⟨q, rfl, hq2, by rw [setRow_other _ _ _ _ (Ne.symm hpq)]; exact hq3⟩, fun _ => ⟨q0, q1, q2, q3⟩, fun h => rfl⟩
    | 5, _ =>
      have hb : b5 = false := hl
      subst hb
      have hx5 : x = o5 := (Option.some.inj hx).symm
      subst hx5
      have q4 : b4 = true := by
        obtain ⟨e, he, hb, h4⟩ := hw5
        have := hall e he hb
        rw [h4] at this; exact this
      subst q4
      obtain ⟨q0, q1, q2, q3⟩ := f4 rfl
      obtain ⟨p, rfl, hp2, hp3⟩ := f2 q2
      obtain ⟨q, rfl, hq2, hq3⟩ := f3 q3
      obtain rfl := f0 q0
      obtain rfl := f1 q1
      have hpq : p ≠ q := by
        rintro rfl
        rw [hp3] at hq3
        have := Option.some.inj hq3
        injection this with _ h2 _
        exact hT h2
      refine wpOp_plain rfl g5 (h5 _ _ w' _ q (by simpa using hq3) ?_)
      rw [hd.2]
      exact ⟨b0, b1, b2, b3, true, true, _, _, _, _, rfl, rfl, below_setRow hB hq2 _, fun _ => rfl, fun _ => rfl, fun _ => ⟨p, rfl, hp2, by rw [setRow_other _ _ _ _ hpq]; exact hp3⟩, fun _ => ⟨q, rfl, hq2, setRow_heap _ _ _ _ _ _ hq3⟩, fun _ => ⟨q0, q1, q2, q3⟩, fun _ => rfl⟩
  · rintro m a' w' _ ⟨b0, b1, b2, b3, b4, b5, v0, v1, v2, v3, rfl, rfl, hB, f0, f1, f2, f3, f4, f5⟩ hr
    have no : ∀ i, i ∉ Region.ready .any #[o0, o1, o2, o3, o4, o5] #[b0, b1, b2, b3, b4, b5] := fun i hi => by rw [hr] at hi; cases hi
    have q0 : b0 = true := by cases b0 with | true => rfl | false => exact absurd (mem_ready.2 ⟨rfl, o0, rfl, fun e he => by rw [e0] at he; simp at he⟩) (no 0)
    have q1 : b1 = true := by cases b1 with | true => rfl | false => exact absurd (mem_ready.2 ⟨rfl, o1, rfl, fun e he => by rw [e1] at he; simp at he⟩) (no 1)
    have q2 : b2 = true := by cases b2 with | true => rfl | false => exact absurd (mem_ready.2 ⟨rfl, o2, rfl, fun e he => by rw [e2] at he; simp at he⟩) (no 2)
    have q3 : b3 = true := by cases b3 with | true => rfl | false => exact absurd (mem_ready.2 ⟨rfl, o3, rfl, fun e he => by rw [e3] at he; simp at he⟩) (no 3)
    subst q0 q1 q2 q3
    have q4 : b4 = true := by
      cases b4 with
      | true => rfl
      | false =>
        refine absurd (mem_ready.2 ⟨rfl, o4, rfl, fun e he _ => ?_⟩) (no 4)
        have := he4 e he
        match e.on, this with
        | 0, _ => rfl
        | 1, _ => rfl
        | 2, _ => rfl
        | 3, _ => rfl
    subst q4
    have q5 : b5 = true := by
      cases b5 with
      | true => rfl
      | false =>
        refine absurd (mem_ready.2 ⟨rfl, o5, rfl, fun e he _ => ?_⟩) (no 5)
        have := he5 e he
        match e.on, this with
        | 0, _ => rfl
        | 1, _ => rfl
        | 2, _ => rfl
        | 3, _ => rfl
        | 4, _ => rfl
    subst q5
    obtain ⟨p, rfl, hp2, hp3⟩ := f2 rfl
    obtain ⟨q, rfl, hq2, hq3⟩ := f3 rfl
    obtain rfl := f0 rfl
    obtain rfl := f1 rfl
    have hpq : p ≠ q := by
      rintro rfl
      rw [hp3] at hq3
      have := Option.some.inj hq3
      injection this with _ h2 _
      exact hT h2
    exact hdone w' p q hB hp2 hq2 hpq (by simpa using hp3) (by simpa using hq3)
  · refine ⟨false, false, false, false, false, false, a.tmps.getD d0 undef, a.tmps.getD d1 undef, a.tmps.getD d2 undef, a.tmps.getD d3 undef, rfl, ?_, ⟨rfl, rfl, rfl, Nat.le_refl _, fun _ _ => rfl⟩, fun h => absurd h (by simp), fun h => absurd h (by simp), fun h => absurd h (by simp), fun h => absurd h (by simp), fun h => absurd h (by simp), fun h => absurd h (by simp)⟩
    unfold four
    rw [Act.put_self, Act.put_self, Act.put_self, Act.put_self]
end
end Go.Proofs.YtgmbfiikkogenaaGreatDoor
