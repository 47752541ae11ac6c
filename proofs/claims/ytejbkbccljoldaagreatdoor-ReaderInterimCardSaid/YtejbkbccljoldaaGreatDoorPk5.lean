/- The project's reader: variables, what a method leaves alone; copies of slices. The project's reader: small methods. The project's reader: room, checks, the start of a body. OfRequest, OfReply and Persistent of package framing, and what they call. Heads by the library's search: index, count, pieces at line ends. Plain mathematics. The small functions of package head, and the library's functions that it calls. Package head: the fields of lines, End, the start lines. -/
import Derived.Test.YtejbkbccljoldaaGreatDoorPk1
import Derived.Test.YtejbkbccljoldaaGreatDoorPk2
import Derived.Test.YtejbkbccljoldaaGreatDoorPk3
import Derived.Test.YtejbkbccljoldaaGreatDoorPk4
import Derived.Test.YtejbkbccljoldaaGreatDoorRows
import Derived.WalkKit
import Derived.WalkSpells
import Derived.WalkLawsBesides
import Derived.BigQuiet
import Derived.Deep.QuietTactic
import Derived.Lib.Bytealg
import Derived.Lib.IndexLaws
import Derived.Lib.Hide
import Derived.Laws.IdiomStrings
import Derived.Lib.SlTrimSet
import Derived.Lib.IndexBytes
import Derived.Lib.Split
import Derived.Deep.AppendLies
import Derived.Shelf.Strings.SlTrimAscii
import Derived.Shelf.Strings.SplitShaped
import Derived.Shelf.LaysM
import Derived.Shelf.Strings.BuilderK
import Derived.Shelf.Strconv.Itoa4
import Derived.Shelf.Strings.Prefix
import Derived.Shelf.Bytes.SlIndexWhole
import Derived.Test.YtejbkbccljoldaaGreatDoorProg
import Derived.Lib.SplitLaws
import Derived.WalkSmall
import Derived.ProofKit
import Derived.OpenShut
import Derived.Lib.Strings
import Derived.SliceStrings
import Derived.Deep.Quiet
import Derived.Tactics
import Derived.KernelRfl
import Derived.Below
import Derived.Laws.Bits64
import Derived.Lib.SlBytesConst
import Derived.Maps.AppendAt
import Derived.Laws.AppendOwnNone
import Derived.Great.BuildSlice
import Derived.Laws.Rows
import Derived.Laws.BitsAllLaws
import Derived.Laws.Shifts
import Derived.Maps.OwnOps
import Derived.Maps.OwnSet
import Derived.Deep.SlicePairs
import Derived.Lib.AppendZerosOnto
import Derived.Lib.AppendStr
import Derived.Laws.CopyOwn
import Derived.OwnWalk
import Derived.Laws.Strings3
import Derived.Laws.Concat
import Derived.Lib.ItoaMem
import Derived.Deep.RegionHeld3
import Derived.IntWalk
import Derived.Laws.RangeAny
import Derived.LoopTactic
import Derived.Sort.Grow
import Derived.Lib.ConvBytes
import Derived.Deep.DeepCutAuto
import Derived.Deep.MidRow
import Derived.Laws.Tables
import Derived.Deep.WholeRow
import Derived.StillTailTactics
import Derived.Deep.CutBlock
import Derived.Lib.LaidTab
import Derived.LaidSub
import Derived.Laws.Bits64b
import Derived.Lib.FrozenHead2
import Derived.Deep.Matrix
import Derived.Lib.LazyBuf
namespace Go.Proofs.YtejbkbccljoldaaGreatDoor
open Go.RowKit

/-- A message's variable. -/
def MVr (w : World) (g : Nat) (cs : Array Value) : Prop := w.heap[g]? = some (.cells cs 72 (0, 0))
theorem MVr.keep {w w' : World} {g : Nat} {cs : Array Value} (h : MVr w g cs) (hb : Below w.heap.size w w') : MVr w' g cs := by
  unfold MVr at *
  rw [hb.block g (Array.getElem?_eq_some_iff.1 h).1]; exact h
theorem MVr.lt {w : World} {g : Nat} {cs : Array Value} (h : MVr w g cs) : g < w.heap.size := (Array.getElem?_eq_some_iff.1 h).1
theorem MVr.cell {w : World} {g : Nat} {cs : Array Value} (h : MVr w g cs) (i : Nat) : w.cell? ⟨g, i, none⟩ = cs[i]? := cell_of_row _ _ _ _ _ _ h
theorem MVr.put {w : World} {g i : Nat} {cs : Array Value} {v : Value} (h : MVr w g cs) : MVr (w.setCell ⟨g, i, none⟩ v) g (cs.setIfInBounds i v) := heap_setCell_same w g i _ _ _ h
theorem MVr.frozen {w : World} {g : Nat} {cs : Array Value} (h : MVr w g cs) (i : Nat) : w.frozen? ⟨g, i, none⟩ = false := frozen_of_row w g i _ _ h
/-- The limits' variable. -/
def LVr (w : World) (g : Nat) (a b c : Int) : Prop := w.heap[g]? = some (.cells #[.int .i64 a, .int .i64 b, .int .i64 c] 80 (0, 0))
theorem LVr.keep {w w' : World} {g : Nat} {a b c : Int} (h : LVr w g a b c) (hb : Below w.heap.size w w') : LVr w' g a b c := by
  unfold LVr at *
  rw [hb.block g (Array.getElem?_eq_some_iff.1 h).1]; exact h
theorem LVr.lt {w : World} {g : Nat} {a b c : Int} (h : LVr w g a b c) : g < w.heap.size := (Array.getElem?_eq_some_iff.1 h).1
theorem sizeMs : (Tryz.prog.info? 72).map (·.size) = some 22 := by kernel_rfl
theorem sizeLm : (Tryz.prog.info? 80).map (·.size) = some 3 := by kernel_rfl
theorem oneLm (a b c : Int) : (#[.int .i64 a, .int .i64 b, .int .i64 c] : Array Value).all (·.oneCell') = true := by simp [Value.oneCell']
theorem grownBy_setRowM (w : World) (g : Nat) (cs : Array Value) : w.grownBy (w.setRow g cs) (some g) :=
  ⟨rfl, rfl, rfl, by simp [World.setRow], fun k _ hk => setRow_other _ _ _ _ (fun e => hk (by rw [e]))⟩
/-- What a variable of the call's own stores is nobody else's. -/
theorem grownBy_own {w w' : World} {r : Option Nat} {g : Nat} (h : w.grownBy w' r) (hg : w.heap.size ≤ g) (cs : Array Value) : w.grownBy (w'.setRow g cs) r :=
  grownBy_new h (grownBy_setRowM w' g cs) (fun i e => by injection e with e; omega)
theorem cell_lt {w : World} {x : Addr} {j : Nat} {v : Value} (h : w.cell? (x.add j) = some v) : x.block < w.heap.size := by
  unfold World.cell? at h
  rw [add_blockC] at h
  split at h
  · rename_i c t f he
    exact (Array.getElem?_eq_some_iff.1 he).1
  · cases h
theorem sameNe {w w' : World} {a : Option Addr} {l : List Fld} (h : FldsIn w a l) (hb : ∀ y, a = some y → l ≠ [] → w'.heap[y.block]? = w.heap[y.block]?) : FldsIn w' a l := by
  by_cases hl : l = []
  · subst hl; exact FldsIn.nil _ _
  · exact h.same fun y e => hb y e hl
theorem FldsIn.old {w : World} {a : Option Addr} {l : List Fld} (h : FldsIn w a l) {y : Addr} (e : a = some y) (hl : l ≠ []) : y.block < w.heap.size := by
  obtain ⟨x, hx, hc, _⟩ := h 0 (List.length_pos_iff.2 hl)
  rw [e] at hx
  obtain rfl := Option.some.inj hx
  exact cell_lt hc
theorem IsBytes.old {w : World} {a : Option Addr} {l : List UInt8} {c : Nat} (h : IsBytes w a l c) {y : Addr} (e : a = some y) (hl : l ≠ []) : y.block < w.heap.size := by
  rcases h with ⟨h1, _⟩ | ⟨x, h1, _, _, h4⟩
  · rw [h1] at e; cases e
  · rw [h1] at e
    obtain rfl := Option.some.inj e
    exact cell_lt (h4 0 (List.length_pos_iff.2 hl))
theorem FldsIn.grownR {w w' : World} {g : Nat} {a : Option Addr} {l : List Fld} (h : FldsIn w a l) (hg : w.grownBy w' (some g)) (hne : ∀ y, a = some y → l ≠ [] → y.block ≠ g) : FldsIn w' a l :=
  sameNe h fun y e hl => hg.block _ (h.old e hl) (fun e2 => hne y e hl (Option.some.inj e2))
theorem IsBytes.grownR {w w' : World} {g : Nat} {a : Option Addr} {l : List UInt8} {c : Nat} (h : IsBytes w a l c) (hg : w.grownBy w' (some g)) (hne : ∀ y, a = some y → l ≠ [] → y.block ≠ g) : IsBytes w' a l c :=
  h.same fun y e hl => hg.block _ (h.old e hl) (fun e2 => hne y e hl (Option.some.inj e2))
/-- No byte lies in this row. -/
def NoU8 (cs : Array Value) : Prop := ∀ (i : Nat) (z : Int), cs[i]? ≠ some (.int .u8 z)
theorem RMem.grown {P : Nat → Prop} {w w' : World} {s : RS} {fa ga la : Option Addr} {lc g : Nat} {cs : Array Value} (h : RMem P w s fa ga la lc) (hg : w.grownBy w' (some g)) (hP : ∀ k, P k → k ≠ g) (hm : MVr w g cs) (hn : NoU8 cs) : RMem P w' s fa ga la lc :=
  ⟨h.f1.grownR hg fun y e hl => hP _ (h.n1 y e hl), h.f2.grownR hg fun y e hl => hP _ (h.n2 y e hl), h.ln.grownR hg (row_awayR hm hn h.ln), h.n1, h.n2⟩
theorem results_rtt {P : Program} {fn : Func} {q1 q2 p1 : Tmp} {ty1 : TypeId} (h : fn.results = #[.cell p1 ty1, .tmp q1, .tmp q2]) (tmps : Array Value) (w : World) (g1 : Nat) (t1 : TypeId) (c1 : Array Value) (f1 : Nat × Nat) (d1 : TypeDesc)
    (hp1 : tmps.getD p1 undef = .pointer (some ⟨g1, 0, none⟩)) (hg1 : w.heap[g1]? = some (.cells c1 t1 f1))
    (hu1 : P.underlying ty1 = some d1) (hd1 : (match d1 with | .struct _ | .array _ _ => true | _ => false) = true) (hi1 : (P.info? ty1).map (·.size) = some c1.size) :
    (results fn tmps).run P w = .ok (.tuple #[.agg c1, tmps.getD q1 undef, tmps.getD q2 undef]) w := by
  have hp1' : tmps[p1]?.getD undef = .pointer (some ⟨g1, 0, none⟩) := by simpa using hp1
  simp [results, h, hp1', asAddr, run_loadVar_row w g1 t1 ty1 c1 f1 d1 hg1 hu1 hd1 hi1]
theorem results_r {P : Program} {fn : Func} {p1 : Tmp} {ty1 : TypeId} (h : fn.results = #[.cell p1 ty1]) (tmps : Array Value) (w : World) (g1 : Nat) (t1 : TypeId) (c1 : Array Value) (f1 : Nat × Nat) (d1 : TypeDesc)
    (hp1 : tmps.getD p1 undef = .pointer (some ⟨g1, 0, none⟩)) (hg1 : w.heap[g1]? = some (.cells c1 t1 f1))
    (hu1 : P.underlying ty1 = some d1) (hd1 : (match d1 with | .struct _ | .array _ _ => true | _ => false) = true) (hi1 : (P.info? ty1).map (·.size) = some c1.size) :
    (results fn tmps).run P w = .ok (.agg c1) w := by
  have hp1' : tmps[p1]?.getD undef = .pointer (some ⟨g1, 0, none⟩) := by simpa using hp1
  simp [results, h, hp1', asAddr, run_loadVar_row w g1 t1 ty1 c1 f1 d1 hg1 hu1 hd1 hi1]
theorem AccF.freshC {w0 w : World} {v : Value} {l : List Fld} (h : AccF w0 w v l) : ∃ a cap, v = .slice a l.length cap ∧ FldsIn w a l ∧ (∀ y, a = some y → w0.heap.size ≤ y.block) ∧ (a = none → cap = 0) := by
  obtain ⟨a, cap, e, hs, hn⟩ := h.shapeC
  refine ⟨a, cap, e, hs, fun y ha => ?_, fun ha => (hn ha).2⟩
  subst ha
  obtain ⟨⟨h1, h2⟩, _⟩ := h
  rcases h2 with ⟨rfl, h2⟩ | ⟨g, cap', cur, rfl, hg, _⟩
  · cases e
  · injection e with e1
    obtain rfl := Option.some.inj e1
    exact hg
theorem AccB.freshB {w0 w : World} {v : Value} {l : List UInt8} (h : AccB w0 w v l) : ∃ a cap, v = .slice a l.length cap ∧ IsBytes w a l cap ∧ ∀ y, a = some y → w0.heap.size ≤ y.block := by
  obtain ⟨a, cap, e, hs⟩ := h.shape
  refine ⟨a, cap, e, hs, fun y ha => ?_⟩
  subst ha
  obtain ⟨⟨h1, h2⟩, _⟩ := h
  rcases h2 with ⟨rfl, h2⟩ | ⟨g, cap', cur, rfl, hg, _⟩
  · cases e
  · injection e with e1
    obtain rfl := Option.some.inj e1
    exact hg

set_option maxRecDepth 100000 in
set_option maxHeartbeats 1000000 in
theorem cloneF_any (l : List Fld) (a : Option Addr) (c : Nat) (w : World) (h : FldsIn w a l) (hl : l.length ≤ 1000000) :
    Calls Tryz.prog 46 #[.slice a l.length c] w fun e w' => ∃ a' c', e = .returned (.slice a' l.length c') ∧ FldsIn w' a' l ∧ (∀ y, a' = some y → w.heap.size ≤ y.block) ∧ Below w.heap.size w w' := by
  cases a with
  | none =>
    have hl0 : l = [] := by
      cases l with
      | nil => rfl
      | cons x r => obtain ⟨y, hy, _⟩ := h 0 (by simp); cases hy
    subst hl0
    have hnil : ∀ W, (binOp .eql 27 (.slice none 0 c) (.slice none 0 0)).run Tryz.prog W = .ok (.bool true) W := fun W => run_eql_slice_nil W _ _ none 0 c Tryz.underlying27
    go_enter Tryz.func46, Tryz.ntmps46
    go_wp2_with fail
    go_ret
    exact ⟨none, 0, rfl, FldsIn.nil _ _, fun y e => (by cases e), Below.refl _ _⟩
  | some ad =>
    have H0 := Box.mk h
    clear h
    have HE := Box.mk (AccF.empty w)
    have hnil : ∀ W, (binOp .eql 27 (.slice (some ad) l.length c) (.slice none 0 0)).run Tryz.prog W = .ok (.bool false) W := fun W => run_eql_slice_nil W _ _ (some ad) l.length c Tryz.underlying27
    go_enter Tryz.func46, Tryz.ntmps46
    go_wp2_with (at_builtin; refine wpList_append_accfs _ rfl _ _ rfl rfl HE.out rfl ⟨H0.out.keep (below_oneF _ _), fun e => by cases e⟩ (by simp; omega) ?c1)
    case c1 =>
      intro v1 w1 hacc
      have H1 := Box.mk hacc
      clear hacc
      go_wp2_with fail
      go_ret
      obtain ⟨a2, c2, e2, h2, h3, _⟩ := H1.out.freshC
      exact ⟨a2, c2, by rw [e2]; rfl, h2, h3, H1.out.2⟩
set_option maxRecDepth 100000 in
set_option maxHeartbeats 1000000 in
theorem cloneY_any (l : List UInt8) (a : Option Addr) (c : Nat) (w : World) (h : IsBytes w a l c) (hl : l.length ≤ 1000000) :
    Calls Tryz.prog 47 #[.slice a l.length c] w fun e w' => ∃ a' c', e = .returned (.slice a' l.length c') ∧ IsBytes w' a' l c' ∧ (∀ y, a' = some y → w.heap.size ≤ y.block) ∧ Below w.heap.size w w' := by
  rcases h with ⟨rfl, rfl, rfl⟩ | ⟨ad, rfl, hr1, hr2, hr3⟩
  · have hnil : ∀ W, (binOp .eql 23 (.slice none 0 0) (.slice none 0 0)).run Tryz.prog W = .ok (.bool true) W := fun W => run_eql_slice_nil W _ _ none 0 0 Tryz.underlying23
    simp only [List.length_nil]
    go_enter Tryz.func47, Tryz.ntmps47
    go_wp2_with fail
    go_ret
    exact ⟨none, 0, rfl, .inl ⟨rfl, rfl, rfl⟩, (fun y e => by cases e), Below.refl _ _⟩
  · have H0 := Box.mk (show IsBytes w (some ad) l c from .inr ⟨ad, rfl, hr1, hr2, hr3⟩)
    clear hr1 hr2 hr3
    have HE := Box.mk (AccB.empty w)
    have hnil : ∀ W, (binOp .eql 23 (.slice (some ad) l.length c) (.slice none 0 0)).run Tryz.prog W = .ok (.bool false) W := fun W => run_eql_slice_nil W _ _ (some ad) l.length c Tryz.underlying23
    go_enter Tryz.func47, Tryz.ntmps47
    go_wp2_with (at_builtin; refine wpList_append_accs _ rfl _ _ rfl rfl HE.out rfl (H0.out.keep (below_oneF _ _)) (by simp; omega) ?c1)
    case c1 =>
      intro v1 w1 hacc
      have H1 := Box.mk hacc
      clear hacc
      go_wp2_with fail
      go_ret
      obtain ⟨a2, c2, e2, h2, h3⟩ := H1.out.freshB
      exact ⟨a2, c2, by rw [e2]; rfl, h2, h3, H1.out.2⟩
set_option maxRecDepth 100000 in
set_option maxHeartbeats 1000000 in
theorem cloneB_any (l : List UInt8) (a : Option Addr) (c : Nat) (w : World) (h : IsBytes w a l c) (hl : l.length ≤ 1000000) :
    Calls Tryz.prog 118 #[.slice a l.length c] w fun e w' => ∃ a' c', e = .returned (.slice a' l.length c') ∧ IsBytes w' a' l c' ∧ Below w.heap.size w w' := by
  rcases h with ⟨rfl, rfl, rfl⟩ | ⟨ad, rfl, hr1, hr2, hr3⟩
  · have hnil : ∀ W, (binOp .eql 23 (.slice none 0 0) (.slice none 0 0)).run Tryz.prog W = .ok (.bool true) W := fun W => run_eql_slice_nil W _ _ none 0 0 Tryz.underlying23
    simp only [List.length_nil]
    go_enter Tryz.func118, Tryz.ntmps118
    go_wp2_with fail
    go_ret
    exact ⟨none, 0, rfl, .inl ⟨rfl, rfl, rfl⟩, Below.refl _ _⟩
  · have H0 := Box.mk (show IsBytes w (some ad) l c from .inr ⟨ad, rfl, hr1, hr2, hr3⟩)
    clear hr1 hr2 hr3
    have HE := Box.mk (AccB.empty w)
    have hnil : ∀ W, (binOp .eql 23 (.slice (some ad) l.length c) (.slice none 0 0)).run Tryz.prog W = .ok (.bool false) W := fun W => run_eql_slice_nil W _ _ (some ad) l.length c Tryz.underlying23
    go_enter Tryz.func118, Tryz.ntmps118
    go_wp2_with (at_builtin; refine wpList_append_accs _ rfl _ _ rfl rfl HE.out rfl (H0.out.keep (below_oneF _ _)) (by simp; omega) ?c1)
    case c1 =>
      intro v1 w1 hacc
      have H1 := Box.mk hacc
      clear hacc
      go_wp2_with fail
      go_ret
      obtain ⟨a2, c2, e2, h2⟩ := H1.out.shape
      exact ⟨a2, c2, by rw [e2]; rfl, h2, H1.out.2⟩
end Go.Proofs.YtejbkbccljoldaaGreatDoor
namespace Go.Proofs.YtejbkbccljoldaaGreatDoor
open Go.RowKit

set_option linter.unusedVariables false
set_option maxRecDepth 100000 in
set_option maxHeartbeats 1000000 in
theorem mEnd_any (g : Nat) (cs : Array Value) (p n : Int) (w : World) (hm : MVr w g cs) (h2 : cs[2]? = some (.int .i64 p)) :
    Calls Tryz.prog 90 #[.pointer (some ⟨g, 0, none⟩), .int .i64 n] w fun e w' => e = .returned (.tuple #[.agg #[.int .i64 3, .slice none 0 0], .int .i64 n, .int .i64 0]) ∧ MVr w' g (cs.setIfInBounds 2 (.int .i64 2)) ∧ w.grownBy w' (some g) := by
  obtain ⟨W1, hW1⟩ : ∃ W1, W1 = w.alloc (.cells #[.int .i64 0, .slice none 0 0] 41) := ⟨_, rfl⟩
  have HB1 := Box.mk (show Below w.heap.size w W1 by rw [hW1]; exact below_oneF _ _)
  have HO := Box.mk (show PVr W1 w.heap.size #[.int .i64 0, .slice none 0 0] by rw [hW1]; exact heap_alloc_new _ _)
  have HW1 := Box.mk hW1
  clear hW1
  have HM1 := Box.mk (hm.keep HB1.out)
  have hlt := hm.lt
  have hc2 : W1.cell? ⟨g, 2, none⟩ = some (.int .i64 p) := by rw [HM1.out.cell]; exact h2
  have hz2 : W1.frozen? ⟨g, 2, none⟩ = false := HM1.out.frozen 2
  have HPN := Box.mk (show PVr (W1.setCell ⟨g, 2, none⟩ (.int .i64 2)) w.heap.size #[.int .i64 0, .slice none 0 0] from (heap_setCell_other _ _ _ _ (by show w.heap.size ≠ g; omega)).trans HO.out)
  clear hm h2
  go_enter Tryz.func90, Tryz.ntmps90
  go_upto_region 1 with fail
  rw [← HW1.out]
  clear HW1
  go_wp2_with (refine wpList_store_row rfl 41 _ _ rfl w.heap.size #[.int .i64 3, .slice none 0 0] rfl rfl 41 _ HPN.out sizePt rfl (onePt ..) ?_)
  (try simp only [Exit.inBlock, Exit.then])
  refine bodyPost_ret (results_rtt rfl _ _ w.heap.size 41 #[.int .i64 3, .slice none 0 0] (0, 0) _ rfl (setRow_heap _ _ _ _ _ _ HPN.out) Tryz.underlying41 rfl sizePt) rfl ?_
  exact ⟨rfl, (setRow_other _ _ _ _ (by omega)).trans HM1.out.put, grownBy_own (grownBy_afterC HB1.out (grownBy_setC _ _ _ _)) (Nat.le_refl _) _⟩
set_option maxRecDepth 100000 in
set_option maxHeartbeats 1000000 in
theorem mTake_nil (g : Nat) (cs : Array Value) (da : Option Addr) (dc : Nat) (w : World) (hm : MVr w g cs) :
    Calls Tryz.prog 91 #[.pointer (some ⟨g, 0, none⟩), .slice da 0 dc] w fun e w' => e = .returned (.tuple #[.agg #[.int .i64 0, .slice none 0 0], .int .i64 0, .int .i64 0]) ∧ MVr w' g cs ∧ w.grownBy w' (some g) := by
  obtain ⟨W1, hW1⟩ : ∃ W1, W1 = w.alloc (.cells #[.int .i64 0, .slice none 0 0] 41) := ⟨_, rfl⟩
  have HB1 := Box.mk (show Below w.heap.size w W1 by rw [hW1]; exact below_oneF _ _)
  have HO := Box.mk (show PVr W1 w.heap.size #[.int .i64 0, .slice none 0 0] by rw [hW1]; exact heap_alloc_new _ _)
  have HW1 := Box.mk hW1
  clear hW1
  have HM1 := Box.mk (hm.keep HB1.out)
  have hlt := hm.lt
  clear hm
  go_enter Tryz.func91, Tryz.ntmps91
  go_upto_region 1 with fail
  rw [← HW1.out]
  clear HW1
  go_wp2_with (refine wpList_store_row rfl 41 _ _ rfl w.heap.size #[.int .i64 0, .slice none 0 0] rfl rfl 41 _ HO.out sizePt rfl (onePt ..) ?_)
  (try simp only [Exit.inBlock, Exit.then])
  refine bodyPost_ret (results_rtt rfl _ _ w.heap.size 41 #[.int .i64 0, .slice none 0 0] (0, 0) _ rfl (setRow_heap _ _ _ _ _ _ HO.out) Tryz.underlying41 rfl sizePt) rfl ?_
  exact ⟨rfl, (setRow_other _ _ _ _ (by omega)).trans HM1.out, grownBy_own (grownBy_of HB1.out _) (Nat.le_refl _) _⟩
set_option maxRecDepth 100000 in
set_option maxHeartbeats 1000000 in
theorem mTake_some (g : Nat) (cs : Array Value) (z : Int) (d : List UInt8) (da : Option Addr) (dc : Nat) (w : World) (hm : MVr w g cs) (h17 : cs[17]? = some (.int .i64 z)) (hz : 0 ≤ z ∧ z ≤ 1000000000) (hn : NoU8 cs) (hd : IsBytes w da d dc) (hl : d.length ≤ 1000000) (h0 : 0 < d.length) :
    Calls Tryz.prog 91 #[.pointer (some ⟨g, 0, none⟩), .slice da d.length dc] w fun e w' => ∃ pa pc, e = .returned (.tuple #[.agg #[.int .i64 2, .slice pa d.length pc], .int .i64 d.length, .int .i64 0]) ∧ IsBytes w' pa d pc ∧ MVr w' g (cs.setIfInBounds 17 (.int .i64 (z + d.length))) ∧ w.grownBy w' (some g) := by
  obtain ⟨W1, hW1⟩ : ∃ W1, W1 = w.alloc (.cells #[.int .i64 0, .slice none 0 0] 41) := ⟨_, rfl⟩
  have HB1 := Box.mk (show Below w.heap.size w W1 by rw [hW1]; exact below_oneF _ _)
  have HO := Box.mk (show PVr W1 w.heap.size #[.int .i64 0, .slice none 0 0] by rw [hW1]; exact heap_alloc_new _ _)
  have HW1 := Box.mk hW1
  clear hW1
  have HM1 := Box.mk (hm.keep HB1.out)
  have hlt := hm.lt
  have hc17 : W1.cell? ⟨g, 17, none⟩ = some (.int .i64 z) := by rw [HM1.out.cell]; exact h17
  have hz17 : W1.frozen? ⟨g, 17, none⟩ = false := HM1.out.frozen 17
  have HAW := Box.mk (row_awayR hm hn hd)
  have HD := Box.mk hd
  have hlt1 : w.heap.size < W1.heap.size := (Array.getElem?_eq_some_iff.1 HO.out).1
  have el : ((d.length : Int) == 0) = false := by rw [beq_eq_false_iff_ne]; omega
  obtain ⟨hz0, hz1⟩ := hz
  clear hm h17 hn hd
  go_enter Tryz.func91, Tryz.ntmps91
  go_upto_region 1 with fail
  rw [← HW1.out]
  clear HW1
  go_upto_region 4 with fail
  obtain ⟨W2, hW2⟩ : ∃ W2, W2 = W1.setCell ⟨g, 17, none⟩ (.int .i64 (z + d.length)) := ⟨_, rfl⟩
  have HG2 := Box.mk (show w.grownBy W2 (some g) by rw [hW2]; exact grownBy_afterC HB1.out (grownBy_setC _ _ _ _))
  have HM2 := Box.mk (show MVr W2 g (cs.setIfInBounds 17 (.int .i64 (z + d.length))) by rw [hW2]; exact HM1.out.put)
  have HP2 := Box.mk (show PVr W2 w.heap.size #[.int .i64 0, .slice none 0 0] by rw [hW2]; exact (heap_setCell_other _ _ _ _ (by show w.heap.size ≠ g; omega)).trans HO.out)
  have HD2 := Box.mk (HD.out.grownR HG2.out HAW.out)
  rw [← hW2]
  clear hW2 hc17 hz17 HM1 HO HB1 HD HAW
  go_wp2_with fail
  refine (cloneB_any d da dc W2 HD2.out hl).mono ?_
  rintro e w3 ⟨pa, pc, rfl, hd3, hb3⟩
  have HD3 := Box.mk hd3
  have HM3 := Box.mk (HM2.out.keep hb3)
  have HP3 := Box.mk (HP2.out.keep hb3)
  have HG3 := Box.mk (grownBy_trans HG2.out (grownBy_of hb3 (some g)))
  clear hd3 hb3 HM2 HP2 HG2 HD2
  go_wp2_with (refine wpList_store_row rfl 41 _ _ rfl w.heap.size #[.int .i64 2, .slice pa d.length pc] rfl rfl 41 _ HP3.out sizePt rfl (onePt ..) ?_)
  (try simp only [Exit.inBlock, Exit.then])
  refine bodyPost_ret (results_rtt rfl _ _ w.heap.size 41 #[.int .i64 2, .slice pa d.length pc] (0, 0) _ rfl (setRow_heap _ _ _ _ _ _ HP3.out) Tryz.underlying41 rfl sizePt) rfl ?_
  exact ⟨pa, pc, rfl, HD3.out.same fun x e hl => setRow_other _ _ _ _ (row_awayR HP3.out (noU8_22 rfl) HD3.out x e hl), (setRow_other _ _ _ _ (by omega)).trans HM3.out, grownBy_own HG3.out (Nat.le_refl _) _⟩
set_option maxRecDepth 100000 in
set_option maxHeartbeats 1000000 in
theorem mNothing_any (g : Nat) (ba : Option Addr) (bn bc : Nat) (x y z : Int) (w : World) :
    Calls Tryz.prog 50 #[.pointer (some ⟨g, 0, none⟩), .slice ba bn bc, .agg #[.int .i64 x, .int .i64 y, .int .i64 z]] w fun e w' => e = .returned (.tuple #[.agg #[.int .i64 0, .slice none 0 0], .int .i64 0, .int .i64 0]) ∧ Below w.heap.size w w' := by
  obtain ⟨W1, hW1⟩ : ∃ W1, W1 = (w.alloc (.cells #[.int .i64 x, .int .i64 y, .int .i64 z] 80)).alloc (.cells #[.int .i64 0, .slice none 0 0] 41) := ⟨_, rfl⟩
  have HB1 := Box.mk (show Below w.heap.size w W1 by rw [hW1]; exact below_twoF (below_oneF _ _) _)
  have HO := Box.mk (show PVr W1 (w.heap.size + 1) #[.int .i64 0, .slice none 0 0] by
    have h := heap_alloc_new (w.alloc (.cells #[.int .i64 x, .int .i64 y, .int .i64 z] 80)) (.cells #[.int .i64 0, .slice none 0 0] 41)
    rw [World.size_alloc] at h
    rw [hW1]; exact h)
  have HW1 := Box.mk hW1
  clear hW1
  go_enter Tryz.func50, Tryz.ntmps50
  go_upto_region 1 with fail
  rw [← HW1.out]
  clear HW1
  go_wp2_with (refine wpList_store_row rfl 41 _ _ rfl (w.heap.size + 1) #[.int .i64 0, .slice none 0 0] rfl rfl 41 _ HO.out sizePt rfl (onePt ..) ?_)
  (try simp only [Exit.inBlock, Exit.then])
  refine bodyPost_ret (results_rtt rfl _ _ (w.heap.size + 1) 41 #[.int .i64 0, .slice none 0 0] (0, 0) _ rfl (setRow_heap _ _ _ _ _ _ HO.out) Tryz.underlying41 rfl sizePt) rfl ?_
  exact ⟨rfl, below_setRow HB1.out (by omega) _⟩
set_option maxRecDepth 100000 in
set_option maxHeartbeats 1000000 in
theorem limitsOf_any (x y z : Int) (w : World) (hy : 0 ≤ y ∧ y ≤ 1000000000) :
    Calls Tryz.prog 32 #[.int .i64 x, .int .i64 y, .int .i64 z] w fun e w' => e = .returned (.agg #[.int .i64 x, .int .i64 y, .int .i64 (if z ≤ 0 then 0 else z)]) ∧ Below w.heap.size w w' := by
  obtain ⟨W1, hW1⟩ : ∃ W1, W1 = w.alloc (.cells #[.int .i64 0, .int .i64 0, .int .i64 0] 80) := ⟨_, rfl⟩
  have HB1 := Box.mk (show Below w.heap.size w W1 by rw [hW1]; exact below_oneF _ _)
  have HO := Box.mk (show LVr W1 w.heap.size 0 0 0 by rw [hW1]; exact heap_alloc_new _ _)
  have HW1 := Box.mk hW1
  clear hW1
  have h1 : ∀ (ts : Array TypeId) (t : TypeId) (W : World), (Builtin.max_ ts t #[.int .i64 y, .int .i64 (-2)]).run Tryz.prog W = .ok (.int .i64 y) W := fun ts t W => by
    rw [run_max_int2, if_neg (by omega)]
  have h2 : ∀ (ts : Array TypeId) (t : TypeId) (W : World), (Builtin.min_ ts t #[.int .i64 y, .int .i64 9223372036854775806]).run Tryz.prog W = .ok (.int .i64 y) W := fun ts t W => by
    rw [run_min_int2, if_neg (by omega)]
  have h3 : ∀ (ts : Array TypeId) (t : TypeId) (W : World), (Builtin.max_ ts t #[.int .i64 z, .int .i64 0]).run Tryz.prog W = .ok (.int .i64 (if z ≤ 0 then 0 else z)) W := fun ts t W => by
    rw [run_max_int2]
    congr 2
    split <;> split <;> omega
  obtain ⟨r, hr⟩ : ∃ r : Int, r = if z ≤ 0 then 0 else z := ⟨_, rfl⟩
  rw [← hr] at h3
  rw [← hr]
  clear hr
  go_enter Tryz.func32, Tryz.ntmps32
  go_upto_region 1 with fail
  rw [← HW1.out]
  clear HW1
  go_wp2_with (refine wpList_store_row rfl 80 _ _ rfl w.heap.size #[.int .i64 x, .int .i64 y, .int .i64 r] rfl rfl 80 _ HO.out sizeLm rfl (oneLm ..) ?_)
  (try simp only [Exit.inBlock, Exit.then])
  refine bodyPost_ret (results_r rfl _ _ w.heap.size 80 #[.int .i64 x, .int .i64 y, .int .i64 r] (0, 0) _ rfl (setRow_heap _ _ _ _ _ _ HO.out) Tryz.underlying80 rfl sizeLm) rfl ?_
  exact ⟨rfl, below_setRow HB1.out (Nat.le_refl _) _⟩
set_option maxRecDepth 100000 in
set_option maxHeartbeats 1000000 in
theorem bodyStep_any (k : Int) (w : World) (hk : k = 1 ∨ k = 2 ∨ k = 3 ∨ k = 4) :
    Calls Tryz.prog 49 #[.int .i64 k] w fun e w' => e = .returned (if k = 3 then .func (.func 68) #[] #[] else if k = 4 then .func (.func 69) #[] #[] else .func (.func 67) #[] #[]) ∧ w = w' := by
  rcases hk with rfl | rfl | rfl | rfl <;>
  · go_enter Tryz.func49, Tryz.ntmps49
    go_wp2_with fail
    go_ret
    exact ⟨rfl, rfl⟩
set_option maxRecDepth 100000 in
set_option maxHeartbeats 1000000 in
theorem mStep_head (g : Nat) (cs : Array Value) (w : World) (hm : MVr w g cs) (h2 : cs[2]? = some (.int .i64 0)) :
    Calls Tryz.prog 31 #[.pointer (some ⟨g, 0, none⟩)] w fun e w' => e = .returned (.func (.func 48) #[] #[]) ∧ w = w' := by
  have hc2 : w.cell? ⟨g, 2, none⟩ = some (.int .i64 0) := by rw [hm.cell]; exact h2
  clear hm h2
  go_enter Tryz.func31, Tryz.ntmps31
  go_wp2_with fail
  go_ret
  exact ⟨rfl, rfl⟩
set_option maxRecDepth 100000 in
set_option maxHeartbeats 1000000 in
theorem mStep_body (g : Nat) (cs : Array Value) (k : Int) (v : Value) (w : World) (hm : MVr w g cs) (h2 : cs[2]? = some (.int .i64 1)) (h14 : cs[14]? = some (.int .i64 k)) (hk : k = 1 ∨ k = 2 ∨ k = 3 ∨ k = 4) (hv : (if k = 3 then .func (.func 68) #[] #[] else if k = 4 then .func (.func 69) #[] #[] else .func (.func 67) #[] #[]) = v) :
    Calls Tryz.prog 31 #[.pointer (some ⟨g, 0, none⟩)] w fun e w' => e = .returned v ∧ w = w' := by
  have hc2 : w.cell? ⟨g, 2, none⟩ = some (.int .i64 1) := by rw [hm.cell]; exact h2
  have hc14 : w.cell? ⟨g, 14, none⟩ = some (.int .i64 k) := by rw [hm.cell]; exact h14
  have HS := Box.mk (bodyStep_any k w hk)
  rw [hv] at HS
  clear hm h2 h14 hk hv
  go_enter Tryz.func31, Tryz.ntmps31
  go_wp2_with fail
  refine HS.out.mono ?_
  rintro e w1 ⟨rfl, rfl⟩
  go_wp2_with fail
  go_ret
  exact ⟨rfl, rfl⟩
set_option maxRecDepth 100000 in
set_option maxHeartbeats 1000000 in
theorem mStep_done (g : Nat) (cs : Array Value) (w : World) (hm : MVr w g cs) (h2 : cs[2]? = some (.int .i64 2)) :
    Calls Tryz.prog 31 #[.pointer (some ⟨g, 0, none⟩)] w fun e w' => e = .returned (.func (.func 50) #[] #[]) ∧ w = w' := by
  have hc2 : w.cell? ⟨g, 2, none⟩ = some (.int .i64 2) := by rw [hm.cell]; exact h2
  clear hm h2
  go_enter Tryz.func31, Tryz.ntmps31
  go_wp2_with fail
  go_ret
  exact ⟨rfl, rfl⟩
end Go.Proofs.YtejbkbccljoldaaGreatDoor
namespace Go.Proofs.YtejbkbccljoldaaGreatDoor
open Go.RowKit

section
variable {Q : Exit → Act → World → Prop} {a : Act} {w : World} {o : Oper} {s : Spec}
theorem run_fieldMsR (w : World) (g : Nat) : ∀ i, i < 9 → (Instr.fieldAt 72 (.pointer (some ⟨g, 0, none⟩)) i).run Tryz.prog w = .ok (.pointer (some ⟨g, [0, 1, 2, 3, 9, 14, 16, 17, 18].getD i 0, none⟩)) w
  | 0, _ => by simp [Instr.fieldAt, run_underlying Tryz.underlying72, Instr.sureAddr, fieldPlace, Addr.add]
  | 1, _ => by simp [Instr.fieldAt, run_underlying Tryz.underlying72, Instr.sureAddr, fieldPlace, Addr.add]
  | 2, _ => by simp [Instr.fieldAt, run_underlying Tryz.underlying72, Instr.sureAddr, fieldPlace, Addr.add]
  | 3, _ => by simp [Instr.fieldAt, run_underlying Tryz.underlying72, Instr.sureAddr, fieldPlace, Addr.add]
  | 4, _ => by simp [Instr.fieldAt, run_underlying Tryz.underlying72, Instr.sureAddr, fieldPlace, Addr.add]
  | 5, _ => by simp [Instr.fieldAt, run_underlying Tryz.underlying72, Instr.sureAddr, fieldPlace, Addr.add]
  | 6, _ => by simp [Instr.fieldAt, run_underlying Tryz.underlying72, Instr.sureAddr, fieldPlace, Addr.add]
  | 7, _ => by simp [Instr.fieldAt, run_underlying Tryz.underlying72, Instr.sureAddr, fieldPlace, Addr.add]
  | 8, _ => by simp [Instr.fieldAt, run_underlying Tryz.underlying72, Instr.sureAddr, fieldPlace, Addr.add]
theorem run_fieldLmR (w : World) (g : Nat) : ∀ i, i < 3 → (Instr.fieldAt 80 (.pointer (some ⟨g, 0, none⟩)) i).run Tryz.prog w = .ok (.pointer (some ⟨g, i, none⟩)) w
  | 0, _ => by simp [Instr.fieldAt, run_underlying Tryz.underlying80, Instr.sureAddr, fieldPlace, Addr.add]
  | 1, _ => by simp [Instr.fieldAt, run_underlying Tryz.underlying80, Instr.sureAddr, fieldPlace, Addr.add]
  | 2, _ => by simp [Instr.fieldAt, run_underlying Tryz.underlying80, Instr.sureAddr, fieldPlace, Addr.add]
theorem loc_fieldMs {x : Operand} {i : Nat} (ho : o.op = .fieldAddr 72 x i) {g j : Nat} (hx : a.eval x = .pointer (some ⟨g, 0, none⟩)) (hi : i < 9) (hj : [0, 1, 2, 3, 9, 14, 16, 17, 18].getD i 0 = j) (hs : s.p (.pointer (some ⟨g, j, none⟩)) w) :
    o.wp Tryz.prog a w (fun a' w' => ∃ v, a' = a.put o.dst v ∧ Below w.heap.size w w' ∧ s.p v w') Q := by
  subst hj
  exact loc_run (v := .pointer (some ⟨g, _, none⟩)) (by unfold execOp; rw [ho]; simp only [hx, Sem.run_bind, run_fieldMsR _ _ _ hi, Result.andThen_ok, Sem.run_pure]) (Below.refl _ _) hs
theorem loc_fieldLm {x : Operand} {i : Nat} (ho : o.op = .fieldAddr 80 x i) {g : Nat} (hx : a.eval x = .pointer (some ⟨g, 0, none⟩)) (hi : i < 3) (hs : s.p (.pointer (some ⟨g, i, none⟩)) w) :
    o.wp Tryz.prog a w (fun a' w' => ∃ v, a' = a.put o.dst v ∧ Below w.heap.size w w' ∧ s.p v w') Q :=
  loc_run (v := .pointer (some ⟨g, i, none⟩)) (by unfold execOp; rw [ho]; simp only [hx, Sem.run_bind, run_fieldLmR _ _ _ hi, Result.andThen_ok, Sem.run_pure]) (Below.refl _ _) hs
theorem loc_nilCheck {x : Operand} (ho : o.op = .nilCheck x) {p : Addr} (hx : a.eval x = .pointer (some p)) (hs : s.p (.pointer (some p)) w) :
    o.wp Tryz.prog a w (fun a' w' => ∃ v, a' = a.put o.dst v ∧ Below w.heap.size w w' ∧ s.p v w') Q :=
  loc_run (v := .pointer (some p)) (by unfold execOp; rw [ho]; simp only [hx]; rfl) (Below.refl _ _) hs
theorem loc_addZ {x y : Operand} {t : TypeId} (ho : o.op = .binOp .add 3 x y t) {m k r : Int} (hx : a.eval x = .int .i64 m) (hy : a.eval y = .int .i64 k) (hr : m + k = r) (hn : -1000000000000 ≤ r ∧ r ≤ 1000000000000) (hs : s.p (.int .i64 r) w) :
    o.wp Tryz.prog a w (fun a' w' => ∃ v, a' = a.put o.dst v ∧ Below w.heap.size w w' ∧ s.p v w') Q :=
  loc_run (v := .int .i64 r) (by
    have e : IntKind.i64.wrap (m + k) = r := by
      simp only [IntKind.wrap, IntKind.bits, IntKind.signed]; simp; omega
    have h : (Op.intArith .add .i64 m k).run Tryz.prog w = .ok (.int .i64 r) w := by
      unfold Op.intArith
      rw [← e]; rfl
    unfold execOp
    simp only [ho, hx, hy]
    simp [eqGuard, binOp, h, Result.andThen]) (Below.refl _ _) hs
theorem loc_subZ {x y : Operand} {t : TypeId} (ho : o.op = .binOp .sub 3 x y t) {m k r : Int} (hx : a.eval x = .int .i64 m) (hy : a.eval y = .int .i64 k) (hr : m - k = r) (hn : -1000000000000 ≤ r ∧ r ≤ 1000000000000) (hs : s.p (.int .i64 r) w) :
    o.wp Tryz.prog a w (fun a' w' => ∃ v, a' = a.put o.dst v ∧ Below w.heap.size w w' ∧ s.p v w') Q :=
  loc_run (v := .int .i64 r) (by
    have e : IntKind.i64.wrap (m - k) = r := by
      simp only [IntKind.wrap, IntKind.bits, IntKind.signed]; simp; omega
    have h : (Op.intArith .sub .i64 m k).run Tryz.prog w = .ok (.int .i64 r) w := by
      unfold Op.intArith
      rw [← e]; rfl
    unfold execOp
    simp only [ho, hx, hy]
    simp [eqGuard, binOp, h, Result.andThen]) (Below.refl _ _) hs
theorem loc_minZ2 {x y : Operand} {ts : Array TypeId} (ho : o.op = .call { callee := .builtin .min, args := #[x, y], argTypes := ts }) {m k r : Int} (hx : a.eval x = .int .i64 m) (hy : a.eval y = .int .i64 k) (hr : minI m k = r) (hs : s.p (.int .i64 r) w) :
    o.wp Tryz.prog a w (fun a' w' => ∃ v, a' = a.put o.dst v ∧ Below w.heap.size w w' ∧ s.p v w') Q :=
  loc_run (v := .int .i64 r) (by
    have e : (if k < m then k else m) = r := by rw [← hr]; unfold minI; split <;> split <;> omega
    unfold execOp
    simp only [ho, hx, hy, resolve, invoke, builtin, List.map_toArray, List.map_cons, List.map_nil, run_min_int2, e, Sem.run_bind, Sem.run_pure, Result.andThen_ok]) (Below.refl _ _) hs
theorem loc_minZ3 {x y z : Operand} {ts : Array TypeId} (ho : o.op = .call { callee := .builtin .min, args := #[x, y, z], argTypes := ts }) {m k l r : Int} (hx : a.eval x = .int .i64 m) (hy : a.eval y = .int .i64 k) (hz : a.eval z = .int .i64 l) (hr : minI (minI m k) l = r) (hs : s.p (.int .i64 r) w) :
    o.wp Tryz.prog a w (fun a' w' => ∃ v, a' = a.put o.dst v ∧ Below w.heap.size w w' ∧ s.p v w') Q :=
  loc_run (v := .int .i64 r) (by
    have e : (if l < (if k < m then k else m) then l else (if k < m then k else m)) = r := by rw [← hr]; unfold minI; split <;> split <;> (try split) <;> (try split) <;> omega
    unfold execOp
    simp only [ho, hx, hy, hz, resolve, invoke, builtin, List.map_toArray, List.map_cons, List.map_nil, run_min_int3, e, Sem.run_bind, Sem.run_pure, Result.andThen_ok]) (Below.refl _ _) hs
theorem wp_callV {P : Program} {K : Act → World → Prop} {y : Operand} {f : FuncId} {args : List Operand} {ts : Array TypeId} (ho : o.op = .call { callee := .value y, args := args.toArray, argTypes := ts }) (hy : a.eval y = .func (.func f) #[] #[])
    (hf : (P.funcs[f]?).map (fun fn => fn.name != "runtime.NumGoroutine" && fn.body.isSome) = some true) {R : Ending → World → Prop} (h : Calls P f (args.map a.eval).toArray w R) (hK : ∀ e w', R e w' → ∃ v, e = .returned v ∧ K (a.put o.dst v) w') : o.wp P a w K Q := by
  have hrun : (execOp a.eval o).run P w = .ok (.enter f (args.map a.eval).toArray) w := by
    unfold execOp; rw [ho]
    cases hfn : P.funcs[f]? with
    | none => rw [hfn] at hf; cases hf
    | some fn =>
      rw [hfn] at hf
      simp only [Option.map_some, Option.some.injEq, Bool.and_eq_true, bne_iff_ne, ne_eq] at hf
      have hb : fn.body ≠ none := fun e => by rw [e] at hf; exact absurd hf.2 (by simp)
      simp [resolve, Deferred.ofValue, invoke, callFunc, hy, hfn, hf.1, hb]
  unfold Oper.wp
  rw [hrun, Oper.upon_enter]
  refine h.mono ?_
  intro e w' hr
  obtain ⟨v, rfl, hk⟩ := hK e w' hr
  exact hk
end
set_option linter.unusedVariables false
set_option maxRecDepth 100000 in
set_option maxHeartbeats 1000000 in
theorem mRoom_any (g : Nat) (cs : Array Value) (x y r z : Int) (w : World) (hm : MVr w g cs) (h17 : cs[17]? = some (.int .i64 z)) (hy : 0 ≤ y ∧ y ≤ 1000000000) (hz : 0 ≤ z ∧ z ≤ 1000000000) :
    Calls Tryz.prog 93 #[.pointer (some ⟨g, 0, none⟩), .agg #[.int .i64 x, .int .i64 y, .int .i64 r]] w fun e w' => e = .returned (.int .i64 (minI r (y + 1 - z))) ∧ Below w.heap.size w w' := by
  obtain ⟨W1, hW1⟩ : ∃ W1, W1 = w.alloc (.cells #[.int .i64 x, .int .i64 y, .int .i64 r] 80) := ⟨_, rfl⟩
  have HB1 := Box.mk (show Below w.heap.size w W1 by rw [hW1]; exact below_oneF _ _)
  have HO := Box.mk (show LVr W1 w.heap.size x y r by rw [hW1]; exact heap_alloc_new _ _)
  have HW1 := Box.mk hW1
  clear hW1
  have HM1 := Box.mk (hm.keep HB1.out)
  have H17 := Box.mk h17
  clear hm h17
  go_enter Tryz.func93, Tryz.ntmps93
  go_upto_region 1 with fail
  rw [← HW1.out]
  clear HW1
  go_wp2_with fail
  rename_i K hK
  refine wp_region_local (S := [.val (.pointer (some ⟨w.heap.size, 2, none⟩)), .val (.int .i64 r), .val (.pointer (some ⟨w.heap.size, 1, none⟩)), .val (.int .i64 y), .val (.int .i64 (y + 1)), .val (.pointer (some ⟨g, 0, none⟩)), .val (.pointer (some ⟨g, 0, none⟩)), .val (.pointer (some ⟨g, 17, none⟩)), .val (.int .i64 z), .val (.int .i64 (y + 1 - z)), .val (.int .i64 (minI r (y + 1 - z))), .val (.int .i64 (minI r (y + 1 - z)))])
    (by kernel_rfl) (by kernel_rfl) (by kernel_rfl) ?_ ?_
  · refine ⟨?_, ?_, ?_, ?_, ?_, ?_, ?_, ?_, ?_, ?_, ?_, ?_, trivial⟩ <;> intro a w' hb hf hd
    · exact ⟨wanted_none rfl, loc_fieldLm rfl (hf.base 3 rfl) (by decide) rfl⟩
    · exact ⟨wanted_none rfl, loc_cell rfl (hd 0 rfl) (by rw [cell_of_row _ _ _ _ _ _ (HO.out.keep hb)]; rfl) (agg_int _) rfl⟩
    · exact ⟨wanted_none rfl, loc_fieldLm rfl (hf.base 3 rfl) (by decide) rfl⟩
    · exact ⟨wanted_none rfl, loc_cell rfl (hd 2 rfl) (by rw [cell_of_row _ _ _ _ _ _ (HO.out.keep hb)]; rfl) (agg_int _) rfl⟩
    · exact ⟨wanted_none rfl, loc_addZ rfl (hd 3 rfl) rfl rfl (by omega) rfl⟩
    · exact ⟨wanted_none rfl, loc_move rfl (hf.base 0 rfl)⟩
    · exact ⟨wanted_none rfl, loc_nilCheck rfl (hd 5 rfl) rfl⟩
    · exact ⟨wanted_none rfl, loc_fieldMs rfl (hd 6 rfl) (by decide) rfl rfl⟩
    · exact ⟨wanted_none rfl, loc_cell rfl (hd 7 rfl) (by rw [(HM1.out.keep hb).cell]; exact H17.out) (agg_int _) rfl⟩
    · exact ⟨wanted_none rfl, loc_subZ rfl (hd 4 rfl) (hd 8 rfl) rfl (by omega) rfl⟩
    · exact ⟨wanted_none rfl, loc_minZ2 rfl (hd 1 rfl) (hd 9 rfl) rfl rfl⟩
    · exact ⟨wanted_none rfl, loc_assign rfl (hd 10 rfl)⟩
  · intro a w' hb hf hh
    refine hK a w' ?_
    go_wp2_with fail
    exact local_ret rfl hf.defers (show a.eval (.tmp 4) = .int .i64 (minI r (y + 1 - z)) from hh 11 (by decide)) ⟨rfl, below_trans HB1.out hb⟩
set_option maxRecDepth 100000 in
set_option maxHeartbeats 1000000 in
theorem checkFrame_any (k l er body : Int) (w : World) :
    Calls Tryz.prog 87 #[.agg #[.int .i64 k, .int .i64 l], .int .i64 er, .int .i64 body] w fun e w' => e = .returned (.int .i64 (if er = 3 ∨ k = 2 ∧ body < l then 9 else er)) ∧ Below w.heap.size w w' := by
  obtain ⟨W1, hW1⟩ : ∃ W1, W1 = w.alloc (.cells #[.int .i64 k, .int .i64 l] 33) := ⟨_, rfl⟩
  have HB1 := Box.mk (show Below w.heap.size w W1 by rw [hW1]; exact below_oneF _ _)
  have HO := Box.mk (show KVar W1 w.heap.size k l by rw [hW1]; exact heap_alloc_new _ _)
  have HW1 := Box.mk hW1
  clear hW1
  have hk0 : W1.cell? ⟨w.heap.size, 0, none⟩ = some (.int .i64 k) := by rw [cell_of_row _ _ _ _ _ _ HO.out]; rfl
  have hk1 : W1.cell? ⟨w.heap.size, 1, none⟩ = some (.int .i64 l) := by rw [cell_of_row _ _ _ _ _ _ HO.out]; rfl
  by_cases h3 : er = 3
  · rw [if_pos (.inl h3)]
    have e3 : (er == 3) = true := by rw [h3]; rfl
    clear h3
    go_enter Tryz.func87, Tryz.ntmps87
    go_upto_region 1 with fail
    rw [← HW1.out]
    clear HW1
    go_wp2_with fail
    go_ret
    exact ⟨rfl, HB1.out⟩
  · have e3 : (er == 3) = false := by rw [beq_eq_false_iff_ne]; exact h3
    by_cases h2 : k = 2
    · have e2 : (k == 2) = true := by rw [h2]; rfl
      by_cases hb : body < l
      · rw [if_pos (.inr ⟨h2, hb⟩)]
        have hgt : l > body := hb
        clear h3 h2 hb
        go_enter Tryz.func87, Tryz.ntmps87
        go_upto_region 1 with fail
        rw [← HW1.out]
        clear HW1
        go_wp2_with fail
        go_ret
        exact ⟨rfl, HB1.out⟩
      · rw [if_neg (fun h => h.elim h3 fun h => hb h.2)]
        have hgt : ¬ l > body := hb
        clear h3 h2 hb
        go_enter Tryz.func87, Tryz.ntmps87
        go_upto_region 1 with fail
        rw [← HW1.out]
        clear HW1
        go_wp2_with fail
        go_ret
        exact ⟨rfl, HB1.out⟩
    · rw [if_neg (fun h => h.elim h3 fun h => h2 h.1)]
      have e2 : (k == 2) = false := by rw [beq_eq_false_iff_ne]; exact h2
      clear h3 h2
      go_enter Tryz.func87, Tryz.ntmps87
      go_upto_region 1 with fail
      rw [← HW1.out]
      clear HW1
      go_wp2_with fail
      go_ret
      exact ⟨rfl, HB1.out⟩
set_option maxRecDepth 100000 in
set_option maxHeartbeats 4000000 in
theorem mBody_any (g : Nat) (v0 v1 v3 v4 v5 v6 v7 v8 v9 v10 v11 v12 v13 : Value) (p k0 l0 left0 size0 q0 q1 q2 k l : Int) (qa : Option Addr) (qn qc : Nat) (w : World) (hm : MVr w g #[v0, v1, .int .i64 p, v3, v4, v5, v6, v7, v8, v9, v10, v11, v12, v13, .int .i64 k0, .int .i64 l0, .int .i64 left0, .int .i64 size0, .int .i64 q0, .int .i64 q1, .int .i64 q2, .slice qa qn qc]) :
    Calls Tryz.prog 86 #[.pointer (some ⟨g, 0, none⟩), .agg #[.int .i64 k, .int .i64 l]] w fun e w' => e = .returned (.tuple #[]) ∧ MVr w' g #[v0, v1, .int .i64 1, v3, v4, v5, v6, v7, v8, v9, v10, v11, v12, v13, .int .i64 k, .int .i64 l, .int .i64 l, .int .i64 0, .int .i64 0, .int .i64 0, .int .i64 0, .slice none 0 0] ∧ w.grownBy w' (some g) := by
  obtain ⟨c0, hc0⟩ : ∃ y0 : Array Value, y0 = #[v0, v1, .int .i64 p, v3, v4, v5, v6, v7, v8, v9, v10, v11, v12, v13, .int .i64 k0, .int .i64 l0, .int .i64 left0, .int .i64 size0, .int .i64 q0, .int .i64 q1, .int .i64 q2, .slice qa qn qc] := ⟨_, rfl⟩
  have HC0 := Box.mk hc0
  obtain ⟨c1, hc1⟩ : ∃ y0 : Array Value, y0 = #[v0, v1, .int .i64 1, v3, v4, v5, v6, v7, v8, v9, v10, v11, v12, v13, .int .i64 k0, .int .i64 l0, .int .i64 left0, .int .i64 size0, .int .i64 q0, .int .i64 q1, .int .i64 q2, .slice qa qn qc] := ⟨_, rfl⟩
  have HC1 := Box.mk hc1
  obtain ⟨c2, hc2⟩ : ∃ y0 : Array Value, y0 = #[v0, v1, .int .i64 1, v3, v4, v5, v6, v7, v8, v9, v10, v11, v12, v13, .int .i64 k, .int .i64 l, .int .i64 left0, .int .i64 size0, .int .i64 q0, .int .i64 q1, .int .i64 q2, .slice qa qn qc] := ⟨_, rfl⟩
  have HC2 := Box.mk hc2
  obtain ⟨c3, hc3⟩ : ∃ y0 : Array Value, y0 = #[v0, v1, .int .i64 1, v3, v4, v5, v6, v7, v8, v9, v10, v11, v12, v13, .int .i64 k, .int .i64 l, .int .i64 l, .int .i64 size0, .int .i64 q0, .int .i64 q1, .int .i64 q2, .slice qa qn qc] := ⟨_, rfl⟩
  have HC3 := Box.mk hc3
  obtain ⟨c4, hc4⟩ : ∃ y0 : Array Value, y0 = #[v0, v1, .int .i64 1, v3, v4, v5, v6, v7, v8, v9, v10, v11, v12, v13, .int .i64 k, .int .i64 l, .int .i64 l, .int .i64 0, .int .i64 q0, .int .i64 q1, .int .i64 q2, .slice qa qn qc] := ⟨_, rfl⟩
  have HC4 := Box.mk hc4
  obtain ⟨c5, hc5⟩ : ∃ y0 : Array Value, y0 = #[v0, v1, .int .i64 1, v3, v4, v5, v6, v7, v8, v9, v10, v11, v12, v13, .int .i64 k, .int .i64 l, .int .i64 l, .int .i64 0, .int .i64 0, .int .i64 0, .int .i64 0, .slice none 0 0] := ⟨_, rfl⟩
  have HC5 := Box.mk hc5
  rw [← hc0] at hm
  rw [← hc5]
  clear hc0 hc1 hc2 hc3 hc4 hc5
  obtain ⟨W1, hW1⟩ : ∃ W1, W1 = w.alloc (.cells #[.int .i64 k, .int .i64 l] 33) := ⟨_, rfl⟩
  have HB1 := Box.mk (show Below w.heap.size w W1 by rw [hW1]; exact below_oneF _ _)
  have HO := Box.mk (show KVar W1 w.heap.size k l by rw [hW1]; exact heap_alloc_new _ _)
  have HW1 := Box.mk hW1
  clear hW1
  have HM1 := Box.mk (hm.keep HB1.out)
  have hlt := hm.lt
  have HG1 := Box.mk (grownBy_of HB1.out (some g))
  have hm2 : W1.cell? ⟨g, 2, none⟩ = some (.int .i64 p) := by rw [HM1.out.cell, HC0.out]; rfl
  have hz2 : W1.frozen? ⟨g, 2, none⟩ = false := HM1.out.frozen 2
  clear hm
  go_enter Tryz.func86, Tryz.ntmps86
  go_upto_region 1 with fail
  rw [← HW1.out]
  clear HW1
  go_upto_region 2 with fail
  obtain ⟨W2, hW2⟩ : ∃ W2, W2 = W1.setCell ⟨g, 2, none⟩ (.int .i64 1) := ⟨_, rfl⟩
  have HM2 := Box.mk (show MVr W2 g c1 by rw [hW2]; have h := HM1.out.put (i := 2) (v := .int .i64 1); rw [show c0.setIfInBounds 2 (.int .i64 1) = c1 by rw [HC0.out, HC1.out]; rfl] at h; exact h)
  have HO2 := Box.mk (show KVar W2 w.heap.size k l by rw [hW2]; exact (heap_setCell_other _ _ _ _ (by show w.heap.size ≠ g; omega)).trans HO.out)
  have HG2 := Box.mk (show w.grownBy W2 (some g) by rw [hW2]; exact grownBy_trans HG1.out (grownBy_setC _ _ _ _))
  have hs1 : c1.size = 22 := by rw [HC1.out]; rfl
  rw [← hW2]
  clear hW2 hm2 hz2 HM1 HO HG1 HB1
  go_upto_region 3 with (first | refine wpList_load_row rfl 33 _ rfl w.heap.size rfl 33 #[.int .i64 k, .int .i64 l] (0, 0) _ HO2.out Tryz.underlying33 rfl sizeK ?_ | refine wpList_store_sub rfl 33 _ _ rfl g 14 #[.int .i64 k, .int .i64 l] rfl rfl 72 _ c2 HM2.out sizeK (by rw [hs1]; show 14 + 2 ≤ 22; decide) (oneK ..) (by rw [HC1.out, HC2.out]; rfl) ?_)
  obtain ⟨W3, hW3⟩ : ∃ W3, W3 = W2.setRow g c2 := ⟨_, rfl⟩
  have HM3 := Box.mk (show MVr W3 g c2 by rw [hW3]; exact setRow_heap _ _ _ _ _ _ HM2.out)
  have HO3 := Box.mk (show KVar W3 w.heap.size k l by rw [hW3]; exact (setRow_other _ _ _ _ (by omega)).trans HO2.out)
  have HG3 := Box.mk (show w.grownBy W3 (some g) by rw [hW3]; exact grownBy_trans HG2.out (grownBy_setRowM _ _ _))
  have hk1 : W3.cell? ⟨w.heap.size, 1, none⟩ = some (.int .i64 l) := by rw [cell_of_row _ _ _ _ _ _ HO3.out]; rfl
  have hm16 : W3.cell? ⟨g, 16, none⟩ = some (.int .i64 left0) := by rw [HM3.out.cell, HC2.out]; rfl
  have hz16 : W3.frozen? ⟨g, 16, none⟩ = false := HM3.out.frozen 16
  rw [← hW3]
  clear hW3 HM2 HO2 HG2 hs1
  go_upto_region 4 with fail
  obtain ⟨W4, hW4⟩ : ∃ W4, W4 = W3.setCell ⟨g, 16, none⟩ (.int .i64 l) := ⟨_, rfl⟩
  have HM4 := Box.mk (show MVr W4 g c3 by rw [hW4]; have h := HM3.out.put (i := 16) (v := .int .i64 l); rw [show c2.setIfInBounds 16 (.int .i64 l) = c3 by rw [HC2.out, HC3.out]; rfl] at h; exact h)
  have HG4 := Box.mk (show w.grownBy W4 (some g) by rw [hW4]; exact grownBy_trans HG3.out (grownBy_setC _ _ _ _))
  have hm17 : W4.cell? ⟨g, 17, none⟩ = some (.int .i64 size0) := by rw [HM4.out.cell, HC3.out]; rfl
  have hz17 : W4.frozen? ⟨g, 17, none⟩ = false := HM4.out.frozen 17
  rw [← hW4]
  clear hW4 HM3 HO3 HG3 hk1 hm16 hz16
  go_upto_region 5 with fail
  obtain ⟨W5, hW5⟩ : ∃ W5, W5 = W4.setCell ⟨g, 17, none⟩ (.int .i64 0) := ⟨_, rfl⟩
  have HM5 := Box.mk (show MVr W5 g c4 by rw [hW5]; have h := HM4.out.put (i := 17) (v := .int .i64 0); rw [show c3.setIfInBounds 17 (.int .i64 0) = c4 by rw [HC3.out, HC4.out]; rfl] at h; exact h)
  have HG5 := Box.mk (show w.grownBy W5 (some g) by rw [hW5]; exact grownBy_trans HG4.out (grownBy_setC _ _ _ _))
  have hs4 : c4.size = 22 := by rw [HC4.out]; rfl
  rw [← hW5]
  clear hW5 HM4 HG4 hm17 hz17
  go_wp2_with (refine wpList_store_sub rfl 35 _ _ rfl g 18 #[.int .i64 0, .int .i64 0, .int .i64 0, .slice none 0 0] rfl rfl 72 _ c5 HM5.out sizeC (by rw [hs4]; show 18 + 4 ≤ 22; decide) (oneC ..) (by rw [HC4.out, HC5.out]; rfl) ?_)
  go_end0
  exact ⟨rfl, setRow_heap _ _ _ _ _ _ HM5.out, grownBy_trans HG5.out (grownBy_setRowM _ _ _)⟩
end Go.Proofs.YtejbkbccljoldaaGreatDoor
namespace Go.Proofs.YtejbkbccljoldaaGreatDoor
open Go.RowKit

/-- What package bytealg holds. -/
def MaxOk (w : World) (mm : Int) : Prop := w.cell? ⟨0, 0, none⟩ = some (.int .i64 mm)
theorem MaxOk.keep {w w' : World} {mm : Int} (h : MaxOk w mm) (hb : Below w.heap.size w w') : MaxOk w' mm := below_cell hb h
def clP : ByteArray := ⟨#[67, 111, 110, 116, 101, 110, 116, 45, 76, 101, 110, 103, 116, 104]⟩
def teP : ByteArray := ⟨#[84, 114, 97, 110, 115, 102, 101, 114, 45, 69, 110, 99, 111, 100, 105, 110, 103]⟩
theorem low_cl : lowS clP = lowS clN := by decide +kernel
theorem low_te : lowS teP = lowS teN := by decide +kernel
theorem foldS_low {a n m : ByteArray} (h : lowS n = lowS m) : foldS a n = foldS a m := by unfold foldS; rw [h]
theorem valuesL_low {n m : ByteArray} (l : List Fld) (h : lowS n = lowS m) : valuesL l n = valuesL l m := by
  unfold valuesL; simp only [foldS_low h]
theorem hasL_low {n m : ByteArray} (l : List Fld) (h : lowS n = lowS m) : hasL l n = hasL l m := by
  unfold hasL; simp only [foldS_low h]
theorem fValues_low {n m : ByteArray} (e : lowS n = lowS m) (l : List Fld) (a : Option Addr) (cap : Nat) (w : World) (h : FldsIn w a l) (hz : ShortF l) (hn : n.size ≤ maxLen) (hl : l.length ≤ 1000000) :
    Calls Tryz.prog 131 #[.slice a l.length cap, .string n] w (RetStrs w (valuesL l m)) := by
  rw [← valuesL_low l e]; exact fValues_any l n a cap w h hz hn hl
theorem fHas_low {n m : ByteArray} (e : lowS n = lowS m) (l : List Fld) (a : Option Addr) (cap : Nat) (w : World) (h : FldsIn w a l) (hz : ShortF l) (hn : n.size ≤ maxLen) (hl : l.length ≤ 1000000) :
    Calls Tryz.prog 132 #[.slice a l.length cap, .string n] w fun e w' => e = .returned (.bool (hasL l m)) ∧ Below w.heap.size w w' := by
  rw [← hasL_low l e]; exact fHas_any l n a cap w h hz hn hl
theorem fElements_low {n m : ByteArray} (e : lowS n = lowS m) (w : World) (mm : Int) (l : List Fld) (a : Option Addr) (cap : Nat) (h : FldsIn w a l) (hz : ShortF l) (hn : n.size ≤ maxLen) (hl : l.length ≤ 1000000) (hm : MaxOk w mm) (ht : total (valuesL l m) ≤ 4000000000) :
    Calls Tryz.prog 134 #[.slice a l.length cap, .string n] w (RetStrs w (listL (valuesL l m))) := by
  rw [← valuesL_low l e]; exact fElements_any w mm l n a cap h hz hn hl hm (by rw [valuesL_low l e]; exact ht)

set_option maxHeartbeats 1000000 in
theorem isChunked_any (x : List ByteArray) (a : Option Addr) (cap : Nat) (w : World) (h : StrsAt w a x) (hz : ∀ y ∈ x, y.size ≤ maxLen) (hl : x.length ≤ 4000000000) :
    Calls Tryz.prog 133 #[.slice a x.length cap] w fun e w' => e = .returned (.bool (chunkedB x)) ∧ Below w.heap.size w w' := by
  by_cases hx : x.length = 1
  · obtain ⟨y, rfl⟩ : ∃ y, x = [y] := by
      match x, hx with
      | [y], _ => exact ⟨y, rfl⟩
    have hyz := hz y (by simp)
    obtain ⟨b3, o3, e3, hc3⟩ := h 0 (by simp)
    subst e3
    simp only [List.getElem_cons_zero, Nat.add_zero] at hc3
    have HP := Box.mk (show chunkedB [y] = foldS y chunkedN from rfl)
    clear hx h hz hl
    rw [show ([y] : List ByteArray).length = 1 from rfl]
    go_enter Tryz.func133, Tryz.ntmps133
    go_wp2_with fail
    refine (fold_any y chunkedN _ hyz (by decide)).mono ?_
    rintro e w1 ⟨rfl, hb⟩
    have HB := Box.mk hb
    clear hb hc3
    generalize hr : foldS y chunkedN = r at *
    have HR := Box.mk hr
    clear hr
    go_wp2_with fail
    go_ret
    exact ⟨ret_bool HP.out.symm, HB.out⟩
  · have HP := Box.mk (chunkedB_ne hx)
    have ex : (((x.length : Nat) : Int) == 1) = false := by rw [beq_eq_false_iff_ne]; omega
    clear hx h hz
    go_enter Tryz.func133, Tryz.ntmps133
    go_wp2_with fail
    go_ret
    exact ⟨ret_bool HP.out.symm, Below.refl _ _⟩

def lenS (y : ByteArray) : Int × Int × Int :=
  if (parseS 10 1000000000 y).2 = 0 then (2, (parseS 10 1000000000 y).1, 0) else if (parseS 10 1000000000 y).2 = 2 then (0, 0, 5) else (0, 0, (parseS 10 1000000000 y).2)

set_option maxRecDepth 100000 in
set_option maxHeartbeats 2000000 in
theorem ofLength_any (y : ByteArray) (w : World) (hy : y.size ≤ maxLen) :
    Calls Tryz.prog 135 #[.string y] w fun e w' => e = .returned (frameV (lenS y)) ∧ Below w.heap.size w w' := by
  have HB := Box.mk (below_oneF w (.cells #[.int .i64 0, .int .i64 0] 33))
  have HR := Box.mk (show KVar (w.alloc (.cells #[.int .i64 0, .int .i64 0] 33)) w.heap.size 0 0 from heap_alloc_new _ _)
  have HP0 := Box.mk (show lenS y = if (parseS 10 1000000000 y).2 = 0 then (2, (parseS 10 1000000000 y).1, 0) else if (parseS 10 1000000000 y).2 = 2 then (0, 0, 5) else (0, 0, (parseS 10 1000000000 y).2) from rfl)
  go_enter Tryz.func135, Tryz.ntmps135
  go_wp2_with fail
  refine (parseDecimal_any y 1000000000 _ hy (by decide) (by decide)).mono ?_
  rintro e w1 ⟨he, rfl⟩
  generalize parseS 10 1000000000 y = pp at *
  obtain ⟨n, er⟩ := pp
  simp only [] at HP0
  subst he
  by_cases h0 : er = 0
  · have HP := Box.mk (show lenS y = (2, n, 0) by rw [HP0.out, if_pos h0])
    have e0 : (er == 0) = true := by rw [h0]; rfl
    clear HP0 h0
    go_wp2_with (refine wpList_store_row rfl 33 _ _ rfl (w.heap.size) #[.int .i64 2, .int .i64 n] rfl rfl 33 _ HR.out sizeK rfl (oneK _ _) ?_)
    (try simp only [Exit.inBlock, Exit.then])
    refine bodyPost_ret (results_row_tmpF rfl _ _ (w.heap.size) _ _ _ _ rfl (setRow_heap _ _ _ _ _ _ HR.out) Tryz.underlying33 rfl sizeK) rfl ?_
    exact ⟨by rw [HP.out]; rfl, below_setRow HB.out (Nat.le_refl _) _⟩
  · have e0 : (er == 0) = false := by rw [beq_eq_false_iff_ne]; exact h0
    by_cases h2 : er = 2
    · have HP := Box.mk (show lenS y = (0, 0, 5) by rw [HP0.out, if_neg h0, if_pos h2])
      have e2 : (er == 2) = true := by rw [h2]; rfl
      clear HP0 h0 h2
      go_wp2_with (refine wpList_store_row rfl 33 _ _ rfl (w.heap.size) #[.int .i64 0, .int .i64 0] rfl rfl 33 _ HR.out sizeK rfl (oneK _ _) ?_)
      (try simp only [Exit.inBlock, Exit.then])
      refine bodyPost_ret (results_row_tmpF rfl _ _ (w.heap.size) _ _ _ _ rfl (setRow_heap _ _ _ _ _ _ HR.out) Tryz.underlying33 rfl sizeK) rfl ?_
      exact ⟨by rw [HP.out]; rfl, below_setRow HB.out (Nat.le_refl _) _⟩
    · have HP := Box.mk (show lenS y = (0, 0, er) by rw [HP0.out, if_neg h0, if_neg h2])
      have e2 : (er == 2) = false := by rw [beq_eq_false_iff_ne]; exact h2
      clear HP0 h0 h2
      go_wp2_with (refine wpList_store_row rfl 33 _ _ rfl (w.heap.size) #[.int .i64 0, .int .i64 0] rfl rfl 33 _ HR.out sizeK rfl (oneK _ _) ?_)
      (try simp only [Exit.inBlock, Exit.then])
      refine bodyPost_ret (results_row_tmpF rfl _ _ (w.heap.size) _ _ _ _ rfl (setRow_heap _ _ _ _ _ _ HR.out) Tryz.underlying33 rfl sizeK) rfl ?_
      exact ⟨by rw [HP.out]; rfl, below_setRow HB.out (Nat.le_refl _) _⟩

theorem frameS_one {v : Int} {l : List Fld} {k0 : Int} {y : ByteArray} (h : hasL l teN = false) (h2 : valuesL l clN = [y]) : frameS v l k0 = lenS y := by
  rw [frameS_len h h2]
  unfold lenS
  by_cases h0 : (parseS 10 1000000000 y).2 = 0
  · rw [if_neg (by rw [h0]; simp), if_pos h0, if_pos h0]
  · by_cases h2 : (parseS 10 1000000000 y).2 = 2
    · rw [if_pos (.inr h2), if_neg h0, if_pos h2]
    · rw [if_neg (by simp [h2]), if_neg h0, if_neg h0, if_neg h2]

set_option maxRecDepth 100000 in
set_option maxHeartbeats 4000000 in
theorem ofFields_any (v : Int) (l : List Fld) (a : Option Addr) (cap : Nat) (mm : Int) (w : World) (h : FldsIn w a l) (hz : ShortF l) (hl : l.length ≤ 1000000) (ht : total (valuesL l teN) ≤ 4000000000) (hm : MaxOk w mm) :
    Calls Tryz.prog 115 #[.int .i64 v, .slice a l.length cap] w fun e w' => e = .returned (frameV (frameS v l 1)) ∧ Below w.heap.size w w' := by
  have HB := Box.mk (below_oneF w (.cells #[.int .i64 0, .int .i64 0] 33))
  have HR := Box.mk (show KVar (w.alloc (.cells #[.int .i64 0, .int .i64 0] 33)) w.heap.size 0 0 from heap_alloc_new _ _)
  have H0 := Box.mk (And.intro (h.keep HB.out) (And.intro hz ht))
  have HMX := Box.mk hm
  have HVS := Box.mk (fun (n y : ByteArray) => valuesL_small hz (n := n) (y := y))
  have hcl : (valuesL l clN).length ≤ 1000000 := Nat.le_trans (valuesL_len l clN) hl
  clear h hz ht hm
  go_enter Tryz.func115, Tryz.ntmps115
  go_wp2_with fail
  refine (fValues_low low_cl l a cap _ H0.out.1 H0.out.2.1 (by decide) hl).mono ?_
  rintro e w1 ⟨a1, c1, rfl, hs1, hb1⟩
  have HB1 := Box.mk (below_trans HB.out hb1)
  have HR1 := Box.mk (HR.out.keep hb1)
  have HS1 := Box.mk hs1
  have HF1 := Box.mk (H0.out.1.keep hb1)
  clear hb1 hs1 HB HR
  go_wp2_with fail
  refine (fHas_low low_te l a cap _ HF1.out H0.out.2.1 (by decide) hl).mono ?_
  rintro e w2 ⟨he, hb2⟩
  have HB2 := Box.mk (below_trans HB1.out hb2)
  have HR2 := Box.mk (HR1.out.keep hb2)
  have HS2 := Box.mk (HS1.out.keep hb2)
  have HF2 := Box.mk (HF1.out.keep hb2)
  have HM2 := Box.mk (HMX.out.keep HB2.out)
  clear hb2 HB1 HR1 HS1 HF1 HMX
  cases hte : hasL l teN with
  | true =>
    have HTE := Box.mk hte
    rw [HTE.out] at he
    subst he
    clear hte
    have HP0 := Box.mk (frameS_te (v := v) (k0 := 1) HTE.out)
    by_cases hv : v = 0
    · have HP := Box.mk (show frameS v l 1 = (0, 0, 5) by rw [HP0.out, if_pos (.inl hv)])
      have ev : (v != 0) = false := by rw [hv]; rfl
      clear hv HP0 HS2 HF2 HTE HVS
      generalize (valuesL l clN).length = q at *
      go_wp2_with (refine wpList_store_row rfl 33 _ _ rfl (w.heap.size) #[.int .i64 0, .int .i64 0] rfl rfl 33 _ HR2.out sizeK rfl (oneK _ _) ?_)
      (try simp only [Exit.inBlock, Exit.then])
      refine bodyPost_ret (results_row_tmpF rfl _ _ (w.heap.size) _ _ _ _ rfl (setRow_heap _ _ _ _ _ _ HR2.out) Tryz.underlying33 rfl sizeK) rfl ?_
      exact ⟨by rw [HP.out]; rfl, below_setRow HB2.out (Nat.le_refl _) _⟩
    · have ev : (v != 0) = true := by rw [bne_iff_ne]; exact hv
      by_cases hc : 0 < (valuesL l clN).length
      · have HP := Box.mk (show frameS v l 1 = (0, 0, 5) by rw [HP0.out, if_pos (.inr (.inl hc))])
        clear hv HP0 HS2 HF2 HTE HVS
        generalize (valuesL l clN).length = q at *
        have eq : (((q : Nat) : Int) == 0) = false := by rw [beq_eq_false_iff_ne]; omega
        go_wp2_with (refine wpList_store_row rfl 33 _ _ rfl (w.heap.size) #[.int .i64 0, .int .i64 0] rfl rfl 33 _ HR2.out sizeK rfl (oneK _ _) ?_)
        (try simp only [Exit.inBlock, Exit.then])
        refine bodyPost_ret (results_row_tmpF rfl _ _ (w.heap.size) _ _ _ _ rfl (setRow_heap _ _ _ _ _ _ HR2.out) Tryz.underlying33 rfl sizeK) rfl ?_
        exact ⟨by rw [HP.out]; rfl, below_setRow HB2.out (Nat.le_refl _) _⟩
      · have HP1 := Box.mk (show frameS v l 1 = if chunkedB (listL (valuesL l teN)) = false then (0, 0, 5) else (3, 0, 0) by
          rw [HP0.out]
          by_cases hf : chunkedB (listL (valuesL l teN)) = false
          · rw [if_pos (.inr (.inr hf)), if_pos hf]
          · rw [if_neg hf, if_neg]
            rintro (h | h | h)
            · exact hv h
            · exact hc h
            · exact hf h)
        have HXZ := Box.mk (show ∀ y ∈ listL (valuesL l teN), y.size ≤ maxLen from fun y hy => by
          have := listL_small hy
          have := H0.out.2.2
          unfold maxLen; omega)
        have hxl : (listL (valuesL l teN)).length ≤ 4000000000 := Nat.le_trans (listL_length _) H0.out.2.2
        clear hv HP0 HS2 HTE HVS
        generalize (valuesL l clN).length = q at *
        have eq : (((q : Nat) : Int) == 0) = true := by rw [beq_iff_eq]; omega
        go_wp2_with fail
        refine (fElements_low low_te _ mm l a cap HF2.out H0.out.2.1 (by decide) hl HM2.out H0.out.2.2).mono ?_
        rintro e w3 ⟨a3, c3, rfl, hs3, hb3⟩
        have HB3 := Box.mk (below_trans HB2.out hb3)
        have HR3 := Box.mk (HR2.out.keep hb3)
        have HS3 := Box.mk hs3
        clear hb3 HB2 HR2 HF2 hs3 HM2
        generalize listL (valuesL l teN) = x at *
        go_wp2_with fail
        refine (isChunked_any x a3 c3 _ HS3.out HXZ.out hxl).mono ?_
        rintro e w4 ⟨he, hb4⟩
        have HB4 := Box.mk (below_trans HB3.out hb4)
        have HR4 := Box.mk (HR3.out.keep hb4)
        clear hb4 HB3 HR3 HS3 HXZ
        cases hf : chunkedB x with
        | false =>
          have HP := Box.mk (show frameS v l 1 = (0, 0, 5) by rw [HP1.out, if_pos hf])
          rw [hf] at he
          subst he
          clear hf HP1
          go_wp2_with (refine wpList_store_row rfl 33 _ _ rfl (w.heap.size) #[.int .i64 0, .int .i64 0] rfl rfl 33 _ HR4.out sizeK rfl (oneK _ _) ?_)
          (try simp only [Exit.inBlock, Exit.then])
          refine bodyPost_ret (results_row_tmpF rfl _ _ (w.heap.size) _ _ _ _ rfl (setRow_heap _ _ _ _ _ _ HR4.out) Tryz.underlying33 rfl sizeK) rfl ?_
          exact ⟨by rw [HP.out]; rfl, below_setRow HB4.out (Nat.le_refl _) _⟩
        | true =>
          have HP := Box.mk (show frameS v l 1 = (3, 0, 0) by rw [HP1.out, if_neg (by rw [hf]; decide)])
          rw [hf] at he
          subst he
          clear hf HP1
          go_wp2_with (refine wpList_store_row rfl 33 _ _ rfl (w.heap.size) #[.int .i64 3, .int .i64 0] rfl rfl 33 _ HR4.out sizeK rfl (oneK _ _) ?_)
          (try simp only [Exit.inBlock, Exit.then])
          refine bodyPost_ret (results_row_tmpF rfl _ _ (w.heap.size) _ _ _ _ rfl (setRow_heap _ _ _ _ _ _ HR4.out) Tryz.underlying33 rfl sizeK) rfl ?_
          exact ⟨by rw [HP.out]; rfl, below_setRow HB4.out (Nat.le_refl _) _⟩
  | false =>
    have HTE := Box.mk hte
    rw [HTE.out] at he
    subst he
    clear hte
    match hcv : valuesL l clN with
    | [] =>
      have HP := Box.mk (frameS_none (v := v) (k0 := 1) HTE.out hcv)
      rw [hcv] at hcl
      rw [show ([] : List ByteArray).length = 0 from rfl]
      clear hcv HS2 HF2 HTE HVS
      go_wp2_with (refine wpList_store_row rfl 33 _ _ rfl (w.heap.size) #[.int .i64 1, .int .i64 0] rfl rfl 33 _ HR2.out sizeK rfl (oneK _ _) ?_)
      (try simp only [Exit.inBlock, Exit.then])
      refine bodyPost_ret (results_row_tmpF rfl _ _ (w.heap.size) _ _ _ _ rfl (setRow_heap _ _ _ _ _ _ HR2.out) Tryz.underlying33 rfl sizeK) rfl ?_
      exact ⟨by rw [HP.out]; rfl, below_setRow HB2.out (Nat.le_refl _) _⟩
    | [y] =>
      have HP := Box.mk (frameS_one (v := v) (k0 := 1) HTE.out hcv)
      have hyz := HVS.out clN y (by rw [hcv]; simp)
      rw [hcv] at HS2 hcl
      obtain ⟨b3, o3, e3, hc3⟩ := HS2.out 0 (by simp)
      subst e3
      simp only [List.getElem_cons_zero, Nat.add_zero] at hc3
      rw [show ([y] : List ByteArray).length = 1 from rfl]
      clear hcv HS2 HF2 HTE HVS
      go_wp2_with fail
      refine (ofLength_any y _ hyz).mono ?_
      rintro e w3 ⟨he, hb3⟩
      have HB3 := Box.mk (below_trans HB2.out hb3)
      have HR3 := Box.mk (HR2.out.keep hb3)
      clear hb3 HB2 HR2 hc3
      generalize lenS y = pp at *
      obtain ⟨k, n, er⟩ := pp
      simp only [frameV] at he
      subst he
      go_wp2_with (refine wpList_store_row rfl 33 _ _ rfl (w.heap.size) #[.int .i64 k, .int .i64 n] rfl rfl 33 _ HR3.out sizeK rfl (oneK _ _) ?_)
      (try simp only [Exit.inBlock, Exit.then])
      refine bodyPost_ret (results_row_tmpF rfl _ _ (w.heap.size) _ _ _ _ rfl (setRow_heap _ _ _ _ _ _ HR3.out) Tryz.underlying33 rfl sizeK) rfl ?_
      exact ⟨by rw [HP.out]; rfl, below_setRow HB3.out (Nat.le_refl _) _⟩
    | y :: z :: r =>
      have HP := Box.mk (show frameS v l 1 = (0, 0, 5) by rw [frameS_len HTE.out hcv, if_pos (.inl (by simp))])
      rw [hcv] at hcl
      obtain ⟨q, hq⟩ : ∃ q, (y :: z :: r).length = q := ⟨_, rfl⟩
      rw [hq] at hcl ⊢
      have hq1 : 1 < q := by rw [← hq]; simp
      clear hcv HS2 HF2 HTE HVS hq
      go_wp2_with (refine wpList_store_row rfl 33 _ _ rfl (w.heap.size) #[.int .i64 0, .int .i64 0] rfl rfl 33 _ HR2.out sizeK rfl (oneK _ _) ?_)
      (try simp only [Exit.inBlock, Exit.then])
      refine bodyPost_ret (results_row_tmpF rfl _ _ (w.heap.size) _ _ _ _ rfl (setRow_heap _ _ _ _ _ _ HR2.out) Tryz.underlying33 rfl sizeK) rfl ?_
      exact ⟨by rw [HP.out]; rfl, below_setRow HB2.out (Nat.le_refl _) _⟩

set_option maxRecDepth 100000 in
set_option maxHeartbeats 2000000 in
theorem projOfReq_any (m t : ByteArray) (v : Int) (l : List Fld) (a : Option Addr) (cap : Nat) (fr : Bool) (ba : Option Addr) (bn bc : Nat) (mm : Int) (w : World) (h : FldsIn w a l) (hz : ShortF l) (hl : l.length ≤ 1000000) (ht : total (valuesL l teN) ≤ 4000000000) (hm : MaxOk w mm) :
    Calls Tryz.prog 85 #[.agg #[.string m, .string t, .int .i64 v, .slice a l.length cap, .bool fr, .slice ba bn bc]] w fun e w' => e = .returned (frameV (frameS v l 1)) ∧ Below w.heap.size w w' := by
  have hbw := below_twoF (below_oneF w (.cells #[.string m, .string t, .int .i64 v, .slice a l.length cap, .bool fr, .slice ba bn bc] 29)) (.cells #[.int .i64 0, .int .i64 0] 33)
  have HB := Box.mk hbw
  have HR := Box.mk (show KVar ((w.alloc (.cells #[.string m, .string t, .int .i64 v, .slice a l.length cap, .bool fr, .slice ba bn bc] 29)).alloc (.cells #[.int .i64 0, .int .i64 0] 33)) (w.heap.size + 1) 0 0 by
    have h := heap_alloc_new (w.alloc (.cells #[.string m, .string t, .int .i64 v, .slice a l.length cap, .bool fr, .slice ba bn bc] 29)) (.cells #[.int .i64 0, .int .i64 0] 33)
    rw [World.size_alloc] at h; exact h)
  have H0 := Box.mk (And.intro (h.keep hbw) (And.intro hz (And.intro ht (hm.keep hbw))))
  clear h hz ht hbw hm
  go_enter Tryz.func85, Tryz.ntmps85
  go_wp2_with fail
  refine (ofFields_any v l a cap mm _ H0.out.1 H0.out.2.1 hl H0.out.2.2.1 H0.out.2.2.2).mono ?_
  rintro e w1 ⟨he, hb1⟩
  have HB1 := Box.mk (below_trans HB.out hb1)
  have HR1 := Box.mk (HR.out.keep hb1)
  generalize hq : frameS v l 1 = q at *
  have HP := Box.mk hq
  obtain ⟨k, n, er⟩ := q
  simp only [frameV] at he
  clear hb1 HB HR hq H0
  subst he
  go_wp2_with (refine wpList_store_row rfl 33 _ _ rfl (w.heap.size + 1) #[.int .i64 k, .int .i64 n] rfl rfl 33 _ HR1.out sizeK rfl (oneK _ _) ?_)
  (try simp only [Exit.inBlock, Exit.then])
  refine bodyPost_ret (results_row_tmpF rfl _ _ (w.heap.size + 1) _ _ _ _ rfl (setRow_heap _ _ _ _ _ _ HR1.out) Tryz.underlying33 rfl sizeK) rfl ?_
  exact ⟨by rw [HP.out]; rfl, below_setRow HB1.out (by omega) _⟩

set_option maxHeartbeats 2000000 in
theorem isBodiless_any (method : ByteArray) (st : Int) (w : World) :
    Calls Tryz.prog 117 #[.string method, .int .i64 st] w fun e w' => e = .returned (.bool (noBody method st)) ∧ w = w' := by
  rcases noBody_cases method st with ⟨hn, hc⟩ | ⟨hn, h0, hst⟩
  · have HP := Box.mk hn
    rcases hc with h0 | ⟨h0, h1, h2⟩ | ⟨h0, h1⟩ | ⟨h0, h1⟩
    · have hm : (method.toList == [72, 69, 65, 68]) = true := by rw [litHead, toList_eq]; simp; exact h0
      clear h0 hn
      go_enter Tryz.func117, Tryz.ntmps117
      go_wp2_with fail
      go_ret
      exact ⟨ret_bool HP.out.symm, rfl⟩
    · have hm : (method.toList == [72, 69, 65, 68]) = false := by rw [litHead, toList_eq]; simp; exact h0
      clear h0 hn
      go_enter Tryz.func117, Tryz.ntmps117
      go_wp2_with fail
      go_ret
      exact ⟨ret_bool HP.out.symm, rfl⟩
    · have hm : (method.toList == [72, 69, 65, 68]) = false := by rw [litHead, toList_eq]; simp; exact h0
      clear h0 hn
      subst h1
      go_enter Tryz.func117, Tryz.ntmps117
      go_wp2_with fail
      go_ret
      exact ⟨ret_bool HP.out.symm, rfl⟩
    · have hm : (method.toList == [72, 69, 65, 68]) = false := by rw [litHead, toList_eq]; simp; exact h0
      clear h0 hn
      subst h1
      go_enter Tryz.func117, Tryz.ntmps117
      go_wp2_with fail
      go_ret
      exact ⟨ret_bool HP.out.symm, rfl⟩
  · have HP := Box.mk hn
    have hm : (method.toList == [72, 69, 65, 68]) = false := by rw [litHead, toList_eq]; simp; exact h0
    clear h0 hn
    rcases hst with hst | ⟨hst, h2, h3⟩
    · have e2 : (st == 204) = false := by rw [beq_eq_false_iff_ne]; omega
      have e3 : (st == 304) = false := by rw [beq_eq_false_iff_ne]; omega
      go_enter Tryz.func117, Tryz.ntmps117
      go_wp2_with fail
      go_ret
      exact ⟨ret_bool HP.out.symm, rfl⟩
    · have e2 : (st == 204) = false := by rw [beq_eq_false_iff_ne]; exact h2
      have e3 : (st == 304) = false := by rw [beq_eq_false_iff_ne]; exact h3
      clear h2 h3
      go_enter Tryz.func117, Tryz.ntmps117
      go_wp2_with fail
      go_ret
      exact ⟨ret_bool ((decide_eq_false (by omega)).trans HP.out.symm), rfl⟩

theorem frameS_close (v : Int) (l : List Fld) : frameS v l 4 = if (frameS v l 1).1 = 1 then (4, (frameS v l 1).2.1, (frameS v l 1).2.2) else frameS v l 1 := by
  unfold frameS
  repeat' split
  all_goals (first | rfl | simp_all)

set_option maxRecDepth 100000 in
set_option maxHeartbeats 4000000 in
theorem projOfReply_any (method : ByteArray) (st : Int) (r : ByteArray) (v : Int) (l : List Fld) (a : Option Addr) (cap : Nat) (ba : Option Addr) (bn bc : Nat) (mm : Int) (w : World) (h : FldsIn w a l) (hz : ShortF l) (hl : l.length ≤ 1000000) (ht : total (valuesL l teN) ≤ 4000000000) (hm : MaxOk w mm) :
    Calls Tryz.prog 89 #[.string method, .agg #[.int .i64 st, .string r, .int .i64 v, .slice a l.length cap, .slice ba bn bc]] w fun e w' => e = .returned (frameV (replyS method st v l)) ∧ Below w.heap.size w w' := by
  have hbw := below_twoF (below_oneF w (.cells #[.int .i64 st, .string r, .int .i64 v, .slice a l.length cap, .slice ba bn bc] 31)) (.cells #[.int .i64 0, .int .i64 0] 33)
  have HB := Box.mk hbw
  have HR := Box.mk (show KVar ((w.alloc (.cells #[.int .i64 st, .string r, .int .i64 v, .slice a l.length cap, .slice ba bn bc] 31)).alloc (.cells #[.int .i64 0, .int .i64 0] 33)) (w.heap.size + 1) 0 0 by
    have h := heap_alloc_new (w.alloc (.cells #[.int .i64 st, .string r, .int .i64 v, .slice a l.length cap, .slice ba bn bc] 31)) (.cells #[.int .i64 0, .int .i64 0] 33)
    rw [World.size_alloc] at h; exact h)
  have H0 := Box.mk (And.intro (h.keep hbw) (And.intro hz (And.intro ht (hm.keep hbw))))
  have HPN := Box.mk (show noBody method st = true → replyS method st v l = (1, 0, 0) from fun e => by unfold replyS; rw [if_pos e])
  have HPS := Box.mk (show noBody method st = false → replyS method st v l = if (frameS v l 1).1 = 1 then (4, (frameS v l 1).2.1, (frameS v l 1).2.2) else frameS v l 1 from fun e => by unfold replyS; rw [if_neg (by rw [e]; decide), frameS_close])
  clear h hz ht hbw hm
  go_enter Tryz.func89, Tryz.ntmps89
  go_wp2_with fail
  refine (isBodiless_any method st _).mono ?_
  rintro e w1 ⟨he, rfl⟩
  cases hn : noBody method st with
  | true =>
    have HP := Box.mk (HPN.out hn)
    rw [hn] at he
    subst he
    clear hn HPN HPS
    go_wp2_with (refine wpList_store_row rfl 33 _ _ rfl (w.heap.size + 1) #[.int .i64 1, .int .i64 0] rfl rfl 33 _ HR.out sizeK rfl (oneK _ _) ?_)
    (try simp only [Exit.inBlock, Exit.then])
    refine bodyPost_ret (results_row_tmpF rfl _ _ (w.heap.size + 1) _ _ _ _ rfl (setRow_heap _ _ _ _ _ _ HR.out) Tryz.underlying33 rfl sizeK) rfl ?_
    exact ⟨by rw [HP.out]; rfl, below_setRow HB.out (by omega) _⟩
  | false =>
    have HP0 := Box.mk (HPS.out hn)
    rw [hn] at he
    subst he
    clear hn HPN HPS
    go_wp2_with fail
    refine (ofFields_any v l a cap mm _ H0.out.1 H0.out.2.1 hl H0.out.2.2.1 H0.out.2.2.2).mono ?_
    rintro e w1 ⟨he, hb1⟩
    have HB1 := Box.mk (below_trans HB.out hb1)
    have HR1 := Box.mk (HR.out.keep hb1)
    generalize frameS v l 1 = q at *
    obtain ⟨k, n, er⟩ := q
    simp only [frameV] at he
    simp only [] at HP0
    clear hb1 HB HR H0
    subst he
    by_cases hk : k = 1
    · subst hk
      have HP := Box.mk (show replyS method st v l = (4, n, er) by rw [HP0.out]; rfl)
      have HR2 := Box.mk (HR1.out.keep (below_oneF w1 (.cells #[.int .i64 4, .int .i64 n] 33)))
      have HB2 := Box.mk (below_twoF HB1.out (.cells #[.int .i64 4, .int .i64 n] 33))
      clear HP0 HR1 HB1
      go_wp2_with (refine wpList_store_row rfl 33 _ _ rfl (w.heap.size + 1) #[.int .i64 4, .int .i64 n] rfl rfl 33 _ HR2.out sizeK rfl (oneK _ _) ?_)
      (try simp only [Exit.inBlock, Exit.then])
      refine bodyPost_ret (results_row_tmpF rfl _ _ (w.heap.size + 1) _ _ _ _ rfl (setRow_heap _ _ _ _ _ _ HR2.out) Tryz.underlying33 rfl sizeK) rfl ?_
      exact ⟨by rw [HP.out]; rfl, below_setRow HB2.out (by omega) _⟩
    · have HP := Box.mk (show replyS method st v l = (k, n, er) by rw [HP0.out]; exact if_neg hk)
      have ek : (k == 1) = false := by rw [beq_eq_false_iff_ne]; exact hk
      have HR2 := Box.mk (HR1.out.keep (below_oneF w1 (.cells #[.int .i64 k, .int .i64 n] 33)))
      have HB2 := Box.mk (below_twoF HB1.out (.cells #[.int .i64 k, .int .i64 n] 33))
      clear HP0 hk HR1 HB1
      go_wp2_with (refine wpList_store_row rfl 33 _ _ rfl (w.heap.size + 1) #[.int .i64 k, .int .i64 n] rfl rfl 33 _ HR2.out sizeK rfl (oneK _ _) ?_)
      (try simp only [Exit.inBlock, Exit.then])
      refine bodyPost_ret (results_row_tmpF rfl _ _ (w.heap.size + 1) _ _ _ _ rfl (setRow_heap _ _ _ _ _ _ HR2.out) Tryz.underlying33 rfl sizeK) rfl ?_
      exact ⟨by rw [HP.out]; rfl, below_setRow HB2.out (by omega) _⟩
end Go.Proofs.YtejbkbccljoldaaGreatDoor
namespace Go.Proofs.YtejbkbccljoldaaGreatDoor
open Go.RowKit

theorem take4_prefix (l : List UInt8) : (crlf2.isPrefixOf l = true) ↔ l.take 4 = crlf2 := by
  rw [List.isPrefixOf_iff_prefix, List.prefix_iff_eq_take]
  exact ⟨fun h => h.symm, fun h => h.symm⟩
theorem endGo_index : ∀ (l : List UInt8) (i : Nat), endGo i l = if Lib.index l crlf2 = -1 then -1 else Lib.index l crlf2 + 4 + i
  | [], i => by
    have e : Lib.index [] crlf2 = -1 := rfl
    rw [if_pos e]; rfl
  | x :: r, i => by
    have ih := endGo_index r (i + 1)
    have hge := Lib.index_ge r crlf2
    unfold endGo Lib.index
    by_cases h : (x :: r).take 4 = crlf2
    · rw [if_pos h, if_pos ((take4_prefix _).2 h), if_neg (by decide)]
      omega
    · rw [if_neg h, if_neg (fun e => h ((take4_prefix _).1 e)), ih]
      by_cases h1 : Lib.index r crlf2 = -1
      · rw [if_pos h1, if_pos (beq_iff_eq.2 h1), if_pos rfl]
      · rw [if_neg h1, if_neg (fun e => h1 (beq_iff_eq.1 e)), if_neg (by omega)]
        omega
theorem endGo_take : ∀ (l : List UInt8) (q i : Nat), endGo i (l.take q) = if endGo i l ≤ ((i + q : Nat) : Int) then endGo i l else -1
  | [], q, i => by
    rw [List.take_nil]
    have e : endGo i [] = -1 := rfl
    rw [e, if_pos (by omega)]
  | x :: r, 0, i => by
    rw [List.take_zero]
    have e : endGo i [] = -1 := rfl
    rw [e]
    split
    · rename_i h
      rcases endGo_range (x :: r) i with h2 | ⟨k, h1, h2, _⟩
      · exact h2.symm
      · rw [h1] at h; omega
    · rfl
  | x :: r, q + 1, i => by
    have ih := endGo_take r q (i + 1)
    rw [List.take_succ_cons]
    conv => lhs; unfold endGo
    conv => rhs; unfold endGo
    have e1 : (x :: r.take q).take 4 = ((x :: r).take 4).take (q + 1) := by
      rw [List.take_take, ← List.take_succ_cons, List.take_take, Nat.min_comm]
    by_cases h : (x :: r).take 4 = crlf2
    · rw [if_pos h]
      by_cases hq : 4 ≤ q + 1
      · rw [if_pos (by rw [e1, h, List.take_of_length_le (by simp [crlf2]; omega)]), if_pos (by omega)]
      · rw [if_neg (fun e => by
          rw [e1, h] at e
          have := congrArg List.length e
          rw [List.length_take] at this
          simp [crlf2] at this
          omega), ih]
        rw [if_neg (show ¬ (((i + 4 : Nat) : Int) ≤ ((i + (q + 1) : Nat) : Int)) by omega)]
        split
        · rename_i h3
          rcases endGo_range r (i + 1) with h2 | ⟨k, h1, h2, _⟩
          · exact h2
          · rw [h1] at h3; omega
        · rfl
    · rw [if_neg h, ih]
      by_cases hn : (x :: r.take q).take 4 = crlf2
      · exfalso
        rw [e1] at hn
        have hl := congrArg List.length hn
        rw [List.length_take, List.length_take] at hl
        simp only [crlf2, List.length_cons, List.length_nil] at hl
        rw [List.take_of_length_le (by rw [List.length_take]; omega)] at hn
        exact h hn
      · rw [if_neg hn]
        rw [show i + 1 + q = i + (q + 1) by omega]
/-- Where the library finds the end of the first q bytes. -/
theorem index_endZ (b : List UInt8) (q : Nat) : Lib.index (b.take q) crlf2 = if 0 ≤ endZ b ∧ endZ b ≤ q then endZ b - 4 else -1 := by
  have h1 := endGo_index (b.take q) 0
  have h2 := endGo_take b q 0
  have hge := Lib.index_ge (b.take q) crlf2
  rw [h2] at h1
  unfold endZ
  rw [show ((0 + q : Nat) : Int) = (q : Int) by omega] at h1
  rcases endGo_range b 0 with h | ⟨k, hk, hk1, hk2⟩
  · rw [h] at h1 ⊢
    rw [if_pos (by omega)] at h1
    rw [if_neg (by omega)]
    split at h1
    · assumption
    · omega
  · rw [hk] at h1 ⊢
    by_cases hq : (k : Int) ≤ q
    · rw [if_pos hq] at h1
      rw [if_pos ⟨by omega, hq⟩]
      split at h1 <;> omega
    · rw [if_neg hq] at h1
      rw [if_neg (fun h => hq h.2)]
      split at h1
      · assumption
      · omega

/-- Line ends in l. -/
def prs : List UInt8 → Nat
  | 13 :: 10 :: r => 1 + prs r
  | _ :: r => prs r
  | [] => 0
def crlf1 : List UInt8 := [13, 10]
theorem crlf1_pre (l : List UInt8) : crlf1.isPrefixOf l = true ↔ ∃ r, l = 13 :: 10 :: r := by
  rw [List.isPrefixOf_iff_prefix]
  constructor
  · rintro ⟨t, h⟩; exact ⟨t, h.symm⟩
  · rintro ⟨r, rfl⟩; exact ⟨r, rfl⟩
theorem count_crlf_hit (r : List UInt8) : Lib.count (13 :: 10 :: r) crlf1 = 1 + Lib.count r crlf1 := by
  have h : Lib.index (13 :: 10 :: r) crlf1 = ((0 : Nat) : Int) := by
    unfold Lib.index
    rw [if_pos ((crlf1_pre _).2 ⟨r, rfl⟩)]; rfl
  rw [Lib.count_hit (by simp [crlf1]) h]
  rfl
theorem count_crlf_miss (x : UInt8) (r : List UInt8) (hn : ¬ ∃ t, x :: r = 13 :: 10 :: t) : Lib.count (x :: r) crlf1 = Lib.count r crlf1 := by
  have hix : Lib.index (x :: r) crlf1 = if Lib.index r crlf1 == -1 then -1 else Lib.index r crlf1 + 1 := by
    conv => lhs; unfold Lib.index
    rw [if_neg (fun e => hn ((crlf1_pre _).1 e))]
  by_cases hm : Lib.index r crlf1 = -1
  · rw [Lib.count_miss hm, Lib.count_miss (by rw [hix, if_pos (beq_iff_eq.2 hm)])]
  · have hge := Lib.index_ge r crlf1
    obtain ⟨j, hj⟩ : ∃ j : Nat, Lib.index r crlf1 = j := ⟨(Lib.index r crlf1).toNat, by omega⟩
    have hix' : Lib.index (x :: r) crlf1 = ((j + 1 : Nat) : Int) := by rw [hix, if_neg (fun e => hm (beq_iff_eq.1 e)), hj]; omega
    rw [Lib.count_hit (by simp [crlf1]) hj, Lib.count_hit (by simp [crlf1]) hix']
    rw [show j + 1 + crlf1.length = (j + crlf1.length) + 1 by omega, List.drop_succ_cons]
theorem prs_hit (r : List UInt8) : prs (13 :: 10 :: r) = 1 + prs r := rfl
theorem prs_miss (x : UInt8) (r : List UInt8) (hn : ¬ ∃ t, x :: r = 13 :: 10 :: t) : prs (x :: r) = prs r := by
  conv => lhs; unfold prs
  split
  · rename_i h; cases h; exact absurd ⟨_, rfl⟩ hn
  · rename_i h; cases h; rfl
  · rename_i h; cases h
theorem count_prs (n : Nat) : ∀ l : List UInt8, l.length ≤ n → Lib.count l crlf1 = prs l := by
  induction n with
  | zero => intro l h; obtain rfl := List.eq_nil_of_length_eq_zero (Nat.le_zero.1 h); rfl
  | succ n ih =>
    intro l h
    cases l with
    | nil => rfl
    | cons x r =>
      by_cases hp : ∃ t, x :: r = 13 :: 10 :: t
      · obtain ⟨t, e⟩ := hp
        rw [e, count_crlf_hit, prs_hit, ih t (by rw [e] at h; simp at h; omega)]
      · rw [count_crlf_miss x r hp, prs_miss x r hp, ih r (by simpa using h)]
theorem prs_le (n : Nat) : ∀ l : List UInt8, l.length ≤ n → prs l ≤ l.count 10 ∧ prs l ≤ l.count 13 := by
  induction n with
  | zero => intro l h; obtain rfl := List.eq_nil_of_length_eq_zero (Nat.le_zero.1 h); exact ⟨Nat.zero_le _, Nat.zero_le _⟩
  | succ n ih =>
    intro l h
    cases l with
    | nil => exact ⟨Nat.zero_le _, Nat.zero_le _⟩
    | cons x r =>
      by_cases hp : ∃ t, x :: r = 13 :: 10 :: t
      · obtain ⟨t, e⟩ := hp
        rw [e]
        obtain ⟨h1, h2⟩ := ih t (by rw [e] at h; simp at h; omega)
        rw [prs_hit]
        simp
        omega
      · obtain ⟨h1, h2⟩ := ih r (by simpa using h)
        rw [prs_miss x r hp, List.count_cons, List.count_cons]
        omega
/-- Lines are whole: as the project counts, as the reference reads. -/
theorem lines_whole : ∀ (l cur : List UInt8), (cur.getLast? = some 13 → l.head? = some 10) →
    ((linesGo cur l).isSome = true ↔ (l.count 13 + (if cur.getLast? = some 13 then 1 else 0) = prs (if cur.getLast? = some 13 then 13 :: l else l) ∧ l.count 10 = prs (if cur.getLast? = some 13 then 13 :: l else l)))
  | [], cur, hp => by
    have hn : ¬ cur.getLast? = some 13 := fun e => by have := hp e; cases this
    rw [lines_nil, if_neg hn, if_neg hn]
    simp [prs]
  | x :: r, cur, hp => by
    by_cases hc : cur.getLast? = some 13
    · have hx : x = 10 := by have := hp hc; simpa using this
      subst hx
      have ih := lines_whole r [] (by simp)
      rw [if_neg (by simp)] at ih
      rw [lines_end hc, if_pos hc, if_pos hc, prs_hit, Option.isSome_map, ih, List.count_cons, List.count_cons]
      rw [if_neg (by simp)]
      simp
      omega
    · rw [if_neg hc, if_neg hc]
      obtain ⟨hl1, hl2⟩ := prs_le r.length r (Nat.le_refl _)
      by_cases h10 : x = 10
      · subst h10
        rw [lines_bad (.inr ⟨rfl, hc⟩), prs_miss 10 r (fun ⟨t, e⟩ => by injection e with e1 _; exact absurd e1 (by decide)), List.count_cons, List.count_cons]
        simp
        omega
      · by_cases h13 : x = 13
        · subst h13
          by_cases hr : r.head? = some 10
          · rw [lines_more h10 (fun _ => hr)]
            have ih := lines_whole r (cur ++ [13]) (fun _ => hr)
            rw [if_pos (by simp), if_pos (by simp)] at ih
            rw [ih, List.count_cons, List.count_cons]
            simp
          · rw [lines_bad (.inl ⟨rfl, hr⟩), prs_miss 13 r (fun ⟨t, e⟩ => by injection e with _ e2; rw [e2] at hr; exact hr rfl), List.count_cons, List.count_cons]
            simp
            omega
        · rw [lines_more h10 (fun e => absurd e h13)]
          have hl : ¬ (cur ++ [x]).getLast? = some 13 := by simpa using h13
          have ih := lines_whole r (cur ++ [x]) (fun e => absurd e hl)
          rw [if_neg hl, if_neg hl] at ih
          rw [ih, prs_miss x r (fun ⟨t, e⟩ => by injection e with e1 _; exact h13 e1), List.count_cons, List.count_cons]
          simp [h10, h13]
theorem lines_counts (b : List UInt8) : (linesGo [] b).isSome = true ↔ (b.count 13 = Lib.count b crlf1 ∧ b.count 10 = Lib.count b crlf1) := by
  have h := lines_whole b [] (by simp)
  rw [if_neg (by simp), if_neg (by simp)] at h
  rw [h, count_prs b.length b (Nat.le_refl _)]
  simp

/-- The pieces of l at line ends, behind the bytes cur of the first. -/
def spl : List UInt8 → List UInt8 → List ByteArray
  | cur, [] => [⟨cur.toArray⟩]
  | cur, x :: r => if x = 10 ∧ cur.getLast? = some 13 then ⟨cur.dropLast.toArray⟩ :: spl [] r else spl (cur ++ [x]) r
theorem lines_spl : ∀ (t cur : List UInt8) (L : List ByteArray), linesGo cur (t ++ crlf2) = some L → L = spl cur t ++ [⟨#[]⟩]
  | [], cur, L, h => by
    have e : linesGo cur ([] ++ crlf2) = some [⟨cur.toArray⟩, ⟨#[]⟩] := by
      show linesGo cur [13, 10, 13, 10] = _
      rw [lines_more (by decide) (fun _ => rfl), lines_end (by simp), lines_more (by decide) (fun _ => rfl), lines_end (by simp), lines_nil]
      simp
    rw [e] at h
    cases h
    rfl
  | x :: r, cur, L, h => by
    rw [List.cons_append] at h
    unfold spl
    by_cases hb : (x = 13 ∧ ¬ (r ++ crlf2).head? = some 10) ∨ (x = 10 ∧ ¬ cur.getLast? = some 13)
    · rw [lines_bad hb] at h; cases h
    · by_cases h10 : x = 10
      · have hc : cur.getLast? = some 13 := Classical.byContradiction fun e => hb (.inr ⟨h10, e⟩)
        subst h10
        rw [if_pos ⟨rfl, hc⟩]
        rw [lines_end hc] at h
        cases hr : linesGo [] (r ++ crlf2) with
        | none => rw [hr] at h; cases h
        | some y =>
          rw [hr] at h
          cases h
          rw [lines_spl r [] y hr]
          rfl
      · rw [if_neg (fun e => h10 e.1)]
        rw [lines_more h10 (fun e => Classical.byContradiction fun e2 => hb (.inl ⟨e, e2⟩))] at h
        exact lines_spl r _ L h
def crlfH : ByteArray := ⟨#[13, 10]⟩
theorem occ_crlf {l : List UInt8} {j : Nat} : Lib.occAt l crlf1 j = true ↔ l[j]? = some 13 ∧ l[j + 1]? = some 10 := by
  unfold Lib.occAt
  rw [crlf1_pre]
  constructor
  · rintro ⟨r, h⟩
    have h0 : (l.drop j)[0]? = some 13 := by rw [h]; rfl
    have h1 : (l.drop j)[1]? = some 10 := by rw [h]; rfl
    rw [List.getElem?_drop] at h0 h1
    exact ⟨h0, h1⟩
  · rintro ⟨h0, h1⟩
    have e0 : (l.drop j)[0]? = some 13 := by rw [List.getElem?_drop]; exact h0
    have e1 : (l.drop j)[1]? = some 10 := by rw [List.getElem?_drop]; exact h1
    match hd : l.drop j, e0, e1 with
    | x :: y :: r, e0, e1 =>
      simp at e0 e1
      exact ⟨r, by rw [e0, e1]⟩
/-- No line end lies in cur. -/
def NoEnd (cur : List UInt8) : Prop := ∀ j, Lib.occAt cur crlf1 j = false
theorem NoEnd.nil : NoEnd [] := fun j => by
  rw [Bool.eq_false_iff]; intro h
  have := (occ_crlf.1 h).1
  simp at this
theorem NoEnd.snoc {cur : List UInt8} {x : UInt8} (h : NoEnd cur) (hx : ¬ (x = 10 ∧ cur.getLast? = some 13)) : NoEnd (cur ++ [x]) := fun j => by
  rw [Bool.eq_false_iff]; intro hj
  obtain ⟨h0, h1⟩ := occ_crlf.1 hj
  by_cases hl : j + 1 < cur.length
  · rw [List.getElem?_append_left (by omega)] at h0
    rw [List.getElem?_append_left hl] at h1
    have := h j
    rw [occ_crlf.2 ⟨h0, h1⟩] at this
    cases this
  · by_cases he : j + 1 = cur.length
    · apply hx
      rw [List.getElem?_append_right (by omega), he, Nat.sub_self] at h1
      refine ⟨by simpa using h1, ?_⟩
      rw [List.getElem?_append_left (by omega)] at h0
      rw [List.getLast?_eq_getElem?, ← he]
      exact h0
    · rw [List.getElem?_append_right (by omega)] at h1
      have hk : j + 1 - cur.length ≠ 0 := by omega
      obtain ⟨k, hk2⟩ := Nat.exists_eq_succ_of_ne_zero hk
      rw [hk2] at h1
      simp at h1
theorem indexB_list (s : List UInt8) : Lib.indexB ⟨s.toArray⟩ crlfH = Lib.index s crlf1 := rfl
theorem spl_split : ∀ (s cur : List UInt8) (k : Nat), NoEnd cur → Lib.countB ⟨(cur ++ s).toArray⟩ crlfH ≤ k → Lib.splitB crlfH 0 k ⟨(cur ++ s).toArray⟩ = spl cur s
  | [], cur, k, hn, _ => by
    rw [List.append_nil]
    rw [Lib.splitB_miss]
    · rfl
    · rw [indexB_list]
      exact Lib.index_none fun j _ => hn j
  | x :: r, cur, k, hn, hk => by
    unfold spl
    by_cases hx : x = 10 ∧ cur.getLast? = some 13
    · rw [if_pos hx]
      obtain ⟨rfl, hc⟩ := hx
      obtain ⟨c, rfl⟩ : ∃ c, cur = c ++ [13] := by
        obtain ⟨ys, h⟩ := List.getLast?_eq_some_iff.1 hc
        exact ⟨ys, h⟩
      rw [List.dropLast_concat]
      have hi : Lib.index (c ++ [13] ++ 10 :: r) crlf1 = (c.length : Int) := by
        refine Lib.index_first (by simp) ?_ ?_
        · rw [occ_crlf]
          constructor
          · simp
          · simp
        · intro j hj
          rw [Bool.eq_false_iff]; intro ho
          obtain ⟨h0, h1⟩ := occ_crlf.1 ho
          rw [List.getElem?_append_left (by simp; omega)] at h0 h1
          have := hn j
          rw [occ_crlf.2 ⟨h0, h1⟩] at this
          cases this
      have hib : Lib.indexB ⟨(c ++ [13] ++ 10 :: r).toArray⟩ crlfH = (c.length : Int) := hi
      have e2 : (⟨(c ++ [13] ++ 10 :: r).toArray⟩ : ByteArray).extract (c.length + crlfH.size) (⟨(c ++ [13] ++ 10 :: r).toArray⟩ : ByteArray).size = ⟨r.toArray⟩ := by
        apply ByteArray.ext
        apply Array.ext'
        rw [Lib.extract_to_end]
        show (c ++ [13] ++ 10 :: r).drop (c.length + 2) = r
        rw [show c ++ [13] ++ 10 :: r = (c ++ [13, 10]) ++ r by simp, List.drop_append_of_le_length (by simp)]
        rw [show c.length + 2 = (c ++ [13, 10]).length by simp, List.drop_length, List.nil_append]
      have hc2 := Lib.countB_hit _ crlfH c.length (by decide) hib
      rw [e2] at hc2
      obtain ⟨k', rfl⟩ : ∃ k', k = k' + 1 := ⟨k - 1, by omega⟩
      rw [Lib.splitB_hit crlfH 0 k' _ c.length hib, e2]
      have ih := spl_split r [] k' NoEnd.nil (by rw [List.nil_append]; omega)
      rw [List.nil_append] at ih
      rw [ih]
      congr 1
      apply ByteArray.ext
      apply Array.ext'
      rw [ByteArray.data_extract, Array.toList_extract]
      show List.extract (c ++ [13] ++ 10 :: r) 0 (c.length + 0) = c
      simp [List.extract]
    · rw [if_neg hx]
      have ih := spl_split r (cur ++ [x]) k (hn.snoc hx) (by rw [List.append_assoc]; exact hk)
      rw [List.append_assoc] at ih
      exact ih
end Go.Proofs.YtejbkbccljoldaaGreatDoor
namespace Go.Proofs.YtejbkbccljoldaaGreatDoor
open Go.RowKit

/-- What the project's functions want of memory: the library's variable MaxLen. -/
def HdOk (w : World) (mm : Int) : Prop := w.cell? ⟨0, 0, none⟩ = some (.int .i64 mm)
theorem HdOk.keep {w w' : World} {mm : Int} (h : HdOk w mm) (hb : Below w.heap.size w w') : HdOk w' mm := below_cell hb h
theorem countR_any (s sep : ByteArray) (mm : Int) (w : World) (hs : s.size < 4294967281) (hm : HdOk w mm) (h1 : 1 ≤ sep.size) :
    Calls Tryz.prog 139 #[.string s, .string sep] w fun e w' => e = .returned (.int .i64 (Lib.count s.data.toList sep.data.toList : Nat)) ∧ w = w' :=
  (Any.strings_Count_any Tryz.lays138 s sep mm w hs hm h1).mono fun _ _ ⟨he, hw⟩ => ⟨he, hw.symm⟩
theorem suffixR_any (s p : ByteArray) (w : World) (hs : s.size ≤ 9223372036854775807) :
    Calls Tryz.prog 128 #[.string s, .string p] w fun e w' => e = .returned (.string ⟨(Lib.trimSuffix s.data.toList p.data.toList).toArray⟩) ∧ w = w' :=
  (Any.strings_TrimSuffix Tryz.lays102 s p w hs).mono fun _ _ ⟨he, hw⟩ => ⟨he, hw.symm⟩
/-- At most 66 lines. -/
def piecesS (s : ByteArray) : List ByteArray := Lib.splitB crlfH 0 (min 66 (s.size + 1) - 1) s
theorem piecesS_pos (s : ByteArray) : 0 < (piecesS s).length := by
  unfold piecesS
  generalize min 66 (s.size + 1) - 1 = k
  cases k with
  | zero => exact Nat.one_pos
  | succ k => unfold Lib.splitB; split <;> simp
theorem splitL_any (s : ByteArray) (w : World) (mm : Int) (hs : s.size < 4294967281) (hm : HdOk w mm) :
    Calls Tryz.prog 127 #[.string s, .string ⟨#[13, 10]⟩, .int .i64 66] w fun e w' => ∃ cap, e = .returned (.slice (some ⟨w.heap.size, 0, none⟩) (piecesS s).length cap) ∧
      (piecesS s).length ≤ cap ∧ cap ≤ 66 ∧ StrsAt w' (some ⟨w.heap.size, 0, none⟩) (piecesS s) ∧ Below w.heap.size w w' := by
  refine (Any.strings_SplitN { Tryz.laysM147 with } Tryz.laysM147.i9 s ⟨#[13, 10]⟩ 66 mm w hs hm (by decide) (by decide) (by decide)).mono ?_
  rintro e w' ⟨he, hw⟩
  have hlen := Lib.splitB_length_le crlfH 0 (min 66 (s.size + 1) - 1) s
  refine ⟨_, he, by unfold piecesS; omega, by omega, fun j hj => ⟨_, _, rfl, ?_⟩, by rw [hw]; exact (Below.refl _ _).alloc (Nat.le_refl _) _⟩
  rw [hw, new_cellF, Nat.zero_add]
  exact cellsOf_at _ _ j hj
theorem bytesOf_nat (b : List UInt8) : Lib.bytesOf (b.map fun x => (x.toNat : Int)) = b := by
  unfold Lib.bytesOf
  rw [List.map_map]
  conv => rhs; rw [← List.map_id b]
  apply List.map_congr_left
  intro x _
  show UInt8.ofNat (x.toNat : Int).toNat = x
  rw [Int.toNat_natCast]; exact UInt8.ofNat_toNat
theorem idxR_any (b s : List UInt8) (a : Option Addr) (x2 : Addr) (c c2 : Nat) (mm : Int) (w : World) (h : IsBytes w a b c) (h2 : IsBytes w (some x2) s c2) (h0 : 1 < s.length) (hl : b.length ≤ 4000000000) (hm : HdOk w mm) :
    Calls Tryz.prog 83 #[.slice a b.length c, .slice (some x2) s.length c2] w fun e w' => e = .returned (.int .i64 (Lib.index b s)) ∧ Below w.heap.size w w' := by
  rcases h2 with ⟨e, _⟩ | ⟨x3, e, h21, h22, h23⟩
  · cases e
  cases e
  have hmx : maxLen = 9223372036854775807 ∨ maxLen ≤ 9223372036854775807 := by unfold maxLen; omega
  have hsl : s.length ≤ 9223372036854775807 := by unfold maxLen at h22; omega
  rcases h with ⟨rfl, rfl, rfl⟩ | ⟨x, rfl, h11, h12, h13⟩
  · refine (Any.bytes_Index_nil Tryz.lays185 (some x2) s.length c2 w hsl (fun e => by omega)).mono ?_
    rintro e w' ⟨he, hw⟩
    refine ⟨?_, by rw [hw]; exact Below.refl _ _⟩
    rw [he, if_neg (by omega)]
    unfold Lib.index
    rw [if_neg (by cases s with
      | nil => simp at h0
      | cons x r => simp)]
  · have hr : ∀ l : List UInt8, ∀ z ∈ l.map (fun x => (x.toNat : Int)), 0 ≤ z ∧ z < 256 := fun l z hz => by
      obtain ⟨y, _, rfl⟩ := List.mem_map.1 hz
      have := y.toNat_lt
      constructor
      · omega
      · have h3 : y.toNat < 256 := this
        omega
    have hg : ∀ (l : List UInt8) (i : Nat) (hi : i < l.length), (l.map fun x => (x.toNat : Int)).getD i 0 = (l[i].toNat : Int) := fun l i hi => by
      rw [List.getD_eq_getElem?_getD, List.getElem?_map, List.getElem?_eq_getElem hi]; rfl
    refine (Any.bytes_Index_at Tryz.lays185 x x2 b.length c s.length c2 (b.map fun x => (x.toNat : Int)) (s.map fun x => (x.toNat : Int)) mm w (by simp) (by simp) (hr b) (hr s)
      (fun i hi => by rw [hg b i hi]; exact h13 i hi) (fun i hi => by rw [hg s i hi]; exact h23 i hi) h11 (by omega) hsl hm).mono ?_
    rintro e w' ⟨he, q, hw⟩
    refine ⟨?_, by rw [hw]; exact below_drewN (Below.refl _ _) q⟩
    rw [he, bytesOf_nat, bytesOf_nat]
set_option maxRecDepth 100000 in
set_option maxHeartbeats 4000000 in
theorem projWhole_any (b : List UInt8) (mm : Int) (w : World) (hl : b.length ≤ 4000000000) (hm : HdOk w mm) :
    Calls Tryz.prog 126 #[.string ⟨b.toArray⟩] w fun e w' => e = .returned (.bool (linesGo [] b).isSome) ∧ w = w' := by
  have HC := Box.mk (lines_counts b)
  have HM := Box.mk hm
  have hsz : (⟨b.toArray⟩ : ByteArray).size = b.length := rfl
  have HN := Box.mk (fun sep h1 => countR_any ⟨b.toArray⟩ sep mm w (by omega) hm h1)
  have HN1 := Box.mk (show Calls Tryz.prog 139 #[.string ⟨b.toArray⟩, .string ⟨#[13, 10]⟩] w fun e w' => e = .returned (.int .i64 (Lib.count b crlf1 : Nat)) ∧ w = w' from HN.out ⟨#[13, 10]⟩ (by decide))
  have HN2 := Box.mk (show Calls Tryz.prog 139 #[.string ⟨b.toArray⟩, .string ⟨#[13]⟩] w fun e w' => e = .returned (.int .i64 (b.count 13 : Nat)) ∧ w = w' by rw [← Lib.count_one]; exact HN.out ⟨#[13]⟩ (by decide))
  have HN3 := Box.mk (show Calls Tryz.prog 139 #[.string ⟨b.toArray⟩, .string ⟨#[10]⟩] w fun e w' => e = .returned (.int .i64 (b.count 10 : Nat)) ∧ w = w' by rw [← Lib.count_one]; exact HN.out ⟨#[10]⟩ (by decide))
  generalize (linesGo [] b).isSome = r at *
  generalize Lib.count b crlf1 = n at *
  generalize b.count 13 = n1 at *
  generalize b.count 10 = n2 at *
  clear hm HN hsz
  go_enter Tryz.func126, Tryz.ntmps126
  go_wp2_with fail
  refine HN1.out.mono ?_
  rintro e w1 ⟨rfl, rfl⟩
  clear HN1
  go_wp2_with fail
  refine HN2.out.mono ?_
  rintro e w1 ⟨rfl, rfl⟩
  clear HN2
  by_cases h1 : n1 = n
  · have e1 : ((n1 : Int) == (n : Int)) = true := by rw [h1]; exact beq_self_eq_true _
    go_wp2_with fail
    refine HN3.out.mono ?_
    rintro e w1 ⟨rfl, rfl⟩
    have HP := Box.mk (show ((n2 : Int) == (n : Int)) = r by
      rw [Bool.eq_iff_iff, HC.out, beq_iff_eq]
      constructor
      · intro h; exact ⟨h1, by omega⟩
      · intro h; omega)
    clear HN3 HC h1
    go_wp2_with fail
    go_ret
    rw [HP.out]
    exact ⟨rfl, rfl⟩
  · have e1 : ((n1 : Int) == (n : Int)) = false := by rw [beq_eq_false_iff_ne]; omega
    have HP := Box.mk (show r = false by
      rw [Bool.eq_false_iff]
      intro h
      exact h1 (HC.out.1 h).1)
    clear HN3 HC h1
    go_wp2_with fail
    go_ret
    rw [HP.out]
    exact ⟨rfl, rfl⟩
def hostU : ByteArray := ⟨#[72, 111, 115, 116]⟩
theorem values_host (x : List Fld) : valuesL x hostU = valuesL x hostN := by
  have h : lowS hostU = lowS hostN := by decide +kernel
  unfold valuesL
  congr 1
/-- Is the host named as often as the version asks? -/
def hostB (x : List Fld) (z : Int) : Bool := decide ((valuesL x hostN).length = 1 ∨ ((valuesL x hostN).length = 0 ∧ ¬ z = 1))
set_option maxRecDepth 100000 in
set_option maxHeartbeats 4000000 in
theorem projHosted_any (z : Int) (x : List Fld) (fa : Option Addr) (fc : Nat) (w : World) (h : FldsIn w fa x) (hz : ShortF x) (hl : x.length ≤ 1000) :
    Calls Tryz.prog 114 #[.int .i64 z, .slice fa x.length fc] w fun e w' => e = .returned (.bool (hostB x z)) ∧ Below w.heap.size w w' := by
  have HD := Box.mk (show hostB x z = decide ((valuesL x hostN).length = 1 ∨ ((valuesL x hostN).length = 0 ∧ ¬ z = 1)) from rfl)
  have HN := Box.mk (fValues_any x hostU fa fc w h hz (by decide) (by omega))
  rw [values_host] at HN
  generalize hostB x z = r at *
  go_enter Tryz.func114, Tryz.ntmps114
  go_wp2_with fail
  refine HN.out.mono ?_
  rintro e w1 ⟨va, vc, rfl, _, hb1⟩
  have HB1 := Box.mk hb1
  clear HN h hz hb1
  generalize (valuesL x hostN).length = nv at *
  by_cases h1 : nv = 1
  · have e1 : ((nv : Int) == 1) = true := by rw [h1]; rfl
    have HP := Box.mk (show r = true by rw [HD.out]; exact decide_eq_true (.inl h1))
    clear HD h1
    go_wp2_with fail
    go_ret
    rw [HP.out]
    exact ⟨rfl, HB1.out⟩
  · have e1 : ((nv : Int) == 1) = false := by rw [beq_eq_false_iff_ne]; omega
    by_cases h0 : nv = 0
    · have e0 : ((nv : Int) == 0) = true := by rw [h0]; rfl
      have HP := Box.mk (show r = (z != 1) by
        rw [HD.out, Bool.eq_iff_iff, decide_eq_true_iff, bne_iff_ne]
        constructor
        · intro h; exact h.elim (fun h => absurd h h1) (fun h => h.2)
        · intro h; exact .inr ⟨h0, h⟩)
      clear HD h1 h0
      go_wp2_with fail
      go_ret
      rw [HP.out]
      exact ⟨rfl, HB1.out⟩
    · have e0 : ((nv : Int) == 0) = false := by rw [beq_eq_false_iff_ne]; omega
      have HP := Box.mk (show r = false by rw [HD.out]; exact decide_eq_false (fun h => h.elim h1 (fun h => h0 h.1)))
      clear HD h1 h0
      go_wp2_with fail
      go_ret
      rw [HP.out]
      exact ⟨rfl, HB1.out⟩
end Go.Proofs.YtejbkbccljoldaaGreatDoor
namespace Go.Proofs.YtejbkbccljoldaaGreatDoor
open Go.RowKit

set_option maxRecDepth 100000 in
set_option maxHeartbeats 4000000 in
theorem projFieldsH_any (l : List ByteArray) (a : Option Addr) (c : Nat) (w : World) (h : StrsAt w a l) (hz : ∀ s ∈ l, s.size ≤ maxLen) (hl : l.length ≤ 4000000) :
    Calls Tryz.prog 129 #[.slice a l.length c] w fun e w' => ∃ x fa fc er, fieldsS l = (er, x) ∧ e = .returned (.tuple #[.slice fa (List.length x) fc, .int .i64 er]) ∧ FldsIn w' fa x ∧ (∀ y, fa = some y → w.heap.size ≤ y.block) ∧ Below w.heap.size w w' := by
  have HS := Box.mk h
  have HZ := Box.mk hz
  have HF1 := Box.mk (fun h => fieldsS_big (l := l) h)
  have HF2 := Box.mk (fun h x hx => fieldsS_some (l := l) (x := x) h hx)
  have HF3 := Box.mk (fun h hx => fieldsS_none (l := l) h hx)
  generalize fieldsS l = R at *
  clear h hz
  by_cases h64 : 64 < l.length
  · have HP := Box.mk (HF1.out h64)
    clear HF1 HF2 HF3
    go_enter Tryz.func129, Tryz.ntmps129
    go_wp2_with fail
    go_ret2
    exact ⟨[], none, 0, 3, HP.out, rfl, FldsIn.nil _ _, (fun _ e => by cases e), Below.refl _ _⟩
  · have HF4 := Box.mk h64
    clear HF1
    go_enter Tryz.func129, Tryz.ntmps129
    go_wp2_with fail
    go_loopw [4, 14] (fun v iv wr => ∃ k : Nat, k ≤ l.length ∧ iv = .int .i64 k ∧ ∃ x : List Fld, Box (AccF w wr v x ∧ x.length ≤ k ∧ fieldsGo (l.take k) = some x)) (fun _ iv _ => l.length - (intOf iv).toNat)
    case atStart => exact ⟨0, Nat.zero_le _, rfl, [], ⟨AccF.start _, Nat.le_refl _, rfl⟩⟩
    case round =>
      obtain ⟨k, hk, rfl, x, HM⟩ := hrel
      by_cases hlt : k < l.length
      · obtain ⟨b, off, rfl, hcell⟩ := (HS.out.keep HM.out.1.2) k hlt
        have HSZ := Box.mk (HZ.out _ (List.getElem_mem hlt))
        have HST := Box.mk (fieldsGo_stop hlt rfl HM.out.2.2)
        generalize l[k] = s at *
        go_wp2_with fail
        refine (fParse_any s _ HSZ.out).mono ?_
        rintro e w2 ⟨he, hb2⟩
        have HA2 := Box.mk (HM.out.1.keep hb2)
        have HXL := Box.mk HM.out.2.1
        clear hb2 hcell
        rcases hq : parseF s with _ | ⟨fn, fv⟩
        · rw [hq] at he
          simp only [parseV] at he
          subst he
          have HP := Box.mk (show R = (2, []) by
            have h9 := HST.out
            rw [hq] at h9
            have h10 := fieldsGo_none _ (l.drop (k + 1)) h9
            rw [List.take_append_drop] at h10
            exact HF3.out HF4.out h10)
          clear hq HST HF2 HF3
          go_wp2_with fail
          go_ret2
          exact ⟨[], none, 0, 2, HP.out, rfl, FldsIn.nil _ _, (fun _ e => by cases e), below_trans HA2.out.2 (below_oneF _ _)⟩
        · rw [hq] at he
          simp only [parseV] at he
          subst he
          have HN := Box.mk (show fieldsGo (l.take (k + 1)) = some (x ++ [(fn, fv)]) by rw [HST.out, hq]; rfl)
          clear hq HST
          go_wp2_with (at_builtin; refine wpList_append_accf _ rfl _ _ rfl rfl (HA2.out.keep (below_twoF (below_oneF w2 _) _)) rfl (y := (fn, fv)) ?c1 ?c2 ?c3 ?c4)
          case c3 => have := HXL.out; omega
          case c4 =>
            intro g cap w3 hacc
            obtain ⟨x2, hx2⟩ : ∃ x2, x2 = x ++ [(fn, fv)] := ⟨_, rfl⟩
            rw [← hx2] at hacc HN
            have HX2 := Box.mk (show x2.length = x.length + 1 by rw [hx2]; simp)
            have HACC := Box.mk hacc
            clear hacc hx2
            go_wp2_with fail
            go_roundw
            case rel => exact ⟨k + 1, by omega, by go_num, x2, ⟨HACC.out, by rw [HX2.out]; have := HXL.out; omega, HN.out⟩⟩
            case measure => simp [intOf]; omega
      · have HP := Box.mk (show R = (0, x) by
          have h9 := HM.out.2.2
          rw [List.take_of_length_le (by omega)] at h9
          exact HF2.out HF4.out x h9)
        obtain ⟨fa, fc, rfl, hfs⟩ := HM.out.1.shape
        have HFS := Box.mk hfs
        clear hfs
        go_wp2_with fail
        go_ret2
        exact ⟨x, fa, fc, 0, HP.out, rfl, HFS.out, HM.out.1.fresh, HM.out.1.2⟩
theorem isBytes_takeH {w : World} {a : Option Addr} {l : List UInt8} {c : Nat} (h : IsBytes w a l c) (k : Nat) : IsBytes w a (l.take k) c := by
  rcases h with ⟨h1, rfl, h3⟩ | ⟨x, h1, h2, h3, h4⟩
  · exact .inl ⟨h1, by simp, h3⟩
  · refine .inr ⟨x, h1, by rw [List.length_take]; omega, h3, fun j hj => ?_⟩
    rw [List.getElem_take]; exact h4 j (by rw [List.length_take] at hj; omega)
theorem row_bytesH {w : World} {g : Nat} {l : List UInt8} {t : TypeId} {fr : Nat × Nat} (h : w.heap[g]? = some (.cells (bytesV l).toArray t fr)) (hl : l.length ≤ maxLen) : IsBytes w (some ⟨g, 0, none⟩) l l.length := by
  refine .inr ⟨_, rfl, Nat.le_refl _, hl, fun j hj => ?_⟩
  rw [Addr.add_lit, Nat.zero_add, cell_of_row _ _ _ _ _ _ h]
  simp [bytesV, hj]
set_option maxRecDepth 100000 in
set_option maxHeartbeats 4000000 in
theorem projEnd_any (b : List UInt8) (a : Option Addr) (c : Nat) (most mm : Int) (w : World) (h : IsBytes w a b c) (hl : b.length ≤ 3000000) (hm : HdOk w mm) :
    Calls Tryz.prog 64 #[.slice a b.length c, .int .i64 most] w fun e w' => e = .returned (.tuple #[.int .i64 (endS b most).1, .int .i64 (endS b most).2]) ∧ Below w.heap.size w w' := by
  have kc := fun (w : World) (C : Array Value) (n c : Nat) => Lib.run_convert_bytes_const (P := Tryz.prog) w 23 5 C n c Tryz.underlying23 Tryz.underlying5
  have HS := Box.mk (show endS b most = if 0 ≤ endZ b ∧ endZ b ≤ most then (endZ b, 0) else if most ≤ b.length then (0, 3) else (0, 4) from rfl)
  have HR := Box.mk (endGo_range b 0)
  obtain ⟨q, hq⟩ : ∃ q : Nat, max 0 (min most (b.length : Int)) = (q : Int) := ⟨(max 0 (min most (b.length : Int))).toNat, by omega⟩
  have HQ := Box.mk hq
  have hqb : q ≤ b.length := by omega
  have HI := Box.mk (index_endZ b q)
  obtain ⟨W1, hW1⟩ : ∃ W1, W1 = w.alloc (.cells #[.int .u8 13, .int .u8 10, .int .u8 13, .int .u8 10] 5 (4, 5)) := ⟨_, rfl⟩
  have HB1 := Box.mk (show Below w.heap.size w W1 by rw [hW1]; exact below_oneF w _)
  have HP := Box.mk (show IsBytes W1 (some ⟨w.heap.size, 0, none⟩) crlf2 4 by rw [hW1]; exact row_bytesH (heap_alloc_new w (.cells (bytesV crlf2).toArray 5 (4, 5))) (by decide))
  have HM := Box.mk (hm.keep HB1.out)
  have HIX := Box.mk (fun ad ca (h2 : IsBytes W1 ad (b.take q) ca) => idxR_any (b.take q) crlf2 ad ⟨w.heap.size, 0, none⟩ ca 4 mm W1 h2 HP.out (by decide) (by rw [List.length_take]; omega) HM.out)
  rw [List.length_take, Nat.min_eq_left hqb] at HIX
  have HW1 := Box.mk hW1
  have HBY := Box.mk h
  obtain ⟨n, hn⟩ : ∃ n, endS b most = n := ⟨_, rfl⟩
  have HZ2 := Box.mk (show endZ b = -1 ∨ 4 ≤ endZ b by
    rcases HR.out with h | ⟨k, h1, h2, _⟩
    · exact .inl h
    · right; show 4 ≤ endGo 0 b; rw [h1]; omega)
  have HZ3 := Box.mk (show endZ b ≤ b.length by
    rcases HR.out with h | ⟨k, h1, _, h2⟩
    · show endGo 0 b ≤ _; rw [h]; omega
    · show endGo 0 b ≤ _; rw [h1]; omega)
  rw [hn] at HS ⊢
  generalize endZ b = z at *
  have hqc : (q : Int) ≤ (c : Int) := by have := isBytes_cap h; omega
  clear hn HR h hm hW1 HM
  go_enter Tryz.func64, Tryz.ntmps64
  go_wp2_with fail
  rw [← HW1.out]
  refine (HIX.out a c ((isBytes_takeH HBY.out q).keep HB1.out)).mono ?_
  rintro e w2 ⟨rfl, hb2⟩
  have HB2 := Box.mk (below_trans HB1.out hb2)
  rw [HI.out]
  clear hb2 HIX HP HW1 HB1 kc
  by_cases h1 : 0 ≤ z ∧ z ≤ (q : Int)
  · rw [if_pos h1]
    have hz4 : 4 ≤ z := by have := HZ2.out; omega
    obtain ⟨r, hr⟩ : ∃ r, r = z - 4 := ⟨_, rfl⟩
    have h0 : 0 ≤ r := by omega
    have hadd : IntKind.i64.wrap (r + 4) = z := by
      rw [show r + 4 = z by omega]
      exact IntWalk.i64_in _ ⟨by omega, by have := HZ3.out; omega⟩
    have HN := Box.mk (show n = (z, 0) by
      rw [HS.out, if_pos ⟨h1.1, by have := HQ.out; omega⟩])
    rw [← hr]
    clear hr h1 HI HS
    go_wp2_with fail
    go_ret2
    rw [HN.out]
    exact ⟨rfl, HB2.out⟩
  · rw [if_neg h1]
    have h3 : ¬ (0 ≤ z ∧ z ≤ most) := fun h => h1 ⟨h.1, by have := HQ.out; have := HZ3.out; omega⟩
    by_cases h4 : most ≤ b.length
    · have HN := Box.mk (show n = (0, 3) by rw [HS.out, if_neg h3, if_pos h4])
      clear h3 h1 HI HS
      go_wp2_with fail
      go_ret2
      rw [HN.out]
      exact ⟨rfl, HB2.out⟩
    · have HN := Box.mk (show n = (0, 4) by rw [HS.out, if_neg h3, if_neg h4])
      clear h3 h1 HI HS
      go_wp2_with fail
      go_ret2
      rw [HN.out]
      exact ⟨rfl, HB2.out⟩
end Go.Proofs.YtejbkbccljoldaaGreatDoor
