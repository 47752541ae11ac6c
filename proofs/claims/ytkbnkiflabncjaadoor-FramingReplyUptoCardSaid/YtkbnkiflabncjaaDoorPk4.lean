/- The law FramingReply. What the law FramingNoSmuggling wants: fields that no rule on frames names, fields that contradict each other; appends of whole slices. The law FramingNoSmuggling. The contracts of awake and of the laws of layer 2. What the law FramingAlone wants: a made frame beside fields that no rule names; single operations of a region that draws its order. The law FramingAlone. -/
import Derived.Test.YtkbnkiflabncjaaDoorPk1
import Derived.Test.YtkbnkiflabncjaaDoorPk2
import Derived.Test.YtkbnkiflabncjaaDoorPk3
import Derived.Test.YtkbnkiflabncjaaDoorRows
import Derived.WalkKit
import Derived.WalkSpells
import Derived.WalkLawsBesides
import Derived.BigQuiet
import Derived.Deep.QuietTactic
import Derived.Lib.Bytealg
import Derived.Lib.IndexLaws
import Derived.Lib.Hide
import Derived.Laws.IdiomStrings
import Derived.Lib.SlTrimSet
import Derived.Lib.IndexBytes
import Derived.Lib.Split
import Derived.Deep.AppendLies
import Derived.Shelf.Strings.SlTrimAscii
import Derived.Shelf.Strings.SplitShaped
import Derived.Shelf.LaysM
import Derived.Shelf.Strings.BuilderK
import Derived.Test.YtkbnkiflabncjaaDoorProg
import Derived.Lib.SplitLaws
import Derived.WalkSmall
import Derived.ProofKit
import Derived.OpenShut
import Derived.Lib.Strings
import Derived.SliceStrings
import Derived.Deep.Quiet
import Derived.Tactics
import Derived.KernelRfl
import Derived.Below
import Derived.Laws.Bits64
import Derived.Lib.SlBytesConst
import Derived.Maps.AppendAt
import Derived.Laws.AppendOwnNone
import Derived.Great.BuildSlice
import Derived.Laws.Rows
import Derived.Laws.BitsAllLaws
import Derived.Laws.Shifts
import Derived.Maps.OwnOps
import Derived.Maps.OwnSet
import Derived.Deep.SlicePairs
import Derived.Lib.AppendZerosOnto
import Derived.Lib.AppendStr
import Derived.Laws.CopyOwn
import Derived.OwnWalk
import Derived.Laws.Strings3
import Derived.Laws.Concat
import Derived.Lib.ItoaMem
import Derived.Deep.RegionHeld3
import Derived.IntWalk
import Derived.Deep.DeepCutAuto
import Derived.Deep.CutBlock
import Derived.StillTailTactics
import Derived.Sort.Grow
import Derived.Lib.LaidTab
import Derived.LaidSub
import Derived.ArgAppend
namespace Go.Proofs.YtkbnkiflabncjaaDoor
open Go.RowKit

section
variable {Q : Exit → Act → World → Prop} {act : Act} {w : World} {o : Oper} {s : Spec}
theorem loc_eqlB {x y : Operand} {t : TypeId} (ho : o.op = .binOp .eql 4 x y t) {b : Bool} (hx : act.eval x = .bool b) (hy : act.eval y = .bool b) (hs : s.p (.bool true) w) :
    o.wp Tryd.prog act w (fun a' w' => ∃ v, a' = act.put o.dst v ∧ Below w.heap.size w w' ∧ s.p v w') Q :=
  loc_run (v := .bool true) (by
    unfold execOp
    simp only [ho, hx, hy]
    have he : (Op.equalIn Op.maxDepth 4 (.bool b) (.bool b)).run Tryd.prog w = .ok true w := by
      rw [show Op.maxDepth = 9999 + 1 from rfl]
      unfold Op.equalIn
      rw [Sem.run_bind, run_underlying Tryd.underlying4]
      cases b <;> rfl
    simp [eqGuard, binOp, Op.equal, he]) (Below.refl _ _) hs
theorem loc_eqlE {x y : Operand} {t : TypeId} (ho : o.op = .binOp .eql 31 x y t) {n : Int} (hx : act.eval x = .int .i64 n) (hy : act.eval y = .int .i64 n) (hs : s.p (.bool true) w) :
    o.wp Tryd.prog act w (fun a' w' => ∃ v, a' = act.put o.dst v ∧ Below w.heap.size w w' ∧ s.p v w') Q :=
  loc_run (v := .bool true) (by
    unfold execOp
    simp [ho, hx, hy, eqGuard, binOp, Op.intCmp]) (Below.refl _ _) hs
theorem eq_frame (k n : Int) (w : World) : (Op.equalIn Op.maxDepth 30 (.agg #[.int .i64 k, .int .i64 n]) (.agg #[.int .i64 k, .int .i64 n])).run Tryd.prog w = .ok true w := by
  rw [show Op.maxDepth = 9999 + 1 from rfl, run_equalIn_struct w 9999 _ _ _ (by kernel_rfl) (by kernel_rfl)]
  go_simp
theorem loc_eqlK {x y : Operand} {t : TypeId} (ho : o.op = .binOp .eql 30 x y t) {k n : Int} (hx : act.eval x = .agg #[.int .i64 k, .int .i64 n]) (hy : act.eval y = .agg #[.int .i64 k, .int .i64 n]) (hs : s.p (.bool true) w) :
    o.wp Tryd.prog act w (fun a' w' => ∃ v, a' = act.put o.dst v ∧ Below w.heap.size w w' ∧ s.p v w') Q :=
  loc_run (v := .bool true) (by
    unfold execOp
    simp only [ho, hx, hy]
    have he := eq_frame k n w
    simp [eqGuard, binOp, Op.equal, he]) (Below.refl _ _) hs
theorem loc_andM {x y : Operand} {t : TypeId} (ho : o.op = .binOp .and 3 x y t) {m k : Int} (hx : act.eval x = .int .i64 m) (hy : act.eval y = .int .i64 k) (hs : s.p (.int .i64 (bits .and .i64 m k)) w) :
    o.wp Tryd.prog act w (fun a' w' => ∃ v, a' = act.put o.dst v ∧ Below w.heap.size w w' ∧ s.p v w') Q :=
  loc_run (v := .int .i64 (bits .and .i64 m k)) (by
    unfold execOp
    simp only [ho, hx, hy]
    rfl) (Below.refl _ _) hs
theorem loc_index_i {x y : Operand} (ho : o.op = .indexAddr 22 x y) {ad : Addr} {n c k : Nat} (hx : act.eval x = .slice (some ad) n c) (hy : act.eval y = .int .i64 k) (hk : k < n) (hs : s.p (.pointer (some (ad.add k))) w) :
    o.wp Tryd.prog act w (fun a' w' => ∃ v, a' = act.put o.dst v ∧ Below w.heap.size w w' ∧ s.p v w') Q :=
  loc_run (v := .pointer (some (ad.add k))) (by
    have es : (sizeOf (Tryd.prog.elem 22)).run Tryd.prog w = .ok 1 w := by
      rw [show Tryd.prog.elem 22 = 3 by kernel_rfl]
      have h : (Tryd.prog.info? 3).map (·.size) = some 1 := by kernel_rfl
      cases hq : Tryd.prog.info? 3 with
      | none => rw [hq] at h; cases h
      | some i => rw [hq] at h; simp at h; simp [sizeOf, typeInfo, hq, h]
    have h := run_indexAt_slice (P := Tryd.prog) (w := w) 22 ad n c .i64 (k : Int) (by kernel_rfl)
    rw [if_pos ⟨by omega, by omega⟩, es] at h
    simp only [Result.andThen, Int.toNat_natCast, Nat.mul_one] at h
    unfold execOp
    simp only [ho, hx, hy, Sem.run_bind, h, Result.andThen_ok, Sem.run_pure]) (Below.refl _ _) hs
theorem loc_codes (ho : o.op = .buildSlice 22 5 #[(0, .const (.int .i64 200)), (1, .const (.int .i64 204)), (2, .const (.int .i64 304)), (3, .const (.int .i64 101)), (4, .const (.int .i64 404))])
    (hs : ∀ w', w'.heap[w.heap.size]? = some (.cells #[.int .i64 200, .int .i64 204, .int .i64 304, .int .i64 101, .int .i64 404] 3 (0, 0)) → s.p (.slice (some ⟨w.heap.size, 0, none⟩) 5 5) w') :
    o.wp Tryd.prog act w (fun a' w' => ∃ v, a' = act.put o.dst v ∧ Below w.heap.size w w' ∧ s.p v w') Q := by
  obtain ⟨i0, hi, hz0, hz1, hz2⟩ := info_parts (show (Tryd.prog.info? 3).map (fun i => (i.zero, i.size, i.bytes)) = some (some (.int .i64 0), 1, 8) by kernel_rfl)
  have hrun := run_buildSlice (P := Tryd.prog) w 22 3 5 #[(0, .int .i64 200), (1, .int .i64 204), (2, .int .i64 304), (3, .int .i64 101), (4, .int .i64 404)] #[.int .i64 200, .int .i64 204, .int .i64 304, .int .i64 101, .int .i64 404] i0 _ Tryd.underlying22 hi hz0 (by rw [hz1]; decide) (by rw [hz1]; decide) (by rw [hz1]; simp [Instr.fill, Value.cells, Array.range_succ, show Array.range 0 = #[] from rfl])
  refine loc_run (v := .slice (some ⟨w.heap.size, 0, none⟩) 5 5) (w' := w.alloc (.cells #[.int .i64 200, .int .i64 204, .int .i64 304, .int .i64 101, .int .i64 404] 3)) ?_ (below_oneF _ _) (hs _ (heap_alloc_new _ _))
  unfold execOp
  simp only [ho, List.map_toArray, List.map_cons, List.map_nil]
  rw [Sem.run_bind]
  exact congrArg (fun r => Result.andThen r fun u w' => Sem.run Tryd.prog (pure (Next.value u)) w') hrun
theorem loc_buildA {x y z : Operand} (ho : o.op = .build 36 #[(0, x), (2, y), (3, z)]) {st v : Int} {ad : Option Addr} {n c : Nat} (hx : act.eval x = .int .i64 st) (hy : act.eval y = .int .i64 v) (hz : act.eval z = .slice ad n c)
    (hs : s.p (.agg #[.int .i64 st, .string ⟨#[]⟩, .int .i64 v, .slice ad n c, .slice none 0 0]) w) :
    o.wp Tryd.prog act w (fun a' w' => ∃ v, a' = act.put o.dst v ∧ Below w.heap.size w w' ∧ s.p v w') Q := by
  refine loc_run (v := .agg #[.int .i64 st, .string ⟨#[]⟩, .int .i64 v, .slice ad n c, .slice none 0 0]) ?_ (Below.refl _ _) hs
  have hb := run_build (P := Tryd.prog) w 36 #[(0, .int .i64 st), (2, .int .i64 v), (3, .slice ad n c)] #[.int .i64 st, .string ⟨#[]⟩, .int .i64 v, .slice ad n c, .slice none 0 0] (by kernel_rfl)
  unfold execOp
  simp only [ho, List.map_toArray, List.map_cons, List.map_nil, hx, hy, hz, Sem.run_bind, hb, Result.andThen_ok, Sem.run_pure]
theorem chain_callM {f : FuncId} {args : List Operand} {ts : Array TypeId} {P : Program} {K : Act → World → Prop} (ho : o.op = .call { callee := .value (.func f), args := args.toArray, argTypes := ts })
    (hf : (P.funcs[f]?).map (fun fn => fn.name != "runtime.NumGoroutine" && fn.body.isSome) = some true) (h : Calls P f (args.map act.eval).toArray w fun e w' => ∃ v, e = .returned v ∧ K (act.put o.dst v) w') : o.wp P act w K Q := by
  have hrun : (execOp act.eval o).run P w = .ok (.enter f (args.map act.eval).toArray) w := by
    unfold execOp; rw [ho]
    cases hfn : P.funcs[f]? with
    | none => rw [hfn] at hf; cases hf
    | some fn =>
      rw [hfn] at hf
      simp only [Option.map_some, Option.some.injEq, Bool.and_eq_true, bne_iff_ne, ne_eq] at hf
      have hb : fn.body ≠ none := fun e => by rw [e] at hf; exact absurd hf.2 (by simp)
      simp [resolve, Deferred.ofValue, invoke, callFunc, show act.eval (.func f) = .func (.func f) #[] #[] from rfl, hfn, hf.1, hb]
  unfold Oper.wp
  rw [hrun, Oper.upon_enter]
  refine h.mono ?_
  rintro e w' ⟨v, rfl, hk⟩
  exact hk
def Spec.nopeM : Spec := ⟨fun _ _ => False, fun _ _ _ h _ => h⟩
theorem agg_fieldsM (w : World) : (isAgg 23).run Tryd.prog w = .ok false w := by
  unfold isAgg; rw [Sem.run_bind, run_underlying Tryd.underlying23 w]; rfl
theorem run_loadK (w : World) (g : Nat) (k n : Int) (h : KVar w g k n) : (Instr.loadAt 30 (.pointer (some ⟨g, 0, none⟩))).run Tryd.prog w = .ok (.agg #[.int .i64 k, .int .i64 n]) w := by
  unfold KVar at h
  simp [Instr.loadAt, Instr.sureAddr, run_loadVar_row w g _ 30 _ _ _ h Tryd.underlying30 rfl sizeK]
end
theorem row5M {w : World} {g : Nat} {T : TypeId} {u0 u1 u2 u3 u4 : Value} (h : w.heap[g]? = some (.cells #[u0, u1, u2, u3, u4] T (0, 0))) : g < w.heap.size ∧ w.cell? ⟨g, 0, none⟩ = some u0 ∧ w.cell? ⟨g, 1, none⟩ = some u1 ∧ w.cell? ⟨g, 2, none⟩ = some u2 ∧ w.cell? ⟨g, 3, none⟩ = some u3 ∧ w.cell? ⟨g, 4, none⟩ = some u4 := by
  refine ⟨(Array.getElem?_eq_some_iff.1 h).1, ?_, ?_, ?_, ?_, ?_⟩ <;> rw [cell_of_row _ _ _ _ _ _ h] <;> rfl
def mthsF : List ByteArray := [⟨#[71, 69, 84]⟩, ⟨#[72, 69, 65, 68]⟩]
/-- The reply as it is framed. -/
def FrS (w : World) (g : Nat) (u : Value) (W : World) : Prop := ∃ method st v l a c, u = .string method ∧ W.heap[g]? = some (.cells #[.int .i64 st, .string ⟨#[]⟩, .int .i64 v, .slice a (List.length l) c, .slice none 0 0] 36 (0, 0)) ∧ FldsIn W a l ∧ SmallF l ∧ Below w.heap.size w W

/-- The five codes in a block at B or beyond. -/
def Codes (B : Nat) (w : World) (v : Value) : Prop := ∃ g, v = .slice (some ⟨g, 0, none⟩) 5 5 ∧ B ≤ g ∧ w.heap[g]? = some (.cells #[.int .i64 200, .int .i64 204, .int .i64 304, .int .i64 101, .int .i64 404] 3 (0, 0))
def Spec.codes (B : Nat) : Spec := ⟨fun v w => Codes B w v, fun _ _ _ h hb => by
  obtain ⟨g, h1, h2, h3⟩ := h
  exact ⟨g, h1, h2, by rw [hb.block g (lt_rowM h3)]; exact h3⟩⟩
def Spec.below5 : Spec := ⟨fun v _ => ∃ k : Nat, k < 5 ∧ v = .int .i64 k, fun _ _ _ h _ => h⟩
def Spec.atInt : Spec := ⟨fun v w => ∃ p z, v = .pointer (some p) ∧ w.cell? p = some (.int .i64 z), fun _ _ _ h hb => by
  obtain ⟨p, z, h1, h2⟩ := h
  exact ⟨p, z, h1, below_cell hb h2⟩⟩
def Spec.someInt : Spec := ⟨fun v _ => ∃ z, v = .int .i64 z, fun _ _ _ h _ => h⟩
def TinyS (B : Nat) (w : World) (v : Value) : Prop := ∃ l a c, v = .slice a (List.length l) c ∧ FldsIn w a l ∧ (∀ f ∈ l, TinyF f) ∧ ∀ x, a = some x → B ≤ x.block
def Spec.tiny (B : Nat) : Spec := ⟨fun v w => TinyS B w v, fun _ _ _ h hb => by
  obtain ⟨l, a, c, h1, h2, h3⟩ := h
  exact ⟨l, a, c, h1, h2.keep hb, h3⟩⟩
def RepA (B : Nat) (v : Int) (w : World) (u : Value) : Prop := ∃ st l a c, u = .agg #[.int .i64 st, .string ⟨#[]⟩, .int .i64 v, .slice a (List.length l) c, .slice none 0 0] ∧ FldsIn w a l ∧ (∀ f ∈ l, TinyF f) ∧ ∀ x, a = some x → B ≤ x.block
def Spec.repA (B : Nat) (v : Int) : Spec := ⟨fun u w => RepA B v w u, fun _ _ _ h hb => by
  obtain ⟨st, l, a, c, h1, h2, h3⟩ := h
  exact ⟨st, l, a, c, h1, h2.keep hb, h3⟩⟩
theorem FldsIn.grown {w w' : World} {a : Option Addr} {l : List Fld} {row : Option Nat} (h : FldsIn w a l) (hg : w.grownBy w' row) (hne : ∀ x, a = some x → some x.block ≠ row) : FldsIn w' a l := fun j hj => by
  obtain ⟨x, e, h1, h2⟩ := h j hj
  refine ⟨x, e, ?_, ?_⟩
  · rw [World.cell?_of_block (hg.block _ (lt_cell h1) (by rw [add_blockF]; exact hne x e))]; exact h1
  · rw [World.cell?_of_block (hg.block _ (lt_cell h2) (by rw [add_blockF]; exact hne x e))]; exact h2
/-- Before the reply is made: its variable, the source, the numbers. -/
structure RepJ (g gs : Nat) (b sa : Option Addr) (nb : Nat) (w : World) (u0 u1 u2 u3 u4 : Value) (W : World) : Prop where
  row : W.heap[g]? = some (.cells #[u0, u1, u2, u3, u4] 36 (0, 0))
  src : Src W gs sa 2 2
  ints : IntsF W b nb
  below : Below w.heap.size w W
theorem RepJ.keep {g gs : Nat} {b sa : Option Addr} {nb : Nat} {w : World} {u0 u1 u2 u3 u4 : Value} {W W' : World} (h : RepJ g gs b sa nb w u0 u1 u2 u3 u4 W) (hb : Below W.heap.size W W') : RepJ g gs b sa nb w u0 u1 u2 u3 u4 W' :=
  ⟨by rw [hb.block g (lt_rowM h.row)]; exact h.row, h.src.keep hb, h.ints.keep hb, below_trans h.below hb⟩

section
variable (b : Option Addr) (nb cb : Nat) (lr : List Fld) (ar : Option Addr) (cr : Nat) (method : ByteArray) (status minor : Int) (wild : Bool) (mm : Int) (w : World)
set_option maxRecDepth 100000 in
set_option maxHeartbeats 4000000 in
theorem framingReply_any (hi : IntsF w b nb) (hn : nb ≤ maxLen) (hr : FldsIn w ar lr) (hrs : SmallF lr) (hs0 : -9223372036854775808 ≤ status ∧ status ≤ 9223372036854775807) (hm0 : -9223372036854775808 ≤ minor ∧ minor ≤ 9223372036854775807) (hm : MaxOk w mm) :
    Calls Tryd.prog 4 #[.slice b nb cb, .slice ar lr.length cr, .string method, .int .i64 status, .int .i64 minor, .bool wild] w fun e w' => e = .returned (.bool true) ∧ Below w.heap.size w w' := by
  have HM := Box.mk hm
  have HI := Box.mk (And.intro hi hn)
  have HST := Box.mk (show FrS w w.heap.size (.string method) (w.alloc (.cells #[.int .i64 status, .string ⟨#[]⟩, .int .i64 minor, .slice ar lr.length cr, .slice none 0 0] 36)) from
    ⟨method, status, minor, lr, ar, cr, rfl, heap_alloc_new _ _, hr.keep (below_oneF w _), hrs, below_oneF w _⟩)
  clear hm hi hn hr hrs
  go_enter Tryd.func4, Tryd.ntmps4
  go_upto_if 24 with fail
  go_cut [2] (fun s2 wx => Box (FrS w w.heap.size s2 wx))
  case first =>
    cases wild with
    | true =>
      go_wp2_with fail
      go_meet
      exact HST
    | false =>
      have HSI := Box.mk (And.intro hs0 hm0)
      clear hs0 hm0
      have HLOW := Box.mk (show ∀ x, b = some x → 0 < nb → x.block < w.heap.size from fun x e h0 => by
        obtain ⟨y, z, e2, hc, _⟩ := HI.out.1 0 h0
        rw [e] at e2
        obtain rfl := Option.some.inj e2
        have := lt_cell hc
        rw [add_blockF] at this; exact this)
      obtain ⟨W, hW⟩ : ∃ W, W = ((w.alloc (.cells #[.int .i64 status, .string ⟨#[]⟩, .int .i64 minor, .slice ar lr.length cr, .slice none 0 0] 36)).alloc (.cells #[.int .i64 status, .int .i64 minor] 3)).alloc (.cells #[.slice (some ⟨w.heap.size + 1, 0, none⟩) 2 2, .int .i64 0] 39) := ⟨_, rfl⟩
      have HJ := Box.mk (show RepJ w.heap.size (w.heap.size + 2) b (some ⟨w.heap.size + 1, 0, none⟩) nb w (.int .i64 status) (.string ⟨#[]⟩) (.int .i64 minor) (.slice ar lr.length cr) (.slice none 0 0) W by
        have hb1 := below_oneF w (.cells #[.int .i64 status, .string ⟨#[]⟩, .int .i64 minor, .slice ar lr.length cr, .slice none 0 0] 36)
        have hb2 := below_oneF (w.alloc (.cells #[.int .i64 status, .string ⟨#[]⟩, .int .i64 minor, .slice ar lr.length cr, .slice none 0 0] 36)) (.cells #[.int .i64 status, .int .i64 minor] 3)
        have hb3 := below_oneF ((w.alloc (.cells #[.int .i64 status, .string ⟨#[]⟩, .int .i64 minor, .slice ar lr.length cr, .slice none 0 0] 36)).alloc (.cells #[.int .i64 status, .int .i64 minor] 3)) (.cells #[.slice (some ⟨w.heap.size + 1, 0, none⟩) 2 2, .int .i64 0] 39)
        have hz : ((w.alloc (.cells #[.int .i64 status, .string ⟨#[]⟩, .int .i64 minor, .slice ar lr.length cr, .slice none 0 0] 36)).alloc (.cells #[.int .i64 status, .int .i64 minor] 3)).heap.size = w.heap.size + 2 := by rw [World.size_alloc, World.size_alloc]
        have hints : IntsF ((w.alloc (.cells #[.int .i64 status, .string ⟨#[]⟩, .int .i64 minor, .slice ar lr.length cr, .slice none 0 0] 36)).alloc (.cells #[.int .i64 status, .int .i64 minor] 3)) (some ⟨w.heap.size + 1, 0, none⟩) 2 := fun j hj => by
          match j, hj with
          | 0, _ => exact ⟨_, status, rfl, by rw [Addr.add_lit]; exact new_cellF2 w _ _ _ 0, HSI.out.1⟩
          | 1, _ => exact ⟨_, minor, rfl, by rw [Addr.add_lit]; exact new_cellF2 w _ _ _ 1, HSI.out.2⟩
        have hsrc := src_box (c := 2) hints (by decide)
        rw [hz] at hsrc
        rw [hW]
        exact ⟨(hb3.block _ (by rw [hz]; omega)).trans ((hb2.block _ (by rw [World.size_alloc]; omega)).trans (heap_alloc_new _ _)), hsrc, HI.out.1.keep (below_trans hb1 (below_trans hb2 hb3)), below_trans hb1 (below_trans hb2 hb3)⟩)
      go_wp2_with fail
      change Code.wp _ _ _ _ (((w.alloc (.cells #[.int .i64 status, .string ⟨#[]⟩, .int .i64 minor, .slice ar lr.length cr, .slice none 0 0] 36)).alloc (.cells #[.int .i64 status, .int .i64 minor] 3)).alloc (.cells #[.slice (some ⟨w.heap.size + 1, 0, none⟩) 2 2, .int .i64 0] 39))
      rw [← hW]
      clear hW HST
      rename_i K hK
      have hgW : w.heap.size < W.heap.size := lt_rowM HJ.out.row
      have hsW := HJ.out.src.lt
      have HBW := Box.mk HJ.out.below
      generalize hg : w.heap.size = g at *
      have HG := Box.mk hg
      clear hg
      refine wp_region_phases [2, 10] (fun p => match p with | 0 => [0, 1, 5, 6, 7] | 1 => [0, 3, 4, 5, 6, 7, 8, 9] | _ => [])
        (fun p => match p with
          | 0 => [.codes W.heap.size, .val (.pointer (some ⟨g + 2, 0, none⟩)), .nopeM, .nopeM, .nopeM, .val (.int .i64 minor), .val (.int .i64 (bits .and .i64 minor 1)), .val (.slice b nb cb), .nopeM, .nopeM, .any]
          | 1 => [.codes W.heap.size, .any, .below5, .atInt, .someInt, .val (.int .i64 minor), .val (.int .i64 (bits .and .i64 minor 1)), .val (.slice b nb cb), .tiny W.heap.size, .repA W.heap.size (bits .and .i64 minor 1), .any]
          | _ => [.any, .any, .any, .any, .any, .any, .any, .any, .any, .any, .any])
        (fun p => match p with
          | 0 => fun wx => RepJ g (g + 2) b (some ⟨g + 1, 0, none⟩) nb w (.int .i64 status) (.string ⟨#[]⟩) (.int .i64 minor) (.slice ar lr.length cr) (.slice none 0 0) wx ∧ W.heap.size ≤ wx.heap.size
          | 1 => fun wx => RepJ g (g + 2) b (some ⟨g + 1, 0, none⟩) nb w (.int .i64 status) (.string ⟨#[]⟩) (.int .i64 minor) (.slice ar lr.length cr) (.slice none 0 0) wx ∧ W.heap.size ≤ wx.heap.size
          | _ => fun wx => ∃ st l a c, RepJ g (g + 2) b (some ⟨g + 1, 0, none⟩) nb w (.int .i64 st) (.string ⟨#[]⟩) (.int .i64 (bits .and .i64 minor 1)) (.slice a (List.length l) c) (.slice none 0 0) wx ∧ FldsIn wx a l ∧ (∀ f ∈ l, TinyF f) ∧ ∀ x, a = some x → W.heap.size ≤ x.block)
        (by kernel_rfl) (by kernel_rfl) (by kernel_rfl) (by kernel_rfl) (by kernel_rfl) (by kernel_rfl) ?_ ⟨HJ.out, Nat.le_refl _⟩ ?_ ?_ ?_
      · intro p w1 w2 h hb
        match p, h with
        | 0, h => exact ⟨h.1.keep hb, Nat.le_trans h.2 hb.size⟩
        | 1, h => exact ⟨h.1.keep hb, Nat.le_trans h.2 hb.size⟩
        | (_ + 2), h =>
          obtain ⟨st, l, a, c, h1, h2, h3⟩ := h
          exact ⟨st, l, a, c, h1.keep hb, h2.keep hb, h3⟩
      · intro p hp
        match p, hp with
        | 0, _ =>
          refine ⟨?_, ?_, ?_, ?_, ?_, trivial⟩ <;> intro a1 w1 hv hf hd
          · exact ⟨wanted_none rfl, loc_codes rfl fun w' h => ⟨_, rfl, hv.2, h⟩⟩
          · exact ⟨wanted_none rfl, loc_move rfl (hf.base 14 rfl)⟩
          · exact ⟨wanted_none rfl, loc_move rfl (hf.base 4 rfl)⟩
          · exact ⟨wanted_none rfl, loc_andM rfl (hd 5 rfl) rfl rfl⟩
          · exact ⟨wanted_none rfl, loc_move rfl (hf.base 0 rfl)⟩
        | 1, _ =>
          refine ⟨?_, ?_, ?_, ?_, ?_, ?_, ?_, ?_, trivial⟩ <;> intro a1 w1 hv hf hd
          · exact ⟨wanted_none rfl, loc_codes rfl fun w' h => ⟨_, rfl, hv.2, h⟩⟩
          · obtain ⟨gc, e1, _, hrow⟩ := hd 0 rfl
            obtain ⟨k, hk, e2⟩ := hd 2 rfl
            refine ⟨wanted_none rfl, loc_index_i rfl e1 e2 hk ?_⟩
            have hcell : ∃ z, w1.cell? ⟨gc, k, none⟩ = some (.int .i64 z) := by
              match k, hk with
              | 0, _ => exact ⟨_, by rw [cell_of_row _ _ _ _ _ _ hrow]; rfl⟩
              | 1, _ => exact ⟨_, by rw [cell_of_row _ _ _ _ _ _ hrow]; rfl⟩
              | 2, _ => exact ⟨_, by rw [cell_of_row _ _ _ _ _ _ hrow]; rfl⟩
              | 3, _ => exact ⟨_, by rw [cell_of_row _ _ _ _ _ _ hrow]; rfl⟩
              | 4, _ => exact ⟨_, by rw [cell_of_row _ _ _ _ _ _ hrow]; rfl⟩
            obtain ⟨z, hz⟩ := hcell
            exact ⟨_, z, rfl, by rw [Addr.add_lit, Nat.zero_add]; exact hz⟩
          · obtain ⟨p0, z, e1, hz⟩ := hd 3 rfl
            exact ⟨wanted_none rfl, loc_cell rfl e1 hz (agg_int _) ⟨z, rfl⟩⟩
          · exact ⟨wanted_none rfl, loc_move rfl (hf.base 4 rfl)⟩
          · exact ⟨wanted_none rfl, loc_andM rfl (hd 5 rfl) rfl rfl⟩
          · exact ⟨wanted_none rfl, loc_move rfl (hf.base 0 rfl)⟩
          · refine ⟨wanted_none rfl, loc_call rfl (by kernel_rfl) ?_⟩
            show Calls _ _ #[a1.eval (.tmp 37)] w1 _
            rw [show a1.eval (.tmp 37) = .slice b nb cb from hd 7 rfl]
            refine (framed_any b nb cb w1 hv.1.ints HI.out.2).mono ?_
            rintro e w' ⟨l, a, c, rfl, hl, _, _, ht, hx, hb'⟩
            exact ⟨_, rfl, hb', l, a, c, rfl, hl.1, ht, fun x e => Nat.le_trans hv.2 (hx x e)⟩
          · obtain ⟨st, e1⟩ := hd 4 rfl
            obtain ⟨l, a, c, e2, h1, h2, h3⟩ := hd 8 rfl
            exact ⟨wanted_none rfl, loc_buildA rfl e1 (hd 6 rfl) e2 ⟨st, l, a, c, rfl, h1, h2, h3⟩⟩
        | 2, _ => exact trivial
      · intro p hp
        match p, hp with
        | 0, _ =>
          intro a2 w2 hv hf hd
          refine ⟨wanted_none rfl, chain_callM rfl (by kernel_rfl) ?_⟩
          show Calls _ _ #[a2.eval (.tmp 31), _] w2 _
          rw [show a2.eval (.tmp 31) = .pointer (some ⟨g + 2, 0, none⟩) from hd 1 rfl]
          refine (next_any (g + 2) 5 _ 2 2 w2 hv.1.src (by decide) (by decide)).mono ?_
          rintro e w' ⟨k, hk, rfl, hsrc, hgn⟩
          have hhg := HG.out
          refine ⟨_, rfl, _, rfl, ⟨⟨(hgn.block _ (lt_rowM hv.1.row) (fun e => by have := Option.some.inj e; omega)).trans hv.1.row, hsrc, hv.1.ints.grown hgn (fun x e h0 e2 => by have := HLOW.out x e h0; have := Option.some.inj e2; omega), hv.1.below.grown hgn hv.1.below.size (fun q e => by have := Option.some.inj e; omega)⟩, Nat.le_trans hv.2 hgn.size⟩, ⟨k, hk, rfl⟩,
            ⟨.inr fun u hu h => ?_, .inr fun _ _ _ => trivial, .inl rfl, .inr fun _ _ h => h.elim, .inr fun _ _ h => h.elim, .inr fun _ _ h => h, .inr fun _ _ h => h, .inr fun _ _ h => h, .inr fun _ _ h => h.elim, .inr fun _ _ h => h.elim, .inr fun _ _ _ => trivial, trivial⟩⟩
          obtain ⟨gc, e1, e2, e3⟩ := h
          exact ⟨gc, e1, e2, (hgn.block _ (lt_rowM e3) (fun e => by have := Option.some.inj e; omega)).trans e3⟩
        | 1, _ =>
          intro a2 w2 hv hf hd
          obtain ⟨st, l, a, c, e39, h1, h2, h3⟩ := hd 9 rfl
          have hhg := HG.out
          have hg2 := grownBy_setRowF w2 g #[.int .i64 st, .string ⟨#[]⟩, .int .i64 (bits .and .i64 minor 1), .slice a l.length c, .slice none 0 0]
          refine ⟨wanted_none rfl, wp_store_row 36 _ _ rfl g #[.int .i64 st, .string ⟨#[]⟩, .int .i64 (bits .and .i64 minor 1), .slice a l.length c, .slice none 0 0] (hf.base 13 rfl) e39 36 _ hv.1.row (by kernel_rfl) rfl (by simp [Value.oneCell']) ?_⟩
          exact ⟨undef, rfl, ⟨st, l, a, c, ⟨setRow_heap _ _ _ _ _ _ hv.1.row, hv.1.src.grown hg2 (fun e => by have := Option.some.inj e; omega) (fun x e h0 e2 => by have h5 := Option.some.inj e; subst h5; have h6 : g + 1 = g := Option.some.inj e2; omega), hv.1.ints.grown hg2 (fun x e h0 e2 => by have := HLOW.out x e h0; have := Option.some.inj e2; omega), hv.1.below.grown hg2 hv.1.below.size (fun q e => by have := Option.some.inj e; omega)⟩, h1.grown hg2 (fun x e e2 => by have := h3 x e; have := Option.some.inj e2; omega), h2, h3⟩, trivial,
            ⟨.inr fun _ _ _ => trivial, .inr fun _ _ _ => trivial, .inr fun _ _ _ => trivial, .inr fun _ _ _ => trivial, .inr fun _ _ _ => trivial, .inr fun _ _ _ => trivial, .inr fun _ _ _ => trivial, .inr fun _ _ _ => trivial, .inr fun _ _ _ => trivial, .inr fun _ _ _ => trivial, .inl rfl, trivial⟩⟩
      · intro a2 w2 hv hf hh
        clear hh
        refine hK a2 w2 ?_
        rw [fr_putAll hf]
        clear hf
        simp only [putAll]
        generalize a2.eval (.tmp 30) = u30
        generalize a2.eval (.tmp 31) = u31
        generalize a2.eval (.tmp 32) = u32
        generalize a2.eval (.tmp 33) = u33
        generalize a2.eval (.tmp 34) = u34
        generalize a2.eval (.tmp 35) = u35
        generalize a2.eval (.tmp 36) = u36
        generalize a2.eval (.tmp 37) = u37
        generalize a2.eval (.tmp 38) = u38
        generalize a2.eval (.tmp 39) = u39
        clear a2
        simp only [Act.put, List.setIfInBounds_toArray, List.set_cons_succ, List.set_cons_zero]
        obtain ⟨st, l, a, c, hj, hl, ht, hx⟩ := hv
        have HJ2 := Box.mk hj
        have HL2 := Box.mk (And.intro hl (And.intro ht hx))
        have hlt2 := hj.src.lt
        clear hj hl ht hx HJ
        go_wp2_with fail
        obtain ⟨W2, hW2⟩ : ∃ W2, W2 = w2.alloc (.cells (mthsF.map Value.string).toArray 9) := ⟨_, rfl⟩
        have HBW2 := Box.mk (show Below w2.heap.size w2 W2 by rw [hW2]; exact below_oneF w2 _)
        have HSL := Box.mk (show StrsIn W2 (some ⟨w2.heap.size, 0, none⟩) mthsF by rw [hW2]; exact strsIn_newF w2 mthsF 9)
        change Calls _ _ _ (w2.alloc (.cells (mthsF.map Value.string).toArray 9)) _
        rw [← hW2]
        clear hW2
        have HJ3 := Box.mk (HJ2.out.keep HBW2.out)
        refine (of_n (g + 2) w2.heap.size 2 mthsF 2 _ 2 2 W2 HJ3.out.src HSL.out (by omega) rfl (by decide) (by decide)).mono ?_
        rintro e w3 ⟨s, hs, rfl, hsrc, hg3⟩
        have hhg := HG.out
        have HFIN := Box.mk (show FrS w w.heap.size (.string s) w3 from ⟨s, st, _, l, a, c, rfl, by rw [hhg]; exact (hg3.block _ (lt_rowM HJ3.out.row) (fun e => by have := Option.some.inj e; omega)).trans HJ3.out.row, (HL2.out.1.keep HBW2.out).grown hg3 (fun x e e2 => by have := HL2.out.2.2 x e; have := Option.some.inj e2; omega), smallF_tiny HL2.out.2.1, HJ3.out.below.grown hg3 HJ3.out.below.size (fun q e => by have := Option.some.inj e; omega)⟩)
        clear hs hsrc hg3 HJ2 HL2 HJ3 HBW2 HSL
        go_wp2_with fail
        go_meet
        have h9 := HFIN.out
        rw [hhg] at h9
        exact ⟨h9⟩
  case rest =>
    obtain ⟨method, st, v, l, a, c, hs2, hrow, hl, hz, hb⟩ := hcut.out
    subst hs2
    have HB := Box.mk hb
    have HV := Box.mk hrow
    have HF := Box.mk hl
    have HZ := Box.mk hz
    generalize hg : w.heap.size = g at *
    have HG := Box.mk hg
    clear hcut HST hb hrow hl hz hg
    obtain ⟨hlt, hc0, hc1, hc2, hc3, hc4⟩ := row5M HV.out
    by_cases h40 : 40 < l.length
    · clear HF HZ
      go_wp2_with fail
      refine (awakeM_any _ mm (HM.out.keep (show Below w.heap.size w wc by rw [HG.out]; exact HB.out))).mono ?_
      rintro e w3 ⟨rfl, hb3⟩
      have HB3 := Box.mk (below_trans (show Below w.heap.size w wc by rw [HG.out]; exact HB.out) hb3)
      clear hb3
      go_wp2_with fail
      go_ret
      exact ⟨rfl, HB3.out⟩
    · have HT := Box.mk (show total (valuesL l teN) ≤ 4000000000 from Nat.le_trans (total_values HZ.out teN) (by omega))
      go_wp2_with fail
      refine (projOfReply_any method st ⟨#[]⟩ v l a c none 0 0 mm _ HF.out HZ.out.short (by omega) HT.out (HM.out.keep (show Below w.heap.size w wc by rw [HG.out]; exact HB.out))).mono ?_
      rintro e w3 ⟨he, hb3⟩
      generalize hq : replyS method st v l = q at he
      have HQ := Box.mk hq
      obtain ⟨k, n, er⟩ := q
      simp only [frameV] at he
      clear hq hc0 hc1 hc2 hc3 hc4
      subst he
      have hb3' := below_trans hb3 (below_oneF w3 (.cells #[.int .i64 k, .int .i64 n] 30))
      have HB3 := Box.mk (below_trans (show Below w.heap.size w wc by rw [HG.out]; exact HB.out) hb3')
      have HF3 := Box.mk (HF.out.keep hb3')
      obtain ⟨hlt3, hc0, hc1, hc2, hc3, hc4⟩ := row5M ((hb3.block _ (lt_rowM HV.out)).trans HV.out)
      have HV3 := Box.mk ((hb3'.block _ (lt_rowM HV.out)).trans HV.out)
      have HK3 := Box.mk (show KVar (w3.alloc (.cells #[.int .i64 k, .int .i64 n] 30)) w3.heap.size k n from heap_alloc_new _ _)
      clear hb3 hb3' HB HF HV
      go_wp2_with fail
      refine (refOfReply_any method st ⟨#[]⟩ v l a c none 0 0 _ HF3.out HZ.out.short (by omega) HT.out).mono ?_
      rintro e w4 ⟨he, hb4⟩
      rw [HQ.out] at he
      simp only [frameV] at he
      subst he
      have hb4' := below_trans hb4 (below_oneF w4 (.cells #[.int .i64 k, .int .i64 n] 30))
      have HB4 := Box.mk (below_trans HB3.out hb4')
      have HK4 := Box.mk (HK3.out.keep hb4')
      have HJ4 := Box.mk (show KVar (w4.alloc (.cells #[.int .i64 k, .int .i64 n] 30)) w4.heap.size k n from heap_alloc_new _ _)
      have HV4 := Box.mk ((hb4'.block _ (lt_rowM HV3.out)).trans HV3.out)
      have HF4 := Box.mk (HF3.out.keep hb4')
      have HTC := Box.mk (show total (valuesL l cnN) ≤ 4000000000 from Nat.le_trans (total_values HZ.out cnN) (by omega))
      clear hb4 hb4' HB3 HF3 HV3 HK3 hc0 hc1 hc2 hc3 hc4
      go_wp2_with fail
      rename_i K hK
      generalize w4.alloc (.cells #[.int .i64 k, .int .i64 n] 30) = W4 at *
      generalize w4.heap.size = g4 at *
      generalize w3.heap.size = g3 at *
      refine wp_region_local (S := [.val (.agg #[.int .i64 k, .int .i64 n]), .val (.agg #[.int .i64 k, .int .i64 n]), .val (.bool true), .val (.bool true), .val (.int .i64 er), .val (.int .i64 er), .val (.bool true), .val (.bool true), .val (.bool true),
        .val (.pointer (some ⟨g, 2, none⟩)), .val (.int .i64 v), .val (.pointer (some ⟨g, 3, none⟩)), .val (.slice a l.length c), .val (.bool (persS v l)),
        .val (.pointer (some ⟨g, 2, none⟩)), .val (.int .i64 v), .val (.pointer (some ⟨g, 3, none⟩)), .val (.slice a l.length c), .val (.bool (persS v l)),
        .val (.bool true), .val (.bool true), .val (.bool true), .val (.bool true), .val (.bool true), .val (.bool true)])
        (by kernel_rfl) (by kernel_rfl) (by kernel_rfl) ?_ ?_
      · have cell : ∀ w' i u, Below W4.heap.size W4 w' → (#[.int .i64 st, .string ⟨#[]⟩, .int .i64 v, .slice a l.length c, .slice none 0 0] : Array Value)[i]? = some u → w'.cell? ⟨g, i, none⟩ = some u := fun w' i u hb hu => below_cell hb (by rw [cell_of_row _ _ _ _ _ _ HV4.out]; exact hu)
        refine ⟨?_, ?_, ?_, ?_, ?_, ?_, ?_, ?_, ?_, ?_, ?_, ?_, ?_, ?_, ?_, ?_, ?_, ?_, ?_, ?_, ?_, ?_, ?_, ?_, ?_, trivial⟩ <;> intro a1 w5 hb hf hd
        · exact ⟨wanted_none rfl, loc_load rfl (by rw [show a1.eval (.tmp 15) = .pointer (some ⟨g3, 0, none⟩) from hf.base 15 rfl]; exact run_loadK _ _ _ _ (HK4.out.keep hb)) rfl⟩
        · exact ⟨wanted_none rfl, loc_load rfl (by rw [show a1.eval (.tmp 17) = .pointer (some ⟨g4, 0, none⟩) from hf.base 17 rfl]; exact run_loadK _ _ _ _ (HJ4.out.keep hb)) rfl⟩
        · exact ⟨wanted_none rfl, loc_eqlK rfl (hd 0 rfl) (hd 1 rfl) rfl⟩
        · exact ⟨wanted_none rfl, loc_move rfl (hd 2 rfl)⟩
        · exact ⟨wanted_true rfl rfl (hd 3 rfl), loc_move rfl (hf.base 16 rfl)⟩
        · exact ⟨wanted_true rfl rfl (hd 3 rfl), loc_move rfl (hf.base 18 rfl)⟩
        · exact ⟨wanted_true rfl rfl (hd 3 rfl), loc_eqlE rfl (hd 4 rfl) (hd 5 rfl) rfl⟩
        · exact ⟨wanted_none rfl, loc_pick rfl (hd 3 rfl) (hd 6 rfl)⟩
        · exact ⟨wanted_none rfl, loc_move rfl (hd 7 rfl)⟩
        · exact ⟨wanted_true rfl rfl (hd 8 rfl), loc_fieldA rfl (hf.base 13 rfl) (by decide) rfl⟩
        · exact ⟨wanted_true rfl rfl (hd 8 rfl), loc_cell rfl (hd 9 rfl) (cell w5 2 _ hb rfl) (agg_int _) rfl⟩
        · exact ⟨wanted_true rfl rfl (hd 8 rfl), loc_fieldA rfl (hf.base 13 rfl) (by decide) rfl⟩
        · exact ⟨wanted_true rfl rfl (hd 8 rfl), loc_cell rfl (hd 11 rfl) (cell w5 3 _ hb rfl) (agg_fieldsM _) rfl⟩
        · refine ⟨wanted_true rfl rfl (hd 8 rfl), loc_call rfl (by kernel_rfl) ?_⟩
          show Calls _ _ #[a1.eval (.tmp 70), a1.eval (.tmp 72)] w5 _
          rw [show a1.eval (.tmp 70) = _ from hd 10 rfl, show a1.eval (.tmp 72) = _ from hd 12 rfl]
          refine (projPersistent_any v l a c mm w5 (HF4.out.keep hb) HZ.out.short (by omega) HTC.out (HM.out.keep (below_trans HB4.out hb))).mono ?_
          rintro e w' ⟨rfl, hb'⟩
          exact ⟨_, rfl, hb', rfl⟩
        · exact ⟨wanted_true rfl rfl (hd 8 rfl), loc_fieldA rfl (hf.base 13 rfl) (by decide) rfl⟩
        · exact ⟨wanted_true rfl rfl (hd 8 rfl), loc_cell rfl (hd 14 rfl) (cell w5 2 _ hb rfl) (agg_int _) rfl⟩
        · exact ⟨wanted_true rfl rfl (hd 8 rfl), loc_fieldA rfl (hf.base 13 rfl) (by decide) rfl⟩
        · exact ⟨wanted_true rfl rfl (hd 8 rfl), loc_cell rfl (hd 16 rfl) (cell w5 3 _ hb rfl) (agg_fieldsM _) rfl⟩
        · refine ⟨wanted_true rfl rfl (hd 8 rfl), loc_call rfl (by kernel_rfl) ?_⟩
          show Calls _ _ #[a1.eval (.tmp 75), a1.eval (.tmp 77)] w5 _
          rw [show a1.eval (.tmp 75) = _ from hd 15 rfl, show a1.eval (.tmp 77) = _ from hd 17 rfl]
          refine (refPersistent_any v l a c w5 (HF4.out.keep hb) HZ.out.short (by omega) HTC.out).mono ?_
          rintro e w' ⟨rfl, hb'⟩
          exact ⟨_, rfl, hb', rfl⟩
        · exact ⟨wanted_true rfl rfl (hd 8 rfl), loc_eqlB rfl (hd 13 rfl) (hd 18 rfl) rfl⟩
        · exact ⟨wanted_none rfl, loc_pick rfl (hd 8 rfl) (hd 19 rfl)⟩
        · exact ⟨wanted_none rfl, loc_move rfl (hd 20 rfl)⟩
        · refine ⟨wanted_true rfl rfl (hd 21 rfl), loc_call rfl (by kernel_rfl) ?_⟩
          show Calls _ _ #[] w5 _
          refine (awakeM_any w5 mm (HM.out.keep (below_trans HB4.out hb))).mono ?_
          rintro e w' ⟨rfl, hb'⟩
          exact ⟨_, rfl, hb', rfl⟩
        · exact ⟨wanted_none rfl, loc_pick rfl (hd 21 rfl) (hd 22 rfl)⟩
        · exact ⟨wanted_none rfl, loc_assign rfl (hd 23 rfl)⟩
      · intro a1 w5 hb hf hh
        refine hK a1 w5 ?_
        go_wp2_with fail
        exact local_ret rfl hf.defers (show a1.eval (.tmp 12) = .bool true from hh 24 (by decide)) ⟨rfl, below_trans HB4.out hb⟩
end
end Go.Proofs.YtkbnkiflabncjaaDoor
namespace Go.Proofs.YtkbnkiflabncjaaDoor
open Go.RowKit

/-- No field has a name that the rules on frames name. -/
def Clean (l : List Fld) : Prop := ∀ f ∈ l, foldS f.1 clN = false ∧ foldS f.1 teN = false
theorem namesF_clean : (namesF.all fun s => !foldS s clN && !foldS s teN) = true := by decide +kernel
theorem clean_src {l : List Fld} (h : ∀ f ∈ l, SrcF f) : Clean l := fun f hf => by
  obtain ⟨s, hs, v, _, rfl⟩ := h f hf
  have h1 := List.all_eq_true.1 namesF_clean s hs
  simp only [Bool.and_eq_true, Bool.not_eq_true'] at h1
  exact h1
theorem values_clean {l : List Fld} {n : ByteArray} (h : ∀ f ∈ l, foldS f.1 n = false) : valuesL l n = [] := by
  unfold valuesL
  rw [List.filter_eq_nil_iff.2 (fun f hf => by rw [h f hf]; simp)]
  rfl
theorem valuesL_app (l m : List Fld) (n : ByteArray) : valuesL (l ++ m) n = valuesL l n ++ valuesL m n := by
  unfold valuesL; rw [List.filter_append, List.map_append]
theorem hasL_app (l m : List Fld) (n : ByteArray) : hasL (l ++ m) n = (hasL l n || hasL m n) := by
  unfold hasL; rw [List.any_append]
theorem has_clean {l : List Fld} {n : ByteArray} (h : ∀ f ∈ l, foldS f.1 n = false) : hasL l n = false := by
  unfold hasL
  rw [List.any_eq_false]
  intro f hf
  rw [h f hf]; simp
theorem values_mid {A B e : List Fld} {n : ByteArray} (hA : ∀ f ∈ A, foldS f.1 n = false) (hB : ∀ f ∈ B, foldS f.1 n = false) : valuesL (A ++ e ++ B) n = valuesL e n := by
  rw [valuesL_app, valuesL_app, values_clean hA, values_clean hB]; simp
theorem has_mid {A B e : List Fld} {n : ByteArray} (hA : ∀ f ∈ A, foldS f.1 n = false) (hB : ∀ f ∈ B, foldS f.1 n = false) : hasL (A ++ e ++ B) n = hasL e n := by
  rw [hasL_app, hasL_app, has_clean hA, has_clean hB]; simp
/-- Fields that contradict each other. -/
def badB (e : List Fld) : Bool := if hasL e teN = true then decide (0 < (valuesL e clN).length) || !chunkedB (listL (valuesL e teN)) else decide (1 < (valuesL e clN).length)
theorem bad_frame {A B e : List Fld} (hA : Clean A) (hB : Clean B) (he : badB e = true) (v k0 : Int) : frameS v (A ++ e ++ B) k0 = (0, 0, 5) := by
  have h1 : valuesL (A ++ e ++ B) clN = valuesL e clN := values_mid (fun f hf => (hA f hf).1) (fun f hf => (hB f hf).1)
  have h2 : valuesL (A ++ e ++ B) teN = valuesL e teN := values_mid (fun f hf => (hA f hf).2) (fun f hf => (hB f hf).2)
  have h3 : hasL (A ++ e ++ B) teN = hasL e teN := has_mid (fun f hf => (hA f hf).2) (fun f hf => (hB f hf).2)
  unfold frameS
  rw [h1, h2, h3]
  unfold badB at he
  by_cases ht : hasL e teN = true
  · rw [if_pos ht] at he ⊢
    rw [Bool.or_eq_true, decide_eq_true_eq, Bool.not_eq_true'] at he
    rw [if_pos (.inr he)]
  · rw [if_neg ht] at he ⊢
    have hl : 1 < (valuesL e clN).length := of_decide_eq_true he
    match hv : valuesL e clN with
    | [] => rw [hv] at hl; simp at hl
    | y :: r =>
      rw [hv] at hl
      simp only []
      rw [if_pos (.inl (by simp only [List.length_cons] at hl; omega))]
theorem bad_reply {A B e : List Fld} (hA : Clean A) (hB : Clean B) (he : badB e = true) (v : Int) : replyS ⟨#[71, 69, 84]⟩ 200 v (A ++ e ++ B) = (0, 0, 5) := by
  unfold replyS
  rw [if_neg (by decide +kernel), bad_frame hA hB he]
def lenVals : List ByteArray := [⟨#[48]⟩, ⟨#[53]⟩, ⟨#[53, 44, 32, 53]⟩]
def codVals : List ByteArray := [⟨#[99, 104, 117, 110, 107, 101, 100]⟩, ⟨#[103, 122, 105, 112]⟩, ⟨#[105, 100, 101, 110, 116, 105, 116, 121]⟩, ⟨#[]⟩, ⟨#[103, 122, 105, 112, 44, 32, 99, 104, 117, 110, 107, 101, 100]⟩]
def clU : Fld := (⟨#[67, 79, 78, 84, 69, 78, 84, 45, 76, 69, 78, 71, 84, 72]⟩, ⟨#[53]⟩)
/-- The fields bear a contradiction in both orders; or they are the one with an empty coding. -/
def BadE (e : List Fld) : Prop := ∃ p q, e = [p, q] ∧ badB [p, q] = true ∧ badB [q, p] = true ∧ TinyF p ∧ TinyF q
def tinyB (f : Fld) : Bool := decide (f.1.size ≤ 1000) && decide (f.2.size ≤ 1000)
theorem tinyB_of {f : Fld} (h : tinyB f = true) : TinyF f := by
  unfold tinyB at h
  rw [Bool.and_eq_true, decide_eq_true_eq, decide_eq_true_eq] at h
  exact h
def bothB (p q : Fld) : Bool := badB [p, q] && badB [q, p] && tinyB p && tinyB q
theorem badE_of {p q : Fld} (h : bothB p q = true) : BadE [p, q] := by
  unfold bothB at h
  rw [Bool.and_eq_true, Bool.and_eq_true, Bool.and_eq_true] at h
  exact ⟨p, q, rfl, h.1.1.1, h.1.1.2, tinyB_of h.1.2, tinyB_of h.2⟩
theorem bad_both : (lenVals.all fun x => codVals.all fun y => bothB (clP, x) (teN, y)) = true := by decide +kernel
theorem bad_lens : (lenVals.all fun x => bothB (clP, x) clU) = true := by decide +kernel
theorem bad_cods : (codVals.all fun y => decide (y = ⟨#[]⟩) || bothB teA (teN, y)) = true := by decide +kernel
/-- Fields that are refused: at most two, small ones. -/
def Refused (e : List Fld) : Prop := badB e = true ∧ e.length ≤ 2 ∧ ∀ f ∈ e, TinyF f
theorem refused_empty : Refused [(teN, ⟨#[]⟩)] := ⟨by decide +kernel, by decide, fun f hf => by
  obtain rfl := List.mem_singleton.1 hf
  exact tinyB_of (by decide +kernel)⟩
theorem refused_two {p q : Fld} (h : badB [p, q] = true) (hp : TinyF p) (hq : TinyF q) : Refused [p, q] := ⟨h, by simp, fun f hf => by
  simp at hf
  rcases hf with rfl | rfl
  · exact hp
  · exact hq⟩
theorem BadE.refused {e : List Fld} (h : BadE e) : Refused e := by
  obtain ⟨p, q, rfl, h1, _, hp, hq⟩ := h
  exact refused_two h1 hp hq
theorem badE_both {x y : ByteArray} (hx : x ∈ lenVals) (hy : y ∈ codVals) : BadE [(clP, x), (teN, y)] :=
  badE_of (List.all_eq_true.1 (List.all_eq_true.1 bad_both x hx) y hy)
theorem badE_lens {x : ByteArray} (hx : x ∈ lenVals) : BadE [(clP, x), clU] := badE_of (List.all_eq_true.1 bad_lens x hx)
theorem badE_cods {y : ByteArray} (hy : y ∈ codVals) (h0 : ¬ y = ⟨#[]⟩) : BadE [teA, (teN, y)] := by
  have h := List.all_eq_true.1 bad_cods y hy
  rw [Bool.or_eq_true, decide_eq_true_eq] at h
  rcases h with h | h
  · exact absurd h h0
  · exact badE_of h

section
variable {ops : Array Oper} {rest : List Oper} {o : Oper} {act : Act} {Q : Exit → Act → World → Prop}
/-- APPEND of a slice of fields that is read to an own one: what the append leaves alone. -/
theorem wpList_append_ownfs (w : World) (hgd : o.guard = none) (s x : Operand) (ho : o.op = .call { callee := .builtin .append, args := #[s, x], argTypes := #[23, 23] })
    {B : Nat} {v : Value} {l : List Fld} (hs : act.eval s = v) (h : OwnF B w v l) {a : Option Addr} {r : List Fld} {c : Nat} (hx : act.eval x = .slice a r.length c) (hr : FldsC w a r c)
    (hn : l.length + r.length ≤ 4398046511104) (hB : B ≤ w.heap.size)
    (K : ∀ v' w', OwnF B w' v' (l ++ r) → w.grownBy w' v.ownBlock → wpList Tryd.prog ops Q rest (act.put o.dst v') w') : wpList Tryd.prog ops Q (o :: rest) act w := by
  obtain ⟨i0, hi, hz0, hz1, hz2⟩ := info_parts Tryd.info47
  cases a with
  | none =>
    obtain ⟨rfl, rfl⟩ := hr.2 rfl
    refine wpList_append_own_none hgd s x 23 ho B 47 i0 2 Tryd.underlying23 hi v l.length (cellsF l) hs h hx (K _ _ ?_ ⟨rfl, rfl, rfl, Nat.le_refl _, fun _ _ _ => rfl⟩)
    rw [List.append_nil]; exact h
  | some ad =>
    refine wpList_append_own_at w hgd s x 23 ho B 47 i0 _ 2 32 Tryd.underlying23 hi hz0 hz1 hz2 rfl (by decide) v l.length (cellsF l) hs h ad r.length c (cellsF r) hx (cellsF_len r) (hr.1.cells) (cellsF_one r) (by unfold maxLen; omega) (by omega) hB ?_
    intro v' w' hown hgrow _ _
    refine K v' w' ?_ hgrow
    unfold OwnF
    rw [List.length_append, cellsF_app]; exact hown
end
section
variable {Q : Exit → Act → World → Prop} {act : Act} {w : World} {o : Oper} {s : Spec} {K : Act → World → Prop}
theorem fldsIn_pairF (w : World) (f g : Fld) : FldsIn (w.alloc (.cells #[.string f.1, .string f.2, .string g.1, .string g.2] 47)) (some ⟨w.heap.size, 0, none⟩) [f, g] := fun j hj => by
  match j, hj with
  | 0, _ => exact ⟨_, rfl, by rw [Addr.add_lit, new_cellF]; rfl, by rw [Addr.add_lit, new_cellF]; rfl⟩
  | 1, _ => exact ⟨_, rfl, by rw [Addr.add_lit, new_cellF]; rfl, by rw [Addr.add_lit, new_cellF]; rfl⟩
end
end Go.Proofs.YtkbnkiflabncjaaDoor
namespace Go.Proofs.YtkbnkiflabncjaaDoor
open Go.RowKit

/-- The extra fields are at a, in a block beyond g. -/
def NsX (g gx gy : Nat) (xv yv : ByteArray) (b : Option Addr) (nb cb : Nat) (w : World) (e : List Fld) (s : Value) (W : World) : Prop :=
  ∃ gE c, s = .slice (some ⟨gE, 0, none⟩) e.length c ∧ g < gE ∧ FldsIn W (some ⟨gE, 0, none⟩) e ∧ Src W g b nb cb ∧ FVar W gx clP xv ∧ FVar W gy teN yv ∧ Below w.heap.size w W

section
variable (b : Option Addr) (nb cb : Nat) (at_ minor : Int) (mm : Int) (w : World)
set_option maxRecDepth 100000 in
set_option maxHeartbeats 4000000 in
theorem framingNoSmuggling_any (hi : IntsF w b nb) (hn : nb ≤ maxLen) (hm : MaxOk w mm) :
    Calls Tryd.prog 5 #[.slice b nb cb, .int .i64 at_, .int .i64 minor] w fun e w' => e = .returned (.bool true) ∧ Below w.heap.size w w' := by
  have HM := Box.mk hm
  have HS0 := Box.mk (src_box (c := cb) hi hn)
  have HB0 := Box.mk (below_oneF w (.cells #[.slice b nb cb, .int .i64 0] 39))
  have HLOW := Box.mk (show ∀ x, b = some x → 0 < nb → x.block < w.heap.size from fun x e h0 => by
    obtain ⟨y, z, e2, hc, _⟩ := hi 0 h0
    rw [e] at e2
    obtain rfl := Option.some.inj e2
    have := lt_cell hc
    rw [add_blockF] at this; exact this)
  clear hi hn hm
  go_enter Tryd.func5, Tryd.ntmps5
  go_wp2_with fail
  obtain ⟨W0, hW0⟩ : ∃ W0, W0 = w.alloc (.cells #[.slice b nb cb, .int .i64 0] 39) := ⟨_, rfl⟩
  have hs0 : w.heap.size < W0.heap.size := by rw [hW0, World.size_alloc]; omega
  rw [← hW0] at HS0 HB0 ⊢
  clear hW0
  generalize hg : w.heap.size = g at *
  have HG := Box.mk hg
  clear hg
  refine (next_any g 3 b nb cb W0 HS0.out (by decide) (by decide)).mono ?_
  rintro e w1 ⟨k, hk, rfl, hsrc, hg1⟩
  have HS1 := Box.mk hsrc
  have HB1 := Box.mk (show Below w.heap.size w w1 by rw [HG.out]; exact HB0.out.grown hg1 (by omega) (fun q e => by have := Option.some.inj e; omega))
  have hsz1 := hg1.size
  clear hsrc hg1 HS0 HB0
  go_wp2_with fail
  obtain ⟨W, hW⟩ : ∃ W, W = w1.alloc (.cells (lenVals.map Value.string).toArray 9) := ⟨_, rfl⟩
  have HBW := Box.mk (show Below w1.heap.size w1 W by rw [hW]; exact below_oneF w1 _)
  have HL := Box.mk (show StrsIn W (some ⟨w1.heap.size, 0, none⟩) lenVals by rw [hW]; exact strsIn_newF w1 lenVals 9)
  change Calls _ _ _ (w1.alloc (.cells (lenVals.map Value.string).toArray 9)) _
  rw [← hW]
  clear hW
  refine (of_n g w1.heap.size 3 lenVals 3 b nb cb W (HS1.out.keep HBW.out) HL.out (by omega) rfl (by decide) (by decide)).mono ?_
  rintro e w2 ⟨xv, hxv, rfl, hsrc, hg2⟩
  have HXV := Box.mk hxv
  have HS2 := Box.mk hsrc
  have HB2 := Box.mk (show Below w.heap.size w w2 from (below_trans HB1.out HBW.out).grown hg2 (by have := HBW.out.size; have := HG.out; omega) (fun q e => by have := Option.some.inj e; have := HG.out; omega))
  have hsz2 : w1.heap.size ≤ w2.heap.size := Nat.le_trans HBW.out.size hg2.size
  clear hsrc hg2 HS1 HB1 HBW HL hxv
  go_wp2_with fail
  obtain ⟨W2, hW2⟩ : ∃ W2, W2 = (w2.alloc (.cells #[.string clP, .string xv] 47)).alloc (.cells (codVals.map Value.string).toArray 9) := ⟨_, rfl⟩
  have HBW := Box.mk (show Below w2.heap.size w2 W2 by rw [hW2]; exact below_twoF (below_oneF w2 _) _)
  have HX := Box.mk (show FVar W2 w2.heap.size clP xv by rw [hW2]; exact (FVar.new w2 clP xv).keep (below_oneF _ _))
  have HL := Box.mk (show StrsIn W2 (some ⟨w2.heap.size + 1, 0, none⟩) codVals by
    have h1 := strsIn_newF (w2.alloc (.cells #[.string clP, .string xv] 47)) codVals 9
    rw [World.size_alloc] at h1
    rw [hW2]; exact h1)
  change Calls _ _ _ ((w2.alloc (.cells #[.string clP, .string xv] 47)).alloc (.cells (codVals.map Value.string).toArray 9)) _
  rw [← hW2]
  clear hW2
  refine (of_n g (w2.heap.size + 1) 5 codVals 5 b nb cb W2 (HS2.out.keep HBW.out) HL.out (by omega) rfl (by decide) (by decide)).mono ?_
  rintro e w3 ⟨yv, hyv, rfl, hsrc, hg3⟩
  have HYV := Box.mk hyv
  have HX3 := Box.mk (HX.out.grown hg3 (fun e => by have := Option.some.inj e; omega))
  have HB3 := Box.mk (show Below w.heap.size w w3 from (below_trans HB2.out HBW.out).grown hg3 (by have := HBW.out.size; have := HG.out; omega) (fun q e => by have := Option.some.inj e; have := HG.out; omega))
  have hsz3 : w2.heap.size ≤ w3.heap.size := Nat.le_trans HBW.out.size hg3.size
  have HS3 := Box.mk hsrc
  clear hsrc hg3 HS2 HB2 HBW HL hyv HX
  generalize hgx : w2.heap.size = gx at *
  have hgx2 : g < gx := by omega
  have HF := Box.mk (show ∃ W gy, gy = w3.heap.size ∧ W = (w3.alloc (.cells #[.string teN, .string yv] 47)).alloc (.cells #[.string clP, .string xv, .string teN, .string yv] 47) ∧ NsX g gx gy xv yv b nb cb w [(clP, xv), (teN, yv)] (.slice (some ⟨w3.heap.size + 1, 0, none⟩) 2 2) W from by
    have h1 := fldsIn_pairF (w3.alloc (.cells #[.string teN, .string yv] 47)) (clP, xv) (teN, yv)
    rw [World.size_alloc] at h1
    have hb := below_twoF (below_oneF w3 (.cells #[.string teN, .string yv] 47)) (.cells #[.string clP, .string xv, .string teN, .string yv] 47)
    exact ⟨_, _, rfl, rfl, _, 2, rfl, by omega, h1, HS3.out.keep hb, HX3.out.keep hb, (FVar.new w3 teN yv).keep (below_oneF _ _), below_trans HB3.out hb⟩)
  have hlx := HX3.out.lt
  have hcx0 := HX3.out.c0
  have hcx1 := HX3.out.c1
  go_upto_if 34 with fail
  obtain ⟨W3, gy, hgy, hW3, hnx⟩ := HF.out
  change Code.wp _ _ _ _ ((w3.alloc (.cells #[.string teN, .string yv] 47)).alloc (.cells #[.string clP, .string xv, .string teN, .string yv] 47))
  rw [← hW3]
  rw [← hgy] at hnx ⊢
  have HNX := Box.mk hnx
  have hgy2 : g < gy := by omega
  clear HF hnx hW3 hcx0 hcx1 hlx HX3 HB3 HS3 hgy hsz3 hgx hsz2 hsz1
  go_cut [11] (fun s11 wx => Box (∃ e, NsX g gx gy xv yv b nb cb w e s11 wx ∧ BadE e))
  case first =>
    by_cases hk1 : k = 1
    · have ek : ((k : Int) == 1) = true := by rw [hk1]; rfl
      obtain ⟨gE, c, _, _, _, hS, hX, hY, hB⟩ := HNX.out
      have hc0 := hX.c0
      have hc1 := hX.c1
      have HH := Box.mk (And.intro hS (And.intro hX (And.intro hY hB)))
      have HZ := Box.mk hS.lt
      clear hS hX hY hB hk1 HNX
      go_wp2_with fail
      go_meet
      have hb := below_oneF W3 (.cells #[.string clP, .string xv, .string clU.1, .string clU.2] 47)
      exact ⟨[(clP, xv), clU], ⟨_, 2, rfl, HZ.out, fldsIn_pairF W3 (clP, xv) clU, HH.out.1.keep hb, HH.out.2.1.keep hb, HH.out.2.2.1.keep hb, below_trans HH.out.2.2.2 hb⟩, badE_lens HXV.out⟩
    · have ek : ((k : Int) == 1) = false := by rw [beq_eq_false_iff_ne]; omega
      clear hk1
      go_wp2_with fail
      go_meet
      exact ⟨_, HNX.out, badE_both HXV.out HYV.out⟩
  case rest =>
  have H1 := hcut
  clear hcut HNX
  go_upto_if 39 with fail
  go_cut [11] (fun s11 wx => Box (∃ e, NsX g gx gy xv yv b nb cb w e s11 wx ∧ (BadE e ∨ k = 2 ∧ yv = ⟨#[]⟩ ∧ e = [(teN, yv)])))
  case first =>
    obtain ⟨e, hx, hbe⟩ := H1.out
    by_cases hk2 : k = 2
    · have HK := Box.mk hk2
      have ek : ((k : Int) == 2) = true := by rw [hk2]; rfl
      obtain ⟨gE, c, _, _, _, hS, hX, hY, hB⟩ := hx
      have hc0 := hY.c0
      have hc1 := hY.c1
      have hlt := hY.lt
      have HZ := Box.mk hS.lt
      have HH := Box.mk (And.intro hS (And.intro hX (And.intro hY hB)))
      clear hS hX hY hB hk2 hbe
      by_cases hy0 : yv = ⟨#[]⟩
      · have HY0 := Box.mk hy0
        have hyb : yv.toList.isEmpty = true := by rw [hy0]; decide +kernel
        clear hy0
        go_wp2_with fail
        go_meet
        have hb1 := below_oneF wc (.cells #[.string teA.1, .string teA.2, .string teN, .string yv] 47)
        have hb2 := below_oneF (wc.alloc (.cells #[.string teA.1, .string teA.2, .string teN, .string yv] 47)) (.cells #[.string teN, .string yv] 47)
        have h1 := fldsIn_one (wc.alloc (.cells #[.string teA.1, .string teA.2, .string teN, .string yv] 47)) teN yv
        rw [World.size_alloc] at h1
        have hb := below_trans hb1 hb2
        exact ⟨[(teN, yv)], ⟨_, 1, rfl, by have := HZ.out; omega, h1, HH.out.1.keep hb, HH.out.2.1.keep hb, HH.out.2.2.1.keep hb, below_trans HH.out.2.2.2 hb⟩, .inr ⟨HK.out, HY0.out, rfl⟩⟩
      · have HY0 := Box.mk hy0
        have hyb : yv.toList.isEmpty = false := by
          rw [ByteArray.toList_eq]
          cases hyl : yv.data.toList with
          | nil => exact absurd (ByteArray.ext (Array.toList_inj.1 (show yv.data.toList = (#[] : Array UInt8).toList from hyl))) hy0
          | cons _ _ => rfl
        clear hy0
        go_wp2_with fail
        go_meet
        have hb := below_oneF wc (.cells #[.string teA.1, .string teA.2, .string teN, .string yv] 47)
        exact ⟨[teA, (teN, yv)], ⟨_, 2, rfl, by have := HZ.out; omega, fldsIn_pairF wc teA (teN, yv), HH.out.1.keep hb, HH.out.2.1.keep hb, HH.out.2.2.1.keep hb, below_trans HH.out.2.2.2 hb⟩, .inl (badE_cods HYV.out HY0.out)⟩
    · have ek : ((k : Int) == 2) = false := by rw [beq_eq_false_iff_ne]; omega
      clear hk2
      go_wp2_with fail
      go_meet
      exact ⟨e, hx, .inl hbe⟩
  case rest =>
  have H2 := hcut
  clear hcut H1
  go_wp2_with fail
  refine (withinF at_ 2 _ (by decide) (by decide)).mono ?_
  rintro e wx ⟨rfl, rfl⟩
  obtain ⟨q, hq, hqe⟩ := withI_range at_ 2 (by decide) (by decide)
  rw [hqe]
  clear hqe
  go_upto_if 50 with fail
  go_cut [11] (fun s11 wx => Box (∃ e, NsX g gx gy xv yv b nb cb w e s11 wx ∧ Refused e))
  case first =>
    obtain ⟨e, hx, hbe⟩ := H2.out
    clear H2
    by_cases hq1 : q = 1
    · have eq : ((q : Int) == 1) = true := by rw [hq1]; rfl
      have HBE := Box.mk hbe
      obtain ⟨gE, c, rfl, hgE, hE, hS, hX, hY, hB⟩ := hx
      have hyc0' := hY.c0
      have hyc1' := hY.c1
      have hylt' := hY.lt
      have HZ := Box.mk hS.lt
      have HH := Box.mk (And.intro hS (And.intro hX (And.intro hY hB)))
      clear hS hX hY hB hq1
      rcases hbe with ⟨p, r, rfl, hb1, hb2, hp, hr⟩ | ⟨hk2, hy0, rfl⟩
      · obtain ⟨x, e1, h1, h2⟩ := hE 0 (by simp)
        obtain ⟨x', e1', h3, h4⟩ := hE 1 (by simp)
        obtain rfl := Option.some.inj e1
        obtain rfl := Option.some.inj e1'
        simp only [List.getElem_cons_zero, List.getElem_cons_succ, Addr.add_lit, Nat.zero_add, Nat.zero_mul, Nat.one_mul] at h1 h2 h3 h4
        rw [show ([p, r] : List Fld).length = 2 from rfl]
        have HB2 := Box.mk (And.intro hb2 (And.intro hp hr))
        clear hE e1 e1' hb1 hb2 hp hr
        go_wp2_with fail
        go_still_tail 9, (by kernel_rfl)
        simp only [show IntKind.i64.wrap 1 = 1 by decide]
        repeat still_step
        refine wpStill_nil ?_
        change wpList _ _ _ _ _ wx.drew
        have HDR := Box.mk (below_drewN (Below.refl wx.heap.size wx) 1)
        obtain ⟨W9, hW9⟩ : ∃ W9, W9 = wx.drew := ⟨_, rfl⟩
        rw [show wx.drewN 1 = W9 from hW9.symm] at HDR
        rw [← hW9]
        have hyc0 := below_cell HDR.out hyc0'
        have hyc1 := below_cell HDR.out hyc1'
        have hylt := Nat.lt_of_lt_of_le hylt' HDR.out.size
        have hsz9 := HDR.out.size
        clear hW9 h1 h2 h3 h4 hyc0' hyc1' hylt'
        by_cases hk2 : k = 2
        · have ek : ((k : Int) == 2) = true := by rw [hk2]; rfl
          clear hk2
          by_cases hy0 : yv = ⟨#[]⟩
          · have HY0 := Box.mk hy0
            have hyb : yv.toList.isEmpty = true := by rw [hy0]; decide +kernel
            clear hy0
            go_wp2_with fail
            go_meet
            have hb1 := below_trans HDR.out (below_oneF W9 (.cells #[.string r.1, .string r.2, .string p.1, .string p.2] 47))
            have hb2 := below_oneF (W9.alloc (.cells #[.string r.1, .string r.2, .string p.1, .string p.2] 47)) (.cells #[.string teN, .string yv] 47)
            have h1 := fldsIn_one (W9.alloc (.cells #[.string r.1, .string r.2, .string p.1, .string p.2] 47)) teN yv
            rw [World.size_alloc] at h1
            have hb := below_trans hb1 hb2
            exact ⟨[(teN, yv)], ⟨_, 1, rfl, by have := HZ.out; omega, h1, HH.out.1.keep hb, HH.out.2.1.keep hb, HH.out.2.2.1.keep hb, below_trans HH.out.2.2.2 hb⟩, by rw [HY0.out]; exact refused_empty⟩
          · have hyb : yv.toList.isEmpty = false := by
              rw [ByteArray.toList_eq]
              cases hyl : yv.data.toList with
              | nil => exact absurd (ByteArray.ext (Array.toList_inj.1 (show yv.data.toList = (#[] : Array UInt8).toList from hyl))) hy0
              | cons _ _ => rfl
            clear hy0
            go_wp2_with fail
            go_meet
            have hb := below_trans HDR.out (below_oneF W9 (.cells #[.string r.1, .string r.2, .string p.1, .string p.2] 47))
            exact ⟨[r, p], ⟨_, 2, rfl, by have := HZ.out; omega, fldsIn_pairF W9 r p, HH.out.1.keep hb, HH.out.2.1.keep hb, HH.out.2.2.1.keep hb, below_trans HH.out.2.2.2 hb⟩, refused_two HB2.out.1 HB2.out.2.2 HB2.out.2.1⟩
        · have ek : ((k : Int) == 2) = false := by rw [beq_eq_false_iff_ne]; omega
          clear hk2
          go_wp2_with fail
          go_meet
          have hb := below_trans HDR.out (below_oneF W9 (.cells #[.string r.1, .string r.2, .string p.1, .string p.2] 47))
          exact ⟨[r, p], ⟨_, 2, rfl, by have := HZ.out; omega, fldsIn_pairF W9 r p, HH.out.1.keep hb, HH.out.2.1.keep hb, HH.out.2.2.1.keep hb, below_trans HH.out.2.2.2 hb⟩, refused_two HB2.out.1 HB2.out.2.2 HB2.out.2.1⟩
      · obtain ⟨x, e1, h1, h2⟩ := hE 0 (by simp)
        obtain rfl := Option.some.inj e1
        simp only [List.getElem_cons_zero, Addr.add_lit, Nat.zero_add, Nat.zero_mul] at h1 h2
        rw [show ([(teN, yv)] : List Fld).length = 1 from rfl]
        have h3 := h1
        have h4 := h2
        have HY0 := Box.mk hy0
        have hyb : yv.toList.isEmpty = true := by rw [hy0]; decide +kernel
        have ek : ((k : Int) == 2) = true := by rw [hk2]; rfl
        clear hE e1 hk2 hy0
        go_wp2_with fail
        go_still_tail 9, (by kernel_rfl)
        simp only [show IntKind.i64.wrap 0 = 0 by decide]
        repeat still_step
        refine wpStill_nil ?_
        change wpList _ _ _ _ _ wx.drew
        have HDR := Box.mk (below_drewN (Below.refl wx.heap.size wx) 1)
        obtain ⟨W9, hW9⟩ : ∃ W9, W9 = wx.drew := ⟨_, rfl⟩
        rw [show wx.drewN 1 = W9 from hW9.symm] at HDR
        rw [← hW9]
        have hyc0 := below_cell HDR.out hyc0'
        have hyc1 := below_cell HDR.out hyc1'
        have hylt := Nat.lt_of_lt_of_le hylt' HDR.out.size
        have hsz9 := HDR.out.size
        clear hW9 h1 h2 h3 h4 hyc0' hyc1' hylt'
        go_wp2_with fail
        go_meet
        have hb1 := below_trans HDR.out (below_oneF W9 (.cells #[.string teN, .string yv, .string teN, .string yv] 47))
        have hb2 := below_oneF (W9.alloc (.cells #[.string teN, .string yv, .string teN, .string yv] 47)) (.cells #[.string teN, .string yv] 47)
        have h1 := fldsIn_one (W9.alloc (.cells #[.string teN, .string yv, .string teN, .string yv] 47)) teN yv
        rw [World.size_alloc] at h1
        have hb := below_trans hb1 hb2
        exact ⟨[(teN, yv)], ⟨_, 1, rfl, by have := HZ.out; omega, h1, HH.out.1.keep hb, HH.out.2.1.keep hb, HH.out.2.2.1.keep hb, below_trans HH.out.2.2.2 hb⟩, by rw [HY0.out]; exact refused_empty⟩
    · have eq : ((q : Int) == 1) = false := by rw [beq_eq_false_iff_ne]; omega
      clear hq1
      go_wp2_with fail
      go_meet
      refine ⟨e, hx, ?_⟩
      rcases hbe with hbe | ⟨_, hy0, rfl⟩
      · exact hbe.refused
      · rw [hy0]; exact refused_empty
  case rest =>
  obtain ⟨e, hx, hbe⟩ := hcut.out
  obtain ⟨gE, c, hs11, hgE, hE, hS, _, _, hB⟩ := hx
  subst hs11
  have HE := Box.mk (And.intro hE hbe)
  have HSR := Box.mk hS
  have HBC := Box.mk hB
  have hgc := hS.lt
  have HLC := Box.mk hbe.2.1
  clear hcut hE hbe hS hB H2
  go_wp2_with fail
  refine (srcFieldsS_any g 2 b nb cb wc HSR.out (by decide)).mono ?_
  rintro e2 w4 ⟨v1, A, rfl, hA, hAl, hAf, hsrc, hg4⟩
  have HA := Box.mk hA
  have HAF := Box.mk hAf
  have HE4 := Box.mk (HE.out.1.grown hg4 (fun x e e2 => by have := Option.some.inj e2; have := Option.some.inj e; subst this; simp at *; omega))
  have HS4 := Box.mk hsrc
  have HB4 := Box.mk (HBC.out.grown hg4 HBC.out.size (fun q e => by have := Option.some.inj e; have := HG.out; omega))
  have hsz4 := hg4.size
  have hwc := HBC.out.size
  clear hA hAf hsrc hg4 HSR HBC
  have HRF := Box.mk HE.out.2
  clear HE
  go_wp2_with (at_builtin; refine wpList_append_ownfs _ rfl _ _ rfl rfl HA.out rfl (r := e) ⟨HE4.out, fun h => by cases h⟩ (by have := HLC.out; omega) (by omega) ?_)
  intro v2 w5 hown hgrow
  have HV2 := Box.mk hown
  have HS5 := Box.mk (HS4.out.grown hgrow (fun e => by have := (HA.out.lt e.symm).1; omega) (fun x e h0 e2 => by have := (HA.out.lt e2.symm).1; have := HLOW.out x e h0; omega))
  have HB5 := Box.mk (HB4.out.grown hgrow HB4.out.size (fun q e => by have := (HA.out.lt e).1; omega))
  have hsz5 := hgrow.size
  clear hown hgrow HS4 HB4 HE4 HA
  go_wp2_with fail
  refine (srcFieldsS_any g 2 b nb cb w5 HS5.out (by decide)).mono ?_
  rintro e2 w6 ⟨v3, B, rfl, hBB, hBl, hBf, hsrc, hg6⟩
  have HV6 := Box.mk (HV2.out.grown hg6 (fun q e e2 => by have := (HV2.out.lt e).1; have := Option.some.inj e2; omega))
  have HBF := Box.mk hBf
  have HB6 := Box.mk (HB5.out.grown hg6 HB5.out.size (fun q e => by have := Option.some.inj e; have := HG.out; omega))
  have hsz6 := hg6.size
  obtain ⟨a3, c3, rfl, hF3, _⟩ := hBB.shape
  have HF3 := Box.mk hF3
  have HAE := Box.mk (show (A ++ e).length ≤ 4 by have := HLC.out; rw [List.length_append]; omega)
  clear hBf hsrc hg6 HV2 HS5 HB5 hBB hF3
  obtain ⟨AE, hAE⟩ : ∃ AE, AE = A ++ e := ⟨_, rfl⟩
  rw [← hAE] at HV6 HAE
  have HAEE := Box.mk hAE
  clear hAE
  go_wp2_with (at_builtin; refine wpList_append_ownfs _ rfl _ _ rfl rfl HV6.out rfl (r := B) HF3.out (by have := HAE.out; omega) (by omega) ?_)
  intro v4 w7 hown hgrow
  have hB7 := HB6.out.grown hgrow HB6.out.size (fun q e => by have := (HV6.out.lt e).1; omega)
  obtain ⟨L, hL⟩ : ∃ L, L = AE ++ B := ⟨_, rfl⟩
  rw [← hL] at hown
  obtain ⟨sa, sc, rfl, hFL, _⟩ := hown.shape
  have HFL := Box.mk hFL.1
  have HLL := Box.mk (show L.length ≤ 6 by have := HAE.out; rw [hL, List.length_append]; omega)
  have HFR := Box.mk (show ∀ v k0, frameS v L k0 = (0, 0, 5) from fun v k0 => by
    rw [hL, HAEE.out]
    exact bad_frame (clean_src HAF.out) (clean_src HBF.out) HRF.out.1 v k0)
  have HRP := Box.mk (show ∀ v, replyS ⟨#[71, 69, 84]⟩ 200 v L = (0, 0, 5) from fun v => by
    rw [hL, HAEE.out]
    exact bad_reply (clean_src HAF.out) (clean_src HBF.out) HRF.out.1 v)
  have HTN := Box.mk (smallF_tiny (l := L) (fun f hf => by
    rw [hL, HAEE.out] at hf
    rcases List.mem_append.1 hf with h | h
    · rcases List.mem_append.1 h with h | h
      · exact (HAF.out f h).made.tiny
      · exact HRF.out.2.2 f h
    · exact (HBF.out f h).made.tiny))
  have HT := Box.mk (show total (valuesL L teN) ≤ 4000000000 from Nat.le_trans (total_values HTN.out teN) (by have := HLL.out; omega))
  have HB7 := Box.mk hB7
  clear hown hgrow hB7 hL hFL HV6 HF3 HAEE HAE HAF HBF HRF HB6 HLC
  go_wp2_with fail
  generalize hv : bits BinOp.and IntKind.i64 minor 1 = v
  have HV := Box.mk hv
  clear hv
  refine (projOfReq_any ⟨#[]⟩ ⟨#[]⟩ v L sa sc false none 0 0 mm _ HFL.out HTN.out.short (by have := HLL.out; omega) HT.out (HM.out.keep HB7.out)).mono ?_
  rintro e2 w8 ⟨he, hb8⟩
  have he1 := ret_frame he (HFR.out v 1)
  simp only [frameV] at he1
  clear he
  subst he1
  have hb8' := below_trans hb8 (below_oneF w8 (.cells #[.int .i64 0, .int .i64 0] 30))
  have HB8 := Box.mk (below_trans HB7.out hb8')
  have HFL8 := Box.mk (HFL.out.keep hb8')
  clear hb8 hb8' HB7 HFL
  go_wp2_with fail
  rw [HV.out]
  refine (projOfReply_any ⟨#[71, 69, 84]⟩ 200 ⟨#[]⟩ v L sa sc none 0 0 mm _ HFL8.out HTN.out.short (by have := HLL.out; omega) HT.out (HM.out.keep HB8.out)).mono ?_
  rintro e2 w9 ⟨he, hb9⟩
  have he1 := ret_frame he (HRP.out v)
  simp only [frameV] at he1
  clear he
  subst he1
  have HB9 := Box.mk (below_trans HB8.out (below_trans hb9 (below_oneF w9 (.cells #[.int .i64 0, .int .i64 0] 30))))
  clear hb9 HB8 HFL8
  go_wp2_with fail
  refine (awakeM_any _ mm (HM.out.keep HB9.out)).mono ?_
  rintro e2 w10 ⟨rfl, hb10⟩
  have HB10 := Box.mk (below_trans HB9.out hb10)
  clear hb10
  go_wp2_with fail
  go_ret
  exact ⟨rfl, HB10.out⟩
end
end Go.Proofs.YtkbnkiflabncjaaDoor
namespace Go.Proofs.YtkbnkiflabncjaaDoor
open Go.RowKit

theorem digs_len {b : Nat} (hb : 2 ≤ b) : ∀ (k n : Nat), n < 2 ^ k → 1 ≤ k → (digs b n).length ≤ k
  | 0, n, _, h => absurd h (by omega)
  | k + 1, n, hn, _ => by
    by_cases h : n < b
    · rw [digs_small h]; simp
    · rw [digs_big hb h, List.length_append]
      have h1 : n / b ≤ n / 2 := Nat.div_le_div_left hb (by omega)
      have h2 : n / 2 < 2 ^ k := by rw [Nat.pow_succ] at hn; omega
      have h3 : 1 ≤ n / b := by
        have : b / b ≤ n / b := Nat.div_le_div_right (by omega)
        rw [Nat.div_self (by omega)] at this; exact this
      have hk : 1 ≤ k := by
        match k, h2 with
        | 0, h2 => simp at h2; omega
        | k + 1, _ => omega
      have := digs_len hb k (n / b) (by omega) hk
      simp; omega
theorem fmtS_size {b : Nat} (hb : 2 ≤ b) (n : Int) (h1 : n ≤ 9223372036854775807) : (fmtS b n).size ≤ 64 := by
  unfold fmtS; split
  · decide
  · show (digs b n.toNat).toArray.size ≤ 64
    simpa using digs_len hb 64 n.toNat (by have : (2 : Nat) ^ 64 = 18446744073709551616 := by decide
                                           omega) (by omega)
theorem parse_fmt {b : Nat} (hb : 2 ≤ b) (hb16 : b ≤ 16) (n most : Int) : parseS b most (fmtS b n) = if n < 0 then (0, 2) else if n ≤ most then (n, 0) else (0, 3) := by
  unfold fmtS; split
  · exact parse_empty _ _
  · rw [parse_numeral hb hb16]
    have : ((n.toNat : Nat) : Int) = n := by omega
    rw [this]
end Go.Proofs.YtkbnkiflabncjaaDoor
namespace Go.Proofs.YtkbnkiflabncjaaDoor
open Go.RowKit

theorem withI_rangeB (z : Int) : ∃ k : Nat, k < 1000000001 ∧ withI z 1000000001 = (k : Int) := by
  have h1 : z.tmod 1000000001 < 1000000001 := Int.tmod_lt_of_pos z (by omega)
  have h2 : -1000000001 < z.tmod 1000000001 := Int.lt_tmod_of_pos z (by omega)
  unfold withI
  rw [show ((1000000001 : Nat) : Int) = 1000000001 from rfl]
  generalize z.tmod 1000000001 = y at *
  have e : wrap64 (y + 1000000001) = y + 1000000001 := by simp only [wrap64]; omega
  rw [e, Int.tmod_eq_emod_of_nonneg (by omega)]
  exact ⟨((y + 1000000001) % 1000000001).toNat, by have := Int.emod_lt_of_pos (y + 1000000001) (show (0 : Int) < 1000000001 by omega); have := Int.emod_nonneg (y + 1000000001) (show (1000000001 : Int) ≠ 0 by omega); omega, by have := Int.emod_nonneg (y + 1000000001) (show (1000000001 : Int) ≠ 0 by omega); omega⟩
theorem withinB (z : Int) (w : World) :
    Calls Tryd.prog 17 #[.int .i64 z, .int .i64 1000000001] w fun e w' => e = .returned (.int .i64 (withI z 1000000001)) ∧ w' = w := by
  go_enter Tryd.func17, Tryd.ntmps17
  go_wp2
  go_ret
  exact ⟨rfl, rfl⟩

theorem hasL_one (n v m : ByteArray) : hasL [((n, v) : Fld)] m = foldS n m := by unfold hasL; simp
theorem valuesL_one (n v m : ByteArray) (h : foldS n m = true) : valuesL [((n, v) : Fld)] m = [v] := by unfold valuesL; simp [h]
theorem frame_alone {A B : List Fld} (hA : Clean A) (hB : Clean B) {n : Nat} (hn : n < 1000000001) : frameS 1 (A ++ [(clP, fmtS 10 n)] ++ B) 1 = (2, (n : Int), 0) := by
  have h1 : valuesL (A ++ [(clP, fmtS 10 n)] ++ B) clN = [fmtS 10 n] := by
    rw [values_mid (fun f hf => (hA f hf).1) (fun f hf => (hB f hf).1)]
    exact valuesL_one _ _ _ (by decide +kernel)
  have h3 : hasL (A ++ [(clP, fmtS 10 n)] ++ B) teN = false := by
    rw [has_mid (fun f hf => (hA f hf).2) (fun f hf => (hB f hf).2), hasL_one]
    decide +kernel
  rw [frameS_one h3 h1]
  unfold lenS
  have hp : parseS 10 1000000000 (fmtS 10 n) = ((n : Int), 0) := by
    have h := parse_fmt (b := 10) (by decide) (by decide) n 1000000000
    rw [if_neg (by omega), if_pos (by omega)] at h
    exact h
  rw [hp]; rfl
theorem frame_clean {A : List Fld} (hA : Clean A) : frameS 1 A 1 = (1, 0, 0) :=
  frameS_none (has_clean fun f hf => (hA f hf).2) (values_clean fun f hf => (hA f hf).1)

def KRow (B : Nat) (k n : Int) (w : World) (v : Value) : Prop := ∃ g, v = .pointer (some ⟨g, 0, none⟩) ∧ B ≤ g ∧ KVar w g k n
def Spec.krow (B : Nat) (k n : Int) : Spec := ⟨fun v w => KRow B k n w v, fun v w w' h hb => by
  obtain ⟨g, h1, h2, h3⟩ := h
  exact ⟨g, h1, h2, h3.keep hb⟩⟩
theorem KRow.grown {B : Nat} {k n : Int} {w w' : World} {v u : Value} {C : Nat} {l : List Fld} (h : KRow B k n w v) (hg : w.grownBy w' u.ownBlock) (hu : OwnF C w u l) : KRow B k n w' v := by
  obtain ⟨g, h1, h2, h3⟩ := h
  refine ⟨g, h1, h2, ?_⟩
  unfold KVar at *
  rw [hg.block g (Array.getElem?_eq_some_iff.1 h3).1 (fun e => ?_)]
  · exact h3
  · rcases hu.2 with ⟨rfl, _⟩ | ⟨g', cap, cur, rfl, _, hc, _⟩
    · cases e
    · injection e with e
      rw [e] at h3
      have h4 : (some (Obj.cells cur 47 (0, 0)) : Option Obj) = some (.cells #[.int .i64 k, .int .i64 n] 30 (0, 0)) := hc.symm.trans h3
      injection h4 with h4
      injection h4 with _ h5
      exact absurd h5 (by decide)
/-- An own slice of fields. -/
def Spec.ownF (B : Nat) (l : List Fld) : Spec := ⟨fun v w => OwnF B w v l, fun _ _ _ h hb => h.keep hb⟩
def Spec.own0F (B : Nat) : Spec := ⟨fun v w => (∃ g, v = .slice (some ⟨g, 0, none⟩) 0 0) ∧ OwnF B w v [], fun _ _ _ h hb => ⟨h.1, h.2.keep hb⟩⟩
def Spec.oneF (f : Fld) : Spec := ⟨fun v w => ∃ b, v = .slice (some ⟨b, 0, none⟩) 1 1 ∧ FldsC w (some ⟨b, 0, none⟩) [f] 1, fun _ _ _ h hb => by
  obtain ⟨b, h1, h2⟩ := h
  exact ⟨b, h1, h2.keep hb⟩⟩
def Spec.reqF (L : List Fld) : Spec := ⟨fun v w => ∃ sa sc, v = .agg #[.string ⟨#[]⟩, .string ⟨#[]⟩, .int .i64 1, .slice sa L.length sc, .bool false, .slice none 0 0] ∧ FldsIn w sa L, fun _ _ _ h hb => by
  obtain ⟨sa, sc, h1, h2⟩ := h
  exact ⟨sa, sc, h1, h2.keep hb⟩⟩
section
variable {Q : Exit → Act → World → Prop} {act : Act} {w : World} {o : Oper} {s : Spec} {K : Act → World → Prop}
theorem loc_allocK (ho : o.op = .alloc 30) {B : Nat} (hB : B ≤ w.heap.size) (hs : ∀ v w', KRow B 0 0 w' v → s.p v w') :
    o.wp Tryd.prog act w (fun a' w' => ∃ v, a' = act.put o.dst v ∧ Below w.heap.size w w' ∧ s.p v w') Q := by
  have hz : (Tryd.prog.info? 30).bind (·.zero) = some (.agg #[.int .i64 0, .int .i64 0]) := by kernel_rfl
  refine loc_run (v := .pointer (some ⟨w.heap.size, 0, none⟩)) (w' := w.alloc (.cells #[.int .i64 0, .int .i64 0] 30)) ?_ (below_oneF _ _) (hs _ _ ⟨_, rfl, hB, heap_alloc_new _ _⟩)
  cases hq : Tryd.prog.info? 30 with
  | none => rw [hq] at hz; cases hz
  | some i =>
    rw [hq] at hz
    simp only [Option.bind_some] at hz
    unfold execOp
    simp [ho, Instr.alloc, zeroValue, typeInfo, hq, hz, newRow, newVar, Value.cells]
theorem loc_sliceOneF {x : Operand} (ho : o.op = .buildSlice 23 1 #[(0, x)]) {f : Fld} (hx : act.eval x = .agg #[.string f.1, .string f.2]) (hs : ∀ w', w'.cell? ⟨w.heap.size, 0, none⟩ = some (.string f.1) → w'.cell? ⟨w.heap.size, 1, none⟩ = some (.string f.2) → s.p (.slice (some ⟨w.heap.size, 0, none⟩) 1 1) w') :
    o.wp Tryd.prog act w (fun a' w' => ∃ v, a' = act.put o.dst v ∧ Below w.heap.size w w' ∧ s.p v w') Q := by
  obtain ⟨i0, hi, hz0, hz1, hz2⟩ := info_parts Tryd.info47
  have hrun := run_buildSlice (P := Tryd.prog) w 23 47 1 #[(0, .agg #[.string f.1, .string f.2])] #[.string f.1, .string f.2] i0 _ Tryd.underlying23 hi hz0 (by rw [hz1]; decide) (by rw [hz1]; decide) (by rw [hz1]; simp [Instr.fill, Value.cells, Array.range_succ, show Array.range 0 = #[] from rfl])
  refine loc_run (v := .slice (some ⟨w.heap.size, 0, none⟩) 1 1) (w' := w.alloc (.cells #[.string f.1, .string f.2] 47)) ?_ (below_oneF _ _) (hs _ (by rw [new_cellF]; rfl) (by rw [new_cellF]; rfl))
  unfold execOp
  simp only [ho, List.map_toArray, List.map_cons, List.map_nil, hx]
  rw [Sem.run_bind, hrun]; rfl
theorem loc_extractK0 {x : Operand} (ho : o.op = .extract x 0) {u v : Value} (hx : act.eval x = .tuple #[u, v]) (hs : s.p u w) :
    o.wp Tryd.prog act w (fun a' w' => ∃ v, a' = act.put o.dst v ∧ Below w.heap.size w w' ∧ s.p v w') Q :=
  loc_run (v := u) (by unfold execOp; simp [ho, hx, Instr.extract]) (Below.refl _ _) hs
theorem loc_extractK1 {x : Operand} (ho : o.op = .extract x 1) {u v : Value} (hx : act.eval x = .tuple #[u, v]) (hs : s.p v w) :
    o.wp Tryd.prog act w (fun a' w' => ∃ v, a' = act.put o.dst v ∧ Below w.heap.size w w' ∧ s.p v w') Q :=
  loc_run (v := v) (by unfold execOp; simp [ho, hx, Instr.extract]) (Below.refl _ _) hs
theorem loc_buildQ {y : Operand} (ho : o.op = .build 27 #[(2, .const (.int .i64 1)), (3, y)]) {ad : Option Addr} {n c : Nat} (hy : act.eval y = .slice ad n c)
    (hs : s.p (.agg #[.string ⟨#[]⟩, .string ⟨#[]⟩, .int .i64 1, .slice ad n c, .bool false, .slice none 0 0]) w) :
    o.wp Tryd.prog act w (fun a' w' => ∃ v, a' = act.put o.dst v ∧ Below w.heap.size w w' ∧ s.p v w') Q := by
  refine loc_run (v := .agg #[.string ⟨#[]⟩, .string ⟨#[]⟩, .int .i64 1, .slice ad n c, .bool false, .slice none 0 0]) ?_ (Below.refl _ _) hs
  have hb := run_build (P := Tryd.prog) w 27 #[(2, .int .i64 1), (3, .slice ad n c)] #[.string ⟨#[]⟩, .string ⟨#[]⟩, .int .i64 1, .slice ad n c, .bool false, .slice none 0 0] (by kernel_rfl)
  unfold execOp
  simp only [ho, List.map_toArray, List.map_cons, List.map_nil, hy]
  rw [Sem.run_bind]
  exact congrArg (fun r => Result.andThen r fun u w' => Sem.run Tryd.prog (pure (Next.value u)) w') hb
theorem loc_build0F (ho : o.op = .buildSlice 23 0 #[]) {B : Nat} (hBw : B ≤ w.heap.size) (hs : ∀ v w', (∃ g, v = .slice (some ⟨g, 0, none⟩) 0 0) ∧ OwnF B w' v [] → s.p v w') :
    o.wp Tryd.prog act w (fun a' w' => ∃ v, a' = act.put o.dst v ∧ Below w.heap.size w w' ∧ s.p v w') Q := by
  refine loc_run (v := .slice (some ⟨w.heap.size, 0, none⟩) 0 0) (w' := w.alloc (.cells #[] 47)) ?_ (below_oneF _ _) (hs _ _ ⟨⟨_, rfl⟩, rfl, .inr ⟨w.heap.size, 0, #[], rfl, hBw, heap_alloc_new _ _, Nat.le_refl _, Nat.zero_le _, rfl, rfl⟩⟩)
  obtain ⟨i0, hi, hz0, hz1, hz2⟩ := info_parts Tryd.info47
  unfold execOp
  simp [ho, Instr.buildSlice, run_underlying Tryd.underlying23, sizeOf, typeInfo, hi, Instr.fill, newRow, show Array.range 0 = #[] from rfl]
/-- Append to an own empty slice without room. -/
theorem loc_append0F {x y : Operand} (ho : o.op = .call { callee := .builtin .append, args := #[x, y], argTypes := #[23, 23] }) {B g : Nat} (hx : act.eval x = .slice (some ⟨g, 0, none⟩) 0 0) (hown : OwnF B w (act.eval x) []) {a : Option Addr} {r : List Fld} {c : Nat}
    (hy : act.eval y = .slice a r.length c) (hr : FldsC w a r c) (hn : r.length ≤ 1000000) (hBw : B ≤ w.heap.size) (hs : ∀ v w', OwnF B w' v r → s.p v w') :
    o.wp Tryd.prog act w (fun a' w' => ∃ v, a' = act.put o.dst v ∧ Below w.heap.size w w' ∧ s.p v w') Q := by
  obtain ⟨i0, hi, hz0, hz1, hz2⟩ := info_parts Tryd.info47
  have fin : ∀ v w', (Builtin.append_ #[23, 23] o.type #[.slice (some ⟨g, 0, none⟩) 0 0, .slice a r.length c]).run Tryd.prog w = .ok v w' → Below w.heap.size w w' → OwnF B w' v r →
      o.wp Tryd.prog act w (fun a' w' => ∃ v, a' = act.put o.dst v ∧ Below w.heap.size w w' ∧ s.p v w') Q := fun v w' h1 h2 h3 => by
    refine loc_run (v := v) (w' := w') ?_ h2 (hs v w' h3)
    unfold execOp
    simp only [ho]
    simp [resolve, invoke, builtin, hx, hy, h1, Result.andThen]
  by_cases h0 : r = []
  · subst h0
    refine fin (.slice (some ⟨g, 0, none⟩) 0 0) w ?_ (Below.refl _ _) (by rw [← hx]; exact hown)
    cases a <;> simp [Builtin.append_, run_underlying Tryd.underlying23, sizeOf, typeInfo, hi, Builtin.lenOf, Builtin.firstCells, loadCells, storeCells, loadCellsFrom]
  · cases a with
    | none => exact absurd (hr.2 rfl).1 h0
    | some ad =>
      have hp : 0 < r.length := List.length_pos_iff.2 h0
      obtain ⟨v, w', h1, h2, h3⟩ := run_append_arg_grows (P := Tryd.prog) (w := w) 23 o.type 47 i0 _ 2 32 Tryd.underlying23 hi hz0 hz1 hz2 rfl (by decide) ⟨g, 0, none⟩ 0 0 [] rfl (fun j u hj => by simp at hj) ad r.length c (cellsF r) (cellsF_len r) hr.1.cells (by omega) (by unfold maxLen; omega) (by omega)
      refine fin v w' h1 ((Below.refl _ _).grown h3 (Nat.le_refl _) (fun k hk => by cases hk)) ?_
      have h4 : w'.ownsRow w.heap.size 47 2 v r.length (cellsF r) := by simpa using h2
      rcases h4.2 with ⟨e, e2⟩ | ⟨g', cap, cur, e, hg, hc⟩
      · exact ⟨h4.1, .inl ⟨e, e2⟩⟩
      · exact ⟨h4.1, .inr ⟨g', cap, cur, e, Nat.le_trans hBw hg, hc⟩⟩
/-- Append of a slice that is read to an own one, as one operation. -/
theorem wp_append_ownFs {x y : Operand} (ho : o.op = .call { callee := .builtin .append, args := #[x, y], argTypes := #[23, 23] }) {B : Nat} {l r : List Fld} {a : Option Addr} {c : Nat} (hx : OwnF B w (act.eval x) l)
    (hy : act.eval y = .slice a r.length c) (hr : FldsC w a r c) (hn : l.length + r.length ≤ 4398046511104) (hB : B ≤ w.heap.size)
    (h : ∀ v' w', OwnF B w' v' (l ++ r) → w.grownBy w' (act.eval x).ownBlock → K (act.put o.dst v') w') : o.wp Tryd.prog act w K Q := by
  obtain ⟨i0, hi, hz0, hz1, hz2⟩ := info_parts Tryd.info47
  have fin : ∀ v w', (Builtin.append_ #[23, 23] o.type #[act.eval x, .slice a r.length c]).run Tryd.prog w = .ok v w' → OwnF B w' v (l ++ r) → w.grownBy w' (act.eval x).ownBlock → o.wp Tryd.prog act w K Q := fun v w' h1 h2 h3 => by
    unfold Oper.wp execOp
    simp only [ho, resolve, invoke, builtin, Sem.run_bind, Sem.run_pure, Result.andThen_ok, List.map_toArray, List.map_cons, List.map_nil, hy, h1]
    exact h v w' h2 h3
  cases a with
  | none =>
    obtain ⟨rfl, rfl⟩ := hr.2 rfl
    refine fin (act.eval x) w (run_append_owned_none (P := Tryd.prog) (w := w) B 23 o.type 47 i0 2 Tryd.underlying23 hi (act.eval x) l.length (cellsF l) hx) ?_ ⟨rfl, rfl, rfl, Nat.le_refl _, fun _ _ _ => rfl⟩
    rw [List.append_nil]; exact hx
  | some ad =>
    obtain ⟨v', w', hr2, h2, h3, _, _⟩ := run_append_own_at (P := Tryd.prog) w B 23 o.type 47 i0 _ 2 32 Tryd.underlying23 hi hz0 hz1 hz2 rfl (by decide) (act.eval x) l.length (cellsF l) hx ad r.length c (cellsF r) (cellsF_len r) (hr.1.cells) (cellsF_one r) (by unfold maxLen; omega) (by omega) hB
    refine fin v' w' hr2 ?_ h3
    unfold OwnF
    rw [List.length_append, cellsF_app]; exact h2
end
end Go.Proofs.YtkbnkiflabncjaaDoor
namespace Go.Proofs.YtkbnkiflabncjaaDoor
open Go.RowKit

section
variable (b1 b2 : Option Addr) (n1 c1 n2 c2 : Nat) (z : Int) (mm : Int) (w : World)
set_option maxRecDepth 100000 in
set_option maxHeartbeats 4000000 in
theorem framingAlone_any (hi1 : IntsF w b1 n1) (hn1 : n1 ≤ maxLen) (hi2 : IntsF w b2 n2) (hn2 : n2 ≤ maxLen) (hm : MaxOk w mm) :
    Calls Tryd.prog 6 #[.slice b1 n1 c1, .slice b2 n2 c2, .int .i64 z] w fun e w' => e = .returned (.bool true) ∧ Below w.heap.size w w' := by
  have HM := Box.mk hm
  have HI := Box.mk (And.intro hi1 hi2)
  have low : ∀ (b : Option Addr) (n : Nat), IntsF w b n → ∀ x, b = some x → 0 < n → x.block < w.heap.size := fun b n hi x e h0 => by
    obtain ⟨y, z, e2, hc, _⟩ := hi 0 h0
    rw [e] at e2
    obtain rfl := Option.some.inj e2
    have := lt_cell hc
    rw [add_blockF] at this; exact this
  have HL1 := Box.mk (low b1 n1 hi1)
  have HL2 := Box.mk (low b2 n2 hi2)
  clear hi1 hi2 hm low
  go_enter Tryd.func6, Tryd.ntmps6
  go_wp2_with fail
  refine (withinB z _).mono ?_
  rintro e wx ⟨rfl, rfl⟩
  obtain ⟨k, hk, hke⟩ := withI_rangeB z
  rw [hke]
  clear hke
  go_wp2_with fail
  refine (refDecimal_any k _ (by omega) (by omega)).mono ?_
  rintro e w1 ⟨rfl, hb1⟩
  have HD := Box.mk (fmtS_size (b := 10) (by decide) k (by omega))
  have HFA := Box.mk (fun (A B : List Fld) (hA : Clean A) (hB : Clean B) => frame_alone hA hB hk)
  generalize fmtS 10 (k : Int) = D at *
  have HB1 := Box.mk hb1
  have HI1 := Box.mk (And.intro (HI.out.1.keep hb1) (HI.out.2.keep hb1))
  have hsz1 := hb1.size
  clear hb1 HI
  go_wp2_with fail
  obtain ⟨W1, hW1⟩ : ∃ W1, W1 = (w1.alloc (.cells #[.string clP, .string D] 47)).alloc (.cells #[.slice b1 n1 c1, .int .i64 0] 39) := ⟨_, rfl⟩
  have hbf := below_oneF w1 (.cells #[.string clP, .string D] 47)
  have hbs := below_oneF (w1.alloc (.cells #[.string clP, .string D] 47)) (.cells #[.slice b1 n1 c1, .int .i64 0] 39)
  have HFV := Box.mk (show FVar W1 w1.heap.size clP D by rw [hW1]; exact (FVar.new w1 clP D).keep hbs)
  have HS := Box.mk (show Src W1 (w1.heap.size + 1) b1 n1 c1 by
    have h := src_box (c := c1) (HI1.out.1.keep hbf) hn1
    rw [World.size_alloc] at h; rw [hW1]; exact h)
  have HBW := Box.mk (show Below w1.heap.size w1 W1 by rw [hW1]; exact below_trans hbf hbs)
  have hszW : w1.heap.size + 1 < W1.heap.size := HS.out.lt
  change Calls _ _ _ ((w1.alloc (.cells #[.string clP, .string D] 47)).alloc (.cells #[.slice b1 n1 c1, .int .i64 0] 39)) _
  rw [← hW1]
  clear hW1 hbf hbs
  refine (srcFieldsS_any (w1.heap.size + 1) 3 b1 n1 c1 W1 HS.out (by decide)).mono ?_
  rintro e w2 ⟨v1, A, rfl, hA, hAl, hAf, _, hg2⟩
  have HCA := Box.mk (And.intro (clean_src hAf) (fun f hf => (hAf f hf).made.tiny))
  have HFV2 := Box.mk (HFV.out.grown hg2 (fun e => by have := Option.some.inj e; omega))
  have HI2 := Box.mk ((HI1.out.2.keep HBW.out).grown hg2 (fun x e h0 e2 => by have := HL2.out x e h0; have := Option.some.inj e2; omega))
  have HB2 := Box.mk ((below_trans HB1.out HBW.out).grown hg2 (by omega) (fun q e => by have := Option.some.inj e; omega))
  have hsz2 := hg2.size
  have HAO := Box.mk hA
  obtain ⟨a1, ca1, rfl, hFA, _⟩ := hA.shape
  have HFA2 := Box.mk hFA
  clear hA hAf hg2 hFA HFV HS HBW HI1 HB1
  go_wp2_with fail
  obtain ⟨W2, hW2⟩ : ∃ W2, W2 = w2.alloc (.cells #[.slice b2 n2 c2, .int .i64 0] 39) := ⟨_, rfl⟩
  have hbs := below_oneF w2 (.cells #[.slice b2 n2 c2, .int .i64 0] 39)
  have HS := Box.mk (show Src W2 w2.heap.size b2 n2 c2 by rw [hW2]; exact src_box (c := c2) HI2.out hn2)
  have HBW := Box.mk (show Below w2.heap.size w2 W2 by rw [hW2]; exact hbs)
  change Calls _ _ _ (w2.alloc (.cells #[.slice b2 n2 c2, .int .i64 0] 39)) _
  rw [← hW2]
  clear hW2 hbs
  have hszW2 : w2.heap.size < W2.heap.size := HS.out.lt
  refine (srcFieldsS_any w2.heap.size 3 b2 n2 c2 W2 HS.out (by decide)).mono ?_
  rintro e w3 ⟨v2, B, rfl, hB, hBl, hBf, _, hg3⟩
  have HCB := Box.mk (And.intro (clean_src hBf) (fun f hf => (hBf f hf).made.tiny))
  have HFV3 := Box.mk ((HFV2.out.keep HBW.out).grown hg3 (fun e => by have := Option.some.inj e; omega))
  have HFA3 := Box.mk (show FldsC w3 a1 A ca1 from ⟨(HFA2.out.1.keep HBW.out).grown hg3 (fun x e e2 => by
    have := (HAO.out.lt (k := x.block) (by rw [e]; rfl)).2
    have := Option.some.inj e2
    omega), HFA2.out.2⟩)
  have HB3 := Box.mk ((below_trans HB2.out HBW.out).grown hg3 (by omega) (fun q e => by have := Option.some.inj e; omega))
  have hsz3 := hg3.size
  obtain ⟨a2, ca2, rfl, hFB, _⟩ := hB.shape
  have HFB3 := Box.mk hFB
  clear hB hBf hg3 hFB HS HBW HI2 HB2 HFV2 HFA2 HAO
  go_wp2_with fail
  rename_i K hK
  generalize w1.heap.size = gf at *
  generalize hBB : w3.heap.size = Bs at *
  have HBS := Box.mk hBB
  clear hBB
  generalize hgs : w2.heap.size = gs at *
  clear hgs
  have HDZ := Box.mk (show TinyF (clP, D) from ⟨show clP.size ≤ 1000 by decide, Nat.le_trans HD.out (by decide)⟩)
  obtain ⟨L, hL⟩ : ∃ L, L = A ++ [(clP, D)] ++ B := ⟨_, rfl⟩
  have HLEQ := Box.mk hL
  have HFL := Box.mk (show frameS 1 L 1 = (2, (k : Int), 0) by rw [hL]; exact HFA.out A B HCA.out.1 HCB.out.1)
  have HLL := Box.mk (show L.length ≤ 7 by rw [hL, List.length_append, List.length_append]; simp only [List.length_cons, List.length_nil]; omega)
  have HTN := Box.mk (smallF_tiny (l := L) (fun f hf => by
    rw [hL] at hf
    rcases List.mem_append.1 hf with h | h
    · rcases List.mem_append.1 h with h | h
      · exact HCA.out.2 f h
      · obtain rfl := List.mem_singleton.1 h; exact HDZ.out
    · exact HCB.out.2 f h))
  have HT := Box.mk (show total (valuesL L teN) ≤ 4000000000 from Nat.le_trans (total_values HTN.out teN) (by have := HLL.out; omega))
  clear hL HFA HD HDZ
  refine wp_region_phases [5, 7, 14] (fun p => match p with | 0 => [0, 1, 2, 3, 4, 6, 13] | 1 => [6, 13] | 2 => [8, 9, 10, 11, 12, 13] | _ => [12, 15])
    (fun p => match p with
      | 0 => [.own0F Bs, .val (.slice a1 A.length ca1), .ownF Bs A, .val (.agg #[.string clP, .string D]), .oneF (clP, D), .nopeM, .val (.slice a2 B.length ca2), .nopeM, .nopeM, .nopeM, .nopeM, .nopeM, .nopeM, .krow Bs 0 0, .nopeM, .nopeM]
      | 1 => [.any, .any, .any, .any, .any, .ownF Bs (A ++ [(clP, D)]), .val (.slice a2 B.length ca2), .nopeM, .nopeM, .nopeM, .nopeM, .nopeM, .nopeM, .krow Bs 0 0, .nopeM, .nopeM]
      | 2 => [.any, .any, .any, .any, .any, .any, .any, .ownF Bs L, .reqF L, .val (frameV (2, k, 0)), .val (frameV (2, k, 0)), .val (.agg #[.int .i64 2, .int .i64 k]), .val (.int .i64 0), .krow Bs 0 0, .nopeM, .nopeM]
      | _ => [.any, .any, .any, .any, .any, .any, .any, .any, .any, .any, .val (frameV (2, k, 0)), .any, .val (.int .i64 0), .krow Bs 2 k, .any, .val (.int .i64 0)])
    (fun _ wx => Below w3.heap.size w3 wx)
    (by kernel_rfl) (by kernel_rfl) (by kernel_rfl) (by kernel_rfl) (by kernel_rfl) (by kernel_rfl) ?_ (Below.refl _ _) ?_ ?_ ?_
  · intro p w1 w2 h hb
    exact below_trans h hb
  · intro p hp
    match p, hp with
    | 0, _ =>
      refine ⟨?_, ?_, ?_, ?_, ?_, ?_, ?_, trivial⟩ <;> intro a1' w1' hv hf hd
      · exact ⟨wanted_none rfl, loc_build0F rfl (by have := hv.size; have := HBS.out; omega) fun v w' h => h⟩
      · exact ⟨wanted_none rfl, loc_move rfl (hf.base 8 rfl)⟩
      · obtain ⟨⟨g, e1⟩, h2⟩ := hd 0 rfl
        exact ⟨wanted_none rfl, loc_append0F rfl e1 h2 (hd 1 rfl) (HFA3.out.keep hv) (by omega) (by have := hv.size; have := HBS.out; omega) fun v w' h => h⟩
      · exact ⟨wanted_none rfl, loc_load rfl (by rw [show a1'.eval (.tmp 7) = .pointer (some ⟨gf, 0, none⟩) from hf.base 7 rfl]; exact (HFV3.out.keep hv).run) rfl⟩
      · exact ⟨wanted_none rfl, loc_sliceOneF rfl (f := (clP, D)) (hd 3 rfl) fun w' h0 h1 => ⟨_, rfl, ⟨fun j hj => by
          match j, hj with
          | 0, _ => exact ⟨_, rfl, by rw [Addr.add_lit]; exact h0, by rw [Addr.add_lit]; exact h1⟩, fun e => by cases e⟩⟩⟩
      · exact ⟨wanted_none rfl, loc_move rfl (hf.base 9 rfl)⟩
      · exact ⟨wanted_none rfl, loc_allocK rfl (by have := hv.size; have := HBS.out; omega) fun v w' h => h⟩
    | 1, _ =>
      refine ⟨?_, ?_, trivial⟩ <;> intro a1' w1' hv hf hd
      · exact ⟨wanted_none rfl, loc_move rfl (hf.base 9 rfl)⟩
      · exact ⟨wanted_none rfl, loc_allocK rfl (by have := hv.size; have := HBS.out; omega) fun v w' h => h⟩
    | 2, _ =>
      refine ⟨?_, ?_, ?_, ?_, ?_, ?_, trivial⟩ <;> intro a1' w1' hv hf hd
      · obtain ⟨sa, sc, e1, h1, _⟩ := OwnF.shape (hd 7 rfl)
        exact ⟨wanted_none rfl, loc_buildQ rfl e1 ⟨sa, sc, rfl, h1.1⟩⟩
      · obtain ⟨sa, sc, e1, h1⟩ := hd 8 rfl
        refine ⟨wanted_none rfl, loc_call rfl (by kernel_rfl) ?_⟩
        show Calls _ _ #[a1'.eval (.tmp 36)] w1' _
        rw [e1]
        refine (projOfReq_any ⟨#[]⟩ ⟨#[]⟩ 1 L sa sc false none 0 0 mm w1' h1 HTN.out.short (by have := HLL.out; omega) HT.out (HM.out.keep (below_trans HB3.out hv))).mono ?_
        rintro e w' ⟨rfl, hb'⟩
        exact ⟨_, rfl, hb', by rw [HFL.out]; rfl⟩
      · exact ⟨wanted_none rfl, loc_move rfl (hd 9 rfl)⟩
      · exact ⟨wanted_none rfl, loc_extractK0 rfl (hd 10 rfl) rfl⟩
      · exact ⟨wanted_none rfl, loc_extractK1 rfl (hd 10 rfl) rfl⟩
      · exact ⟨wanted_none rfl, loc_allocK rfl (by have := hv.size; have := HBS.out; omega) fun v w' h => h⟩
    | 3, _ =>
      refine ⟨?_, ?_, trivial⟩ <;> intro a1' w1' hv hf hd
      · exact ⟨wanted_none rfl, loc_extractK1 rfl (hd 10 rfl) rfl⟩
      · exact ⟨wanted_none rfl, loc_assign rfl (hd 12 rfl)⟩
  · intro p hp
    match p, hp with
    | 0, _ =>
      intro a2' w2' hv hf hd
      obtain ⟨b, e1, h1⟩ := hd 4 rfl
      refine ⟨wanted_none rfl, wp_append_ownFs rfl (hd 2 rfl) (r := [(clP, D)]) e1 h1 (by simp; omega) (by have := hv.size; have := HBS.out; omega) fun v' w' h2 h3 => ⟨v', rfl, ?_, h2, ?_⟩⟩
      · exact hv.grown h3 hv.size (fun q e => by have := (OwnF.lt (hd 2 rfl) e).1; have := HBS.out; omega)
      · exact ⟨.inr fun _ _ _ => trivial, .inr fun _ _ _ => trivial, .inr fun _ _ _ => trivial, .inr fun _ _ _ => trivial, .inr fun _ _ _ => trivial, .inl rfl, .inr fun _ _ h => h, .inr fun _ _ h => h.elim, .inr fun _ _ h => h.elim, .inr fun _ _ h => h.elim, .inr fun _ _ h => h.elim, .inr fun _ _ h => h.elim, .inr fun _ _ h => h.elim, .inr fun _ _ h => KRow.grown h h3 (hd 2 rfl), .inr fun _ _ h => h.elim, .inr fun _ _ h => h.elim, trivial⟩
    | 1, _ =>
      intro a2' w2' hv hf hd
      refine ⟨wanted_none rfl, wp_append_ownFs rfl (hd 5 rfl) (r := B) (hd 6 rfl) (HFB3.out.keep hv) (by rw [List.length_append]; simp; omega) (by have := hv.size; have := HBS.out; omega) fun v' w' h2 h3 => ⟨v', rfl, ?_, by rw [← HLEQ.out] at h2; exact h2, ?_⟩⟩
      · exact hv.grown h3 hv.size (fun q e => by have := (OwnF.lt (hd 5 rfl) e).1; have := HBS.out; omega)
      · exact ⟨.inr fun _ _ _ => trivial, .inr fun _ _ _ => trivial, .inr fun _ _ _ => trivial, .inr fun _ _ _ => trivial, .inr fun _ _ _ => trivial, .inr fun _ _ _ => trivial, .inr fun _ _ _ => trivial, .inl rfl, .inr fun _ _ h => h.elim, .inr fun _ _ h => h.elim, .inr fun _ _ h => h.elim, .inr fun _ _ h => h.elim, .inr fun _ _ h => h.elim, .inr fun _ _ h => KRow.grown h h3 (hd 5 rfl), .inr fun _ _ h => h.elim, .inr fun _ _ h => h.elim, trivial⟩
    | 2, _ =>
      intro a2' w2' hv hf hd
      obtain ⟨gz, e10, hgz, hk⟩ := hd 13 rfl
      refine ⟨wanted_none rfl, wp_store_row 30 _ _ rfl gz #[.int .i64 2, .int .i64 k] e10 (hd 11 rfl) 30 _ hk sizeK rfl (oneK _ _) ⟨undef, rfl, ?_, trivial, ?_⟩⟩
      · exact below_setRow hv (by have := HBS.out; omega) _
      · exact ⟨.inr fun _ _ _ => trivial, .inr fun _ _ _ => trivial, .inr fun _ _ _ => trivial, .inr fun _ _ _ => trivial, .inr fun _ _ _ => trivial, .inr fun _ _ _ => trivial, .inr fun _ _ _ => trivial, .inr fun _ _ _ => trivial, .inr fun _ _ _ => trivial, .inr fun _ _ _ => trivial, .inr fun _ _ h => h, .inr fun _ _ _ => trivial, .inr fun _ _ h => h, .inr fun v hq _ => ⟨gz, (hq _ _ rfl rfl).trans e10, hgz, setRow_heap _ _ _ _ _ _ hk⟩, .inl rfl, .inr fun _ _ h => h.elim, trivial⟩
  · intro a2' w4 hv hf hh
    refine hK a2' w4 ?_
    obtain ⟨gz, e10, hgz, hk⟩ := hh 13 (by decide)
    have e11 : a2'.eval (.tmp 11) = .int .i64 0 := hh 15 (by decide)
    have HKZ := Box.mk hk
    have HB4 := Box.mk (below_trans HB3.out hv)
    have HFA4 := Box.mk (HFA3.out.keep hv)
    clear hh
    rw [fr_putAll hf]
    clear hf
    simp only [putAll, e10, e11]
    generalize a2'.eval (.tmp 27) = u27
    generalize a2'.eval (.tmp 28) = u28
    generalize a2'.eval (.tmp 29) = u29
    generalize a2'.eval (.tmp 30) = u30
    generalize a2'.eval (.tmp 31) = u31
    generalize a2'.eval (.tmp 32) = u32
    generalize a2'.eval (.tmp 33) = u33
    generalize a2'.eval (.tmp 34) = u34
    generalize a2'.eval (.tmp 35) = u35
    generalize a2'.eval (.tmp 36) = u36
    generalize a2'.eval (.tmp 37) = u37
    generalize a2'.eval (.tmp 38) = u38
    generalize a2'.eval (.tmp 39) = u39
    clear e10 e11
    clear a2'
    simp only [Act.put, List.setIfInBounds_toArray, List.set_cons_succ, List.set_cons_zero]
    have HTA := Box.mk (show total (valuesL A teN) ≤ 4000000000 from Nat.le_trans (total_values (smallF_tiny HCA.out.2) teN) (by omega))
    clear hv hk
    go_wp2_with fail
    refine (projOfReq_any ⟨#[]⟩ ⟨#[]⟩ 1 A a1 ca1 false none 0 0 mm _ HFA4.out.1 (shortF_tiny HCA.out.2) (by omega) HTA.out (HM.out.keep HB4.out)).mono ?_
    rintro e w5 ⟨he, hb5⟩
    have he1 := ret_frame he (frame_clean HCA.out.1)
    simp only [frameV] at he1
    clear he
    subst he1
    have hk5 := HKZ.out.keep hb5
    have hlt5 : gz < w5.heap.size := lt_rowM hk5
    have hd0 : w5.cell? ⟨gz, 0, none⟩ = some (.int .i64 2) := by rw [cell_of_row _ _ _ _ _ _ hk5]; rfl
    have hd1 : w5.cell? ⟨gz, 1, none⟩ = some (.int .i64 k) := by rw [cell_of_row _ _ _ _ _ _ hk5]; rfl
    have HB5 := Box.mk (below_trans HB4.out (below_trans hb5 (below_oneF w5 (.cells #[.int .i64 1, .int .i64 0] 30))))
    clear hb5 hk5 HKZ HB4 HFA4
    go_wp2_with fail
    refine (awakeM_any _ mm (HM.out.keep HB5.out)).mono ?_
    rintro e w6 ⟨rfl, hb6⟩
    have HB6 := Box.mk (below_trans HB5.out hb6)
    clear hb6
    go_wp2_with fail
    go_ret
    exact ⟨rfl, HB6.out⟩
end
end Go.Proofs.YtkbnkiflabncjaaDoor
