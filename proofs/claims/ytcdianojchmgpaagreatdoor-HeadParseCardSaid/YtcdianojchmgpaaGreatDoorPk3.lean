/- Parse of the reference. The source of numbers of the laws: Within, Next, Of. The fields that the laws make: Field, Fields, fields, name. Fields of the source; fields and name of the laws. The plain mathematics of numerals: digits, their value with a limit, and that a numeral is read as its number. Contracts of the functions that read a number, of package number and of its reference. Contracts of the functions of the reference that read and write a number. Contracts of the reference's functions that write a number. Targets and versions, in the reference. Split at the question mark, the version of a line, spoil; in the reference and the laws. Words of a line, rune by rune and byte by byte: plain mathematics. strings.Cut at any byte, strings.HasPrefix, strings.CutPrefix; Split and the versions, of package startline. Targets, reasons and versions, of package startline. The version of a line, of package startline. -/
import Derived.Test.YtcdianojchmgpaaGreatDoorPk1
import Derived.Test.YtcdianojchmgpaaGreatDoorPk2
import Derived.Test.YtcdianojchmgpaaGreatDoorRows
import Derived.WalkKit
import Derived.WalkSpells
import Derived.WalkLawsBesides
import Derived.BigQuiet
import Derived.Deep.QuietTactic
import Derived.Lib.Bytealg
import Derived.Lib.IndexLaws
import Derived.Lib.Hide
import Derived.Laws.IdiomStrings
import Derived.Lib.SlTrimSet
import Derived.Lib.IndexBytes
import Derived.Lib.Split
import Derived.Deep.AppendLies
import Derived.Shelf.Strings.SlTrimAscii
import Derived.Shelf.Strings.SplitShaped
import Derived.Shelf.LaysM
import Derived.Shelf.Strings.BuilderK
import Derived.Shelf.Strconv.Itoa4
import Derived.Shelf.Strings.Prefix
import Derived.Shelf.Bytes.SlIndexWhole
import Derived.Test.YtcdianojchmgpaaGreatDoorProg
import Derived.Lib.SplitLaws
import Derived.WalkSmall
import Derived.ProofKit
import Derived.OpenShut
import Derived.Lib.Strings
import Derived.SliceStrings
import Derived.Deep.Quiet
import Derived.Tactics
import Derived.KernelRfl
import Derived.Below
import Derived.Laws.Bits64
import Derived.Lib.SlBytesConst
import Derived.Maps.AppendAt
import Derived.Laws.AppendOwnNone
import Derived.Great.BuildSlice
import Derived.Laws.Rows
import Derived.Laws.BitsAllLaws
import Derived.Laws.Shifts
import Derived.Maps.OwnOps
import Derived.Maps.OwnSet
import Derived.Deep.SlicePairs
import Derived.Lib.AppendZerosOnto
import Derived.Lib.AppendStr
import Derived.Laws.CopyOwn
import Derived.OwnWalk
import Derived.Laws.Strings3
import Derived.Laws.Concat
import Derived.Lib.ItoaMem
import Derived.IntWalk
import Derived.Laws.RangeAny
import Derived.LoopTactic
namespace Go.Proofs.YtcdianojchmgpaaGreatDoor
open Go.RowKit

theorem colonI_at (s : ByteArray) (k : Nat) (hk : k < s.size) (h : s[k] = (58 : UInt8)) (hp : ∀ j, j < k → s.data.toList[j]? ≠ some 58) : colonI s = k := by
  have hge := colonI_ge s
  have hkk : s.data.toList[k]? = some 58 := by
    rw [List.getElem?_eq_getElem (by simpa using hk)]
    exact congrArg some h
  by_cases h1 : colonI s = -1
  · exact absurd hkk (Lib.indexByte_none h1 k)
  · obtain ⟨o, ho⟩ : ∃ o : Nat, colonI s = o := ⟨(colonI s).toNat, by omega⟩
    have h2 := Lib.indexByte_some ho
    rw [ho]
    congr 1
    rcases Nat.lt_trichotomy o k with h3 | h3 | h3
    · exact absurd h2.1 (hp o h3)
    · exact h3
    · exact absurd hkk (h2.2 k h3)
theorem colonI_none (s : ByteArray) (k : Nat) (hk : k ≤ s.size) (hlt : ¬ k < s.size) (hp : ∀ j, j < k → s.data.toList[j]? ≠ some 58) : colonI s = -1 := by
  have hge := colonI_ge s
  by_cases h1 : colonI s = -1
  · exact h1
  · obtain ⟨o, ho⟩ : ∃ o : Nat, colonI s = o := ⟨(colonI s).toNat, by omega⟩
    have h2 := Lib.indexByte_some ho
    have h3 := colonI_lt s ho
    exact absurd h2.1 (hp o (by omega))

section
variable {Q : Exit → Act → World → Prop} {a : Act} {w : World} {o : Oper} {s : Spec}
theorem loc_sub_to {x y : Operand} (ho : o.op = .slice 9 x none (some y) none) {b : ByteArray} {k : Nat} (hx : a.eval x = .string b) (hy : a.eval y = .int .i64 k) (hk : k ≤ b.size) (hs : s.p (.string (b.extract 0 k)) w) :
    o.wp Tryz.prog a w (fun a' w' => ∃ v, a' = a.put o.dst v ∧ Below w.heap.size w w' ∧ s.p v w') Q := by
  have hrun : (Instr.slice 9 (.string b) none (some (.int .i64 (k : Int))) none).run Tryz.prog w = .ok (.string (b.extract 0 k)) w := by
    rw [run_slice_string_to_if w 9 b .i64 (k : Int) Tryz.underlying9, if_pos (by omega)]
    rfl
  refine loc_run (v := .string (b.extract 0 k)) ?_ (Below.refl _ _) hs
  unfold execOp
  simp only [ho, hx, hy, Option.map_some, Option.map_none, Sem.run_bind, run_sliceAt_string w _ _ _ _ _ Tryz.underlying9, hrun, Result.andThen_ok, Sem.run_pure]
theorem loc_sub_from {x y : Operand} (ho : o.op = .slice 9 x (some y) none none) {b : ByteArray} {k : Nat} (hx : a.eval x = .string b) (hy : a.eval y = .int .i64 k) (hk : k ≤ b.size) (hs : s.p (.string (b.extract k b.size)) w) :
    o.wp Tryz.prog a w (fun a' w' => ∃ v, a' = a.put o.dst v ∧ Below w.heap.size w w' ∧ s.p v w') Q := by
  have hrun : (Instr.slice 9 (.string b) (some (.int .i64 (k : Int))) none none).run Tryz.prog w = .ok (.string (b.extract k b.size)) w := by
    rw [run_slice_string_from_if w 9 b .i64 (k : Int) Tryz.underlying9, if_pos (by omega)]
    rfl
  refine loc_run (v := .string (b.extract k b.size)) ?_ (Below.refl _ _) hs
  unfold execOp
  simp only [ho, hx, hy, Option.map_some, Option.map_none, Sem.run_bind, run_sliceAt_string w _ _ _ _ _ Tryz.underlying9, hrun, Result.andThen_ok, Sem.run_pure]
theorem loc_addF {x y : Operand} {t : TypeId} (ho : o.op = .binOp .add 3 x y t) {m k : Nat} (hx : a.eval x = .int .i64 m) (hy : a.eval y = .int .i64 k) (hn : m + k ≤ 9223372036854775807) (hs : s.p (.int .i64 ((m + k : Nat) : Int)) w) :
    o.wp Tryz.prog a w (fun a' w' => ∃ v, a' = a.put o.dst v ∧ Below w.heap.size w w' ∧ s.p v w') Q :=
  loc_run (v := .int .i64 ((m + k : Nat) : Int)) (by
    have e : IntKind.i64.wrap ((m : Int) + k) = ((m + k : Nat) : Int) := by
      simp only [IntKind.wrap, IntKind.bits, IntKind.signed]; simp; omega
    have h : (Op.intArith .add .i64 (m : Int) (k : Int)).run Tryz.prog w = .ok (.int .i64 ((m + k : Nat) : Int)) w := by
      unfold Op.intArith
      rw [← e]; rfl
    unfold execOp
    simp only [ho, hx, hy]
    simp [eqGuard, binOp, h, Result.andThen]) (Below.refl _ _) hs
theorem loc_buildF {x y : Operand} (ho : o.op = .build 74 #[(0, x), (1, y)]) {b c : ByteArray} (hx : a.eval x = .string b) (hy : a.eval y = .string c) (hs : s.p (.agg #[.string b, .string c]) w) :
    o.wp Tryz.prog a w (fun a' w' => ∃ v, a' = a.put o.dst v ∧ Below w.heap.size w w' ∧ s.p v w') Q := by
  refine loc_run (v := .agg #[.string b, .string c]) ?_ (Below.refl _ _) hs
  have hb := run_build (P := Tryz.prog) w 74 #[(0, .string b), (1, .string c)] #[.string b, .string c] (by kernel_rfl)
  unfold execOp
  simp only [ho, List.map_toArray, List.map_cons, List.map_nil, hx, hy, Sem.run_bind, hb, Result.andThen_ok, Sem.run_pure]
def FRow (B : Nat) (w : World) (v : Value) : Prop := ∃ g, v = .pointer (some ⟨g, 0, none⟩) ∧ B ≤ g ∧ FVar w g ⟨#[]⟩ ⟨#[]⟩
def Spec.frow (B : Nat) : Spec := ⟨fun v w => FRow B w v, fun v w w' h hb => by
  obtain ⟨g, h1, h2, h3⟩ := h
  exact ⟨g, h1, h2, h3.keep hb⟩⟩
theorem loc_allocF (ho : o.op = .alloc 74) {B : Nat} (hB : B ≤ w.heap.size) (hs : ∀ v w', FRow B w' v → s.p v w') :
    o.wp Tryz.prog a w (fun a' w' => ∃ v, a' = a.put o.dst v ∧ Below w.heap.size w w' ∧ s.p v w') Q := by
  have hz : (Tryz.prog.info? 74).bind (·.zero) = some (.agg #[.string ⟨#[]⟩, .string ⟨#[]⟩]) := by kernel_rfl
  refine loc_run (v := .pointer (some ⟨w.heap.size, 0, none⟩)) (w' := w.alloc (.cells #[.string ⟨#[]⟩, .string ⟨#[]⟩] 74)) ?_ (below_oneF _ _) (hs _ _ ⟨_, rfl, hB, heap_alloc_new _ _⟩)
  cases hq : Tryz.prog.info? 74 with
  | none => rw [hq] at hz; cases hz
  | some i =>
    rw [hq] at hz
    simp only [Option.bind_some] at hz
    unfold execOp
    simp [ho, Instr.alloc, zeroValue, typeInfo, hq, hz, newRow, newVar, Value.cells]
end

set_option maxRecDepth 100000 in
set_option maxHeartbeats 2000000 in
theorem refParse_any (s : ByteArray) (w : World) (hs : s.size ≤ maxLen) :
    Calls Tryz.prog 66 #[.string s] w fun e w' => e = .returned (parseV (parseF s)) ∧ Below w.heap.size w w' := by
  have hs0 := Box.mk hs
  unfold maxLen at hs
  go_enter Tryz.func66, Tryz.ntmps66
  go_wp2_with fail
  obtain ⟨W, hW⟩ : ∃ W, W = w.alloc (.cells #[.string ⟨#[]⟩, .string ⟨#[]⟩] 74) := ⟨_, rfl⟩
  have HB := Box.mk (below_oneF w (.cells #[.string ⟨#[]⟩, .string ⟨#[]⟩] 74))
  have HR := Box.mk (FVar.new w ⟨#[]⟩ ⟨#[]⟩)
  rw [← hW] at HB HR ⊢
  clear hW
  generalize hg : w.heap.size = g at *
  have HG := Box.mk hg
  clear hg
  go_loop [4] (fun iv => ∃ k : Nat, k ≤ s.size ∧ iv = .int .i64 k ∧ Box (∀ j, j < k → s.data.toList[j]? ≠ some 58)) (fun iv => s.size - (intOf iv).toNat)
  case atStart => exact ⟨0, Nat.zero_le _, rfl, ⟨fun j hj => absurd hj (Nat.not_lt_zero _)⟩⟩
  case round =>
    obtain ⟨k, hk, rfl, HM⟩ := hrel
    by_cases hlt : k < s.size
    · by_cases hc : s[k] = 58
      · have HC := Box.mk (colonI_at s k hlt hc HM.out)
        have HP0 := Box.mk (parseF_at HC.out)
        have HZ := Box.mk (And.intro (Nat.le_trans (extract_le s 0 k) hs0.out) (Nat.le_trans (extract_le s (k + 1) s.size) hs0.out))
        have hb : ((s[k].toNat : Int) == 58) = true := by rw [hc]; rfl
        clear hc
        go_wp2_with fail

        rename_i K hK _
        refine wp_region_last (S := [some (.val (.string s)), some (.val (.int .i64 k)), some (.val (.string (s.extract 0 k))), some (.val (.string s)), some (.val (.int .i64 k)), some (.val (.int .i64 ((k + 1 : Nat) : Int))), some (.val (.string (s.extract (k + 1) s.size))),
          some (.val (.string (trimBA (s.extract (k + 1) s.size)))), some (.val (.agg #[.string (s.extract 0 k), .string (trimBA (s.extract (k + 1) s.size))])), some (.of (.frow W.heap.size)), none]) 10 (by kernel_rfl) (by kernel_rfl) (by kernel_rfl) (by kernel_rfl) rfl rfl rfl ?_ ?_
        · refine ⟨?_, ?_, ?_, ?_, ?_, ?_, ?_, ?_, ?_, ?_, trivial⟩ <;> intro a w1 hb1 hf hd
          · exact ⟨wanted_none rfl, loc_move rfl (hf.base 0 rfl)⟩
          · exact ⟨wanted_none rfl, loc_move rfl (hf.base 4 rfl)⟩
          · exact ⟨wanted_none rfl, loc_sub_to rfl (hd 0 rfl) (hd 1 rfl) hk rfl⟩
          · exact ⟨wanted_none rfl, loc_move rfl (hf.base 0 rfl)⟩
          · exact ⟨wanted_none rfl, loc_move rfl (hf.base 4 rfl)⟩
          · exact ⟨wanted_none rfl, loc_addF rfl (m := k) (k := 1) (hd 4 rfl) rfl (by omega) rfl⟩
          · exact ⟨wanted_none rfl, loc_sub_from rfl (hd 3 rfl) (hd 5 rfl) hlt rfl⟩
          · refine ⟨wanted_none rfl, loc_call rfl (by kernel_rfl) ?_⟩
            show Calls _ _ #[a.eval (.tmp 22)] w1 _
            rw [show a.eval (.tmp 22) = .string (s.extract (k + 1) s.size) from hd 6 rfl]
            refine (refTrim_any _ w1 HZ.out.2).mono ?_
            rintro e w' ⟨rfl, rfl⟩
            exact ⟨_, rfl, Below.refl _ _, rfl⟩
          · exact ⟨wanted_none rfl, loc_buildF rfl (hd 2 rfl) (hd 7 rfl) rfl⟩
          · exact ⟨wanted_none rfl, loc_allocF rfl hb1.size fun v w' h => h⟩
        · intro a2 w2 hb2 hf hh
          refine ⟨wanted_none rfl, ?_⟩
          obtain ⟨q, e5, hqB, hq⟩ := hh 9 (by decide) (by decide)
          have e24 : a2.eval (.tmp 24) = .agg #[.string (s.extract 0 k), .string (trimBA (s.extract (k + 1) s.size))] := hh 8 (by decide) (by decide)
          refine wp_store_row 74 _ _ rfl q #[.string (s.extract 0 k), .string (trimBA (s.extract (k + 1) s.size))] e5 e24 74 _ hq sizeF rfl (oneF _ _) ?_
          have e5' : a2.eval (.tmp 5) = .pointer (some ⟨q, 0, none⟩) := e5
          have HQ3 := Box.mk (show FVar (w2.setRow q #[.string (s.extract 0 k), .string (trimBA (s.extract (k + 1) s.size))]) q (s.extract 0 k) (trimBA (s.extract (k + 1) s.size)) from setRow_heap _ _ _ _ _ _ hq)
          have HB3 := Box.mk (below_setRow (g := q) (below_trans (show Below w.heap.size w W by rw [HG.out]; exact HB.out) hb2) (by have := (show Below w.heap.size w W by rw [HG.out]; exact HB.out).size; omega) #[.string (s.extract 0 k), .string (trimBA (s.extract (k + 1) s.size))])
          have HR3 := Box.mk (show FVar (w2.setRow q #[.string (s.extract 0 k), .string (trimBA (s.extract (k + 1) s.size))]) g ⟨#[]⟩ ⟨#[]⟩ from (setRow_other w2 q g _ (by have := HR.out.lt; omega)).trans (HR.out.keep hb2))
          refine hK a2 _ ?_
          rw [fr_putAll hf]
          simp only [putAll, e5', e24]
          clear hf hh e5 e24 e5' hq hb2 HR
          generalize a2.eval (.tmp 16) = u16
          generalize a2.eval (.tmp 17) = u17
          generalize a2.eval (.tmp 18) = u18
          generalize a2.eval (.tmp 19) = u19
          generalize a2.eval (.tmp 20) = u20
          generalize a2.eval (.tmp 21) = u21
          generalize a2.eval (.tmp 22) = u22
          generalize a2.eval (.tmp 23) = u23
          clear a2
          simp only [Act.put, List.setIfInBounds_toArray, List.set_cons_succ, List.set_cons_zero]
          generalize (w2.setRow q #[.string (s.extract 0 k), .string (trimBA (s.extract (k + 1) s.size))]) = w3 at *
          have hvz := Box.mk (Nat.le_trans (trimBA_size (s.extract (k + 1) s.size)) HZ.out.2)
          generalize s.extract 0 k = n at *
          generalize trimBA (s.extract (k + 1) s.size) = v at *
          have hd0 := HQ3.out.c0
          have hd1 := HQ3.out.c1
          by_cases hv : fldB n v = true
          · have HP := Box.mk (show parseF s = some (n, v) by rw [HP0.out, if_pos hv])
            have HV := Box.mk hv
            clear hv HP0
            go_wp2_with fail
            refine (refFieldValid_any n v _ HZ.out.1 hvz.out).mono ?_
            rintro e w4 ⟨he, hb4⟩
            rw [HV.out] at he
            subst he
            have HB4 := Box.mk (below_trans HB3.out hb4)
            have HR4 := Box.mk (HR3.out.keep hb4)
            have hd0 := below_cell hb4 HQ3.out.c0
            have hd1 := below_cell hb4 HQ3.out.c1
            clear hb4
            go_wp2_with (refine wpList_store_row rfl 74 _ _ rfl g #[.string n, .string v] rfl rfl 74 _ HR4.out sizeF rfl (oneF _ _) ?_)
            (try simp only [Exit.inBlock, Exit.then])
            refine bodyPost_ret (results_row_tmpF rfl _ _ g _ _ _ _ rfl (setRow_heap _ _ _ _ _ _ HR4.out) Tryz.underlying74 rfl sizeF) rfl ?_
            exact ⟨by rw [HP.out]; rfl, below_setRow HB4.out (by have := HG.out; omega) _⟩
          · have HP := Box.mk (show parseF s = none by rw [HP0.out, if_neg hv])
            have HV := Box.mk (show fldB n v = false by simpa using hv)
            clear hv HP0
            go_wp2_with fail
            refine (refFieldValid_any n v _ HZ.out.1 hvz.out).mono ?_
            rintro e w4 ⟨he, hb4⟩
            rw [HV.out] at he
            subst he
            have HB4 := Box.mk (below_trans HB3.out hb4)
            have HR4 := Box.mk (HR3.out.keep hb4)
            clear hb4
            go_wp2_with (refine wpList_store_row rfl 74 _ _ rfl g #[.string ⟨#[]⟩, .string ⟨#[]⟩] rfl rfl 74 _ HR4.out sizeF rfl (oneF _ _) ?_)
            (try simp only [Exit.inBlock, Exit.then])
            refine bodyPost_ret (results_row_tmpF rfl _ _ g _ _ _ _ rfl (setRow_heap _ _ _ _ _ _ HR4.out) Tryz.underlying74 rfl sizeF) rfl ?_
            exact ⟨by rw [HP.out]; rfl, below_setRow HB4.out (by have := HG.out; omega) _⟩
      · have hb : ((s[k].toNat : Int) == 58) = false := by
          rw [Bool.eq_false_iff]; intro h; exact hc (UInt8.toNat_inj.1 (by simp at h; show s[k].toNat = 58; omega))
        have HM2 := Box.mk (show ∀ j, j < k + 1 → s.data.toList[j]? ≠ some 58 from fun j hj => by
          by_cases e : j = k
          · subst e
            rw [List.getElem?_eq_getElem (by simpa using hlt)]
            intro h
            exact hc (Option.some.inj h)
          · exact HM.out j (by omega))
        clear hc
        go_wp2_with fail
        go_round
        case rel => exact ⟨k + 1, by omega, by go_num, HM2⟩
        case measure => simp [intOf]; omega
    · have HP := Box.mk (parseF_no (colonI_none s k hk hlt HM.out))
      go_wp2_with (refine wpList_store_row rfl 74 _ _ rfl g #[.string ⟨#[]⟩, .string ⟨#[]⟩] rfl rfl 74 _ HR.out sizeF rfl (oneF _ _) ?_)
      (try simp only [Exit.inBlock, Exit.then])
      refine bodyPost_ret (results_row_tmpF rfl _ _ g _ _ _ _ rfl (setRow_heap _ _ _ _ _ _ HR.out) Tryz.underlying74 rfl sizeF) rfl ?_
      exact ⟨by rw [HP.out]; rfl, below_setRow (show Below w.heap.size w W by rw [HG.out]; exact HB.out) (by have := HG.out; omega) _⟩
end Go.Proofs.YtcdianojchmgpaaGreatDoor
namespace Go.Proofs.YtcdianojchmgpaaGreatDoor
open Go.RowKit

def IntsF (w : World) (a : Option Addr) (n : Nat) : Prop :=
  ∀ j, j < n → ∃ x z, a = some x ∧ w.cell? (x.add j) = some (.int .i64 z) ∧ -9223372036854775808 ≤ z ∧ z ≤ 9223372036854775807
theorem IntsF.keep {w w' : World} {a : Option Addr} {n : Nat} (h : IntsF w a n) (hb : Below w.heap.size w w') : IntsF w' a n := fun j hj => by
  obtain ⟨x, z, e, h1, h2⟩ := h j hj
  exact ⟨x, z, e, below_cell hb h1, h2⟩
/-- Block g is the source's variable: its numbers are the n at a, which lie elsewhere. -/
def Src (w : World) (g : Nat) (a : Option Addr) (n c : Nat) : Prop :=
  (∃ i : Nat, i ≤ n ∧ w.heap[g]? = some (.cells #[.slice a n c, .int .i64 i] 47 (0, 0))) ∧ n ≤ maxLen ∧ IntsF w a n ∧ ∀ x, a = some x → 0 < n → x.block ≠ g
theorem Src.lt {w : World} {g : Nat} {a : Option Addr} {n c : Nat} (h : Src w g a n c) : g < w.heap.size := by
  obtain ⟨⟨i, _, h⟩, _⟩ := h
  exact (Array.getElem?_eq_some_iff.1 h).1
theorem add_blockF (x : Addr) (j : Nat) : (x.add j).block = x.block := by unfold Addr.add; split <;> rfl
theorem IntsF.grown {w w' : World} {a : Option Addr} {n : Nat} {row : Option Nat} (h : IntsF w a n) (hg : w.grownBy w' row) (hne : ∀ x, a = some x → 0 < n → some x.block ≠ row) : IntsF w' a n := fun j hj => by
  obtain ⟨x, z, e, h1, h2⟩ := h j hj
  refine ⟨x, z, e, ?_, h2⟩
  have hlt := lt_cell h1
  rw [World.cell?_of_block (hg.block _ hlt (by rw [add_blockF]; exact hne x e (by omega)))]
  exact h1
theorem Src.grown {w w' : World} {g : Nat} {a : Option Addr} {n c : Nat} {row : Option Nat} (h : Src w g a n c) (hg : w.grownBy w' row) (hne : some g ≠ row) (hne2 : ∀ x, a = some x → 0 < n → some x.block ≠ row) : Src w' g a n c := by
  have hlt := h.lt
  obtain ⟨⟨i, hi, hr⟩, h2, h3, h4⟩ := h
  exact ⟨⟨i, hi, by rw [hg.block g hlt hne]; exact hr⟩, h2, h3.grown hg hne2, h4⟩
theorem Src.keep {w w' : World} {g : Nat} {a : Option Addr} {n c : Nat} (h : Src w g a n c) (hb : Below w.heap.size w w') : Src w' g a n c := by
  have hlt := h.lt
  obtain ⟨⟨i, hi, hr⟩, h2, h3, h4⟩ := h
  exact ⟨⟨i, hi, by rw [hb.block g hlt]; exact hr⟩, h2, h3.keep hb, h4⟩
theorem grownBy_trans {w w1 w2 : World} {row : Option Nat} (h : w.grownBy w1 row) (k : w1.grownBy w2 row) : w.grownBy w2 row :=
  ⟨k.os.trans h.os, k.tape.trans h.tape, k.output.trans h.output, Nat.le_trans h.size k.size, fun i hi hne => (k.block i (Nat.lt_of_lt_of_le hi h.size) hne).trans (h.block i hi hne)⟩
theorem grownBy_below {w w1 : World} {row : Option Nat} (h : Below w.heap.size w w1) : w.grownBy w1 row :=
  ⟨h.os, h.tape, h.output, h.size, fun i hi _ => h.block i hi⟩
/-- A row that is new is nobody's. -/
theorem grownBy_new {w w1 w2 : World} {row : Option Nat} {q : Option Nat} (h : w.grownBy w1 row) (k : w1.grownBy w2 q) (hq : ∀ i, q = some i → w.heap.size ≤ i) : w.grownBy w2 row :=
  ⟨k.os.trans h.os, k.tape.trans h.tape, k.output.trans h.output, Nat.le_trans h.size k.size, fun i hi hne => (k.block i (Nat.lt_of_lt_of_le hi h.size) (fun e => by have := hq i e.symm; omega)).trans (h.block i hi hne)⟩

def withI (z : Int) (n : Nat) : Int := (wrap64 (z.tmod n + n)).tmod n
theorem withI_range (z : Int) (n : Nat) (h0 : 0 < n) (hn : n ≤ 1000000000) : ∃ k : Nat, k < n ∧ withI z n = (k : Int) := by
  have h1 : z.tmod n < n := Int.tmod_lt_of_pos z (by omega)
  have h2 : -(n : Int) < z.tmod n := Int.lt_tmod_of_pos z (by omega)
  unfold withI
  generalize z.tmod n = y at *
  have e : wrap64 (y + n) = y + n := by simp only [wrap64]; omega
  rw [e, Int.tmod_eq_emod_of_nonneg (by omega)]
  exact ⟨((y + n) % n).toNat, by have := Int.emod_lt_of_pos (y + n) (show (0 : Int) < n by omega); have := Int.emod_nonneg (y + n) (show (n : Int) ≠ 0 by omega); omega, by have := Int.emod_nonneg (y + n) (show (n : Int) ≠ 0 by omega); omega⟩
theorem withinF (z : Int) (n : Nat) (w : World) (h0 : 0 < n) (hn : n ≤ 1000000000) :
    Calls Tryz.prog 10 #[.int .i64 z, .int .i64 n] w fun e w' => e = .returned (.int .i64 (withI z n)) ∧ w' = w := by
  go_enter Tryz.func10, Tryz.ntmps10
  go_wp2
  go_ret
  exact ⟨rfl, rfl⟩

set_option maxRecDepth 100000 in
set_option maxHeartbeats 2000000 in
theorem next_any (g m : Nat) (a : Option Addr) (n c : Nat) (w : World) (h : Src w g a n c) (h0 : 0 < m) (hm : m ≤ 1000000000) :
    Calls Tryz.prog 26 #[.pointer (some ⟨g, 0, none⟩), .int .i64 m] w fun e w' => ∃ k : Nat, k < m ∧ e = .returned (.int .i64 k) ∧ Src w' g a n c ∧ w.grownBy w' (some g) := by
  have H0 := Box.mk h
  obtain ⟨⟨i, hi, hr⟩, hn, h2, h3⟩ := h
  have HR := Box.mk hr
  have HI := Box.mk h2
  have HA := Box.mk h3
  have HN := Box.mk hn
  have hc0 : w.cell? ⟨g, 0, none⟩ = some (.slice a n c) := by rw [cell_of_row _ _ _ _ _ _ hr]; rfl
  have hc1 : w.cell? ⟨g, 1, none⟩ = some (.int .i64 i) := by rw [cell_of_row _ _ _ _ _ _ hr]; rfl
  unfold maxLen at hn
  clear hr h2 h3
  go_enter Tryz.func26, Tryz.ntmps26
  by_cases hlt : i < n
  · obtain ⟨x, z, rfl, hz, z0, z1⟩ := HI.out i hlt
    have hne := HA.out x rfl (by omega)
    have HNE := Box.mk hne
    clear hne
    have hd : decide (n ≤ i) = false := by simp; omega
    have HZ := Box.mk hz
    clear hz
    go_wp2_with fail
    go_quiet (fail)
    clear hd
    obtain ⟨W, hW⟩ : ∃ W, W = w.drewN nq := ⟨_, rfl⟩
    have HRW := Box.mk (show W.heap[g]? = some (.cells #[.slice (some x) n c, .int .i64 i] 47 (0, 0)) by rw [hW]; exact HR.out)
    rw [← hW]
    have hf := frozen_of_row W g 1 _ _ HRW.out
    have hc0 : W.cell? ⟨g, 0, none⟩ = some (.slice (some x) n c) := by rw [cell_of_row _ _ _ _ _ _ HRW.out]; rfl
    have hc1 : W.cell? ⟨g, 1, none⟩ = some (.int .i64 i) := by rw [cell_of_row _ _ _ _ _ _ HRW.out]; rfl
    have HGW := Box.mk (show w.grownBy W (some g) by rw [hW]; exact ⟨rfl, rfl, rfl, Nat.le_refl _, fun _ _ _ => rfl⟩)
    clear hW
    go_wp2_with fail
    obtain ⟨W2, hW2⟩ : ∃ W2, W2 = W.setCell ⟨g, 1, none⟩ (.int .i64 ((i : Int) + 1)) := ⟨_, rfl⟩
    have HR2 := Box.mk (show W2.heap[g]? = some (.cells #[.slice (some x) n c, .int .i64 ((i : Int) + 1)] 47 (0, 0)) by rw [hW2, heap_setCell_same _ _ _ _ _ _ HRW.out]; simp)
    have HG2 := Box.mk (show w.grownBy W2 (some g) from grownBy_trans HGW.out (by
      rw [hW2]
      exact ⟨rfl, rfl, rfl, by simp [World.setCell], fun k _ hne => heap_setCell_other W ⟨g, 1, none⟩ k _ (fun e => hne (by rw [e]))⟩))
    change Code.wp _ _ _ _ (W.setCell ⟨g, 1, none⟩ (.int .i64 ((i : Int) + 1)))
    rw [← hW2]
    clear hW2 hf hc0 hc1 HGW HRW
    have hc0 : W2.cell? ⟨g, 0, none⟩ = some (.slice (some x) n c) := by rw [cell_of_row _ _ _ _ _ _ HR2.out]; rfl
    have hc1 : W2.cell? ⟨g, 1, none⟩ = some (.int .i64 ((i : Int) + 1)) := by rw [cell_of_row _ _ _ _ _ _ HR2.out]; rfl
    have hz2 : W2.cell? (x.add i) = some (.int .i64 z) := by
      rw [World.cell?_of_block (HG2.out.block _ (lt_cell HZ.out) (by rw [add_blockF]; exact fun e => HNE.out (Option.some.inj e)))]
      exact HZ.out
    have HS := Box.mk (show Src W2 g (some x) n c from ⟨⟨i + 1, hlt, HR2.out⟩, HN.out, HI.out.grown HG2.out (fun y e h e2 => HA.out y e h (Option.some.inj e2)), HA.out⟩)
    obtain ⟨k, hk, hwk⟩ := withI_range z m h0 hm
    have HWK := Box.mk hwk
    clear hwk
    go_quiet ((go_at_call 10; exact Calls.quiet_of_same (withinF _ _ _ h0 hm)))
    go_wp2
    go_ret
    exact ⟨k, hk, ret_int HWK.out, HS.out.keep (below_drewN (Below.refl _ _) _), grownBy_trans HG2.out ⟨rfl, rfl, rfl, Nat.le_refl _, fun _ _ _ => rfl⟩⟩
  · have hd : decide (n ≤ i) = true := by simp; omega
    go_wp2_with fail
    go_quiet (fail)
    go_wp2
    go_ret
    exact ⟨0, h0, rfl, H0.out.keep (below_drewN (Below.refl _ _) _), ⟨rfl, rfl, rfl, Nat.le_refl _, fun _ _ _ => rfl⟩⟩

set_option maxHeartbeats 1000000 in
theorem of_any (g b : Nat) (l : List ByteArray) (cb : Nat) (a : Option Addr) (n c : Nat) (w : World) (h : Src w g a n c) (hl : StrsIn w (some ⟨b, 0, none⟩) l) (hb : b ≠ g) (h0 : 0 < l.length) (h1 : l.length ≤ 1000) :
    Calls Tryz.prog 27 #[.pointer (some ⟨g, 0, none⟩), .slice (some ⟨b, 0, none⟩) l.length cb] w fun e w' => ∃ s ∈ l, e = .returned (.string s) ∧ Src w' g a n c ∧ w.grownBy w' (some g) := by
  have HL := Box.mk hl
  have HB := Box.mk hb
  clear hl hb
  go_enter Tryz.func27, Tryz.ntmps27
  go_wp2_with fail
  refine (next_any g l.length a n c w h h0 (by omega)).mono ?_
  rintro e w1 ⟨k, hk, rfl, hs, hg⟩
  obtain ⟨x, hx, hc⟩ := HL.out k hk
  obtain rfl := Option.some.inj hx
  have hc1 : w1.cell? ((⟨b, 0, none⟩ : Addr).add k) = some (.string l[k]) := by
    rw [World.cell?_of_block (hg.block _ (lt_cell hc) (by rw [add_blockF]; exact fun e => HB.out (Option.some.inj e)))]
    exact hc
  rw [Addr.add_lit, Nat.zero_add] at hc1
  have HS := Box.mk hs
  have HG := Box.mk hg
  have HMEM := Box.mk (List.getElem_mem hk)
  clear hs hg hc hx
  go_wp2_with fail
  go_ret
  exact ⟨_, HMEM.out, rfl, HS.out, HG.out⟩
end Go.Proofs.YtcdianojchmgpaaGreatDoor
namespace Go.Proofs.YtcdianojchmgpaaGreatDoor
open Go.RowKit

def namesF : List ByteArray := [⟨#[88, 45, 65]⟩, ⟨#[120, 45, 97]⟩, ⟨#[88, 45, 66]⟩, ⟨#[65, 99, 99, 101, 112, 116]⟩, ⟨#[67, 111, 110, 110, 101, 99, 116, 105, 111, 110]⟩, ⟨#[86, 105, 97]⟩, ⟨#[67, 111, 111, 107, 105, 101]⟩, ⟨#[84, 69]⟩, ⟨#[75, 101, 101, 112, 45, 65, 108, 105, 118, 101]⟩, ⟨#[88, 45, 70, 111, 114, 119, 97, 114, 100, 101, 100, 45, 70, 111, 114]⟩, ⟨#[68, 97, 116, 101]⟩, ⟨#[69, 84, 97, 103]⟩, ⟨#[85, 112, 103, 114, 97, 100, 101]⟩, ⟨#[88, 45, 83, 104, 97, 100, 111, 119]⟩]
def valsF : List ByteArray := [⟨#[]⟩, ⟨#[49]⟩, ⟨#[97, 44, 32, 98]⟩, ⟨#[120, 45, 97]⟩, ⟨#[99, 108, 111, 115, 101]⟩, ⟨#[107, 101, 101, 112, 45, 97, 108, 105, 118, 101]⟩, ⟨#[88, 45, 66, 44, 32, 116, 101]⟩, ⟨#[99, 111, 104, 111, 114, 116, 61, 48, 49, 50, 51, 52, 53, 54, 55, 56, 57, 97, 98, 99, 100, 101, 102]⟩, ⟨#[107, 61, 118, 59, 32, 99, 111, 104, 111, 114, 116, 61, 48, 48, 48, 48, 48, 48, 48, 48, 48, 48, 48, 48, 48, 48, 102, 102]⟩, ⟨#[49, 46, 49, 32, 111, 116, 104, 101, 114]⟩, ⟨#[9, 63, 128, 59, 61]⟩]
theorem namesF_ok : (namesF.all fun s => tokS s && decide (s.size ≤ 1000)) = true := by decide +kernel
theorem valsF_ok : (valsF.all fun s => valS (trimBA s) && decide (s.size ≤ 1000)) = true := by decide +kernel
theorem strsIn_newF (w : World) (l : List ByteArray) (t : TypeId) : StrsIn (w.alloc (.cells (l.map Value.string).toArray t)) (some ⟨w.heap.size, 0, none⟩) l := fun j hj =>
  ⟨_, rfl, by rw [Addr.add_lit, Nat.zero_add, new_cellF]; simp [hj]⟩
theorem Src.low {w : World} {g : Nat} {a : Option Addr} {n c : Nat} (h : Src w g a n c) : ∀ x, a = some x → 0 < n → x.block < w.heap.size := fun x e h0 => by
  obtain ⟨y, z, e2, hc, _⟩ := h.2.2.1 0 h0
  rw [e] at e2
  obtain rfl := Option.some.inj e2
  have := lt_cell hc
  rw [add_blockF] at this; exact this
theorem Src.other {w w' : World} {g q : Nat} {a : Option Addr} {n c : Nat} (h : Src w g a n c) (hg : w.grownBy w' (some q)) (hq : g ≠ q) (hx : ∀ x, a = some x → 0 < n → x.block ≠ q) : Src w' g a n c :=
  h.grown hg (fun e => hq (Option.some.inj e)) (fun x e h0 e2 => hx x e h0 (Option.some.inj e2))
theorem grownBy_setRowF (w : World) (g : Nat) (cs : Array Value) : w.grownBy (w.setRow g cs) (some g) :=
  ⟨rfl, rfl, rfl, by simp [World.setRow], fun k _ hne => setRow_other w g k cs (fun e => hne (by rw [e]))⟩
theorem FVar.grown {w w' : World} {g : Nat} {n v : ByteArray} {row : Option Nat} (h : FVar w g n v) (hg : w.grownBy w' row) (hne : some g ≠ row) : FVar w' g n v := by
  have hlt := h.lt
  unfold FVar at *
  rw [hg.block g hlt hne]; exact h
theorem of_n (g b m : Nat) (l : List ByteArray) (cb : Nat) (a : Option Addr) (n c : Nat) (w : World) (h : Src w g a n c) (hl : StrsIn w (some ⟨b, 0, none⟩) l) (hb : b ≠ g) (hm : l.length = m) (h0 : 0 < m) (h1 : m ≤ 1000) :
    Calls Tryz.prog 27 #[.pointer (some ⟨g, 0, none⟩), .slice (some ⟨b, 0, none⟩) m cb] w fun e w' => ∃ s ∈ l, e = .returned (.string s) ∧ Src w' g a n c ∧ w.grownBy w' (some g) := by
  subst hm
  exact of_any g b l cb a n c w h hl hb h0 h1

/-- A field that the laws make: valid, and small. -/
def MadeF (f : Fld) : Prop := fldB f.1 f.2 = true ∧ f.1.size ≤ 1000 ∧ f.2.size ≤ 1000
theorem made_of {s v : ByteArray} (hs : s ∈ namesF) (hv : v ∈ valsF) : MadeF (s, trimBA v) := by
  have h1 := List.all_eq_true.1 namesF_ok s hs
  have h2 := List.all_eq_true.1 valsF_ok v hv
  simp only [Bool.and_eq_true, decide_eq_true_eq] at h1 h2
  exact ⟨by rw [fldB_val h1.1]; exact h2.1, h1.2, Nat.le_trans (trimBA_size v) h2.2⟩

/-- A field of the source. -/
def SrcF (f : Fld) : Prop := ∃ s ∈ namesF, ∃ v ∈ valsF, f = (s, trimBA v)
theorem SrcF.made {f : Fld} (h : SrcF f) : MadeF f := by
  obtain ⟨s, hs, v, hv, rfl⟩ := h
  exact made_of hs hv

set_option maxRecDepth 100000 in
set_option maxHeartbeats 2000000 in
theorem srcFieldS_any (g : Nat) (a : Option Addr) (n c : Nat) (w : World) (h : Src w g a n c) :
    Calls Tryz.prog 49 #[.pointer (some ⟨g, 0, none⟩)] w fun e w' => ∃ f, e = .returned (.agg #[.string f.1, .string f.2]) ∧ SrcF f ∧ Src w' g a n c ∧ w.grownBy w' (some g) := by
  have H0 := Box.mk h
  have HLOW := Box.mk h.low
  have hlt := h.lt
  clear h
  go_enter Tryz.func49, Tryz.ntmps49
  go_wp2_with fail
  obtain ⟨W, hW⟩ : ∃ W, W = (w.alloc (.cells #[.string ⟨#[]⟩, .string ⟨#[]⟩] 74)).alloc (.cells (namesF.map Value.string).toArray 9) := ⟨_, rfl⟩
  have HBW := Box.mk (show Below w.heap.size w W by rw [hW]; exact below_twoF (below_oneF w _) _)
  have HQ := Box.mk (show FVar W w.heap.size ⟨#[]⟩ ⟨#[]⟩ by rw [hW]; exact (FVar.new w ⟨#[]⟩ ⟨#[]⟩).keep (below_oneF _ _))
  have HL := Box.mk (show StrsIn W (some ⟨w.heap.size + 1, 0, none⟩) namesF by
    have h1 := strsIn_newF (w.alloc (.cells #[.string ⟨#[]⟩, .string ⟨#[]⟩] 74)) namesF 9
    rw [World.size_alloc] at h1
    rw [hW]; exact h1)
  have HS := Box.mk (H0.out.keep HBW.out)
  change Calls _ _ _ ((w.alloc (.cells #[.string ⟨#[]⟩, .string ⟨#[]⟩] 74)).alloc (.cells (namesF.map Value.string).toArray 9)) _
  rw [← hW]
  clear hW
  refine (of_n g (w.heap.size + 1) 14 namesF 14 a n c W HS.out HL.out (by omega) rfl (by decide) (by decide)).mono ?_
  rintro e w1 ⟨s, hs, rfl, hsrc, hg1⟩
  have HNM := Box.mk hs
  have HS1 := Box.mk hsrc
  have HG1 := Box.mk (show w.grownBy w1 (some g) from grownBy_trans (grownBy_below HBW.out) hg1)
  have HQ1 := Box.mk (HQ.out.grown hg1 (fun e => by have := Option.some.inj e; omega))
  clear hs hsrc hg1 HS HL HQ HBW H0
  go_wp2_with fail
  obtain ⟨W, hW⟩ : ∃ W, W = w1.alloc (.cells (valsF.map Value.string).toArray 9) := ⟨_, rfl⟩
  have HBW := Box.mk (show Below w1.heap.size w1 W by rw [hW]; exact below_oneF w1 _)
  have HL := Box.mk (show StrsIn W (some ⟨w1.heap.size, 0, none⟩) valsF by rw [hW]; exact strsIn_newF w1 valsF 9)
  have HS2 := Box.mk (HS1.out.keep HBW.out)
  have hlt1 := HS1.out.lt
  change Calls _ _ _ (w1.alloc (.cells (valsF.map Value.string).toArray 9)) _
  rw [← hW]
  clear hW
  refine (of_n g w1.heap.size 11 valsF 11 a n c W HS2.out HL.out (by omega) rfl (by decide) (by decide)).mono ?_
  rintro e w2 ⟨v, hv, rfl, hsrc, hg2⟩
  have HVL := Box.mk hv
  have HS3 := Box.mk hsrc
  have HG3 := Box.mk (show w.grownBy w2 (some g) from grownBy_trans HG1.out (grownBy_trans (grownBy_below HBW.out) hg2))
  have HQ3 := Box.mk ((HQ1.out.keep HBW.out).grown hg2 (fun e => by have := Option.some.inj e; omega))
  have HMD := Box.mk (show SrcF (s, trimBA v) from ⟨s, HNM.out, v, hv, rfl⟩)
  have HVZ := Box.mk (show v.size ≤ maxLen by
    have h2 := List.all_eq_true.1 valsF_ok v hv
    simp only [Bool.and_eq_true, decide_eq_true_eq] at h2
    unfold maxLen; omega)
  clear hv hsrc hg2 HS2 HL HQ1 HBW HS1 HG1 HNM HVL
  go_wp2_with fail
  refine (refTrim_any v _ HVZ.out).mono ?_
  rintro e w3 ⟨rfl, rfl⟩
  generalize trimBA v = v' at *
  go_wp2_with (refine wpList_store_row rfl 74 _ _ rfl w.heap.size #[.string s, .string v'] rfl rfl 74 _ HQ3.out sizeF rfl (oneF _ _) ?_)
  (try simp only [Exit.inBlock, Exit.then])
  refine bodyPost_ret (results_cell_row rfl _ _ w.heap.size _ _ _ _ rfl (setRow_heap _ _ _ _ _ _ HQ3.out) Tryz.underlying74 rfl sizeF) rfl ?_
  have hnew := grownBy_setRowF w2 w.heap.size #[.string s, .string v']
  exact ⟨(s, v'), rfl, HMD.out, HS3.out.other hnew (by omega) (fun x e h0 => by have := HLOW.out x e h0; omega), grownBy_new HG3.out hnew (fun i e => by have := Option.some.inj e; omega)⟩
end Go.Proofs.YtcdianojchmgpaaGreatDoor
namespace Go.Proofs.YtcdianojchmgpaaGreatDoor
open Go.RowKit

/-- v is a slice with the fields l in a block of its own, at B or beyond. -/
def OwnF (B : Nat) (w : World) (v : Value) (l : List Fld) : Prop := w.ownsRow B 74 2 v l.length (cellsF l)
theorem OwnF.start (B : Nat) (w : World) : OwnF B w (.slice none 0 0) [] := World.ownsRow_nil _ _ _ _
theorem OwnF.lt {B : Nat} {w : World} {v : Value} {l : List Fld} (h : OwnF B w v l) {k : Nat} (hk : v.ownBlock = some k) : B ≤ k ∧ k < w.heap.size := World.ownsRow.lt h k hk
theorem OwnF.same {B : Nat} {w w' : World} {v : Value} {l : List Fld} (h : OwnF B w v l) (hs : ∀ k, v.ownBlock = some k → w'.heap[k]? = w.heap[k]?) : OwnF B w' v l := by
  obtain ⟨h1, h2⟩ := h
  refine ⟨h1, ?_⟩
  rcases h2 with h2 | ⟨g, cap, cur, hv, hg, hc, r⟩
  · exact .inl h2
  · exact .inr ⟨g, cap, cur, hv, hg, by rw [hs g (by rw [hv]; rfl)]; exact hc, r⟩
theorem OwnF.keep {B : Nat} {w w' : World} {v : Value} {l : List Fld} (h : OwnF B w v l) (hb : Below w.heap.size w w') : OwnF B w' v l :=
  h.same fun k hk => hb.block k (h.lt hk).2
theorem OwnF.grown {B : Nat} {w w' : World} {v : Value} {l : List Fld} {row : Option Nat} (h : OwnF B w v l) (hg : w.grownBy w' row) (hne : ∀ k, v.ownBlock = some k → some k ≠ row) : OwnF B w' v l :=
  h.same fun k hk => hg.block k (h.lt hk).2 (hne k hk)
theorem OwnF.shape {B : Nat} {w : World} {v : Value} {l : List Fld} (h : OwnF B w v l) : ∃ a cap, v = .slice a l.length cap ∧ FldsC w a l cap ∧ l.length ≤ cap := by
  obtain ⟨h1, h2⟩ := h
  rcases h2 with ⟨rfl, h2⟩ | ⟨g, cap, cur, rfl, hg, hc, hcap, hm, hsz, ht⟩
  · have : l = [] := List.eq_nil_of_length_eq_zero h2
    subst this
    exact ⟨none, 0, rfl, ⟨FldsIn.nil _ _, fun _ => ⟨rfl, rfl⟩⟩, Nat.le_refl _⟩
  · refine ⟨_, cap, rfl, ⟨FldsIn.of_cells fun j u hj => ?_, fun e => by cases e⟩, hcap⟩
    have e := congrArg (fun x => x[j]?) ht
    have hlt : j < l.length * 2 := by rw [← cellsF_len]; exact (List.getElem?_eq_some_iff.1 hj).1
    rw [hj, List.getElem?_take_of_lt hlt] at e
    rw [Addr.add_lit]
    simp only [World.cell?, hc, Nat.zero_add]
    simpa using e
section
variable {ops : Array Oper} {rest : List Oper} {o : Oper} {act : Act} {Q : Exit → Act → World → Prop}
theorem wpList_append_ownf (w : World) (hgd : o.guard = none) (s x : Operand) (ho : o.op = .call { callee := .builtin .append, args := #[s, x], argTypes := #[33, 33] })
    {B : Nat} {v : Value} {l : List Fld} (hs : act.eval s = v) (h : OwnF B w v l) {b c : Nat} (hx : act.eval x = .slice (some ⟨b, 0, none⟩) 1 c) {y : Fld} (hy : w.cell? ⟨b, 0, none⟩ = some (.string y.1)) (hy2 : w.cell? ⟨b, 1, none⟩ = some (.string y.2))
    (hn : l.length + 1 ≤ 4398046511104) (hB : B ≤ w.heap.size)
    (K : ∀ v' w', OwnF B w' v' (l ++ [y]) → w.grownBy w' v.ownBlock → wpList Tryz.prog ops Q rest (act.put o.dst v') w') : wpList Tryz.prog ops Q (o :: rest) act w := by
  obtain ⟨i0, hi, hz0, hz1, hz2⟩ := info_parts Tryz.info74
  refine wpList_append_lies w hgd s x 33 ho B 74 i0 _ 2 32 Tryz.underlying33 hi hz0 hz1 hz2 rfl (by decide) v l.length (cellsF l) hs h ⟨b, 0, none⟩ 1 c [.string y.1, .string y.2] hx rfl ?_ ?_ (by decide) (by unfold maxLen; omega) (by omega) hB w.heap.size rfl ?_
  · intro j u hj
    match j, hj with
    | 0, hj => simp at hj; subst hj; rw [Addr.add_lit]; exact hy
    | 1, hj => simp at hj; subst hj; rw [Addr.add_lit]; exact hy2
    | j + 2, hj => simp at hj
  · intro u hu; simp at hu; rcases hu with rfl | rfl <;> rfl
  · intro g cap w' hown hgrow hg hlt
    refine K _ w' ?_ hgrow
    unfold OwnF
    rw [List.length_append, cellsF_app]; exact hown
end

set_option maxRecDepth 100000 in
set_option maxHeartbeats 2000000 in
theorem srcFieldsS_any (g m : Nat) (a : Option Addr) (n c : Nat) (w : World) (h : Src w g a n c) (hm : m ≤ 1000) :
    Calls Tryz.prog 25 #[.pointer (some ⟨g, 0, none⟩), .int .i64 m] w fun e w' => ∃ v l, e = .returned v ∧ OwnF w.heap.size w' v l ∧ l.length ≤ m ∧ (∀ f ∈ l, SrcF f) ∧ Src w' g a n c ∧ w.grownBy w' (some g) := by
  have H0 := Box.mk h
  have HLOW := Box.mk h.low
  have hlt := h.lt
  clear h
  go_enter Tryz.func25, Tryz.ntmps25
  go_wp2_with fail
  refine (next_any g (m + 1) a n c w H0.out (by omega) (by omega)).mono ?_
  rintro e w1 ⟨k, hk, rfl, hsrc, hg1⟩
  have HS1 := Box.mk hsrc
  have HG1 := Box.mk hg1
  clear hsrc hg1 H0
  go_wp2_with fail
  go_loopw [5, 6] (fun v iv wr => ∃ j : Nat, j ≤ m ∧ iv = .int .i64 j ∧ ∃ l : List Fld, l.length + j ≤ m ∧ Box (OwnF w.heap.size wr v l ∧ (∀ f ∈ l, SrcF f) ∧ Src wr g a n c ∧ w.grownBy wr (some g))) (fun _ iv _ => (intOf iv).toNat)
  case atStart => exact ⟨k, by omega, rfl, [], by simp; omega, ⟨OwnF.start _ _, by simp, HS1.out, HG1.out⟩⟩
  case round =>
    clear HS1 HG1
    obtain ⟨j, hj, rfl, l, hl, HM⟩ := hrel
    by_cases hpos : 0 < j
    · go_wp2_with fail
      refine (srcFieldS_any g a n c wr HM.out.2.2.1).mono ?_
      rintro e w2 ⟨f, rfl, hmd, hsrc, hg2⟩
      have HO2 := Box.mk (HM.out.1.grown hg2 (fun q e e2 => by have := (HM.out.1.lt e).1; have := Option.some.inj e2; omega))
      have HS2 := Box.mk hsrc
      have HG2 := Box.mk (grownBy_trans HM.out.2.2.2 hg2)
      have HALL := Box.mk (show ∀ y ∈ l ++ [f], SrcF y from fun y hy => by
        rcases List.mem_append.1 hy with h1 | h1
        · exact HM.out.2.1 y h1
        · simp at h1; rw [h1]; exact hmd)
      have hsz := HG2.out.size
      clear hmd hsrc hg2 HM
      go_wp2_with (at_builtin; refine wpList_append_ownf _ rfl _ _ rfl rfl (HO2.out.keep ((Below.refl _ _).alloc (Nat.le_refl _) _)) rfl (y := f) ?c1 ?c2 (by omega) (by simp; omega) ?c3)
      case c1 => simp
      case c2 => simp
      case c3 =>
        intro v' w3 hown hgrow
        have HO3 := Box.mk hown
        have hgrow2 : w2.grownBy w3 u5.ownBlock := ⟨hgrow.os, hgrow.tape, hgrow.output, Nat.le_trans (by simp) hgrow.size, fun k hk hne => by
          rw [hgrow.block k (by simp; omega) hne]
          exact (below_oneF w2 _).block k hk⟩
        have HS3 := Box.mk (HS2.out.grown hgrow2 (fun e => by have := (HO2.out.lt e.symm).1; omega) (fun x e h0 e2 => by have := (HO2.out.lt e2.symm).1; have := HLOW.out x e h0; omega))
        have HG3 := Box.mk (grownBy_new HG2.out hgrow2 (fun i e => (HO2.out.lt e).1))
        clear hown hgrow hgrow2 HO2 HS2 HG2
        go_wp2_with fail
        go_roundw
        case rel => exact ⟨j - 1, by omega, by go_num, l ++ [f], by simp; omega, ⟨HO3.out, HALL.out, HS3.out, HG3.out⟩⟩
        case measure => simp [intOf]; omega
    · obtain rfl : j = 0 := by omega
      go_wp2_with fail
      go_ret
      exact ⟨_, l, rfl, HM.out.1, by omega, HM.out.2.1, HM.out.2.2.1, HM.out.2.2.2⟩
end Go.Proofs.YtcdianojchmgpaaGreatDoor
namespace Go.Proofs.YtcdianojchmgpaaGreatDoor
open Go.RowKit

/-- The value of a digit; 16 for any other byte. -/
def dv (c : Int) : Int := if 48 ≤ c ∧ c ≤ 57 then c - 48 else if 97 ≤ c ∧ c ≤ 102 then c - 87 else if 65 ≤ c ∧ c ≤ 70 then c - 55 else 16
theorem dv_bd (c : Int) : 0 ≤ dv c ∧ dv c ≤ 16 := by unfold dv; (repeat' split) <;> omega
def numB (b : Int) (c : UInt8) : Bool := decide (dv c.toNat < b)
def numS (b : Int) (s : ByteArray) : Bool := s.data.toList.all (numB b) && !s.data.toList.isEmpty
/-- What is read of the digits, from acc on, with the limit most. -/
def pgo (b most : Int) : Int → List UInt8 → Int × Int
  | acc, [] => (acc, 0)
  | acc, c :: r => if dv c.toNat > most ∨ acc > (most - dv c.toNat) / b then (0, 3) else pgo b most (acc * b + dv c.toNat) r
def parseS (b most : Int) (s : ByteArray) : Int × Int := if numS b s then pgo b most 0 s.data.toList else (0, 2)
theorem pgo_no {b most acc : Int} {c : UInt8} {r : List UInt8} (h : dv c.toNat > most ∨ acc > (most - dv c.toNat) / b) : pgo b most acc (c :: r) = (0, 3) := by rw [pgo, if_pos h]
theorem pgo_go {b most acc : Int} {c : UInt8} {r : List UInt8} (h1 : dv c.toNat ≤ most) (h2 : acc ≤ (most - dv c.toNat) / b) : pgo b most acc (c :: r) = pgo b most (acc * b + dv c.toNat) r := by rw [pgo, if_neg (by omega)]
theorem drop_cons (s : ByteArray) (k : Nat) (h : k < s.size) : s.data.toList.drop k = s[k] :: s.data.toList.drop (k + 1) := by
  rw [List.drop_eq_getElem_cons (by simpa using h)]; rfl

/-- The value of digits. -/
def vgo (b : Int) : Int → List UInt8 → Int
  | acc, [] => acc
  | acc, c :: r => vgo b (acc * b + dv c.toNat) r
theorem mul_ge (b acc : Int) (hb : 1 ≤ b) (ha : 0 ≤ acc) : acc ≤ acc * b := by
  have := Int.mul_le_mul_of_nonneg_left hb ha; omega
theorem vgo_ge (b : Int) (hb : 1 ≤ b) : ∀ (l : List UInt8) (acc : Int), 0 ≤ acc → acc ≤ vgo b acc l
  | [], acc, _ => Int.le_refl _
  | c :: l, acc, ha => by
    have h1 := mul_ge b acc hb ha
    have h2 := dv_bd c.toNat
    have h3 := vgo_ge b hb l (acc * b + dv c.toNat) (by omega)
    rw [vgo]; omega
theorem pgo_eq (b most : Int) (hb : 1 ≤ b) : ∀ (l : List UInt8) (acc : Int), 0 ≤ acc → (acc ≤ most ∨ l ≠ []) → pgo b most acc l = if vgo b acc l ≤ most then (vgo b acc l, 0) else (0, 3)
  | [], acc, ha, h => by
    rcases h with h | h
    · rw [pgo, vgo, if_pos h]
    · exact absurd rfl h
  | c :: l, acc, ha, _ => by
    have h1 := mul_ge b acc hb ha
    have h2 := dv_bd c.toNat
    have hge := vgo_ge b hb l (acc * b + dv c.toNat) (by omega)
    have hiff : acc ≤ (most - dv c.toNat) / b ↔ acc * b ≤ most - dv c.toNat := Int.le_ediv_iff_mul_le (by omega)
    rw [pgo, vgo]
    by_cases h : dv c.toNat > most ∨ acc > (most - dv c.toNat) / b
    · rw [if_pos h, if_neg]
      rcases h with h | h
      · omega
      · have : ¬ acc * b ≤ most - dv c.toNat := fun hh => by have := hiff.2 hh; omega
        omega
    · have hm : acc * b ≤ most - dv c.toNat := hiff.1 (by omega)
      rw [if_neg h]
      exact pgo_eq b most hb l _ (by omega) (.inl (by omega))

/-- The byte of a digit. -/
def dgc (d : Nat) : UInt8 := if d < 10 then UInt8.ofNat (48 + d) else UInt8.ofNat (87 + d)
/-- The digits of n to base b (the step: f is fuel that is never used up). -/
def digsF (b : Nat) : Nat → Nat → List UInt8
  | 0, n => [dgc (n % b)]
  | f + 1, n => if n < b then [dgc n] else digsF b f (n / b) ++ [dgc (n % b)]
def digs (b n : Nat) : List UInt8 := digsF b n n
theorem digsF_fuel (b : Nat) (hb : 2 ≤ b) : ∀ (f n : Nat), n ≤ f → digsF b f n = digsF b n n
  | 0, n, h => by obtain rfl : n = 0 := by omega
                  rfl
  | f + 1, n, h => by
    match n with
    | 0 => simp [digsF, show 0 < b by omega]
    | n + 1 =>
      have hd : (n + 1) / b ≤ n := by
        have : (n + 1) / b < n + 1 := Nat.div_lt_self (by omega) (by omega)
        omega
      simp only [digsF]
      rw [digsF_fuel b hb f _ (by omega), digsF_fuel b hb n _ hd]
theorem digs_small {b n : Nat} (h : n < b) : digs b n = [dgc n] := by
  unfold digs
  match n with
  | 0 => rw [digsF, Nat.zero_mod]
  | n + 1 => rw [digsF, if_pos h]
theorem digs_big {b n : Nat} (hb : 2 ≤ b) (h : ¬ n < b) : digs b n = digs b (n / b) ++ [dgc (n % b)] := by
  unfold digs
  match n with
  | 0 => omega
  | n + 1 =>
    have hd : (n + 1) / b ≤ n := by
      have : (n + 1) / b < n + 1 := Nat.div_lt_self (by omega) (by omega)
      omega
    rw [digsF, if_neg h, digsF_fuel b hb n _ hd]
theorem digs_dec (n : Nat) : digs 10 n = Lib.decDigits n := by
  induction n using Nat.strongRecOn with
  | _ n ih =>
    by_cases h : n < 10
    · rw [digs_small h, Lib.decDigits, dif_pos h]; unfold dgc; rw [if_pos h]
    · rw [digs_big (by omega) h, Lib.decDigits, dif_neg h, ih _ (by omega)]
      congr 1; unfold dgc; rw [if_pos (by omega)]
def numeral (b n : Nat) : ByteArray := ⟨(digs b n).toArray⟩
end Go.Proofs.YtcdianojchmgpaaGreatDoor
namespace Go.Proofs.YtcdianojchmgpaaGreatDoor
open Go.RowKit

theorem ret_pair {k : IntKind} {a b : Int} {p : Int × Int} (h : p = (a, b)) : Ending.returned (.tuple #[.int .i64 a, .int k b]) = .returned (.tuple #[.int .i64 p.1, .int k p.2]) := by rw [h]

set_option maxHeartbeats 400000 in
theorem numDigit_any (c : Int) (w : World) (h0 : 0 ≤ c) (h1 : c ≤ 255) :
    Calls Tryz.prog 149 #[.int .u8 c] w fun e w' => e = .returned (.int .i64 (dv c)) ∧ w = w' := by
  go_enter Tryz.func149, Tryz.ntmps149
  go_wp2
  all_goals go_ret
  all_goals exact ⟨ret_int (by unfold dv; (repeat' split) <;> omega), rfl⟩

def dr (b c : Int) : Int := if dv c < b then dv c else -1
set_option maxHeartbeats 400000 in
theorem refDigit_any (c b : Int) (w : World) (h0 : 0 ≤ c) (h1 : c ≤ 255) (hb1 : 2 ≤ b) (hb2 : b ≤ 16) :
    Calls Tryz.prog 118 #[.int .u8 c, .int .i64 b] w fun e w' => e = .returned (.int .i64 (dr b c)) ∧ w = w' := by
  go_enter Tryz.func118, Tryz.ntmps118
  go_wp2_with (go_at_call 65; go_in)
  all_goals go_ret
  all_goals exact ⟨ret_int (by unfold dr dv; (repeat' split) <;> omega), rfl⟩

theorem numS_no {b : Int} {s : ByteArray} {k : Nat} (hlt : k < s.size) (hc : numB b s[k] = false) : numS b s = false := by
  unfold numS
  have : s.data.toList.all (numB b) = false := by
    rw [Bool.eq_false_iff]; intro h
    have := List.all_eq_true.1 h _ (mem_at s k hlt); rw [hc] at this; cases this
  rw [this]; rfl
theorem numS_yes {b : Int} {s : ByteArray} {k : Nat} (hk : k ≤ s.size) (hlt : ¬ k < s.size) (h : (s.data.toList.take k).all (numB b) = true) : numS b s = !s.data.toList.isEmpty := by
  rw [take_all s k hk hlt] at h; unfold numS; rw [h]; rfl

set_option maxHeartbeats 400000 in
theorem isNumeral_any (s : ByteArray) (b : Int) (w : World) (hs : s.size ≤ maxLen) :
    Calls Tryz.prog 148 #[.string s, .int .i64 b] w fun e w' => e = .returned (.bool (numS b s)) ∧ w = w' := by
  unfold maxLen at hs
  go_enter Tryz.func148, Tryz.ntmps148
  go_wp2
  go_loop [8] (fun i => ∃ k : Nat, k ≤ s.size ∧ i = .int .i64 k ∧ Hid ((s.data.toList.take k).all (numB b) = true)) (fun i => s.size - (intOf i).toNat)
  case atStart => exact ⟨0, Nat.zero_le _, rfl, Lib.hid (by simp)⟩
  case round =>
    obtain ⟨k, hk, rfl, HP⟩ := hrel
    by_cases hlt : k < s.size
    · have b1 : (s[k].toNat : Int) ≤ 255 := by have := s[k].toNat_lt; omega
      by_cases hc : b ≤ dv s[k].toNat
      · go_wp2_with (go_at_call 149; refine (numDigit_any _ _ (by omega) (by omega)).mono ?_; rintro e w' ⟨rfl, rfl⟩)
        go_ret
        exact ⟨ret_bool (numS_no hlt (by unfold numB; simpa using hc)).symm, rfl⟩
      · go_wp2_with (go_at_call 149; refine (numDigit_any _ _ (by omega) (by omega)).mono ?_; rintro e w' ⟨rfl, rfl⟩)
        go_round
        case rel => exact ⟨k + 1, by omega, by go_num, Lib.hid (by rw [take_snoc s k hlt, List.all_append, HP.out]; unfold numB; simpa using hc)⟩
        case measure => simp [intOf]; omega
    · go_wp2
      go_ret
      exact ⟨ret_bool (by rw [numS_yes hk hlt HP.out]; simp [toList_isEmpty]), rfl⟩

set_option maxHeartbeats 1000000 in
theorem numParse_yes10 (s : ByteArray) (most : Int) (w : World) (hs : s.size ≤ maxLen) (hn : numS 10 s = true) (hm0 : -9223372036854775808 ≤ most) (hm1 : most ≤ 9223372036854775807) :
    Calls Tryz.prog 132 #[.string s, .int .i64 10, .int .i64 most] w fun e w' => e = .returned (.tuple #[.int .i64 (parseS 10 most s).1, .int .i64 (parseS 10 most s).2]) ∧ w = w' := by
  unfold maxLen at hs
  have hp : parseS 10 most s = pgo 10 most 0 s.data.toList := by unfold parseS; rw [if_pos hn]
  have HP := Lib.hid hp
  clear hp
  go_enter Tryz.func132, Tryz.ntmps132
  go_wp2_with (go_at_call 148; refine (isNumeral_any _ _ _ (by unfold maxLen; omega)).mono ?_; rintro e w' ⟨rfl, rfl⟩)
  go_loop [8, 17] (fun n i => ∃ (k : Nat) (acc : Int), k ≤ s.size ∧ i = .int .i64 k ∧ n = .int .i64 acc ∧ 0 ≤ acc ∧ acc ≤ 9223372036854775807 ∧ Hid (parseS 10 most s = pgo 10 most acc (s.data.toList.drop k))) (fun _ i => s.size - (intOf i).toNat)
  case atStart => exact ⟨0, 0, Nat.zero_le _, rfl, rfl, by omega, by omega, Lib.hid (by rw [HP.out]; rfl)⟩
  case round =>
    obtain ⟨k, acc, hk, rfl, rfl, ha0, ha1, HG⟩ := hrel
    by_cases hlt : k < s.size
    · have b1 : (s[k].toNat : Int) ≤ 255 := by have := s[k].toNat_lt; omega
      have b2 := dv_bd s[k].toNat
      obtain ⟨b20, b21⟩ := b2
      by_cases hd : dv s[k].toNat ≤ most
      · by_cases hq : acc ≤ (most - dv s[k].toNat) / 10
        · go_wp2_with (go_at_call 149; refine (numDigit_any _ _ (by omega) (by omega)).mono ?_; rintro e w' ⟨rfl, rfl⟩)
          go_round
          case rel => exact ⟨k + 1, _, by omega, by go_num, rfl, by omega, by omega, Lib.hid (by rw [HG.out, drop_cons s k hlt, pgo_go hd hq])⟩
          case measure => simp [intOf]; omega
        · go_wp2_with (go_at_call 149; refine (numDigit_any _ _ (by omega) (by omega)).mono ?_; rintro e w' ⟨rfl, rfl⟩)
          go_ret2
          exact ⟨ret_pair (by rw [HG.out, drop_cons s k hlt, pgo_no (.inr (by omega))]), rfl⟩
      · go_wp2_with (go_at_call 149; refine (numDigit_any _ _ (by omega) (by omega)).mono ?_; rintro e w' ⟨rfl, rfl⟩)
        go_ret2
        exact ⟨ret_pair (by rw [HG.out, drop_cons s k hlt, pgo_no (.inl (by omega))]), rfl⟩
    · go_wp2
      go_ret2
      exact ⟨ret_pair (by rw [HG.out, List.drop_of_length_le (by simp; omega)]; rfl), rfl⟩

set_option maxHeartbeats 1000000 in
theorem numParse_yes16 (s : ByteArray) (most : Int) (w : World) (hs : s.size ≤ maxLen) (hn : numS 16 s = true) (hm0 : -9223372036854775808 ≤ most) (hm1 : most ≤ 9223372036854775807) :
    Calls Tryz.prog 132 #[.string s, .int .i64 16, .int .i64 most] w fun e w' => e = .returned (.tuple #[.int .i64 (parseS 16 most s).1, .int .i64 (parseS 16 most s).2]) ∧ w = w' := by
  unfold maxLen at hs
  have hp : parseS 16 most s = pgo 16 most 0 s.data.toList := by unfold parseS; rw [if_pos hn]
  have HP := Lib.hid hp
  clear hp
  go_enter Tryz.func132, Tryz.ntmps132
  go_wp2_with (go_at_call 148; refine (isNumeral_any _ _ _ (by unfold maxLen; omega)).mono ?_; rintro e w' ⟨rfl, rfl⟩)
  go_loop [8, 17] (fun n i => ∃ (k : Nat) (acc : Int), k ≤ s.size ∧ i = .int .i64 k ∧ n = .int .i64 acc ∧ 0 ≤ acc ∧ acc ≤ 9223372036854775807 ∧ Hid (parseS 16 most s = pgo 16 most acc (s.data.toList.drop k))) (fun _ i => s.size - (intOf i).toNat)
  case atStart => exact ⟨0, 0, Nat.zero_le _, rfl, rfl, by omega, by omega, Lib.hid (by rw [HP.out]; rfl)⟩
  case round =>
    obtain ⟨k, acc, hk, rfl, rfl, ha0, ha1, HG⟩ := hrel
    by_cases hlt : k < s.size
    · have b1 : (s[k].toNat : Int) ≤ 255 := by have := s[k].toNat_lt; omega
      have b2 := dv_bd s[k].toNat
      obtain ⟨b20, b21⟩ := b2
      by_cases hd : dv s[k].toNat ≤ most
      · by_cases hq : acc ≤ (most - dv s[k].toNat) / 16
        · go_wp2_with (go_at_call 149; refine (numDigit_any _ _ (by omega) (by omega)).mono ?_; rintro e w' ⟨rfl, rfl⟩)
          go_round
          case rel => exact ⟨k + 1, _, by omega, by go_num, rfl, by omega, by omega, Lib.hid (by rw [HG.out, drop_cons s k hlt, pgo_go hd hq])⟩
          case measure => simp [intOf]; omega
        · go_wp2_with (go_at_call 149; refine (numDigit_any _ _ (by omega) (by omega)).mono ?_; rintro e w' ⟨rfl, rfl⟩)
          go_ret2
          exact ⟨ret_pair (by rw [HG.out, drop_cons s k hlt, pgo_no (.inr (by omega))]), rfl⟩
      · go_wp2_with (go_at_call 149; refine (numDigit_any _ _ (by omega) (by omega)).mono ?_; rintro e w' ⟨rfl, rfl⟩)
        go_ret2
        exact ⟨ret_pair (by rw [HG.out, drop_cons s k hlt, pgo_no (.inl (by omega))]), rfl⟩
    · go_wp2
      go_ret2
      exact ⟨ret_pair (by rw [HG.out, List.drop_of_length_le (by simp; omega)]; rfl), rfl⟩

set_option maxHeartbeats 1000000 in
theorem numParse_any (s : ByteArray) (b most : Int) (w : World) (hs : s.size ≤ maxLen) (hb : b = 10 ∨ b = 16) (hm0 : -9223372036854775808 ≤ most) (hm1 : most ≤ 9223372036854775807) :
    Calls Tryz.prog 132 #[.string s, .int .i64 b, .int .i64 most] w fun e w' => e = .returned (.tuple #[.int .i64 (parseS b most s).1, .int .i64 (parseS b most s).2]) ∧ w = w' := by
  by_cases hn : numS b s = true
  · rcases hb with rfl | rfl
    · exact numParse_yes10 s most w hs hn hm0 hm1
    · exact numParse_yes16 s most w hs hn hm0 hm1
  · unfold maxLen at hs
    have hn' : numS b s = false := by simpa using hn
    clear hn
    have hp : parseS b most s = (0, 2) := by unfold parseS; rw [hn']; rfl
    have HP := Lib.hid hp
    clear hp
    go_enter Tryz.func132, Tryz.ntmps132
    go_wp2_with (go_at_call 148; refine (isNumeral_any _ _ _ (by unfold maxLen; omega)).mono ?_; rintro e w' ⟨rfl, rfl⟩)
    go_ret2
    exact ⟨ret_pair HP.out, rfl⟩

theorem parseDecimal_any (s : ByteArray) (most : Int) (w : World) (hs : s.size ≤ maxLen) (hm0 : -9223372036854775808 ≤ most) (hm1 : most ≤ 9223372036854775807) :
    Calls Tryz.prog 117 #[.string s, .int .i64 most] w fun e w' => e = .returned (.tuple #[.int .i64 (parseS 10 most s).1, .int .i64 (parseS 10 most s).2]) ∧ w = w' := by
  go_enter Tryz.func117, Tryz.ntmps117
  go_wp2_with (go_at_call 132; refine (numParse_any _ _ _ _ hs (by omega) hm0 hm1).mono ?_; rintro e w' ⟨rfl, rfl⟩)
  go_ret2
  exact ⟨rfl, rfl⟩
end Go.Proofs.YtcdianojchmgpaaGreatDoor
namespace Go.Proofs.YtcdianojchmgpaaGreatDoor
open Go.RowKit

theorem dr_neg {b c : Int} (h : ¬ dv c < b) : dr b c = -1 := by unfold dr; rw [if_neg h]
theorem dr_pos {b c : Int} (h : dv c < b) : dr b c = dv c := by unfold dr; rw [if_pos h]
theorem numS_at {b : Int} {s : ByteArray} (h : numS b s = true) {k : Nat} (hlt : k < s.size) : dv s[k].toNat < b := by
  unfold numS at h
  have h1 : s.data.toList.all (numB b) = true := by simp only [Bool.and_eq_true] at h; exact h.1
  have := List.all_eq_true.1 h1 _ (mem_at s k hlt)
  unfold numB at this; simpa using this
theorem numS_empty {b : Int} {s : ByteArray} (h : s.toList.isEmpty = true) : numS b s = false := by
  unfold numS; rw [toList_isEmpty] at h
  have : s.data.toList.isEmpty = true := by simpa using h
  rw [this]; simp

set_option maxHeartbeats 1000000 in
theorem refParse_go10 (s : ByteArray) (most : Int) (w : World) (hs : s.size ≤ maxLen) (hm0 : -9223372036854775808 ≤ most) (hm1 : most ≤ 9223372036854775807) :
    Calls Tryz.prog 95 #[.string s, .int .i64 most, .int .i64 10] w fun e w' => e = .returned (.tuple #[.int .i64 (parseS 10 most s).1, .int .i64 (parseS 10 most s).2]) ∧ w = w' := by
  unfold maxLen at hs
  by_cases hem : s.toList.isEmpty = true
  · have HP := Lib.hid (show parseS 10 most s = (0, 2) by unfold parseS; rw [numS_empty hem]; rfl)
    go_enter Tryz.func95, Tryz.ntmps95
    have hem2 : s.toList = [] := by simpa using hem
    go_wp2
    go_ret2
    exact ⟨ret_pair HP.out, rfl⟩
  · have hem' : s.toList.isEmpty = false := by simpa using hem
    have hem2 : (!s.toList.isEmpty) = true := by rw [hem']; rfl
    have HE := Lib.hid hem'
    clear hem
    go_enter Tryz.func95, Tryz.ntmps95
    go_wp2
    clear hem' hem2
    go_loop [8] (fun i => ∃ k : Nat, k ≤ s.size ∧ i = .int .i64 k ∧ Hid ((s.data.toList.take k).all (numB 10) = true)) (fun i => s.size - (intOf i).toNat)
    case atStart => exact ⟨0, Nat.zero_le _, rfl, Lib.hid (by simp)⟩
    case round =>
      obtain ⟨k, hk, rfl, HP⟩ := hrel
      by_cases hlt : k < s.size
      · have b1 : (s[k].toNat : Int) ≤ 255 := by have := s[k].toNat_lt; omega
        have b2 := dv_bd s[k].toNat
        obtain ⟨b20, b21⟩ := b2
        by_cases hc : dv s[k].toNat < 10
        · have hr := dr_pos hc
          go_wp2_with (go_at_call 118; refine (refDigit_any _ _ _ (by omega) (by omega) (by omega) (by omega)).mono ?_; rintro e w' ⟨rfl, rfl⟩)
          go_round
          case rel => exact ⟨k + 1, by omega, by go_num, Lib.hid (by rw [take_snoc s k hlt, List.all_append, HP.out]; unfold numB; simpa using hc)⟩
          case measure => simp [intOf]; omega
        · have hr := dr_neg hc
          go_wp2_with (go_at_call 118; refine (refDigit_any _ _ _ (by omega) (by omega) (by omega) (by omega)).mono ?_; rintro e w' ⟨rfl, rfl⟩)
          go_ret2
          exact ⟨ret_pair (by unfold parseS; rw [numS_no hlt (by unfold numB; simpa using hc)]; rfl), rfl⟩
      · have hn : numS 10 s = true := by rw [numS_yes hk hlt HP.out]; have := HE.out; rw [toList_isEmpty] at this; simpa using this
        have HN := Lib.hid hn
        have HQ := Lib.hid (show parseS 10 most s = pgo 10 most 0 s.data.toList by unfold parseS; rw [if_pos hn])
        clear hn
        go_wp2
        go_loop [9, 10] (fun n i => ∃ (k : Nat) (acc : Int), k ≤ s.size ∧ i = .int .i64 k ∧ n = .int .i64 acc ∧ 0 ≤ acc ∧ acc ≤ 9223372036854775807 ∧ Hid (parseS 10 most s = pgo 10 most acc (s.data.toList.drop k))) (fun _ i => s.size - (intOf i).toNat)
        case atStart => exact ⟨0, 0, Nat.zero_le _, rfl, rfl, by omega, by omega, Lib.hid (by rw [HQ.out]; rfl)⟩
        case round =>
          obtain ⟨k, acc, hk, rfl, rfl, ha0, ha1, HG⟩ := hrel
          by_cases hlt : k < s.size
          · have b1 : (s[k].toNat : Int) ≤ 255 := by have := s[k].toNat_lt; omega
            have b2 := dv_bd s[k].toNat
            obtain ⟨b20, b21⟩ := b2
            have hr := dr_pos (numS_at HN.out hlt)
            by_cases hd : dv s[k].toNat ≤ most
            · by_cases hq : acc ≤ (most - dv s[k].toNat) / 10
              · go_wp2_with (go_at_call 118; refine (refDigit_any _ _ _ (by omega) (by omega) (by omega) (by omega)).mono ?_; rintro e w' ⟨rfl, rfl⟩)
                go_round
                case rel => exact ⟨k + 1, _, by omega, by go_num, rfl, by omega, by omega, Lib.hid (by rw [HG.out, drop_cons s k hlt, pgo_go hd hq])⟩
                case measure => simp [intOf]; omega
              · go_wp2_with (go_at_call 118; refine (refDigit_any _ _ _ (by omega) (by omega) (by omega) (by omega)).mono ?_; rintro e w' ⟨rfl, rfl⟩)
                go_ret2
                exact ⟨ret_pair (by rw [HG.out, drop_cons s k hlt, pgo_no (.inr (by omega))]), rfl⟩
            · go_wp2_with (go_at_call 118; refine (refDigit_any _ _ _ (by omega) (by omega) (by omega) (by omega)).mono ?_; rintro e w' ⟨rfl, rfl⟩)
              go_ret2
              exact ⟨ret_pair (by rw [HG.out, drop_cons s k hlt, pgo_no (.inl (by omega))]), rfl⟩
          · go_wp2
            go_ret2
            exact ⟨ret_pair (by rw [HG.out, List.drop_of_length_le (by simp; omega)]; rfl), rfl⟩

theorem refParseDecimal_any (s : ByteArray) (most : Int) (w : World) (hs : s.size ≤ maxLen) (hm0 : -9223372036854775808 ≤ most) (hm1 : most ≤ 9223372036854775807) :
    Calls Tryz.prog 69 #[.string s, .int .i64 most] w fun e w' => e = .returned (.tuple #[.int .i64 (parseS 10 most s).1, .int .i64 (parseS 10 most s).2]) ∧ w = w' := by
  go_enter Tryz.func69, Tryz.ntmps69
  go_wp2_with (go_at_call 95; refine (refParse_go10 _ _ _ hs hm0 hm1).mono ?_; rintro e w' ⟨rfl, rfl⟩)
  go_ret2
  exact ⟨rfl, rfl⟩
end Go.Proofs.YtcdianojchmgpaaGreatDoor
namespace Go.Proofs.YtcdianojchmgpaaGreatDoor
open Go.RowKit

def hexS : ByteArray := ⟨#[48, 49, 50, 51, 52, 53, 54, 55, 56, 57, 97, 98, 99, 100, 101, 102]⟩
theorem hexS_piece_fin : ∀ d : Fin 16, (hexS.extract d.val (d.val + 1)).data.toList = [dgc d.val] := by decide +kernel
theorem hexS_piece {d : Nat} (h : d < 16) : (⟨#[48, 49, 50, 51, 52, 53, 54, 55, 56, 57, 97, 98, 99, 100, 101, 102]⟩ : ByteArray).extract d (d + 1) = ⟨#[dgc d]⟩ := by
  have := hexS_piece_fin ⟨d, h⟩
  apply ByteArray.ext
  apply Array.toList_inj.1
  exact this
theorem one_cat (c : UInt8) (t : List UInt8) : (⟨#[c]⟩ : ByteArray) ++ ⟨t.toArray⟩ = ⟨(c :: t).toArray⟩ := by
  apply ByteArray.ext; simp

set_option maxHeartbeats 1000000 in
theorem refBase10 (n : Nat) (w : World) (hn : (n : Int) ≤ 9223372036854775807) :
    Calls Tryz.prog 104 #[.int .i64 n, .int .i64 10] w fun e w' => e = .returned (.string (numeral 10 n)) ∧ ∃ j, w' = w.drewN j := by
  go_enter Tryz.func104, Tryz.ntmps104
  go_wp2
  go_loopw [5, 0] (fun s m wr => ∃ (k : Nat) (t : List UInt8) (j : Nat), (t.length : Int) + k ≤ n ∧ (t = [] ∨ 0 < k) ∧ m = .int .i64 k ∧ s = .string ⟨t.toArray⟩ ∧ wr = w.drewN j ∧ Hid (digs 10 n = digs 10 k ++ t)) (fun _ m _ => (intOf m).toNat)
  case atStart => exact ⟨n, [], 0, by simp, .inl rfl, rfl, rfl, by simp [World.drewN_zero], Lib.hid (by simp)⟩
  case round =>
    obtain ⟨k, t, j, hk, hne, rfl, rfl, rfl, HD⟩ := hrel
    have HNE := Lib.hid hne
    have hlen : t.length + 1 ≤ 9223372036854775807 := by
      rcases hne with rfl | h
      · simp
      · omega
    clear hne
    obtain ⟨d, hd⟩ : ∃ d : Nat, k % 10 = d := ⟨_, rfl⟩
    have hd9 : d < 10 := by omega
    have HDD := Lib.hid hd
    have hr : ((k : Int).tmod 10) = (d : Int) := by rw [Int.tmod_eq_emod_of_nonneg (by omega)]; omega
    clear hd
    have hw1 : IntKind.i64.wrap (d : Int) = (d : Int) := IntWalk.i64_in _ (by omega)
    have hw2 : IntKind.i64.wrap ((d : Int) + 1) = (d : Int) + 1 := IntWalk.i64_in _ (by omega)
    have hn1 : ((d : Int) + 1).toNat = d + 1 := by omega
    have hi1 : (0 : Int) ≤ d := by omega
    have hi2 : (0 : Int) ≤ d + 1 := by omega
    have hi3 : (d : Int) + 1 ≤ 16 := by omega
    have hi4 : d + 1 ≤ 16 := by omega
    have hi5 : (d : Int) ≤ d + 1 := by omega
    have hp := hexS_piece (d := d) (by omega)
    have hadd : ∀ W, (Op.stringOp .add ⟨#[dgc d]⟩ ⟨t.toArray⟩).run Tryz.prog W = .ok (.string ⟨(dgc d :: t).toArray⟩) W := fun W => by
      have h := run_string_add_sum (P := Tryz.prog) (w := W) ⟨#[dgc d]⟩ ⟨t.toArray⟩ (by show 1 + (t.toArray).size ≤ _; simp; omega)
      rw [one_cat] at h; exact h
    go_wp2_with fail
    go_quiet (fail)
    clear hr hw1 hw2 hn1 hp hadd hi4
    have hq : (k : Int) / 10 = ((k / 10 : Nat) : Int) := by omega
    by_cases hz : k / 10 = 0
    · have hz1 : (k : Int) / 10 = 0 := by omega
      have HZ := Lib.hid hz
      clear hz hq
      go_wp2
      go_ret
      refine ⟨ret_str ?_, _, rfl⟩
      have hs : k < 10 := by have := HZ.out; omega
      unfold numeral
      rw [HD.out, digs_small hs]
      have : k % 10 = k := Nat.mod_eq_of_lt hs
      rw [← HDD.out, this]; rfl
    · have HZ := Lib.hid hz
      have hz2 : ¬ (k : Int) / 10 = 0 := by omega
      clear hz hq
      go_wp2
      go_roundw
      case rel =>
        have hz := HZ.out
        refine ⟨k / 10, dgc d :: t, _, by simp; omega, .inr (by omega), by first | rfl | simp, rfl, rfl, Lib.hid ?_⟩
        rw [HD.out, digs_big (by omega) (show ¬ k < 10 by omega), ← HDD.out]; simp
      case measure => have hz := HZ.out; simp [intOf]; omega

set_option maxHeartbeats 1000000 in
theorem refBase16 (n : Nat) (w : World) (hn : (n : Int) ≤ 9223372036854775807) :
    Calls Tryz.prog 104 #[.int .i64 n, .int .i64 16] w fun e w' => e = .returned (.string (numeral 16 n)) ∧ ∃ j, w' = w.drewN j := by
  go_enter Tryz.func104, Tryz.ntmps104
  go_wp2
  go_loopw [5, 0] (fun s m wr => ∃ (k : Nat) (t : List UInt8) (j : Nat), (t.length : Int) + k ≤ n ∧ (t = [] ∨ 0 < k) ∧ m = .int .i64 k ∧ s = .string ⟨t.toArray⟩ ∧ wr = w.drewN j ∧ Hid (digs 16 n = digs 16 k ++ t)) (fun _ m _ => (intOf m).toNat)
  case atStart => exact ⟨n, [], 0, by simp, .inl rfl, rfl, rfl, by simp [World.drewN_zero], Lib.hid (by simp)⟩
  case round =>
    obtain ⟨k, t, j, hk, hne, rfl, rfl, rfl, HD⟩ := hrel
    have HNE := Lib.hid hne
    have hlen : t.length + 1 ≤ 9223372036854775807 := by
      rcases hne with rfl | h
      · simp
      · omega
    clear hne
    obtain ⟨d, hd⟩ : ∃ d : Nat, k % 16 = d := ⟨_, rfl⟩
    have hd9 : d < 16 := by omega
    have HDD := Lib.hid hd
    have hr : ((k : Int).tmod 16) = (d : Int) := by rw [Int.tmod_eq_emod_of_nonneg (by omega)]; omega
    clear hd
    have hw1 : IntKind.i64.wrap (d : Int) = (d : Int) := IntWalk.i64_in _ (by omega)
    have hw2 : IntKind.i64.wrap ((d : Int) + 1) = (d : Int) + 1 := IntWalk.i64_in _ (by omega)
    have hn1 : ((d : Int) + 1).toNat = d + 1 := by omega
    have hi1 : (0 : Int) ≤ d := by omega
    have hi2 : (0 : Int) ≤ d + 1 := by omega
    have hi3 : (d : Int) + 1 ≤ 16 := by omega
    have hi4 : d + 1 ≤ 16 := by omega
    have hi5 : (d : Int) ≤ d + 1 := by omega
    have hp := hexS_piece (d := d) (by omega)
    have hadd : ∀ W, (Op.stringOp .add ⟨#[dgc d]⟩ ⟨t.toArray⟩).run Tryz.prog W = .ok (.string ⟨(dgc d :: t).toArray⟩) W := fun W => by
      have h := run_string_add_sum (P := Tryz.prog) (w := W) ⟨#[dgc d]⟩ ⟨t.toArray⟩ (by show 1 + (t.toArray).size ≤ _; simp; omega)
      rw [one_cat] at h; exact h
    go_wp2_with fail
    go_quiet (fail)
    clear hr hw1 hw2 hn1 hp hadd hi4
    have hq : (k : Int) / 16 = ((k / 16 : Nat) : Int) := by omega
    by_cases hz : k / 16 = 0
    · have hz1 : (k : Int) / 16 = 0 := by omega
      have HZ := Lib.hid hz
      clear hz hq
      go_wp2
      go_ret
      refine ⟨ret_str ?_, _, rfl⟩
      have hs : k < 16 := by have := HZ.out; omega
      unfold numeral
      rw [HD.out, digs_small hs]
      have : k % 16 = k := Nat.mod_eq_of_lt hs
      rw [← HDD.out, this]; rfl
    · have HZ := Lib.hid hz
      have hz2 : ¬ (k : Int) / 16 = 0 := by omega
      clear hz hq
      go_wp2
      go_roundw
      case rel =>
        have hz := HZ.out
        refine ⟨k / 16, dgc d :: t, _, by simp; omega, .inr (by omega), by first | rfl | simp, rfl, rfl, Lib.hid ?_⟩
        rw [HD.out, digs_big (by omega) (show ¬ k < 16 by omega), ← HDD.out]; simp
      case measure => have hz := HZ.out; simp [intOf]; omega

def fmtS (b : Nat) (n : Int) : ByteArray := if n < 0 then ⟨#[]⟩ else numeral b n.toNat
theorem below_drewN0 (w : World) (j : Nat) : Below w.heap.size w (w.drewN j) := ⟨rfl, rfl, rfl, Nat.le_refl _, fun _ _ => rfl⟩
theorem refBase_neg (n b : Int) (w : World) (hn : n < 0) :
    Calls Tryz.prog 104 #[.int .i64 n, .int .i64 b] w fun e w' => e = .returned (.string ⟨#[]⟩) ∧ w = w' := by
  go_enter Tryz.func104, Tryz.ntmps104
  go_wp2
  go_ret
  exact ⟨rfl, rfl⟩

theorem refDecimal_any (n : Int) (w : World) (h0 : -9223372036854775808 ≤ n) (h1 : n ≤ 9223372036854775807) :
    Calls Tryz.prog 76 #[.int .i64 n] w fun e w' => e = .returned (.string (fmtS 10 n)) ∧ Below w.heap.size w w' := by
  by_cases hn : n < 0
  · go_enter Tryz.func76, Tryz.ntmps76
    go_wp2_with (go_at_call 104; refine (refBase_neg _ _ _ hn).mono ?_; rintro e w' ⟨rfl, rfl⟩)
    go_ret
    exact ⟨ret_str (by unfold fmtS; rw [if_pos hn]), Below.refl _ _⟩
  · obtain ⟨k, rfl⟩ : ∃ k : Nat, n = k := ⟨n.toNat, by omega⟩
    go_enter Tryz.func76, Tryz.ntmps76
    go_wp2_with (go_at_call 104; refine (refBase10 _ _ (by omega)).mono ?_; rintro e w' ⟨rfl, j, rfl⟩)
    go_ret
    exact ⟨ret_str (by unfold fmtS; rw [if_neg (by omega)]; rfl), below_drewN0 _ _⟩
theorem refHex_any (n : Int) (w : World) (h0 : -9223372036854775808 ≤ n) (h1 : n ≤ 9223372036854775807) :
    Calls Tryz.prog 97 #[.int .i64 n] w fun e w' => e = .returned (.string (fmtS 16 n)) ∧ Below w.heap.size w w' := by
  by_cases hn : n < 0
  · go_enter Tryz.func97, Tryz.ntmps97
    go_wp2_with (go_at_call 104; refine (refBase_neg _ _ _ hn).mono ?_; rintro e w' ⟨rfl, rfl⟩)
    go_ret
    exact ⟨ret_str (by unfold fmtS; rw [if_pos hn]), Below.refl _ _⟩
  · obtain ⟨k, rfl⟩ : ∃ k : Nat, n = k := ⟨n.toNat, by omega⟩
    go_enter Tryz.func97, Tryz.ntmps97
    go_wp2_with (go_at_call 104; refine (refBase16 _ _ (by omega)).mono ?_; rintro e w' ⟨rfl, j, rfl⟩)
    go_ret
    exact ⟨ret_str (by unfold fmtS; rw [if_neg (by omega)]; rfl), below_drewN0 _ _⟩
end Go.Proofs.YtcdianojchmgpaaGreatDoor
namespace Go.Proofs.YtcdianojchmgpaaGreatDoor
open Go.RowKit

def tgB (c : UInt8) : Bool := decide (33 ≤ (c.toNat : Int)) && decide ((c.toNat : Int) ≤ 126) && !decide ((c.toNat : Int) = 35)
def targetS (s : ByteArray) : Bool := s.data.toList.all tgB && (s.data.toList.head? == some 47)
theorem targetS_no {s : ByteArray} {k : Nat} (hlt : k < s.size) (hc : tgB s[k] = false) : targetS s = false := by
  unfold targetS
  have : s.data.toList.all tgB = false := by
    rw [Bool.eq_false_iff]; intro h
    have := List.all_eq_true.1 h _ (mem_at s k hlt); rw [hc] at this; cases this
  rw [this]; rfl
theorem head_at (s : ByteArray) (h : 0 < s.size) : s.data.toList.head? = some s[0] := by
  rw [List.head?_eq_getElem?, List.getElem?_eq_getElem (by simpa using h)]; rfl
theorem targetS_end {s : ByteArray} {k : Nat} (hk : k ≤ s.size) (hlt : ¬ k < s.size) (h : (s.data.toList.take k).all tgB = true) : targetS s = (s.data.toList.head? == some 47) := by
  unfold targetS
  rw [take_all s k hk hlt] at h
  rw [h]; rfl

set_option maxRecDepth 100000 in
set_option maxHeartbeats 1000000 in
theorem refTarget_any (s : ByteArray) (w : World) (hs : s.size ≤ maxLen) :
    Calls Tryz.prog 63 #[.string s] w fun e w' => e = .returned (.bool (targetS s)) ∧ w = w' := by
  unfold maxLen at hs
  go_enter Tryz.func63, Tryz.ntmps63
  go_wp2
  go_loop [3] (fun i => ∃ k : Nat, k ≤ s.size ∧ i = .int .i64 k ∧ Box ((s.data.toList.take k).all tgB = true)) (fun i => s.size - (intOf i).toNat)
  case atStart => exact ⟨0, Nat.zero_le _, rfl, ⟨by simp⟩⟩
  case round =>
    obtain ⟨k, hk, rfl, HP⟩ := hrel
    by_cases hlt : k < s.size
    · have b1 : (s[k].toNat : Int) ≤ 255 := by have := s[k].toNat_lt; omega
      have hcase : Box (tgB s[k] = true) ∧ 33 ≤ (s[k].toNat : Int) ∧ (s[k].toNat : Int) ≤ 126 ∧ ((s[k].toNat : Int) == 35) = false ∨ Box (tgB s[k] = false) ∧ (s[k].toNat : Int) < 33
          ∨ Box (tgB s[k] = false) ∧ 33 ≤ (s[k].toNat : Int) ∧ 126 < (s[k].toNat : Int) ∨ Box (tgB s[k] = false) ∧ 33 ≤ (s[k].toNat : Int) ∧ (s[k].toNat : Int) ≤ 126 ∧ ((s[k].toNat : Int) == 35) = true := by
        by_cases h1 : 33 ≤ (s[k].toNat : Int)
        · by_cases h2 : (s[k].toNat : Int) ≤ 126
          · by_cases h3 : (s[k].toNat : Int) = 35
            · exact .inr (.inr (.inr ⟨⟨by simp [tgB, h3]⟩, h1, h2, by simp [h3]⟩))
            · exact .inl ⟨⟨by simp [tgB, h1, h2, h3]⟩, h1, h2, by rw [beq_eq_false_iff_ne]; exact h3⟩
          · exact .inr (.inr (.inl ⟨⟨by simp [tgB, h2]⟩, h1, by omega⟩))
        · exact .inr (.inl ⟨⟨by simp [tgB, h1]⟩, by omega⟩)
      rcases hcase with ⟨HC, h1, h2, h3⟩ | ⟨HC, h1⟩ | ⟨HC, h1, h2⟩ | ⟨HC, h1, h2, h3⟩
      · go_wp2
        go_round
        case rel => exact ⟨k + 1, by omega, by go_num, ⟨by rw [take_snoc s k hlt, List.all_append, HP.out]; simpa using HC.out⟩⟩
        case measure => simp [intOf]; omega
      all_goals
        go_wp2
        go_ret
        exact ⟨ret_bool (targetS_no hlt HC.out).symm, rfl⟩
    · have HE := Box.mk (targetS_end hk hlt HP.out)
      by_cases h0 : 0 < s.size
      · have HH := Box.mk (head_at s h0)
        have hne : s.toList.isEmpty = false := by rw [ByteArray.toList_eq]; cases hq : s.data.toList with
          | nil => have h9 : s.data.toList.length = 0 := by rw [hq]; rfl
                   rw [Array.length_toList] at h9
                   exact absurd h0 (by show ¬ 0 < s.data.size; omega)
          | cons _ _ => rfl
        by_cases h47 : s[0] = 47
        · have hb : ((s[0].toNat : Int) == 47) = true := by rw [h47]; rfl
          have HR := Box.mk (show targetS s = true by rw [HE.out, HH.out, h47]; rfl)
          clear h47
          go_wp2
          go_ret
          exact ⟨ret_bool HR.out.symm, rfl⟩
        · have hb : ((s[0].toNat : Int) == 47) = false := by
            rw [Bool.eq_false_iff]; intro h; exact h47 (UInt8.toNat_inj.1 (by simp at h; show s[0].toNat = 47; omega))
          have HR := Box.mk (show targetS s = false by rw [HE.out, HH.out, Bool.eq_false_iff]; intro h; simp at h; exact h47 h)
          clear h47
          go_wp2
          go_ret
          exact ⟨ret_bool HR.out.symm, rfl⟩
      · have he : s = ⟨#[]⟩ := ba_ext (by
          have : s.data.toList.length = 0 := by rw [Array.length_toList]; show s.size = 0; omega
          rw [List.eq_nil_of_length_eq_zero this])
        subst he
        go_wp2
        go_ret
        exact ⟨ret_bool (by decide +kernel), rfl⟩
end Go.Proofs.YtcdianojchmgpaaGreatDoor
namespace Go.Proofs.YtcdianojchmgpaaGreatDoor
open Go.RowKit

def idxI (c : UInt8) (s : ByteArray) : Int := Lib.indexByte s.data.toList c
theorem idxI_ge (c : UInt8) (s : ByteArray) : -1 ≤ idxI c s := Lib.indexByte_ge _ _
theorem idxI_lt (c : UInt8) (s : ByteArray) {k : Nat} (h : idxI c s = k) : k < s.size := by
  have := (Lib.indexByte_some h).1
  have := (List.getElem?_eq_some_iff.1 this).1
  simpa using this
theorem idxI_at (c : UInt8) (s : ByteArray) (k : Nat) (hk : k < s.size) (h : s[k] = c) (hp : ∀ j, j < k → s.data.toList[j]? ≠ some c) : idxI c s = k := by
  have hge := idxI_ge c s
  have hkk : s.data.toList[k]? = some c := by
    rw [List.getElem?_eq_getElem (by simpa using hk)]
    exact congrArg some h
  by_cases h1 : idxI c s = -1
  · exact absurd hkk (Lib.indexByte_none h1 k)
  · obtain ⟨o, ho⟩ : ∃ o : Nat, idxI c s = o := ⟨(idxI c s).toNat, by omega⟩
    have h2 := Lib.indexByte_some ho
    rw [ho]
    congr 1
    rcases Nat.lt_trichotomy o k with h3 | h3 | h3
    · exact absurd h2.1 (hp o h3)
    · exact h3
    · exact absurd hkk (h2.2 k h3)
def v10 : ByteArray := ⟨#[72, 84, 84, 80, 47, 49, 46, 48]⟩
def v11 : ByteArray := ⟨#[72, 84, 84, 80, 47, 49, 46, 49]⟩
theorem lit10 : ([72, 84, 84, 80, 47, 49, 46, 48] : List UInt8) = v10.toList := by rw [ByteArray.toList_eq]; rfl
theorem lit11 : ([72, 84, 84, 80, 47, 49, 46, 49] : List UInt8) = v11.toList := by rw [ByteArray.toList_eq]; rfl
def minorZ (s : ByteArray) : Int := if s = v10 then 0 else if s = v11 then 1 else -1
set_option maxHeartbeats 1000000 in
theorem refMinor_any (s : ByteArray) (w : World) :
    Calls Tryz.prog 64 #[.string s] w fun e w' => e = .returned (.int .i64 (minorZ s)) ∧ w = w' := by
  by_cases h0 : s = v10
  · have HR := Box.mk (show minorZ s = 0 by unfold minorZ; rw [if_pos h0])
    have h1 : (s.toList == [72, 84, 84, 80, 47, 49, 46, 48]) = true := by rw [lit10, toList_eq]; simp; exact h0
    clear h0
    go_enter Tryz.func64, Tryz.ntmps64
    go_wp2_with fail
    go_ret
    exact ⟨ret_int HR.out.symm, rfl⟩
  · have h1 : (s.toList == [72, 84, 84, 80, 47, 49, 46, 48]) = false := by rw [lit10, toList_eq]; simp; exact h0
    by_cases h2 : s = v11
    · have HR := Box.mk (show minorZ s = 1 by unfold minorZ; rw [if_neg h0, if_pos h2])
      have h3 : (s.toList == [72, 84, 84, 80, 47, 49, 46, 49]) = true := by rw [lit11, toList_eq]; simp; exact h2
      clear h0 h2
      go_enter Tryz.func64, Tryz.ntmps64
      go_wp2_with fail
      go_ret
      exact ⟨ret_int HR.out.symm, rfl⟩
    · have HR := Box.mk (show minorZ s = -1 by unfold minorZ; rw [if_neg h0, if_neg h2])
      have h3 : (s.toList == [72, 84, 84, 80, 47, 49, 46, 49]) = false := by rw [lit11, toList_eq]; simp; exact h2
      clear h0 h2
      go_enter Tryz.func64, Tryz.ntmps64
      go_wp2_with fail
      go_ret
      exact ⟨ret_int HR.out.symm, rfl⟩

end Go.Proofs.YtcdianojchmgpaaGreatDoor
namespace Go.Proofs.YtcdianojchmgpaaGreatDoor
open Go.RowKit

theorem splitB_lim (sep : ByteArray) (h1 : 1 ≤ sep.size) (save : Nat) : ∀ (k : Nat) (s : ByteArray), Lib.countB s sep ≤ k → Lib.splitB sep save k s = Lib.splitB sep save (Lib.countB s sep) s
  | 0, s, h => by rw [Nat.le_zero.1 h]
  | k + 1, s, h => by
    rcases Lib.indexB_cases s sep with hix | ⟨i, hix, _⟩
    · rw [Lib.splitB_miss sep save _ s hix, Lib.splitB_miss sep save _ s hix]
    · have hc := Lib.countB_hit s sep i h1 hix
      rw [hc, Nat.add_comm 1, Lib.splitB_hit sep save _ s i hix, Lib.splitB_hit sep save _ s i hix, splitB_lim sep h1 save k _ (by omega)]
theorem splitB_more (sep : ByteArray) (h1 : 1 ≤ sep.size) (save : Nat) : ∀ (k : Nat) (s : ByteArray), k ≤ Lib.countB s sep → (Lib.splitB sep save k s).length = k + 1
  | 0, _, _ => rfl
  | k + 1, s, h => by
    rcases Lib.indexB_cases s sep with hix | ⟨i, hix, _⟩
    · rw [Lib.countB_miss s sep hix] at h; omega
    · have hc := Lib.countB_hit s sep i h1 hix
      rw [Lib.splitB_hit sep save _ s i hix, List.length_cons, splitB_more sep h1 save k _ (by omega)]
/-- At most four pieces at blanks. -/
def wordsS (s : ByteArray) : List ByteArray := Lib.splitB ⟨#[32]⟩ 0 (min 4 (s.size + 1) - 1) s
theorem wordsS_eq (s : ByteArray) : wordsS s = splitS 32 s ∨ (wordsS s).length = 4 ∧ (splitS 32 s).length ≠ 3 := by
  unfold wordsS
  rw [← splitB_eq]
  have hz : 1 ≤ (⟨#[32]⟩ : ByteArray).size := by decide
  have hle := Lib.countB_le ⟨#[32]⟩ hz s.size s (Nat.le_refl _)
  by_cases h : Lib.countB s ⟨#[32]⟩ ≤ min 4 (s.size + 1) - 1
  · exact .inl (splitB_lim _ hz _ _ s h)
  · right
    have e : min 4 (s.size + 1) - 1 = 3 := by omega
    rw [e]
    refine ⟨splitB_more _ hz _ 3 s (by omega), ?_⟩
    rw [splitB_more _ hz _ _ s (Nat.le_refl _)]; omega
/-- Bytes that a rune of more than one byte, or a byte that is none, takes: all are at 128 or beyond. -/
theorem decode_skip (s : ByteArray) (pos : Nat) (h : pos < s.size) (ha : 128 ≤ (s[pos]'h).toNat) : pos + (Utf8.decode s pos).2 ≤ s.size ∧ ∀ k, k < (Utf8.decode s pos).2 → ∀ hk : pos + k < s.size, 128 ≤ (s[pos + k]'hk).toNat := by
  have hn : ¬ (s[pos]'h).toNat < 128 := by omega
  have hcont : ∀ k, (decide (pos + k < s.size) && ((s.get! (pos + k)).toNat / 64 == 2)) = true → ∃ hk : pos + k < s.size, 128 ≤ (s[pos + k]'hk).toNat := fun k hk => by
    simp only [Bool.and_eq_true, decide_eq_true_eq, beq_iff_eq] at hk
    obtain ⟨h1, h2⟩ := hk
    refine ⟨h1, ?_⟩
    have e : s.get! (pos + k) = s[pos + k]'h1 := by
      have := get_at s (pos + k) h1
      simpa using this
    rw [e] at h2; omega
  have one : pos + 1 ≤ s.size ∧ ∀ k, k < 1 → ∀ hk : pos + k < s.size, 128 ≤ (s[pos + k]'hk).toNat := ⟨by omega, fun k hk hk2 => by
    obtain rfl : k = 0 := by omega
    exact ha⟩
  simp only [Utf8.decode, get_at s pos h, hn, if_false]
  split
  · rename_i h1
    have h1' := (Bool.and_eq_true _ _ ▸ h1 : _ ∧ _).2
    obtain ⟨k1, g1⟩ := hcont 1 h1'
    split
    · refine ⟨by show pos + 2 ≤ _; omega, fun k hk hk2 => ?_⟩
      have hk' : k < 2 := hk
      match k, hk' with
      | 0, _ => exact ha
      | 1, _ => exact g1
    · exact one
  · split
    · rename_i h1
      simp only [Bool.and_eq_true] at h1
      obtain ⟨k1, g1⟩ := hcont 1 (by simpa using h1.1.2)
      obtain ⟨k2, g2⟩ := hcont 2 (by simpa using h1.2)
      split
      · refine ⟨by show pos + 3 ≤ _; omega, fun k hk hk2 => ?_⟩
        have hk' : k < 3 := hk
        match k, hk' with
        | 0, _ => exact ha
        | 1, _ => exact g1
        | 2, _ => exact g2
      · exact one
    · split
      · rename_i h1
        simp only [Bool.and_eq_true] at h1
        obtain ⟨k1, g1⟩ := hcont 1 (by simpa using h1.1.1.2)
        obtain ⟨k2, g2⟩ := hcont 2 (by simpa using h1.1.2)
        obtain ⟨k3, g3⟩ := hcont 3 (by simpa using h1.2)
        split
        · refine ⟨by show pos + 4 ≤ _; omega, fun k hk hk2 => ?_⟩
          have hk' : k < 4 := hk
          match k, hk' with
          | 0, _ => exact ha
          | 1, _ => exact g1
          | 2, _ => exact g2
          | 3, _ => exact g3
        · exact one
      · exact one

/-- A string at the first of a byte. -/
def cutS (d : UInt8) (s : ByteArray) : ByteArray × ByteArray :=
  if 0 ≤ idxI d s then (s.extract 0 (idxI d s).toNat, s.extract ((idxI d s).toNat + 1) s.size) else (s, ⟨#[]⟩)
theorem cutS_at {d : UInt8} {s : ByteArray} {k : Nat} (h : idxI d s = k) : cutS d s = (s.extract 0 k, s.extract (k + 1) s.size) := by unfold cutS; rw [h]; simp
theorem cutS_no {d : UInt8} {s : ByteArray} (h : idxI d s = -1) : cutS d s = (s, ⟨#[]⟩) := by unfold cutS; rw [h]; rfl
theorem idxI_cases (d : UInt8) (s : ByteArray) : idxI d s = -1 ∨ ∃ k : Nat, idxI d s = k ∧ k < s.size := by
  have := idxI_ge d s
  by_cases h : idxI d s = -1
  · exact .inl h
  · refine .inr ⟨(idxI d s).toNat, by omega, idxI_lt d s (by omega)⟩
theorem cutS_size1 (d : UInt8) (s : ByteArray) : (cutS d s).1.size ≤ s.size := by
  rcases idxI_cases d s with h | ⟨k, h, hk⟩
  · rw [cutS_no h]; exact Nat.le_refl _
  · rw [cutS_at h]; exact extract_le _ _ _
theorem cutS_size2 (d : UInt8) (s : ByteArray) : (cutS d s).2.size ≤ s.size := by
  rcases idxI_cases d s with h | ⟨k, h, hk⟩
  · rw [cutS_no h]; exact Nat.zero_le _
  · rw [cutS_at h]; exact extract_le _ _ _
end Go.Proofs.YtcdianojchmgpaaGreatDoor
namespace Go.Proofs.YtcdianojchmgpaaGreatDoor
open Go.RowKit

theorem idxI_one (d : UInt8) (s : ByteArray) (h : (⟨#[d]⟩ : ByteArray) = s) : idxI d s = 0 := by
  subst h
  exact idxI_at d ⟨#[d]⟩ 0 (show 0 < 1 by decide) rfl (fun j hj => absurd hj (Nat.not_lt_zero _))

set_option maxRecDepth 100000 in
set_option maxHeartbeats 2000000 in
theorem idxLiteC_any (d : UInt8) (s c : ByteArray) (w : World) (hz : c.size = 1) (h0 : ∀ h, c[0]'h = d) (hc : c = ⟨#[d]⟩) :
    Calls Tryz.prog 127 #[.string s, .string c] w fun e w' => e = .returned (.int .i64 (idxI d s)) ∧ w = w' := by
  by_cases he : c = s
  · have HE := Box.mk (idxI_one d s (by rw [← hc]; exact he))
    have h1 : (c.toList == s.toList) = true := by rw [toList_eq]; simp [he]
    clear he hc
    go_enter Tryz.func127, Tryz.ntmps127
    go_wp2_with fail
    go_ret
    exact ⟨ret_int HE.out.symm, rfl⟩
  · have h1 : (c.toList == s.toList) = false := by rw [toList_eq]; simp [he]
    clear he hc
    go_enter Tryz.func127, Tryz.ntmps127
    go_wp2_with fail
    refine (indexByteLite_any s d _).mono ?_
    rintro e w1 ⟨rfl, rfl⟩
    go_wp2_with fail
    go_ret
    exact ⟨rfl, rfl⟩

set_option maxRecDepth 100000 in
set_option maxHeartbeats 2000000 in
theorem liteCutC_yes (d : UInt8) (s c : ByteArray) (k : Nat) (w : World) (hs : s.size ≤ maxLen) (hz : c.size = 1) (h0 : ∀ h, c[0]'h = d) (hc : c = ⟨#[d]⟩) (hk : idxI d s = k) :
    Calls Tryz.prog 116 #[.string s, .string c] w fun e w' => e = .returned (.tuple #[.string (s.extract 0 k), .string (s.extract (k + 1) s.size), .bool true]) ∧ Below w.heap.size w w' := by
  have hlt := idxI_lt d s hk
  unfold maxLen at hs
  have HK := Box.mk hk
  have H0 := Box.mk (And.intro h0 hc)
  clear hk h0 hc
  go_enter Tryz.func116, Tryz.ntmps116
  go_wp2_with fail
  refine (idxLiteC_any d s c _ hz H0.out.1 H0.out.2).mono ?_
  rintro e w1 ⟨he, rfl⟩
  rw [HK.out] at he
  subst he
  go_wp2_with fail
  go_quiet (fail)
  go_wp2
  go_ret3
  exact ⟨rfl, below_drewN (Below.refl _ _) _⟩

set_option maxRecDepth 100000 in
set_option maxHeartbeats 2000000 in
theorem liteCutC_no (d : UInt8) (s c : ByteArray) (w : World) (hz : c.size = 1) (h0 : ∀ h, c[0]'h = d) (hc : c = ⟨#[d]⟩) (hk : idxI d s = -1) :
    Calls Tryz.prog 116 #[.string s, .string c] w fun e w' => e = .returned (.tuple #[.string s, .string ⟨#[]⟩, .bool false]) ∧ Below w.heap.size w w' := by
  have HK := Box.mk hk
  have H0 := Box.mk (And.intro h0 hc)
  clear hk h0 hc
  go_enter Tryz.func116, Tryz.ntmps116
  go_wp2_with fail
  refine (idxLiteC_any d s c _ hz H0.out.1 H0.out.2).mono ?_
  rintro e w1 ⟨he, rfl⟩
  rw [HK.out] at he
  subst he
  go_wp2_with fail
  go_ret3
  exact ⟨rfl, Below.refl _ _⟩

set_option maxHeartbeats 2000000 in
theorem cutC_any (d : UInt8) (s : ByteArray) (w : World) (hs : s.size ≤ maxLen) :
    Calls Tryz.prog 93 #[.string s, .string ⟨#[d]⟩] w fun e w' => ∃ b, e = .returned (.tuple #[.string (cutS d s).1, .string (cutS d s).2, .bool b]) ∧ Below w.heap.size w w' := by
  rcases idxI_cases d s with hk | ⟨k, hk, _⟩
  · have HK := Box.mk hk
    have HC := Box.mk (cutS_no hk)
    clear hk
    go_enter Tryz.func93, Tryz.ntmps93
    go_wp2_with fail
    refine (liteCutC_no d s _ _ rfl (fun _ => rfl) rfl HK.out).mono ?_
    rintro e w1 ⟨rfl, hb⟩
    have HB := Box.mk hb
    clear hb
    go_wp2_with fail
    go_ret3
    exact ⟨false, by rw [HC.out]; rfl, HB.out⟩
  · have HK := Box.mk hk
    have HC := Box.mk (cutS_at hk)
    clear hk
    go_enter Tryz.func93, Tryz.ntmps93
    go_wp2_with fail
    refine (liteCutC_yes d s _ k _ hs rfl (fun _ => rfl) rfl HK.out).mono ?_
    rintro e w1 ⟨rfl, hb⟩
    have HB := Box.mk hb
    clear hb
    go_wp2_with fail
    go_ret3
    exact ⟨true, by rw [HC.out]; rfl, HB.out⟩

def versionS (z : Int) : ByteArray := if z = 0 then v10 else if z = 1 then v11 else ⟨#[]⟩
theorem fmtVersion_any (z : Int) (w : World) :
    Calls Tryz.prog 73 #[.int .i64 z] w fun e w' => e = .returned (.string (versionS z)) ∧ w = w' := by
  have hcase : z = 0 ∨ z = 1 ∨ (¬ z = 0 ∧ ¬ z = 1) := by omega
  rcases hcase with rfl | rfl | ⟨h0, h1⟩
  · go_enter Tryz.func73, Tryz.ntmps73
    go_wp2
    go_ret
    exact ⟨rfl, rfl⟩
  · go_enter Tryz.func73, Tryz.ntmps73
    go_wp2
    go_ret
    exact ⟨rfl, rfl⟩
  · have HR := Box.mk (show versionS z = ⟨#[]⟩ by unfold versionS; rw [if_neg h0, if_neg h1])
    have e0 : (z == 0) = false := by rw [beq_eq_false_iff_ne]; exact h0
    have e1 : (z == 1) = false := by rw [beq_eq_false_iff_ne]; exact h1
    clear h0 h1
    go_enter Tryz.func73, Tryz.ntmps73
    go_wp2
    go_ret
    exact ⟨ret_str HR.out.symm, rfl⟩

theorem projDigit_any (c : Int) (w : World) (h0 : 0 ≤ c) (h1 : c ≤ 255) :
    Calls Tryz.prog 131 #[.int .u8 c] w fun e w' => e = .returned (.bool (digB c)) ∧ w = w' := by
  go_enter Tryz.func131, Tryz.ntmps131
  go_wp2
  all_goals go_ret
  all_goals exact ⟨ret_bool (by unfold digB; rw [Bool.eq_iff_iff]; simp; omega), rfl⟩
def statB (n : Int) : Bool := decide (100 ≤ n) && decide (n ≤ 599)
theorem isStatus_any (n : Int) (w : World) :
    Calls Tryz.prog 78 #[.int .i64 n] w fun e w' => e = .returned (.bool (statB n)) ∧ w = w' := by
  go_enter Tryz.func78, Tryz.ntmps78
  go_wp2
  all_goals go_ret
  all_goals exact ⟨ret_bool (by unfold statB; rw [Bool.eq_iff_iff]; simp; omega), rfl⟩
end Go.Proofs.YtcdianojchmgpaaGreatDoor
namespace Go.Proofs.YtcdianojchmgpaaGreatDoor
open Go.RowKit

def pfxB (p s : ByteArray) : Bool := decide (p.size ≤ s.size ∧ s.extract 0 p.size = p)
set_option maxHeartbeats 1000000 in
theorem litePrefix_any (p s : ByteArray) (w : World) :
    Calls Tryz.prog 125 #[.string s, .string p] w fun e w' => e = .returned (.bool (pfxB p s)) ∧ w = w' := by
  by_cases h1 : p.size ≤ s.size
  · by_cases h2 : s.extract 0 p.size = p
    · have HR := Box.mk (show pfxB p s = true by unfold pfxB; simp [h1, h2])
      have hb : ((s.extract 0 p.size).toList == p.toList) = true := by rw [toList_eq]; simp [h2]
      clear h2
      go_enter Tryz.func125, Tryz.ntmps125
      go_wp2_with fail
      go_ret
      exact ⟨ret_bool HR.out.symm, rfl⟩
    · have HR := Box.mk (show pfxB p s = false by unfold pfxB; simp [h2])
      have hb : ((s.extract 0 p.size).toList == p.toList) = false := by rw [toList_eq]; simp [h2]
      clear h2
      go_enter Tryz.func125, Tryz.ntmps125
      go_wp2_with fail
      go_ret
      exact ⟨ret_bool HR.out.symm, rfl⟩
  · have HR := Box.mk (show pfxB p s = false by unfold pfxB; simp [h1])
    have h1' : s.size < p.size := by omega
    clear h1
    go_enter Tryz.func125, Tryz.ntmps125
    go_wp2_with fail
    go_ret
    exact ⟨ret_bool HR.out.symm, rfl⟩
theorem prefix_any (p s : ByteArray) (w : World) :
    Calls Tryz.prog 103 #[.string s, .string p] w fun e w' => e = .returned (.bool (pfxB p s)) ∧ w = w' := by
  go_enter Tryz.func103, Tryz.ntmps103
  go_wp2_with fail
  refine (litePrefix_any p s _).mono ?_
  rintro e w1 ⟨rfl, rfl⟩
  go_wp2_with fail
  go_ret
  exact ⟨rfl, rfl⟩
set_option maxHeartbeats 1000000 in
theorem liteCutPrefix_yes (p s : ByteArray) (w : World) (h : pfxB p s = true) :
    Calls Tryz.prog 147 #[.string s, .string p] w fun e w' => e = .returned (.tuple #[.string (s.extract p.size s.size), .bool true]) ∧ w = w' := by
  have HP := Box.mk h
  have hle : p.size ≤ s.size := by unfold pfxB at h; simp at h; exact h.1
  clear h
  go_enter Tryz.func147, Tryz.ntmps147
  go_wp2_with fail
  refine (litePrefix_any p s _).mono ?_
  rintro e w1 ⟨he, rfl⟩
  rw [HP.out] at he
  subst he
  go_wp2_with fail
  go_ret2
  exact ⟨rfl, rfl⟩
set_option maxHeartbeats 1000000 in
theorem liteCutPrefix_no (p s : ByteArray) (w : World) (h : pfxB p s = false) :
    Calls Tryz.prog 147 #[.string s, .string p] w fun e w' => e = .returned (.tuple #[.string s, .bool false]) ∧ w = w' := by
  have HP := Box.mk h
  clear h
  go_enter Tryz.func147, Tryz.ntmps147
  go_wp2_with fail
  refine (litePrefix_any p s _).mono ?_
  rintro e w1 ⟨he, rfl⟩
  rw [HP.out] at he
  subst he
  go_wp2_with fail
  go_ret2
  exact ⟨rfl, rfl⟩
theorem cutPrefix_yes (p s : ByteArray) (w : World) (h : pfxB p s = true) :
    Calls Tryz.prog 130 #[.string s, .string p] w fun e w' => e = .returned (.tuple #[.string (s.extract p.size s.size), .bool true]) ∧ w = w' := by
  have HP := Box.mk h
  clear h
  go_enter Tryz.func130, Tryz.ntmps130
  go_wp2_with fail
  refine (liteCutPrefix_yes p s _ HP.out).mono ?_
  rintro e w1 ⟨rfl, rfl⟩
  go_wp2_with fail
  go_ret2
  exact ⟨rfl, rfl⟩
theorem cutPrefix_no (p s : ByteArray) (w : World) (h : pfxB p s = false) :
    Calls Tryz.prog 130 #[.string s, .string p] w fun e w' => e = .returned (.tuple #[.string s, .bool false]) ∧ w = w' := by
  have HP := Box.mk h
  clear h
  go_enter Tryz.func130, Tryz.ntmps130
  go_wp2_with fail
  refine (liteCutPrefix_no p s _ HP.out).mono ?_
  rintro e w1 ⟨rfl, rfl⟩
  go_wp2_with fail
  go_ret2
  exact ⟨rfl, rfl⟩

theorem pfx_slash (s : ByteArray) : pfxB ⟨#[47]⟩ s = (s.data.toList.head? == some 47) := by
  unfold pfxB
  have h1 : (⟨#[47]⟩ : ByteArray).size = 1 := rfl
  rw [h1]
  by_cases h : 0 < s.size
  · rw [head_at s h]
    have hl : s.data.toList.length = s.size := by rw [Array.length_toList]; rfl
    have e : (s.extract 0 1).data.toList = [s[0]] := by
      rw [Lib.extract_from_zero]
      cases hq : s.data.toList with
      | nil => rw [hq] at hl; simp at hl; omega
      | cons a t =>
        have : s.data.toList.head? = some s[0] := head_at s h
        rw [hq] at this
        simp at this
        simp [this]
    rw [Bool.eq_iff_iff]
    simp only [decide_eq_true_eq, beq_iff_eq, Option.some.injEq]
    constructor
    · rintro ⟨_, h2⟩
      rw [h2] at e
      simpa using e.symm
    · intro h2
      exact ⟨h, ba_ext (by rw [e, h2])⟩
  · have hl : s.data.toList.length = s.size := by rw [Array.length_toList]; rfl
    have e : s.data.toList = [] := List.eq_nil_of_length_eq_zero (by omega)
    rw [e, Bool.eq_iff_iff]
    simp only [decide_eq_true_eq]
    constructor
    · rintro ⟨h2, _⟩; omega
    · intro h2; simp at h2

theorem take_more (P : UInt8 → Bool) (s : ByteArray) (pos : Nat) (h : (s.data.toList.take pos).all P = true) : ∀ n, pos + n ≤ s.size → (∀ k, k < n → ∀ hk : pos + k < s.size, P (s[pos + k]'hk) = true) → (s.data.toList.take (pos + n)).all P = true
  | 0, _, _ => h
  | n + 1, hle, hk => by
    have ih := take_more P s pos h n (by omega) (fun k hk1 hk2 => hk k (by omega) hk2)
    rw [← Nat.add_assoc, take_snoc s (pos + n) (by omega), List.all_append, ih]
    simpa using hk n (by omega) (by omega)
theorem valB_high {c : UInt8} (h : 128 ≤ c.toNat) : valB c = true := by
  unfold valB; simp; right; omega

set_option maxRecDepth 100000 in
set_option maxHeartbeats 2000000 in
theorem projTarget_any (s : ByteArray) (w : World) :
    Calls Tryz.prog 75 #[.string s] w fun e w' => e = .returned (.bool (targetS s)) ∧ Below w.heap.size w w' := by
  go_enter Tryz.func75, Tryz.ntmps75
  go_wp2_with fail
  go_loopw [] (fun w' => ∃ pos : Nat, w' = w.iter s pos ∧ pos ≤ s.size ∧ Box ((s.data.toList.take pos).all tgB = true)) (fun w' => s.size - w'.iterPos w.heap.size)
  case atStart => exact ⟨0, rfl, Nat.zero_le _, ⟨by simp⟩⟩
  case round =>
    obtain ⟨pos, rfl, hk, HP⟩ := hrel
    by_cases hp : pos < s.size
    · by_cases ha : s[pos].toNat < 128
      · have hnx : ∀ ty, (Instr.next (.pointer (some ⟨w.heap.size, 0, none⟩)) true ty).run Tryz.prog (w.iter s pos) = _ := fun ty => run_next_ascii w s pos ty hp ha
        have hcase : Box (tgB s[pos] = true) ∧ 33 ≤ (s[pos].toNat : Int) ∧ (s[pos].toNat : Int) ≤ 126 ∧ ((s[pos].toNat : Int) == 35) = false ∨ Box (tgB s[pos] = false) ∧ (s[pos].toNat : Int) < 33
            ∨ Box (tgB s[pos] = false) ∧ 33 ≤ (s[pos].toNat : Int) ∧ 126 < (s[pos].toNat : Int) ∨ Box (tgB s[pos] = false) ∧ 33 ≤ (s[pos].toNat : Int) ∧ (s[pos].toNat : Int) ≤ 126 ∧ ((s[pos].toNat : Int) == 35) = true := by
          by_cases h1 : 33 ≤ (s[pos].toNat : Int)
          · by_cases h2 : (s[pos].toNat : Int) ≤ 126
            · by_cases h3 : (s[pos].toNat : Int) = 35
              · exact .inr (.inr (.inr ⟨⟨by simp [tgB, h3]⟩, h1, h2, by simp [h3]⟩))
              · exact .inl ⟨⟨by simp [tgB, h1, h2, h3]⟩, h1, h2, by rw [beq_eq_false_iff_ne]; exact h3⟩
            · exact .inr (.inr (.inl ⟨⟨by simp [tgB, h2]⟩, h1, by omega⟩))
          · exact .inr (.inl ⟨⟨by simp [tgB, h1]⟩, by omega⟩)
        rcases hcase with ⟨HC, h1, h2, h3⟩ | ⟨HC, h1⟩ | ⟨HC, h1, h2⟩ | ⟨HC, h1, h2, h3⟩
        · go_wp2_with fail
          go_roundw
          case rel => exact ⟨pos + 1, rfl, by omega, ⟨by rw [take_snoc s pos hp, List.all_append, HP.out]; simpa using HC.out⟩⟩
          case measure => simp; omega
        all_goals
          go_wp2_with fail
          go_ret
          exact ⟨ret_bool (targetS_no hp HC.out).symm, below_oneF w _⟩
      · have hd := (decode_high s pos hp (by omega)).1
        have hnx : ∀ ty, (Instr.next (.pointer (some ⟨w.heap.size, 0, none⟩)) true ty).run Tryz.prog (w.iter s pos) = _ := fun ty => run_next_any w s pos ty hp
        have HC := Box.mk (show tgB s[pos] = false by unfold tgB; simp; omega)
        generalize (Utf8.decode s pos).1 = r at *
        generalize (Utf8.decode s pos).2 = wd at *
        clear ha
        have h1 : 33 ≤ (r : Int) := by omega
        have h2 : 126 < (r : Int) := by omega
        go_wp2_with fail
        go_ret
        exact ⟨ret_bool (targetS_no hp HC.out).symm, below_oneF w _⟩
    · have hnx : ∀ ty, (Instr.next (.pointer (some ⟨w.heap.size, 0, none⟩)) true ty).run Tryz.prog (w.iter s pos) = _ := fun ty => run_next_end w s pos ty hp
      have HE := Box.mk (targetS_end hk hp HP.out)
      go_wp2_with fail
      refine (prefix_any ⟨#[47]⟩ s _).mono ?_
      rintro e w1 ⟨rfl, rfl⟩
      go_wp2_with fail
      go_ret
      exact ⟨ret_bool (by rw [HE.out]; exact pfx_slash s), below_oneF w _⟩

set_option maxRecDepth 100000 in
set_option maxHeartbeats 2000000 in
theorem isReason_any (s : ByteArray) (w : World) :
    Calls Tryz.prog 79 #[.string s] w fun e w' => e = .returned (.bool (visS s)) ∧ Below w.heap.size w w' := by
  go_enter Tryz.func79, Tryz.ntmps79
  go_wp2_with fail
  go_loopw [] (fun w' => ∃ pos : Nat, w' = w.iter s pos ∧ pos ≤ s.size ∧ Box ((s.data.toList.take pos).all valB = true)) (fun w' => s.size - w'.iterPos w.heap.size)
  case atStart => exact ⟨0, rfl, Nat.zero_le _, ⟨by simp⟩⟩
  case round =>
    obtain ⟨pos, rfl, hk, HP⟩ := hrel
    by_cases hp : pos < s.size
    · by_cases ha : s[pos].toNat < 128
      · have hnx : ∀ ty, (Instr.next (.pointer (some ⟨w.heap.size, 0, none⟩)) true ty).run Tryz.prog (w.iter s pos) = _ := fun ty => run_next_ascii w s pos ty hp ha
        have hcase : Box (valB s[pos] = true) ∧ ((s[pos].toNat : Int) != 9) = false ∧ ((s[pos].toNat : Int) == 127) = false ∨ Box (valB s[pos] = true) ∧ ((s[pos].toNat : Int) != 9) = true ∧ 32 ≤ (s[pos].toNat : Int) ∧ ((s[pos].toNat : Int) == 127) = false
            ∨ Box (valB s[pos] = false) ∧ ((s[pos].toNat : Int) != 9) = true ∧ (s[pos].toNat : Int) < 32 ∨ Box (valB s[pos] = false) ∧ ((s[pos].toNat : Int) != 9) = true ∧ 32 ≤ (s[pos].toNat : Int) ∧ ((s[pos].toNat : Int) == 127) = true := by
          by_cases h9 : (s[pos].toNat : Int) = 9
          · exact .inl ⟨⟨by simp [valB, h9]⟩, by simp [h9], by simp [h9]⟩
          · have e9 : ((s[pos].toNat : Int) != 9) = true := by rw [bne_iff_ne]; exact h9
            by_cases h32 : 32 ≤ (s[pos].toNat : Int)
            · by_cases h127 : (s[pos].toNat : Int) = 127
              · exact .inr (.inr (.inr ⟨⟨by simp [valB, h127]⟩, e9, h32, by simp [h127]⟩))
              · exact .inr (.inl ⟨⟨by simp [valB, h127, h32]⟩, e9, h32, by rw [beq_eq_false_iff_ne]; exact h127⟩)
            · exact .inr (.inr (.inl ⟨⟨by simp [valB, h9, h32]⟩, e9, by omega⟩))
        rcases hcase with ⟨HC, h1, h2⟩ | ⟨HC, h1, h2, h3⟩ | ⟨HC, h1, h2⟩ | ⟨HC, h1, h2, h3⟩
        · go_wp2_with fail
          go_roundw
          case rel => exact ⟨pos + 1, rfl, by omega, ⟨by rw [take_snoc s pos hp, List.all_append, HP.out]; simpa using HC.out⟩⟩
          case measure => simp; omega
        · go_wp2_with fail
          go_roundw
          case rel => exact ⟨pos + 1, rfl, by omega, ⟨by rw [take_snoc s pos hp, List.all_append, HP.out]; simpa using HC.out⟩⟩
          case measure => simp; omega
        all_goals
          go_wp2_with fail
          go_ret
          exact ⟨ret_bool (visS_no hp HC.out).symm, below_oneF w _⟩
      · obtain ⟨hd, hwd⟩ := decode_high s pos hp (by omega)
        obtain ⟨hsk, hby⟩ := decode_skip s pos hp (by omega)
        have hnx : ∀ ty, (Instr.next (.pointer (some ⟨w.heap.size, 0, none⟩)) true ty).run Tryz.prog (w.iter s pos) = _ := fun ty => run_next_any w s pos ty hp
        have HN := Box.mk (take_more valB s pos HP.out _ hsk (fun k h1 h2 => valB_high (hby k h1 h2)))
        clear hby
        generalize (Utf8.decode s pos).1 = r at *
        generalize (Utf8.decode s pos).2 = wd at *
        clear ha
        have h1 : ((r : Int) != 9) = true := by rw [bne_iff_ne]; omega
        have h2 : 32 ≤ (r : Int) := by omega
        have h3 : ((r : Int) == 127) = false := by rw [beq_eq_false_iff_ne]; omega
        go_wp2_with fail
        go_roundw
        case rel => exact ⟨pos + wd, rfl, hsk, HN⟩
        case measure => simp; omega
    · have hnx : ∀ ty, (Instr.next (.pointer (some ⟨w.heap.size, 0, none⟩)) true ty).run Tryz.prog (w.iter s pos) = _ := fun ty => run_next_end w s pos ty hp
      have HE := Box.mk (visS_yes hk hp HP.out)
      go_wp2_with fail
      go_ret
      exact ⟨ret_bool HE.out.symm, below_oneF w _⟩
end Go.Proofs.YtcdianojchmgpaaGreatDoor
namespace Go.Proofs.YtcdianojchmgpaaGreatDoor
open Go.RowKit

def hslash : ByteArray := ⟨#[72, 84, 84, 80, 47]⟩
def bAt (s : ByteArray) (k : Nat) : UInt8 := s.data.toList.getD k 0
theorem bAt_get (s : ByteArray) (k : Nat) (h : k < s.size) : s[k] = bAt s k := by
  unfold bAt
  rw [List.getD_eq_getElem?_getD, List.getElem?_eq_getElem (by simpa using h)]; rfl
theorem bAt_extract (s : ByteArray) (a b k : Nat) (h : k < (s.extract a b).size) : (s.extract a b)[k]'h = bAt s (a + k) := by
  rw [bAt_get]
  unfold bAt
  rw [Lib.extract_data]
  have h2 : k < b - a := by rw [ByteArray.size_extract] at h; omega
  rw [List.getD_eq_getElem?_getD, List.getD_eq_getElem?_getD, List.getElem?_take_of_lt h2, List.getElem?_drop]
/-- HTTP/, a digit, a point, a digit. -/
def verB (s : ByteArray) : Bool := pfxB hslash s && decide (s.size = 8) && digB (bAt s 5).toNat && decide (bAt s 6 = 46) && digB (bAt s 7).toNat
theorem eq46 {c : UInt8} (h : c = 46) : ((c.toNat : Int) == 46) = true := by rw [h]; rfl
theorem ne46 {c : UInt8} (h : ¬ c = 46) : ((c.toNat : Int) == 46) = false := by
  rw [Bool.eq_false_iff]; intro h2; exact h (UInt8.toNat_inj.1 (by simp at h2; show c.toNat = 46; omega))
theorem u8_le (c : UInt8) : (c.toNat : Int) ≤ 255 := by have := c.toNat_lt; omega

set_option maxRecDepth 100000 in
set_option maxHeartbeats 1000000 in
theorem isVersion_any (s : ByteArray) (w : World) :
    Calls Tryz.prog 114 #[.string s] w fun e w' => e = .returned (.bool (verB s)) ∧ w = w' := by
  by_cases hp : pfxB hslash s = true
  · have HP := Box.mk hp
    have hle : 5 ≤ s.size := by unfold pfxB at hp; simp at hp; exact hp.1
    clear hp
    by_cases h8 : s.size = 8
    · have hg0 := bAt_extract s 5 s.size 0
      have hg1 := bAt_extract s 5 s.size 1
      have hg2 := bAt_extract s 5 s.size 2
      have hz : (s.extract 5 s.size).size = 3 := by rw [ByteArray.size_extract]; omega
      have HD := Box.mk (show ∀ b : Bool, verB s = (digB (bAt s 5).toNat && decide (bAt s 6 = 46) && digB (bAt s 7).toNat) from fun _ => by unfold verB; rw [HP.out]; simp [h8])
      simp only [Nat.add_zero, Nat.reduceAdd] at hg0 hg1 hg2
      generalize bAt s 5 = c5 at *
      generalize bAt s 6 = c6 at *
      generalize bAt s 7 = c7 at *
      generalize hd : s.extract 5 s.size = d at *
      have HDD := Box.mk hd
      have u5 := u8_le c5
      have u6 := u8_le c6
      have u7 := u8_le c7
      clear hd h8
      by_cases q0 : digB c5.toNat = true
      · have Q0 := Box.mk q0
        clear q0
        by_cases q1 : c6 = 46
        · have e1 := eq46 q1
          have Q1 := Box.mk q1
          clear q1
          go_enter Tryz.func114, Tryz.ntmps114
          go_wp2_with fail
          refine (cutPrefix_yes hslash s _ HP.out).mono ?_
          rintro e w1 ⟨he, rfl⟩
          change e = .returned (.tuple #[.string (s.extract 5 s.size), .bool true]) at he
          rw [HDD.out] at he
          subst he
          go_wp2_with fail
          refine (projDigit_any _ _ (by omega) u5).mono ?_
          rintro e w1 ⟨he, rfl⟩
          rw [Q0.out] at he
          subst he
          go_wp2_with fail
          refine (projDigit_any _ _ (by omega) u7).mono ?_
          rintro e w1 ⟨rfl, rfl⟩
          generalize hq : digB c7.toNat = q
          have HQ := Box.mk hq
          clear hq
          go_wp2_with fail
          go_ret
          exact ⟨ret_bool (by rw [HD.out true, Q0.out, Q1.out, HQ.out]; rfl), rfl⟩
        · have e1 := ne46 q1
          have Q1 := Box.mk q1
          clear q1
          go_enter Tryz.func114, Tryz.ntmps114
          go_wp2_with fail
          refine (cutPrefix_yes hslash s _ HP.out).mono ?_
          rintro e w1 ⟨he, rfl⟩
          change e = .returned (.tuple #[.string (s.extract 5 s.size), .bool true]) at he
          rw [HDD.out] at he
          subst he
          go_wp2_with fail
          refine (projDigit_any _ _ (by omega) u5).mono ?_
          rintro e w1 ⟨he, rfl⟩
          rw [Q0.out] at he
          subst he
          go_wp2_with fail
          go_ret
          exact ⟨ret_bool (by rw [HD.out true, Q0.out, decide_eq_false Q1.out]; rfl), rfl⟩
      · have Q0 := Box.mk (show digB c5.toNat = false by simpa using q0)
        clear q0
        go_enter Tryz.func114, Tryz.ntmps114
        go_wp2_with fail
        refine (cutPrefix_yes hslash s _ HP.out).mono ?_
        rintro e w1 ⟨he, rfl⟩
        change e = .returned (.tuple #[.string (s.extract 5 s.size), .bool true]) at he
        rw [HDD.out] at he
        subst he
        go_wp2_with fail
        refine (projDigit_any _ _ (by omega) u5).mono ?_
        rintro e w1 ⟨he, rfl⟩
        rw [Q0.out] at he
        subst he
        go_wp2_with fail
        go_ret
        exact ⟨ret_bool (by rw [HD.out true, Q0.out]; rfl), rfl⟩
    · have HR := Box.mk (show verB s = false by unfold verB; rw [decide_eq_false h8]; simp)
      have hz : ((((s.extract 5 s.size).size : Nat) : Int) == 3) = false := by rw [beq_eq_false_iff_ne, ByteArray.size_extract]; omega
      generalize hd : s.extract 5 s.size = d at *
      have HDD := Box.mk hd
      clear hd h8
      go_enter Tryz.func114, Tryz.ntmps114
      go_wp2_with fail
      refine (cutPrefix_yes hslash s _ HP.out).mono ?_
      rintro e w1 ⟨he, rfl⟩
      change e = .returned (.tuple #[.string (s.extract 5 s.size), .bool true]) at he
      rw [HDD.out] at he
      subst he
      go_wp2_with fail
      go_ret
      exact ⟨ret_bool HR.out.symm, rfl⟩
  · have HP := Box.mk (show pfxB hslash s = false by simpa using hp)
    have HR := Box.mk (show verB s = false by unfold verB; rw [HP.out]; rfl)
    clear hp
    go_enter Tryz.func114, Tryz.ntmps114
    go_wp2_with fail
    refine (cutPrefix_no hslash s _ HP.out).mono ?_
    rintro e w1 ⟨rfl, rfl⟩
    go_wp2_with fail
    go_ret
    exact ⟨ret_bool HR.out.symm, rfl⟩

/-- The minor number of a version, and the error. -/
def verZ (s : ByteArray) : Int × Int := if s = v10 then (0, 0) else if s = v11 then (1, 0) else if verB s then (0, 6) else (0, 2)
set_option maxHeartbeats 1000000 in
theorem parseVersion_any (s : ByteArray) (w : World) :
    Calls Tryz.prog 88 #[.string s] w fun e w' => e = .returned (.tuple #[.int .i64 (verZ s).1, .int .i64 (verZ s).2]) ∧ w = w' := by
  by_cases h0 : s = v10
  · have HR := Box.mk (show verZ s = (0, 0) by unfold verZ; rw [if_pos h0])
    have h1 : (s.toList == [72, 84, 84, 80, 47, 49, 46, 48]) = true := by rw [lit10, toList_eq]; simp; exact h0
    clear h0
    go_enter Tryz.func88, Tryz.ntmps88
    go_wp2_with fail
    go_ret2
    exact ⟨by rw [HR.out]; rfl, rfl⟩
  · have h1 : (s.toList == [72, 84, 84, 80, 47, 49, 46, 48]) = false := by rw [lit10, toList_eq]; simp; exact h0
    by_cases h2 : s = v11
    · have HR := Box.mk (show verZ s = (1, 0) by unfold verZ; rw [if_neg h0, if_pos h2])
      have h3 : (s.toList == [72, 84, 84, 80, 47, 49, 46, 49]) = true := by rw [lit11, toList_eq]; simp; exact h2
      clear h0 h2
      go_enter Tryz.func88, Tryz.ntmps88
      go_wp2_with fail
      go_ret2
      exact ⟨by rw [HR.out]; rfl, rfl⟩
    · have h3 : (s.toList == [72, 84, 84, 80, 47, 49, 46, 49]) = false := by rw [lit11, toList_eq]; simp; exact h2
      by_cases h4 : verB s = true
      · have HR := Box.mk (show verZ s = (0, 6) by unfold verZ; rw [if_neg h0, if_neg h2, if_pos h4])
        have H4 := Box.mk h4
        clear h0 h2 h4
        go_enter Tryz.func88, Tryz.ntmps88
        go_wp2_with fail
        refine (isVersion_any s _).mono ?_
        rintro e w1 ⟨he, rfl⟩
        rw [H4.out] at he
        subst he
        go_wp2_with fail
        go_ret2
        exact ⟨by rw [HR.out]; rfl, rfl⟩
      · have HR := Box.mk (show verZ s = (0, 2) by unfold verZ; rw [if_neg h0, if_neg h2, if_neg h4])
        have H4 := Box.mk (show verB s = false by simpa using h4)
        clear h0 h2 h4
        go_enter Tryz.func88, Tryz.ntmps88
        go_wp2_with fail
        refine (isVersion_any s _).mono ?_
        rintro e w1 ⟨he, rfl⟩
        rw [H4.out] at he
        subst he
        go_wp2_with fail
        go_ret2
        exact ⟨by rw [HR.out]; rfl, rfl⟩

def codeZ (s : ByteArray) : Int := if s.size = 3 then (parseS 10 599 s).1 else 0
set_option maxHeartbeats 1000000 in
theorem parseCode_any (s : ByteArray) (w : World) (hs : s.size ≤ maxLen) :
    Calls Tryz.prog 94 #[.string s] w fun e w' => e = .returned (.int .i64 (codeZ s)) ∧ w = w' := by
  by_cases h3 : s.size = 3
  · have HR := Box.mk (show codeZ s = (parseS 10 599 s).1 by unfold codeZ; rw [if_pos h3])
    have hb : (((s.size : Nat) : Int) != 3) = false := by rw [h3]; rfl
    clear h3
    go_enter Tryz.func94, Tryz.ntmps94
    go_wp2_with fail
    refine (parseDecimal_any s 599 _ hs (by decide) (by decide)).mono ?_
    rintro e w1 ⟨he, rfl⟩
    generalize hq : parseS 10 599 s = q at he
    have HQ := Box.mk hq
    clear hq
    subst he
    go_wp2_with fail
    go_ret
    exact ⟨ret_int (by rw [HR.out, HQ.out]), rfl⟩
  · have HR := Box.mk (show codeZ s = 0 by unfold codeZ; rw [if_neg h3])
    have hb : (((s.size : Nat) : Int) != 3) = true := by rw [bne_iff_ne]; omega
    clear h3
    go_enter Tryz.func94, Tryz.ntmps94
    go_wp2_with fail
    go_ret
    exact ⟨ret_int HR.out.symm, rfl⟩
end Go.Proofs.YtcdianojchmgpaaGreatDoor
