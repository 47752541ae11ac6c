/- Parse of the reference. -/
import Derived.Test.YtcniajbfgfikjaaDoorFldJ
import Derived.Test.YtcniajbfgfikjaaDoorLocP
import Derived.Laws.Strings3
namespace Go.Proofs.YtcniajbfgfikjaaDoor
open Go.RowKit

theorem colonI_at (s : ByteArray) (k : Nat) (hk : k < s.size) (h : s[k] = (58 : UInt8)) (hp : ∀ j, j < k → s.data.toList[j]? ≠ some 58) : colonI s = k := by
  have hge := colonI_ge s
  have hkk : s.data.toList[k]? = some 58 := by
    rw [List.getElem?_eq_getElem (by simpa using hk)]
    exact congrArg some h
  by_cases h1 : colonI s = -1
  · exact absurd hkk (Lib.indexByte_none h1 k)
  · obtain ⟨o, ho⟩ : ∃ o : Nat, colonI s = o := ⟨(colonI s).toNat, by omega⟩
    have h2 := Lib.indexByte_some ho
    rw [ho]
    congr 1
    rcases Nat.lt_trichotomy o k with h3 | h3 | h3
    · exact absurd h2.1 (hp o h3)
    · exact h3
    · exact absurd hkk (h2.2 k h3)
theorem colonI_none (s : ByteArray) (k : Nat) (hk : k ≤ s.size) (hlt : ¬ k < s.size) (hp : ∀ j, j < k → s.data.toList[j]? ≠ some 58) : colonI s = -1 := by
  have hge := colonI_ge s
  by_cases h1 : colonI s = -1
  · exact h1
  · obtain ⟨o, ho⟩ : ∃ o : Nat, colonI s = o := ⟨(colonI s).toNat, by omega⟩
    have h2 := Lib.indexByte_some ho
    have h3 := colonI_lt s ho
    exact absurd h2.1 (hp o (by omega))

section
variable {Q : Exit → Act → World → Prop} {a : Act} {w : World} {o : Oper} {s : Spec}
theorem loc_sub_to {x y : Operand} (ho : o.op = .slice 9 x none (some y) none) {b : ByteArray} {k : Nat} (hx : a.eval x = .string b) (hy : a.eval y = .int .i64 k) (hk : k ≤ b.size) (hs : s.p (.string (b.extract 0 k)) w) :
    o.wp Tryd.prog a w (fun a' w' => ∃ v, a' = a.put o.dst v ∧ Below w.heap.size w w' ∧ s.p v w') Q := by
  have hrun : (Instr.slice 9 (.string b) none (some (.int .i64 (k : Int))) none).run Tryd.prog w = .ok (.string (b.extract 0 k)) w := by
    rw [run_slice_string_to_if w 9 b .i64 (k : Int) Tryd.underlying9, if_pos (by omega)]
    rfl
  refine loc_run (v := .string (b.extract 0 k)) ?_ (Below.refl _ _) hs
  unfold execOp
  simp only [ho, hx, hy, Option.map_some, Option.map_none, Sem.run_bind, run_sliceAt_string w _ _ _ _ _ Tryd.underlying9, hrun, Result.andThen_ok, Sem.run_pure]
theorem loc_sub_from {x y : Operand} (ho : o.op = .slice 9 x (some y) none none) {b : ByteArray} {k : Nat} (hx : a.eval x = .string b) (hy : a.eval y = .int .i64 k) (hk : k ≤ b.size) (hs : s.p (.string (b.extract k b.size)) w) :
    o.wp Tryd.prog a w (fun a' w' => ∃ v, a' = a.put o.dst v ∧ Below w.heap.size w w' ∧ s.p v w') Q := by
  have hrun : (Instr.slice 9 (.string b) (some (.int .i64 (k : Int))) none none).run Tryd.prog w = .ok (.string (b.extract k b.size)) w := by
    rw [run_slice_string_from_if w 9 b .i64 (k : Int) Tryd.underlying9, if_pos (by omega)]
    rfl
  refine loc_run (v := .string (b.extract k b.size)) ?_ (Below.refl _ _) hs
  unfold execOp
  simp only [ho, hx, hy, Option.map_some, Option.map_none, Sem.run_bind, run_sliceAt_string w _ _ _ _ _ Tryd.underlying9, hrun, Result.andThen_ok, Sem.run_pure]
theorem loc_addF {x y : Operand} {t : TypeId} (ho : o.op = .binOp .add 3 x y t) {m k : Nat} (hx : a.eval x = .int .i64 m) (hy : a.eval y = .int .i64 k) (hn : m + k ≤ 9223372036854775807) (hs : s.p (.int .i64 ((m + k : Nat) : Int)) w) :
    o.wp Tryd.prog a w (fun a' w' => ∃ v, a' = a.put o.dst v ∧ Below w.heap.size w w' ∧ s.p v w') Q :=
  loc_run (v := .int .i64 ((m + k : Nat) : Int)) (by
    have e : IntKind.i64.wrap ((m : Int) + k) = ((m + k : Nat) : Int) := by
      simp only [IntKind.wrap, IntKind.bits, IntKind.signed]; simp; omega
    have h : (Op.intArith .add .i64 (m : Int) (k : Int)).run Tryd.prog w = .ok (.int .i64 ((m + k : Nat) : Int)) w := by
      unfold Op.intArith
      rw [← e]; rfl
    unfold execOp
    simp only [ho, hx, hy]
    simp [eqGuard, binOp, h, Result.andThen]) (Below.refl _ _) hs
theorem loc_buildF {x y : Operand} (ho : o.op = .build 28 #[(0, x), (1, y)]) {b c : ByteArray} (hx : a.eval x = .string b) (hy : a.eval y = .string c) (hs : s.p (.agg #[.string b, .string c]) w) :
    o.wp Tryd.prog a w (fun a' w' => ∃ v, a' = a.put o.dst v ∧ Below w.heap.size w w' ∧ s.p v w') Q := by
  refine loc_run (v := .agg #[.string b, .string c]) ?_ (Below.refl _ _) hs
  have hb := run_build (P := Tryd.prog) w 28 #[(0, .string b), (1, .string c)] #[.string b, .string c] (by kernel_rfl)
  unfold execOp
  simp only [ho, List.map_toArray, List.map_cons, List.map_nil, hx, hy, Sem.run_bind, hb, Result.andThen_ok, Sem.run_pure]
def FRow (B : Nat) (w : World) (v : Value) : Prop := ∃ g, v = .pointer (some ⟨g, 0, none⟩) ∧ B ≤ g ∧ FVar w g ⟨#[]⟩ ⟨#[]⟩
def Spec.frow (B : Nat) : Spec := ⟨fun v w => FRow B w v, fun v w w' h hb => by
  obtain ⟨g, h1, h2, h3⟩ := h
  exact ⟨g, h1, h2, h3.keep hb⟩⟩
theorem loc_allocF (ho : o.op = .alloc 28) {B : Nat} (hB : B ≤ w.heap.size) (hs : ∀ v w', FRow B w' v → s.p v w') :
    o.wp Tryd.prog a w (fun a' w' => ∃ v, a' = a.put o.dst v ∧ Below w.heap.size w w' ∧ s.p v w') Q := by
  have hz : (Tryd.prog.info? 28).bind (·.zero) = some (.agg #[.string ⟨#[]⟩, .string ⟨#[]⟩]) := by kernel_rfl
  refine loc_run (v := .pointer (some ⟨w.heap.size, 0, none⟩)) (w' := w.alloc (.cells #[.string ⟨#[]⟩, .string ⟨#[]⟩] 28)) ?_ (below_oneF _ _) (hs _ _ ⟨_, rfl, hB, heap_alloc_new _ _⟩)
  cases hq : Tryd.prog.info? 28 with
  | none => rw [hq] at hz; cases hz
  | some i =>
    rw [hq] at hz
    simp only [Option.bind_some] at hz
    unfold execOp
    simp [ho, Instr.alloc, zeroValue, typeInfo, hq, hz, newRow, newVar, Value.cells]
end

set_option maxRecDepth 100000 in
set_option maxHeartbeats 2000000 in
theorem refParse_any (s : ByteArray) (w : World) (hs : s.size ≤ maxLen) :
    Calls Tryd.prog 31 #[.string s] w fun e w' => e = .returned (parseV (parseF s)) ∧ Below w.heap.size w w' := by
  have hs0 := Box.mk hs
  unfold maxLen at hs
  go_enter Tryd.func31, Tryd.ntmps31
  go_wp2_with fail
  obtain ⟨W, hW⟩ : ∃ W, W = w.alloc (.cells #[.string ⟨#[]⟩, .string ⟨#[]⟩] 28) := ⟨_, rfl⟩
  have HB := Box.mk (below_oneF w (.cells #[.string ⟨#[]⟩, .string ⟨#[]⟩] 28))
  have HR := Box.mk (FVar.new w ⟨#[]⟩ ⟨#[]⟩)
  rw [← hW] at HB HR ⊢
  clear hW
  generalize hg : w.heap.size = g at *
  have HG := Box.mk hg
  clear hg
  go_loop [4] (fun iv => ∃ k : Nat, k ≤ s.size ∧ iv = .int .i64 k ∧ Box (∀ j, j < k → s.data.toList[j]? ≠ some 58)) (fun iv => s.size - (intOf iv).toNat)
  case atStart => exact ⟨0, Nat.zero_le _, rfl, ⟨fun j hj => absurd hj (Nat.not_lt_zero _)⟩⟩
  case round =>
    obtain ⟨k, hk, rfl, HM⟩ := hrel
    by_cases hlt : k < s.size
    · by_cases hc : s[k] = 58
      · have HC := Box.mk (colonI_at s k hlt hc HM.out)
        have HP0 := Box.mk (parseF_at HC.out)
        have HZ := Box.mk (And.intro (Nat.le_trans (extract_le s 0 k) hs0.out) (Nat.le_trans (extract_le s (k + 1) s.size) hs0.out))
        have hb : ((s[k].toNat : Int) == 58) = true := by rw [hc]; rfl
        clear hc
        go_wp2_with fail

        rename_i K hK _
        refine wp_region_last (S := [some (.val (.string s)), some (.val (.int .i64 k)), some (.val (.string (s.extract 0 k))), some (.val (.string s)), some (.val (.int .i64 k)), some (.val (.int .i64 ((k + 1 : Nat) : Int))), some (.val (.string (s.extract (k + 1) s.size))),
          some (.val (.string (trimBA (s.extract (k + 1) s.size)))), some (.val (.agg #[.string (s.extract 0 k), .string (trimBA (s.extract (k + 1) s.size))])), some (.of (.frow W.heap.size)), none]) 10 (by kernel_rfl) (by kernel_rfl) (by kernel_rfl) (by kernel_rfl) rfl rfl rfl ?_ ?_
        · refine ⟨?_, ?_, ?_, ?_, ?_, ?_, ?_, ?_, ?_, ?_, trivial⟩ <;> intro a w1 hb1 hf hd
          · exact ⟨wanted_none rfl, loc_move rfl (hf.base 0 rfl)⟩
          · exact ⟨wanted_none rfl, loc_move rfl (hf.base 4 rfl)⟩
          · exact ⟨wanted_none rfl, loc_sub_to rfl (hd 0 rfl) (hd 1 rfl) hk rfl⟩
          · exact ⟨wanted_none rfl, loc_move rfl (hf.base 0 rfl)⟩
          · exact ⟨wanted_none rfl, loc_move rfl (hf.base 4 rfl)⟩
          · exact ⟨wanted_none rfl, loc_addF rfl (m := k) (k := 1) (hd 4 rfl) rfl (by omega) rfl⟩
          · exact ⟨wanted_none rfl, loc_sub_from rfl (hd 3 rfl) (hd 5 rfl) hlt rfl⟩
          · refine ⟨wanted_none rfl, loc_call rfl (by kernel_rfl) ?_⟩
            show Calls _ _ #[a.eval (.tmp 22)] w1 _
            rw [show a.eval (.tmp 22) = .string (s.extract (k + 1) s.size) from hd 6 rfl]
            refine (refTrim_any _ w1 HZ.out.2).mono ?_
            rintro e w' ⟨rfl, rfl⟩
            exact ⟨_, rfl, Below.refl _ _, rfl⟩
          · exact ⟨wanted_none rfl, loc_buildF rfl (hd 2 rfl) (hd 7 rfl) rfl⟩
          · exact ⟨wanted_none rfl, loc_allocF rfl hb1.size fun v w' h => h⟩
        · intro a2 w2 hb2 hf hh
          refine ⟨wanted_none rfl, ?_⟩
          obtain ⟨q, e5, hqB, hq⟩ := hh 9 (by decide) (by decide)
          have e24 : a2.eval (.tmp 24) = .agg #[.string (s.extract 0 k), .string (trimBA (s.extract (k + 1) s.size))] := hh 8 (by decide) (by decide)
          refine wp_store_row 28 _ _ rfl q #[.string (s.extract 0 k), .string (trimBA (s.extract (k + 1) s.size))] e5 e24 28 _ hq sizeF rfl (oneF _ _) ?_
          have e5' : a2.eval (.tmp 5) = .pointer (some ⟨q, 0, none⟩) := e5
          have HQ3 := Box.mk (show FVar (w2.setRow q #[.string (s.extract 0 k), .string (trimBA (s.extract (k + 1) s.size))]) q (s.extract 0 k) (trimBA (s.extract (k + 1) s.size)) from setRow_heap _ _ _ _ _ _ hq)
          have HB3 := Box.mk (below_setRow (g := q) (below_trans (show Below w.heap.size w W by rw [HG.out]; exact HB.out) hb2) (by have := (show Below w.heap.size w W by rw [HG.out]; exact HB.out).size; omega) #[.string (s.extract 0 k), .string (trimBA (s.extract (k + 1) s.size))])
          have HR3 := Box.mk (show FVar (w2.setRow q #[.string (s.extract 0 k), .string (trimBA (s.extract (k + 1) s.size))]) g ⟨#[]⟩ ⟨#[]⟩ from (setRow_other w2 q g _ (by have := HR.out.lt; omega)).trans (HR.out.keep hb2))
          refine hK a2 _ ?_
          rw [fr_putAll hf]
          simp only [putAll, e5', e24]
          clear hf hh e5 e24 e5' hq hb2 HR
          generalize a2.eval (.tmp 16) = u16
          generalize a2.eval (.tmp 17) = u17
          generalize a2.eval (.tmp 18) = u18
          generalize a2.eval (.tmp 19) = u19
          generalize a2.eval (.tmp 20) = u20
          generalize a2.eval (.tmp 21) = u21
          generalize a2.eval (.tmp 22) = u22
          generalize a2.eval (.tmp 23) = u23
          clear a2
          simp only [Act.put, List.setIfInBounds_toArray, List.set_cons_succ, List.set_cons_zero]
          generalize (w2.setRow q #[.string (s.extract 0 k), .string (trimBA (s.extract (k + 1) s.size))]) = w3 at *
          have hvz := Box.mk (Nat.le_trans (trimBA_size (s.extract (k + 1) s.size)) HZ.out.2)
          generalize s.extract 0 k = n at *
          generalize trimBA (s.extract (k + 1) s.size) = v at *
          have hd0 := HQ3.out.c0
          have hd1 := HQ3.out.c1
          by_cases hv : fldB n v = true
          · have HP := Box.mk (show parseF s = some (n, v) by rw [HP0.out, if_pos hv])
            have HV := Box.mk hv
            clear hv HP0
            go_wp2_with fail
            refine (refFieldValid_any n v _ HZ.out.1 hvz.out).mono ?_
            rintro e w4 ⟨he, hb4⟩
            rw [HV.out] at he
            subst he
            have HB4 := Box.mk (below_trans HB3.out hb4)
            have HR4 := Box.mk (HR3.out.keep hb4)
            have hd0 := below_cell hb4 HQ3.out.c0
            have hd1 := below_cell hb4 HQ3.out.c1
            clear hb4
            go_wp2_with (refine wpList_store_row rfl 28 _ _ rfl g #[.string n, .string v] rfl rfl 28 _ HR4.out sizeF rfl (oneF _ _) ?_)
            (try simp only [Exit.inBlock, Exit.then])
            refine bodyPost_ret (results_row_tmpF rfl _ _ g _ _ _ _ rfl (setRow_heap _ _ _ _ _ _ HR4.out) Tryd.underlying28 rfl sizeF) rfl ?_
            exact ⟨by rw [HP.out]; rfl, below_setRow HB4.out (by have := HG.out; omega) _⟩
          · have HP := Box.mk (show parseF s = none by rw [HP0.out, if_neg hv])
            have HV := Box.mk (show fldB n v = false by simpa using hv)
            clear hv HP0
            go_wp2_with fail
            refine (refFieldValid_any n v _ HZ.out.1 hvz.out).mono ?_
            rintro e w4 ⟨he, hb4⟩
            rw [HV.out] at he
            subst he
            have HB4 := Box.mk (below_trans HB3.out hb4)
            have HR4 := Box.mk (HR3.out.keep hb4)
            clear hb4
            go_wp2_with (refine wpList_store_row rfl 28 _ _ rfl g #[.string ⟨#[]⟩, .string ⟨#[]⟩] rfl rfl 28 _ HR4.out sizeF rfl (oneF _ _) ?_)
            (try simp only [Exit.inBlock, Exit.then])
            refine bodyPost_ret (results_row_tmpF rfl _ _ g _ _ _ _ rfl (setRow_heap _ _ _ _ _ _ HR4.out) Tryd.underlying28 rfl sizeF) rfl ?_
            exact ⟨by rw [HP.out]; rfl, below_setRow HB4.out (by have := HG.out; omega) _⟩
      · have hb : ((s[k].toNat : Int) == 58) = false := by
          rw [Bool.eq_false_iff]; intro h; exact hc (UInt8.toNat_inj.1 (by simp at h; show s[k].toNat = 58; omega))
        have HM2 := Box.mk (show ∀ j, j < k + 1 → s.data.toList[j]? ≠ some 58 from fun j hj => by
          by_cases e : j = k
          · subst e
            rw [List.getElem?_eq_getElem (by simpa using hlt)]
            intro h
            exact hc (Option.some.inj h)
          · exact HM.out j (by omega))
        clear hc
        go_wp2_with fail
        go_round
        case rel => exact ⟨k + 1, by omega, by go_num, HM2⟩
        case measure => simp [intOf]; omega
    · have HP := Box.mk (parseF_no (colonI_none s k hk hlt HM.out))
      go_wp2_with (refine wpList_store_row rfl 28 _ _ rfl g #[.string ⟨#[]⟩, .string ⟨#[]⟩] rfl rfl 28 _ HR.out sizeF rfl (oneF _ _) ?_)
      (try simp only [Exit.inBlock, Exit.then])
      refine bodyPost_ret (results_row_tmpF rfl _ _ g _ _ _ _ rfl (setRow_heap _ _ _ _ _ _ HR.out) Tryd.underlying28 rfl sizeF) rfl ?_
      exact ⟨by rw [HP.out]; rfl, below_setRow (show Below w.heap.size w W by rw [HG.out]; exact HB.out) (by have := HG.out; omega) _⟩
end Go.Proofs.YtcniajbfgfikjaaDoor
