/- The law FieldValues. -/
import Derived.Test.YtcniajbfgfikjaaDoorFldP
import Derived.Test.YtcniajbfgfikjaaDoorLocP
namespace Go.Proofs.YtcniajbfgfikjaaDoor
open Go.RowKit

theorem sameS_selfF (x : List ByteArray) : sameS x x = true := by unfold sameS; simp
theorem sameT_true (x : List ByteArray) (a b : Option Addr) (ca cb : Nat) (w : World) (hx : StrsAt w a x) (hy : StrsAt w b x) (h : x.length ≤ 8796093022208) :
    Calls Tryd.prog 12 #[.slice a x.length ca, .slice b x.length cb] w fun e w' => e = .returned (.bool true) ∧ Below w.heap.size w w' := by
  refine (same_any x x a b ca cb w hx hy h h).mono ?_
  rintro e w' ⟨rfl, hb⟩
  exact ⟨by rw [sameS_selfF], hb⟩
theorem total_values {x : List Fld} (h : SmallF x) (n : ByteArray) : total (valuesL x n) ≤ x.length * 1048577 := by
  unfold valuesL
  induction x with
  | nil => exact Nat.zero_le _
  | cons f t ih =>
    have h1 := ih (fun g hg => h g (List.mem_cons_of_mem _ hg))
    have h2 := (h f (List.mem_cons_self ..)).2
    clear h ih
    rw [List.filter_cons, List.length_cons, Nat.add_mul, Nat.one_mul]
    split
    · simp only [List.map_cons, total]
      exact Nat.le_trans (Nat.add_le_add (Nat.add_le_add_right h2 1) h1) (Nat.le_of_eq (Nat.add_comm _ _))
    · exact Nat.le_trans h1 (Nat.le_add_right _ _)

section
variable {Q : Exit → Act → World → Prop} {a : Act} {w : World} {o : Oper} {s : Spec}
theorem loc_index_f {x y : Operand} (ho : o.op = .indexAddr 22 x y) {ad : Addr} {n c k : Nat} (hx : a.eval x = .slice (some ad) n c) (hy : a.eval y = .int .i64 k) (hk : k < n) (hs : s.p (.pointer (some (ad.add (k * 2)))) w) :
    o.wp Tryd.prog a w (fun a' w' => ∃ v, a' = a.put o.dst v ∧ Below w.heap.size w w' ∧ s.p v w') Q :=
  loc_run (v := .pointer (some (ad.add (k * 2)))) (by
    have es : (sizeOf (Tryd.prog.elem 22)).run Tryd.prog w = .ok 2 w := by
      rw [show Tryd.prog.elem 22 = 28 by kernel_rfl]
      obtain ⟨i0, hi, _, hz1, _⟩ := info_parts Tryd.info28
      simp [sizeOf, typeInfo, hi, hz1]
    have h := run_indexAt_slice (P := Tryd.prog) (w := w) 22 ad n c .i64 (k : Int) (by kernel_rfl)
    rw [if_pos ⟨by omega, by omega⟩, es] at h
    simp only [Result.andThen_ok, Int.toNat_natCast] at h
    unfold execOp
    simp only [ho, hx, hy, Sem.run_bind, h, Result.andThen_ok, Sem.run_pure]) (Below.refl _ _) hs
theorem loc_neq_bool {x y : Operand} {t : TypeId} (ho : o.op = .binOp .neq 4 x y t) {b : Bool} (hx : a.eval x = .bool b) (hy : a.eval y = .bool b) (hs : s.p (.bool false) w) :
    o.wp Tryd.prog a w (fun a' w' => ∃ v, a' = a.put o.dst v ∧ Below w.heap.size w w' ∧ s.p v w') Q :=
  loc_run (v := .bool false) (by
    unfold execOp
    simp only [ho, hx, hy]
    have he : (Op.equalIn Op.maxDepth 4 (.bool b) (.bool b)).run Tryd.prog w = .ok true w := by
      rw [show Op.maxDepth = 9999 + 1 from rfl]
      unfold Op.equalIn
      rw [Sem.run_bind, run_underlying Tryd.underlying4]
      cases b <;> rfl
    simp [eqGuard, binOp, Op.equal, he]) (Below.refl _ _) hs
end

set_option maxRecDepth 100000 in
set_option maxHeartbeats 4000000 in
theorem fieldValues_any (l : List Fld) (a : Option Addr) (cap : Nat) (b : Option Addr) (n c : Nat) (s : ByteArray) (p : Int) (wild : Bool) (m : Int) (w : World)
    (h : FldsC w a l cap) (hcap : l.length ≤ cap) (hcm : cap ≤ maxLen) (hi : IntsF w b n) (hn : n ≤ maxLen) (hs : s.size ≤ maxLen) (hl : SmallF l) (hm : w.cell? ⟨0, 0, none⟩ = some (.int .i64 m)) :
    Calls Tryd.prog 3 #[.slice a l.length cap, .slice b n c, .string s, .int .i64 p, .bool wild] w fun e w' => e = .returned (.bool true) ∧ Below w.heap.size w w' := by
  have H0 := Box.mk (And.intro h hi)
  have HS := Box.mk (And.intro hl hs)
  have HM := Box.mk hm
  clear h hi hl hs hm
  go_enter Tryd.func3, Tryd.ntmps3
  go_wp2_with fail
  refine (lawFields_any l a cap b n c wild _ H0.out.1 hcap hcm H0.out.2 hn).mono ?_
  rintro e w1 ⟨x, a1, c1, rfl, hx, hx30, hall, hb1⟩
  have HX := Box.mk hx.1
  have HXS := Box.mk (smallF_made HS.out.1 hall)
  have HB := Box.mk hb1
  clear hx hall hb1 H0
  go_wp2_with fail
  refine (lawName_any x a1 c1 s p _ HX.out HXS.out.short hx30).mono ?_
  rintro e w2 ⟨k1, rfl, hk1, hb2⟩
  have HK1 := Box.mk (hk1.size HS.out.2 HXS.out.short)
  have HX2 := Box.mk (HX.out.keep hb2)
  have HB2 := Box.mk (below_trans HB.out hb2)
  clear hk1 hb2 HX HB
  go_wp2_with fail
  go_loopw [13] (fun iv wr => ∃ k : Nat, k ≤ x.length ∧ iv = .int .i64 k ∧ Box (FldsIn wr a1 x ∧ Below w.heap.size w wr)) (fun iv _ => x.length - (intOf iv).toNat)
  case atStart => exact ⟨0, Nat.zero_le _, rfl, ⟨HX2.out, HB2.out⟩⟩
  case round =>
    clear HX2 HB2
    obtain ⟨k, hk, rfl, HI⟩ := hrel
    by_cases hlt : k < x.length
    · obtain ⟨y, rfl, _, _⟩ := HI.out.1 k hlt
      have HSZ := Box.mk (HXS.out.short _ (List.getElem_mem hlt))
      have HLD := Box.mk (fun w' (hb : Below wr.heap.size wr w') => (HI.out.1.keep hb).load hlt)
      generalize x[k] = f at *
      go_wp2_with fail
      rename_i K hK
      refine wp_region_local (S := [.val (.slice (some y) x.length c1), .val (.int .i64 k), .val (.pointer (some (y.add (k * 2)))), .val (.agg #[.string f.1, .string f.2]), .val (.bool (fldB f.1 f.2)),
        .val (.slice (some y) x.length c1), .val (.int .i64 k), .val (.pointer (some (y.add (k * 2)))), .val (.agg #[.string f.1, .string f.2]), .val (.bool (fldB f.1 f.2)), .val (.bool false)])
        (by kernel_rfl) (by kernel_rfl) (by kernel_rfl) ?_ ?_
      · refine ⟨?_, ?_, ?_, ?_, ?_, ?_, ?_, ?_, ?_, ?_, ?_, trivial⟩ <;> intro a w3 hb hf hd
        · exact ⟨wanted_none rfl, loc_move rfl (hf.base 11 rfl)⟩
        · exact ⟨wanted_none rfl, loc_move rfl (hf.base 13 rfl)⟩
        · exact ⟨wanted_none rfl, loc_index_f rfl (hd 0 rfl) (hd 1 rfl) hlt rfl⟩
        · exact ⟨wanted_none rfl, loc_load rfl (by rw [show a.eval (.tmp 30) = .pointer (some (y.add (k * 2))) from hd 2 rfl]; exact HLD.out w3 hb) rfl⟩
        · refine ⟨wanted_none rfl, loc_call rfl (by kernel_rfl) ?_⟩
          show Calls _ _ #[a.eval (.tmp 31)] w3 _
          rw [show a.eval (.tmp 31) = .agg #[.string f.1, .string f.2] from hd 3 rfl]
          refine (fieldValid_any f.1 f.2 w3 HSZ.out.1 HSZ.out.2).mono ?_
          rintro e w' ⟨rfl, hb'⟩
          exact ⟨_, rfl, hb', rfl⟩
        · exact ⟨wanted_none rfl, loc_move rfl (hf.base 11 rfl)⟩
        · exact ⟨wanted_none rfl, loc_move rfl (hf.base 13 rfl)⟩
        · exact ⟨wanted_none rfl, loc_index_f rfl (hd 5 rfl) (hd 6 rfl) hlt rfl⟩
        · exact ⟨wanted_none rfl, loc_load rfl (by rw [show a.eval (.tmp 35) = .pointer (some (y.add (k * 2))) from hd 7 rfl]; exact HLD.out w3 hb) rfl⟩
        · refine ⟨wanted_none rfl, loc_call rfl (by kernel_rfl) ?_⟩
          show Calls _ _ #[a.eval (.tmp 36)] w3 _
          rw [show a.eval (.tmp 36) = .agg #[.string f.1, .string f.2] from hd 8 rfl]
          refine (refFieldValid_any f.1 f.2 w3 HSZ.out.1 HSZ.out.2).mono ?_
          rintro e w' ⟨rfl, hb'⟩
          exact ⟨_, rfl, hb', rfl⟩
        · exact ⟨wanted_none rfl, loc_neq_bool rfl (hd 4 rfl) (hd 9 rfl) rfl⟩
      · intro a3 w3 hb hf hh
        have e38 : a3.eval (.tmp 38) = .bool false := hh 10 (by decide)
        have HM3 := Box.mk (show FldsIn w3 (some y) x ∧ Below w.heap.size w w3 from ⟨HI.out.1.keep hb, below_trans HI.out.2 hb⟩)
        refine hK a3 w3 ?_
        rw [fr_putAll hf]
        simp only [putAll, e38]
        clear hf hh e38 hb HLD HI
        generalize a3.eval (.tmp 28) = u28
        generalize a3.eval (.tmp 29) = u29
        generalize a3.eval (.tmp 30) = u30
        generalize a3.eval (.tmp 31) = u31
        generalize a3.eval (.tmp 32) = u32
        generalize a3.eval (.tmp 33) = u33
        generalize a3.eval (.tmp 34) = u34
        generalize a3.eval (.tmp 35) = u35
        generalize a3.eval (.tmp 36) = u36
        generalize a3.eval (.tmp 37) = u37
        clear a3
        simp only [Act.put, List.setIfInBounds_toArray, List.set_cons_succ, List.set_cons_zero]
        go_wp2_with fail
        go_roundw
        case rel => exact ⟨k + 1, by omega, by go_num, HM3⟩
        case measure => simp [intOf]; omega
    · have HX3 := Box.mk HI.out.1
      have HB3 := Box.mk HI.out.2
      have HTV := Box.mk (show total (valuesL x k1) ≤ 4000000000 from Nat.le_trans (total_values HXS.out k1) (Nat.le_trans (Nat.mul_le_mul_right _ hx30) (by decide)))
      have hvl : (valuesL x k1).length ≤ 30 := Nat.le_trans (valuesL_len x k1) hx30
      have hll : (listL (valuesL x k1)).length ≤ 4000000001 := by have h1 := listL_length (valuesL x k1); have := HTV.out; omega
      clear HI
      go_wp2_with fail
      refine (fValues_any x k1 a1 c1 _ HX3.out HXS.out.short HK1.out (by omega)).mono ?_
      rintro e w4 ⟨a4, c4, rfl, hs4, hb4⟩
      have HS4 := Box.mk hs4
      have HX4 := Box.mk (HX3.out.keep hb4)
      have HB4 := Box.mk (below_trans HB3.out hb4)
      clear hs4 hb4 HX3 HB3
      go_wp2_with fail
      refine (refValues_any x k1 a1 c1 _ HX4.out HXS.out.short HK1.out (by omega)).mono ?_
      rintro e w5 ⟨a5, c5, rfl, hs5, hb5⟩
      have HS5 := Box.mk hs5
      have HS45 := Box.mk (HS4.out.keep hb5)
      have HX5 := Box.mk (HX4.out.keep hb5)
      have HB5 := Box.mk (below_trans HB4.out hb5)
      clear hs5 hb5 HX4 HB4 HS4
      go_wp2_with fail
      refine (sameT_true _ a4 a5 c4 c5 _ HS45.out HS5.out (by omega)).mono ?_
      rintro e w6 ⟨rfl, hb6⟩
      have HX6 := Box.mk (HX5.out.keep hb6)
      have HB6 := Box.mk (below_trans HB5.out hb6)
      clear hb6 HX5 HB5 HS45 HS5
      go_wp2_with fail
      refine (fHas_any x k1 a1 c1 _ HX6.out HXS.out.short HK1.out (by omega)).mono ?_
      rintro e w7 ⟨rfl, hb7⟩
      have HX7 := Box.mk (HX6.out.keep hb7)
      have HB7 := Box.mk (below_trans HB6.out hb7)
      clear hb7 HX6 HB6
      go_wp2_with fail
      refine (refHas_any x k1 a1 c1 _ HX7.out HXS.out.short HK1.out (by omega)).mono ?_
      rintro e w8 ⟨rfl, hb8⟩
      have HX8 := Box.mk (HX7.out.keep hb8)
      have HB8 := Box.mk (below_trans HB7.out hb8)
      clear hb8 HX7 HB7
      generalize hasL x k1 = r1 at *
      go_wp2_with fail
      refine (fElements_any _ m x k1 a1 c1 HX8.out HXS.out.short HK1.out (by omega) (below_cell HB8.out HM.out) HTV.out).mono ?_
      rintro e w9 ⟨a9, c9, rfl, hs9, hb9⟩
      have HS9 := Box.mk hs9
      have HX9 := Box.mk (HX8.out.keep hb9)
      have HB9 := Box.mk (below_trans HB8.out hb9)
      clear hs9 hb9 HX8 HB8
      go_wp2_with fail
      refine (refElements_any _ x k1 a1 c1 HX9.out HXS.out.short HK1.out (by omega) HTV.out).mono ?_
      rintro e w10 ⟨a10, c10, rfl, hs10, hb10⟩
      have HS10 := Box.mk hs10
      have HS910 := Box.mk (HS9.out.keep hb10)
      have HB10 := Box.mk (below_trans HB9.out hb10)
      clear hs10 hb10 HX9 HB9 HS9
      go_wp2_with fail
      refine (sameT_true _ a9 a10 c9 c10 _ HS910.out HS10.out (by omega)).mono ?_
      rintro e w11 ⟨rfl, hb11⟩
      have HB11 := Box.mk (below_trans HB10.out hb11)
      clear hb11 HB10 HS910 HS10
      go_wp2_with fail
      refine (awakeF_any _).mono ?_
      rintro e w12 ⟨rfl, hb12⟩
      have HB12 := Box.mk (below_trans HB11.out hb12)
      clear hb12
      go_wp2_with fail
      go_ret
      exact ⟨rfl, HB12.out⟩
end Go.Proofs.YtcniajbfgfikjaaDoor
