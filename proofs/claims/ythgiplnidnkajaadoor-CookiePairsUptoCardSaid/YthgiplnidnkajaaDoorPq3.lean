/- Pairs of the reference. Find, of package cookie and of the reference; the IDs. FormatRequestLine of the reference. fields, name and awake of the laws; Short. awake of the laws; the law FieldFormat. The law FieldWithout. The contracts of awake and of the laws of layer 2. The ID that the source makes. The IDs and the field Set-Cookie, of package cookie and of the reference. What the laws' lists of fields are while they are made. The law's awake; safe. The fields that the laws make. How much the values of a name hold together. The law CookiePairs. The law FieldParse. Opening the arguments of the laws on fields. The law CookieID. A cookie is found among others (mathematics); NewID of the reference for all numbers. The law CookieFound. The law CookieFirst. -/
import Derived.Test.YthgiplnidnkajaaDoorPq2
import Derived.Sort.Grow
import Derived.Lib.LaidTab
import Derived.LaidSub
import Derived.Laws.Bits64b
import Derived.Deep.DeepCutAuto
namespace Go.Proofs.YthgiplnidnkajaaDoor
open Go.ChangeShapes Go.WideShapes Go.ChangeAt Go.RowKit
section
variable {Q : Exit → Act → World → Prop} {act : Act} {w : World} {o : Oper} {s : Spec} {K : Act → World → Prop}
theorem loc_buildP {x y : Operand} (ho : o.op = .build 29 #[(0, x), (1, y)]) {b c : ByteArray} (hx : act.eval x = .string b) (hy : act.eval y = .string c) (hs : s.p (.agg #[.string b, .string c]) w) :
  o.wp Tryd.prog act w (fun a' w' => ∃ v, a' = act.put o.dst v ∧ Below w.heap.size w w' ∧ s.p v w') Q := by
 refine loc_run (v := .agg #[.string b, .string c]) ?_ (Below.refl _ _) hs
 have hb := run_build (P := Tryd.prog) w 29 #[(0, .string b), (1, .string c)] #[.string b, .string c] (by kernel_rfl)
 unfold execOp
 simp only [ho, List.map_toArray, List.map_cons, List.map_nil, hx, hy, Sem.run_bind, hb, Result.andThen_ok, Sem.run_pure]
theorem loc_slice1P {x : Operand} (ho : o.op = .buildSlice 26 1 #[(0, x)]) {f : Fld} (hx : act.eval x = .agg #[.string f.1, .string f.2]) (hs : ∀ w', w'.cell? ⟨w.heap.size, 0, none⟩ = some (.string f.1) → w'.cell? ⟨w.heap.size, 1, none⟩ = some (.string f.2) → s.p (.slice (some ⟨w.heap.size, 0, none⟩) 1 1) w') :
  o.wp Tryd.prog act w (fun a' w' => ∃ v, a' = act.put o.dst v ∧ Below w.heap.size w w' ∧ s.p v w') Q := by
 obtain ⟨i0, hi, hz0, hz1, hz2⟩ := info_parts Tryd.info29
 have hrun := run_buildSlice (P := Tryd.prog) w 26 29 1 #[(0, .agg #[.string f.1, .string f.2])] #[.string f.1, .string f.2] i0 _ Tryd.underlying26 hi hz0 (by rw [hz1]; decide) (by rw [hz1]; decide) (by rw [hz1]; simp [Instr.fill, Value.cells, Array.range_succ, show Array.range 0 = #[] from rfl])
 refine loc_run (v := .slice (some ⟨w.heap.size, 0, none⟩) 1 1) (w' := w.alloc (.cells #[.string f.1, .string f.2] 29)) ?_ (below_oneF _ _) (hs _ (by rw [new_cellF]; rfl) (by rw [new_cellF]; rfl))
 unfold execOp
 simp only [ho, List.map_toArray, List.map_cons, List.map_nil, hx]
 rw [Sem.run_bind, hrun]; rfl
theorem wp_append_oneP {x y : Operand} (ho : o.op = .call { callee := .builtin .append, args := #[x, y], argTypes := #[26, 26] }) {w0 : World} {v : Value} {l : List Fld} (hv : act.eval x = v) (hx : AccP w0 w v l) {b c : Nat} {f : Fld} (hy : act.eval y = .slice (some ⟨b, 0, none⟩) 1 c)
  (h0 : w.cell? ⟨b, 0, none⟩ = some (.string f.1)) (h1 : w.cell? ⟨b, 1, none⟩ = some (.string f.2)) (hn : l.length + 1 ≤ 4398046511104)
  (h : ∀ v' w', AccP w0 w' v' (l ++ [f]) → w.grownBy w' v.ownBlock → (∀ k, v'.ownBlock = some k → v.ownBlock = some k ∨ w.heap.size ≤ k) → K (act.put o.dst v') w') : o.wp Tryd.prog act w K Q := by
 obtain ⟨i0, hi, hz0, hz1, hz2⟩ := info_parts Tryd.info29
 refine wp_append_lies w x y 26 ho w0.heap.size 29 i0 _ 2 32 Tryd.underlying26 hi hz0 hz1 hz2 rfl (by decide) v l.length (cellsF l) hv hx.1 ⟨b, 0, none⟩ 1 c [.string f.1, .string f.2] hy rfl ?_ ?_ (by decide) (by unfold maxLen; omega) (by omega) hx.2.size w.heap.size rfl ?_
 · intro j u hj
   match j, hj with
   | 0, hj => simp at hj; subst hj; rw [Addr.add_lit]; exact h0
   | 1, hj => simp at hj; subst hj; rw [Addr.add_lit]; exact h1
   | j + 2, hj => simp at hj
 · intro u hu; simp at hu; rcases hu with rfl | rfl <;> rfl
 · intro g cap w' hown hgrow hg hlt
   refine h _ w' ⟨by rw [List.length_append, cellsF_app]; exact hown, hx.2.grown hgrow hx.2.size fun k hk => (World.ownsRow.lt hx.1 k hk).1⟩ hgrow (fun k e => ?_)
   have : g = k := by simpa [Value.ownBlock] using e
   subst this
   exact hg.imp id fun e => Nat.le_of_eq e.symm
end
def Spec.pslP (f : Fld) : Spec := ⟨fun v w => ∃ b c, v = .slice (some ⟨b, 0, none⟩) 1 c ∧ w.cell? ⟨b, 0, none⟩ = some (.string f.1) ∧ w.cell? ⟨b, 1, none⟩ = some (.string f.2), fun v w w' h hb => by
 obtain ⟨b, c, e, h0, h1⟩ := h
 exact ⟨b, c, e, below_cell hb h0, below_cell hb h1⟩⟩
def Spec.accBP (w0 : World) (l : List Fld) (P : Nat) (parts : List ByteArray) : Spec := ⟨fun v w => AccP w0 w v l ∧ BesideP w v (some ⟨P, 0, none⟩) parts, fun _ _ _ h hb => ⟨h.1.keep hb, h.2.keep hb⟩⟩
def Spec.nopeP : Spec := ⟨fun _ _ => False, fun _ _ _ h _ => h⟩
set_option maxRecDepth 100000 in
set_option maxHeartbeats 4000000 in
theorem refPairs_any (l : List Fld) (a : Option Addr) (cap : Nat) (w : World) (h : FldsIn w a l) (hz : ShortF l) (hl : l.length ≤ 1000000) (ht : total (valuesL l ckL) ≤ 4000000000) :
  Calls Tryd.prog 10 #[.slice a l.length cap] w (RetAccP w (pairsL (valuesL l ckL))) := by
 have H0 := Box.mk (And.intro h hz)
 obtain ⟨vs, hvs⟩ : ∃ vs, vs = valuesL l ckL := ⟨_, rfl⟩
 have HV := Box.mk (show valuesL l ckL = vs from hvs.symm)
 rw [← hvs] at ht ⊢
 have hvl : vs.length ≤ 4000000000 := Nat.le_trans (total_len vs) ht
 have HT := Box.mk ht
 clear h hz hvs ht
 go_enter Tryd.func10, Tryd.ntmps10
 go_wp2_with fail
 refine (refValues_any l ckL a cap _ H0.out.1 H0.out.2 (by decide) hl).mono ?_
 rintro e w1 ⟨a', cap', he, hs, hb⟩
 rw [HV.out] at he hs
 subst he
 have HS := Box.mk hs
 have HB := Box.mk hb
 clear hs hb H0
 go_wp2_with fail
 go_loopw [3, 5] (fun v iv wr => ∃ k : Nat, k ≤ vs.length ∧ iv = .int .i64 k ∧ Box (AccP w1 wr v (pairsL (vs.take k)))) (fun _ iv _ => vs.length - (intOf iv).toNat)
 case atStart => exact ⟨0, Nat.zero_le _, rfl, ⟨AccP.start w1⟩⟩
 case round =>
  obtain ⟨k, hk, rfl, HA⟩ := hrel
  by_cases hlt : k < vs.length
  · obtain ⟨b, off, rfl, hc⟩ := HS.out k hlt
    have c1 := below_cell HA.out.2 hc
    clear hc
    have hb1 := Box.mk (total_at hlt HT.out)
    have HSN := Box.mk (pairsL_snoc vs k hlt)
    have hyl : (pairsL (vs.take k)).length ≤ 4000000000 := Nat.le_trans (pairsL_len _) (Nat.le_trans (total_take vs k) HT.out)
    generalize pairsL (vs.take k) = Y at *
    generalize vs[k] = s at *
    go_wp2_with fail
    refine (refSplit_any s 59 _ (by have := hb1.out; omega)).mono ?_
    rintro e w2 ⟨P, cp, rfl, hP1, hP2, hP3, hP4⟩
    have HA1 := Box.mk (HA.out.keep hP4)
    have HS1 := Box.mk (show BesideP w2 _ (some ⟨P, 0, none⟩) (splitS 59 s) from ⟨hP3, fun x e h0 => by
     obtain rfl := Option.some.inj e
     exact ⟨fun e2 => by have := (HA.out.lt e2).2; simp only at this; omega, hP2⟩⟩)
    have hpl := splitS_length 59 s
    have hsz : Box (∀ x ∈ splitS 59 s, x.size ≤ 4000000000) := ⟨fun x hx => Nat.le_trans (splitS_small 59 s x hx) (by have := hb1.out; omega)⟩
    have hpl2 : (splitS 59 s).length ≤ 4000000000 := by have := hb1.out; omega
    have HPA := Box.mk (show pairsV s = partsL (splitS 59 s) from rfl)
    clear hP1 hP2 hP3 hP4 c1 hpl HA
    generalize splitS 59 s = parts at *
    go_wp2_with fail
    go_loopw [3, 7] (fun v iv wq => ∃ j : Nat, j ≤ parts.length ∧ iv = .int .i64 j ∧ Box (AccP w1 wq v (Y ++ partsL (parts.take j)) ∧ BesideP wq v (some ⟨P, 0, none⟩) parts)) (fun _ iv _ => parts.length - (intOf iv).toNat)
    case atStart => exact ⟨0, Nat.zero_le _, rfl, ⟨by simpa [partsL] using HA1.out, HS1.out⟩⟩
    case round =>
     clear HA1 HS1
     obtain ⟨j, hj, rfl, HB2⟩ := hrel
     by_cases hjl : j < parts.length
     · obtain ⟨b', o', e', c2⟩ := HB2.out.2.1 j hjl
       cases e'
       rw [Nat.zero_add] at c2
       have HPZ := Box.mk (hsz.out parts[j] (List.getElem_mem hjl))
       have HPS := Box.mk (partsL_snoc parts j hjl)
       have hql : (partsL (parts.take j)).length ≤ 4000000000 := Nat.le_trans (partsL_len _) (by rw [List.length_take]; omega)
       generalize parts[j] = p at *
       generalize partsL (parts.take j) = Z at *
       go_wp2_with fail
       refine (refTrim_any p _ (by have := HPZ.out; unfold maxLen; omega)).mono ?_
       rintro e w3 ⟨rfl, rfl⟩
       have htz : (trimBA p).size ≤ 4000000000 := Nat.le_trans (trimBA_size p) HPZ.out
       clear c2
       generalize trimBA p = t at *
       go_wp2_with fail
       go_loopw [3, 9] (fun v iv wx => ∃ i : Nat, i ≤ t.size ∧ iv = .int .i64 i ∧ Box ((∀ q, q < i → t.data.toList[q]? ≠ some (61 : UInt8)) ∧ AccP w1 wx v (Y ++ Z) ∧ BesideP wx v (some ⟨P, 0, none⟩) parts)) (fun _ iv _ => t.size - (intOf iv).toNat)
       case atStart => exact ⟨0, Nat.zero_le _, rfl, ⟨fun q hq => absurd hq (Nat.not_lt_zero _), HB2.out⟩⟩
       case round =>
        clear HB2
        obtain ⟨i, hi, rfl, HL⟩ := hrel
        by_cases hit : i < t.size
        · by_cases hc : t[i] = 61
          · have HI := Box.mk (idxI_at 61 t i hit hc HL.out.1)
            have HCU := Box.mk (cutS_at HI.out)
            have e1 : ((t[i].toNat : Int) == 61) = true := by rw [hc]; rfl
            clear hc
            by_cases ht : tokS (t.extract 0 i) = true
            · have HT := Box.mk ht
              have HPS2 := Box.mk (show partsL (parts.take (j + 1)) = Z ++ [(t.extract 0 i, t.extract (i + 1) t.size)] by rw [HPS.out, pairO_yes HI.out (by rw [HCU.out]; exact ht), HCU.out])
              clear ht
              go_wp2_with fail
              refine (refToken_any _ _ (by have := extract_le t 0 i; unfold maxLen; omega)).mono ?_
              rintro e w3 ⟨he, rfl⟩
              rw [HT.out] at he
              subst he
              go_wp2_with fail
              obtain ⟨f, hf0, hf1⟩ : ∃ f : Fld, f.1 = t.extract 0 i ∧ f.2 = t.extract (i + 1) t.size := ⟨(_, _), rfl, rfl⟩
              have HF := Box.mk (And.intro hf0 hf1)
              have HPS3 := Box.mk (show partsL (parts.take (j + 1)) = Z ++ [f] by rw [HPS2.out, ← hf0, ← hf1])
              clear hf0 hf1 HPS2
              have hlen : (Y ++ Z).length + 1 ≤ 4398046511104 := by rw [List.length_append]; omega
              rename_i K hK
              refine wp_region_phasesW [10] (fun p => match p with | 0 => [0, 1, 2, 3, 4, 5, 6, 7, 8, 9] | _ => [11])
               (fun p => match p with
                | 0 => [.val u3, .val (.string t), .val (.int .i64 i), .val (.string f.1), .val (.string t), .val (.int .i64 i), .val (.int .i64 ((i + 1 : Nat) : Int)), .val (.string f.2), .val (.agg #[.string f.1, .string f.2]), .pslP f, .nopeP, .nopeP]
                | _ => [.any, .any, .any, .any, .any, .any, .any, .any, .any, .any, .accBP w1 (Y ++ (Z ++ [f])) P parts, .accBP w1 (Y ++ (Z ++ [f])) P parts])
               (fun p => match p with
                | 0 => fun wx => AccP w1 wx u3 (Y ++ Z) ∧ BesideP wx u3 (some ⟨P, 0, none⟩) parts
                | _ => fun _ => True)
               (by kernel_rfl) (by kernel_rfl) (by kernel_rfl) (by kernel_rfl) (by kernel_rfl) (by kernel_rfl) ?_ HL.out.2 ?_ ?_ ?_
              · intro ph wa wb h hb
                match ph, h with
                | 0, h => exact ⟨h.1.keep hb, h.2.keep hb⟩
                | (_ + 1), _ => exact trivial
              · intro ph hph
                match ph, hph with
                | 0, _ =>
                 refine ⟨?_, ?_, ?_, ?_, ?_, ?_, ?_, ?_, ?_, ?_, trivial⟩ <;> intro a1 wa hv hf hd
                 · exact ⟨wanted_none rfl, loc_move rfl (hf.base 3 rfl)⟩
                 · exact ⟨wanted_none rfl, loc_move rfl (hf.base 8 rfl)⟩
                 · exact ⟨wanted_none rfl, loc_move rfl (hf.base 9 rfl)⟩
                 · exact ⟨wanted_none rfl, loc_sub_to rfl (hd 1 rfl) (hd 2 rfl) hi (by rw [HF.out.1]; rfl)⟩
                 · exact ⟨wanted_none rfl, loc_move rfl (hf.base 8 rfl)⟩
                 · exact ⟨wanted_none rfl, loc_move rfl (hf.base 9 rfl)⟩
                 · exact ⟨wanted_none rfl, loc_addF (k := 1) rfl (hd 5 rfl) rfl (by omega) rfl⟩
                 · exact ⟨wanted_none rfl, loc_sub_from rfl (hd 4 rfl) (hd 6 rfl) hit (by rw [HF.out.2]; rfl)⟩
                 · exact ⟨wanted_none rfl, loc_buildP rfl (hd 3 rfl) (hd 7 rfl) rfl⟩
                 · exact ⟨wanted_none rfl, loc_slice1P (f := f) rfl (hd 8 rfl) fun w' h0 h1 => ⟨_, _, rfl, h0, h1⟩⟩
                | 1, _ =>
                 refine ⟨?_, trivial⟩
                 intro a1 wa hv hf hd
                 exact ⟨wanted_none rfl, loc_assign rfl (hd 10 rfl)⟩
              · intro ph hph
                match ph, hph with
                | 0, _ =>
                 intro a1 wa hv hf hd
                 obtain ⟨b5, c5, e57, h0, h1⟩ := hd 9 rfl
                 refine ⟨wanted_none rfl, wp_append_oneP rfl (hd 0 rfl) hv.1 e57 h0 h1 hlen fun v' w' hacc hgrow hnew => ?_⟩
                 exact ⟨v', rfl, trivial, ⟨by rw [← List.append_assoc]; exact hacc, hv.2.grow hgrow hnew⟩,
                  ⟨.inr fun _ _ _ => trivial, .inr fun _ _ _ => trivial, .inr fun _ _ _ => trivial, .inr fun _ _ _ => trivial, .inr fun _ _ _ => trivial, .inr fun _ _ _ => trivial, .inr fun _ _ _ => trivial, .inr fun _ _ _ => trivial, .inr fun _ _ _ => trivial, .inr fun _ _ _ => trivial, .inl rfl, .inr fun _ _ h => h.elim, trivial⟩⟩
              · intro a2 wz hv hf hh
                have HN : Box (AccP w1 wz (a2.eval (.tmp 3)) (Y ++ (Z ++ [f])) ∧ BesideP wz (a2.eval (.tmp 3)) (some ⟨P, 0, none⟩) parts) := ⟨hh 11 (by decide)⟩
                clear hv hh HL
                rw [fr_putAll hf]
                clear hf
                simp only [putAll]
                generalize a2.eval (.tmp 3) = v3 at *
                generalize a2.eval (.tmp 48) = u48
                generalize a2.eval (.tmp 49) = u49
                generalize a2.eval (.tmp 50) = u50
                generalize a2.eval (.tmp 51) = u51
                generalize a2.eval (.tmp 52) = u52
                generalize a2.eval (.tmp 53) = u53
                generalize a2.eval (.tmp 54) = u54
                generalize a2.eval (.tmp 55) = u55
                generalize a2.eval (.tmp 56) = u56
                generalize a2.eval (.tmp 57) = u57
                generalize a2.eval (.tmp 58) = u58
                clear a2
                simp only [Act.put, List.setIfInBounds_toArray, List.set_cons_succ, List.set_cons_zero, Exit.then]
                refine hK _ _ ?_
                go_wp2_with fail
                go_roundw
                case rel => exact ⟨j + 1, by omega, by go_num, ⟨by rw [HPS3.out]; exact HN.out.1, HN.out.2⟩⟩
                case measure => simp [intOf]; omega
            · have HT := Box.mk (show tokS (t.extract 0 i) = false by simpa using ht)
              have HPS2 := Box.mk (show partsL (parts.take (j + 1)) = Z by rw [HPS.out, pairO_no (by rw [HCU.out]; exact HT.out), List.append_nil])
              clear ht
              go_wp2_with fail
              refine (refToken_any _ _ (by have := extract_le t 0 i; unfold maxLen; omega)).mono ?_
              rintro e w3 ⟨he, rfl⟩
              rw [HT.out] at he
              subst he
              go_wp2_with fail
              go_roundw
              case rel => exact ⟨j + 1, by omega, by go_num, ⟨by rw [HPS2.out]; exact HL.out.2.1, HL.out.2.2⟩⟩
              case measure => simp [intOf]; omega
          · have e1 : ((t[i].toNat : Int) == 61) = false := by
             rw [beq_eq_false_iff_ne]; intro e
             exact hc (eqb_of (b := 61) (by rw [beq_iff_eq]; exact e))
            have HN := Box.mk (show ∀ q, q < i + 1 → t.data.toList[q]? ≠ some (61 : UInt8) from fun q hq => by
             by_cases e : q = i
             · subst e
               rw [List.getElem?_eq_getElem (by simpa using hit)]
               intro h
               exact hc (show t.data[q]'hit = 61 by simpa using h)
             · exact HL.out.1 q (by omega))
            clear hc
            go_wp2_with fail
            go_roundw
            case rel => exact ⟨i + 1, by omega, by go_num, ⟨HN.out, HL.out.2⟩⟩
            case measure => simp [intOf]; omega
        · have HPS2 := Box.mk (show partsL (parts.take (j + 1)) = Z by rw [HPS.out, pairO_none (idxI_none 61 t i hi hit HL.out.1), List.append_nil])
          go_wp2_with fail
          go_roundw
          case rel => exact ⟨j + 1, by omega, by go_num, ⟨by rw [HPS2.out]; exact HL.out.2.1, HL.out.2.2⟩⟩
          case measure => simp [intOf]; omega
     · have HN := HB2.out.1
       rw [List.take_of_length_le (by omega), ← HPA.out, ← HSN.out] at HN
       have HN := Box.mk HN
       clear HB2
       go_wp2_with fail
       go_roundw
       case rel => exact ⟨k + 1, by omega, by go_num, HN⟩
       case measure => simp [intOf]; omega
  · have HE := Box.mk (show AccP w wr _ (pairsL vs) by
     have := HA.out
     rw [List.take_of_length_le (by omega)] at this
     exact AccP.lift HB.out this)
    clear HA
    go_wp2_with fail
    go_ret
    exact ⟨_, rfl, HE.out⟩
end Go.Proofs.YthgiplnidnkajaaDoor
namespace Go.Proofs.YthgiplnidnkajaaDoor
open Go.RowKit
set_option maxHeartbeats 1000000 in
theorem findClosure_any (f : Fld) (n : ByteArray) (c : Nat) (w : World) (hc : w.cell? ⟨c, 0, none⟩ = some (.string n)) :
  Calls Tryd.prog 33 #[.agg #[.string f.1, .string f.2], .pointer (some ⟨c, 0, none⟩)] w fun e w' => e = .returned (.bool (decide (f.1 = n))) ∧ Below w.heap.size w w' := by
 have hb := below_oneF w (.cells #[.string f.1, .string f.2] 29)
 have hc' := below_cell hb hc
 have HE := Box.mk (toList_eq (a := f.1) (b := n))
 have HB := Box.mk hb
 clear hc hb
 go_enter Tryd.func33, Tryd.ntmps33
 go_wp2_with fail
 go_ret
 exact ⟨ret_bool HE.out, HB.out⟩
def firstV : Option Fld → Value
 | some f => .tuple #[.agg #[.string f.1, .string f.2], .bool true]
 | none => .tuple #[.agg #[.string ⟨#[]⟩, .string ⟨#[]⟩], .bool false]
set_option maxRecDepth 100000 in
set_option maxHeartbeats 2000000 in
theorem first_any (l : List Fld) (n : ByteArray) (a : Option Addr) (cap c : Nat) (w : World) (h : FldsIn w a l) (hl : l.length ≤ 4000000000) (hc : w.cell? ⟨c, 0, none⟩ = some (.string n)) :
  Calls Tryd.prog 32 #[.slice a l.length cap, .func (.func 33) #[] #[.pointer (some ⟨c, 0, none⟩)]] w
   fun e w' => e = .returned (firstV (findL l n)) ∧ Below w.heap.size w w' := by
 obtain ⟨W, hW⟩ : ∃ W, W = w.alloc (.cells #[.string ⟨#[]⟩, .string ⟨#[]⟩] 29) := ⟨_, rfl⟩
 have HBW := Box.mk (show Below w.heap.size w W by rw [hW]; exact below_oneF w _)
 have HQ := Box.mk (show PVar W w.heap.size ⟨#[]⟩ ⟨#[]⟩ by rw [hW]; exact PVar.new w _ _)
 have H0 := Box.mk (h.keep HBW.out)
 have HC := Box.mk (below_cell HBW.out hc)
 clear h hc
 go_enter Tryd.func32, Tryd.ntmps32
 go_upto_region 1 with fail
 rw [← hW]
 clear hW
 go_wp2_with fail
 go_loopw [11] (fun iv wr => ∃ k : Nat, k ≤ l.length ∧ iv = .int .i64 k ∧ Box (Below W.heap.size W wr ∧ ∀ f ∈ l.take k, ¬ f.1 = n)) (fun iv _ => l.length - (intOf iv).toNat)
 case atStart => exact ⟨0, Nat.zero_le _, rfl, ⟨Below.refl _ _, by simp⟩⟩
 case round =>
  obtain ⟨k, hk, rfl, HM⟩ := hrel
  by_cases hlt : k < l.length
  · obtain ⟨x, rfl, hx1, hx2⟩ := (H0.out.keep HM.out.1) k hlt
    have hx2 := cell_next hx2
    have HTK := Box.mk (show l.take (k + 1) = l.take k ++ [l[k]] from List.take_succ_eq_append_getElem hlt)
    have HC1 := Box.mk (below_cell HM.out.1 HC.out)
    by_cases hin : l[k].1 = n
    · have HR := Box.mk (findL_at hlt hin HM.out.2)
      have HIN := Box.mk (show decide (l[k].1 = n) = true by simpa using hin)
      clear hin
      generalize l[k] = f at *
      have hbf := below_oneF wr (.cells #[.string f.1, .string f.2] 29)
      have HC2 := Box.mk (below_cell hbf HC1.out)
      have HBF := Box.mk hbf
      clear hbf
      go_wp2_with fail
      refine (findClosure_any f n c _ HC2.out).mono ?_
      rintro e w1 ⟨he, hb1⟩
      rw [HIN.out] at he
      subst he
      have HB1 := Box.mk (below_trans HBW.out (below_trans HM.out.1 (below_trans HBF.out hb1)))
      have HQ1 := Box.mk (HQ.out.keep (below_trans HM.out.1 (below_trans HBF.out hb1)))
      have hc0 : w1.cell? ⟨wr.heap.size, 0, none⟩ = some (.string f.1) := below_cell hb1 (by rw [new_cellF]; rfl)
      have hc1 : w1.cell? ⟨wr.heap.size, 1, none⟩ = some (.string f.2) := below_cell hb1 (by rw [new_cellF]; rfl)
      clear hb1 hx1 hx2
      go_wp2_with (refine wpList_store_row rfl 29 _ _ rfl w.heap.size #[.string f.1, .string f.2] rfl rfl 29 _ HQ1.out sizeP rfl (oneF _ _) ?_)
      (try simp only [Exit.inBlock, Exit.then])
      refine bodyPost_ret (results_row_tmpF rfl _ _ w.heap.size _ _ _ _ rfl (setRow_heap _ _ _ _ _ _ HQ1.out) Tryd.underlying29 rfl sizeP) rfl ?_
      exact ⟨by rw [HR.out]; rfl, below_setRow HB1.out (Nat.le_refl _) _⟩
    · have HIN := Box.mk (show decide (l[k].1 = n) = false by simpa using hin)
      have HALL := Box.mk (show ∀ f ∈ l.take (k + 1), ¬ f.1 = n from fun f hf => by
       rw [HTK.out] at hf
       rcases List.mem_append.1 hf with h | h
       · exact HM.out.2 f h
       · simp at h; rw [h]; exact hin)
      clear hin
      generalize l[k] = f at *
      have hbf := below_oneF wr (.cells #[.string f.1, .string f.2] 29)
      have HC2 := Box.mk (below_cell hbf HC1.out)
      have HBF := Box.mk hbf
      clear hbf
      go_wp2_with fail
      refine (findClosure_any f n c _ HC2.out).mono ?_
      rintro e w1 ⟨he, hb1⟩
      rw [HIN.out] at he
      subst he
      have HM1 := Box.mk (And.intro (below_trans HM.out.1 (below_trans HBF.out hb1)) HALL.out)
      clear hb1 hx1 hx2
      go_wp2_with fail
      go_roundw
      case rel => exact ⟨k + 1, by omega, by go_num, HM1⟩
      case measure => simp [intOf]; omega
  · have HR := Box.mk (findL_none hlt HM.out.2)
    have hb := below_oneF wr (.cells #[.string ⟨#[]⟩, .string ⟨#[]⟩] 29)
    have HB1 := Box.mk (below_trans HBW.out (below_trans HM.out.1 hb))
    have HQ1 := Box.mk (HQ.out.keep (below_trans HM.out.1 hb))
    clear hb
    go_wp2_with (refine wpList_store_row rfl 29 _ _ rfl w.heap.size #[.string ⟨#[]⟩, .string ⟨#[]⟩] rfl rfl 29 _ HQ1.out sizeP rfl (oneF _ _) ?_)
    (try simp only [Exit.inBlock, Exit.then])
    refine bodyPost_ret (results_row_tmpF rfl _ _ w.heap.size _ _ _ _ rfl (setRow_heap _ _ _ _ _ _ HQ1.out) Tryd.underlying29 rfl sizeP) rfl ?_
    exact ⟨by rw [HR.out]; rfl, below_setRow HB1.out (Nat.le_refl _) _⟩
set_option maxRecDepth 100000 in
set_option maxHeartbeats 2000000 in
theorem ckFind_any (l : List Fld) (n : ByteArray) (a : Option Addr) (cap : Nat) (w : World) (m : Int) (h : FldsIn w a l) (hz : ShortF l) (hl : l.length ≤ 1000000) (hm : w.cell? ⟨0, 0, none⟩ = some (.int .i64 m)) (ht : total (valuesL l ckL) ≤ 4000000000) :
  Calls Tryd.prog 11 #[.slice a l.length cap, .string n] w fun e w' => e = .returned (findV (findL (pairsL (valuesL l ckL)) n)) ∧ Below w.heap.size w w' := by
 obtain ⟨ps, hps⟩ : ∃ ps, ps = pairsL (valuesL l ckL) := ⟨_, rfl⟩
 have hpl : ps.length ≤ 4000000000 := by rw [hps]; exact Nat.le_trans (pairsL_len _) ht
 have HPS := Box.mk hps
 rw [← hps]
 clear hps
 obtain ⟨W, hW⟩ : ∃ W, W = w.alloc (.cells #[.string n] 9) := ⟨_, rfl⟩
 have HBW := Box.mk (show Below w.heap.size w W by rw [hW]; exact below_oneF w _)
 have HC := Box.mk (show W.cell? ⟨w.heap.size, 0, none⟩ = some (.string n) by rw [hW, new_cellF]; rfl)
 have H0 := Box.mk (And.intro (h.keep HBW.out) (And.intro hz (below_cell HBW.out hm)))
 have HT := Box.mk ht
 clear h hz hm ht
 go_enter Tryd.func11, Tryd.ntmps11
 go_upto_region 1 with fail
 rw [← hW]
 clear hW
 go_wp2_with fail
 refine (ckPairs_any l a cap W m H0.out.1 H0.out.2.1 hl H0.out.2.2 HT.out).mono ?_
 rintro e w1 ⟨v1, rfl, hv1⟩
 rw [← HPS.out] at hv1
 obtain ⟨a1, c1, rfl, hf1⟩ := hv1.shape
 have HF1 := Box.mk hf1
 have HC1 := Box.mk (below_cell hv1.2 HC.out)
 have HB1 := Box.mk (below_trans HBW.out hv1.2)
 clear hv1 hf1 H0 HT
 go_wp2_with fail
 refine (first_any ps n a1 c1 _ w1 HF1.out hpl HC1.out).mono ?_
 rintro e w2 ⟨he, hb2⟩
 have HB2 := Box.mk (below_trans HB1.out hb2)
 clear hb2
 cases hf : findL ps n with
 | none =>
  rw [hf] at he
  have he : e = .returned (.tuple #[.agg #[.string ⟨#[]⟩, .string ⟨#[]⟩], .bool false]) := he
  subst he
  have HB3 := Box.mk (below_trans HB2.out (below_oneF w2 (.cells #[.string ⟨#[]⟩, .string ⟨#[]⟩] 29)))
  have HFN := Box.mk hf
  clear hf
  go_wp2_with fail
  go_ret2
  exact ⟨by rw [HFN.out]; rfl, HB3.out⟩
 | some f =>
  rw [hf] at he
  have he : e = .returned (.tuple #[.agg #[.string f.1, .string f.2], .bool true]) := he
  subst he
  have HB3 := Box.mk (below_trans HB2.out (below_oneF w2 (.cells #[.string f.1, .string f.2] 29)))
  have HFN := Box.mk hf
  clear hf
  go_wp2_with fail
  go_ret2
  exact ⟨by rw [HFN.out]; rfl, HB3.out⟩
set_option maxRecDepth 100000 in
set_option maxHeartbeats 2000000 in
theorem refFind_any (l : List Fld) (n : ByteArray) (a : Option Addr) (cap : Nat) (w : World) (h : FldsIn w a l) (hz : ShortF l) (hl : l.length ≤ 1000000) (ht : total (valuesL l ckL) ≤ 4000000000) :
  Calls Tryd.prog 12 #[.slice a l.length cap, .string n] w fun e w' => e = .returned (findV (findL (pairsL (valuesL l ckL)) n)) ∧ Below w.heap.size w w' := by
 obtain ⟨ps, hps⟩ : ∃ ps, ps = pairsL (valuesL l ckL) := ⟨_, rfl⟩
 have hpl : ps.length ≤ 4000000000 := by rw [hps]; exact Nat.le_trans (pairsL_len _) ht
 have HPS := Box.mk hps
 rw [← hps]
 clear hps
 have H0 := Box.mk (And.intro h (And.intro hz ht))
 clear h hz ht
 go_enter Tryd.func12, Tryd.ntmps12
 go_wp2_with fail
 refine (refPairs_any l a cap w H0.out.1 H0.out.2.1 hl H0.out.2.2).mono ?_
 rintro e w1 ⟨v1, rfl, hv1⟩
 rw [← HPS.out] at hv1
 obtain ⟨a1, c1, rfl, hf1⟩ := hv1.shape
 have HF1 := Box.mk hf1
 have HB1 := Box.mk hv1.2
 clear hv1 hf1 H0
 go_wp2_with fail
 go_loopw [7] (fun iv wr => ∃ k : Nat, k ≤ ps.length ∧ iv = .int .i64 k ∧ Box (Below w.heap.size w wr ∧ FldsIn wr a1 ps ∧ ∀ f ∈ ps.take k, ¬ f.1 = n)) (fun iv _ => ps.length - (intOf iv).toNat)
 case atStart => exact ⟨0, Nat.zero_le _, rfl, ⟨HB1.out, HF1.out, by simp⟩⟩
 case round =>
  clear HB1 HF1
  obtain ⟨k, hk, rfl, HM⟩ := hrel
  by_cases hlt : k < ps.length
  · obtain ⟨x, rfl, hx1, hx2⟩ := HM.out.2.1 k hlt
    have hx2 := cell_next hx2
    have HTK := Box.mk (show ps.take (k + 1) = ps.take k ++ [ps[k]] from List.take_succ_eq_append_getElem hlt)
    by_cases hin : ps[k].1 = n
    · have HR := Box.mk (findL_at hlt hin HM.out.2.2)
      have hq : (ps[k].1.toList == n.toList) = true := by rw [toList_eq]; simpa using hin
      clear hin
      generalize ps[k] = f at *
      go_wp2_with fail
      go_ret2
      exact ⟨by rw [HR.out]; rfl, HM.out.1⟩
    · have HALL := Box.mk (show ∀ f ∈ ps.take (k + 1), ¬ f.1 = n from fun f hf => by
       rw [HTK.out] at hf
       rcases List.mem_append.1 hf with h | h
       · exact HM.out.2.2 f h
       · simp at h; rw [h]; exact hin)
      have hq : (ps[k].1.toList == n.toList) = false := by rw [toList_eq]; simpa using hin
      clear hin
      generalize ps[k] = f at *
      have HM1 := Box.mk (And.intro HM.out.1 (And.intro HM.out.2.1 HALL.out))
      go_wp2_with fail
      go_roundw
      case rel => exact ⟨k + 1, by omega, by go_num, HM1⟩
      case measure => simp [intOf]; omega
  · have HR := Box.mk (findL_none hlt HM.out.2.2)
    go_wp2_with fail
    go_ret2
    exact ⟨by rw [HR.out]; rfl, HM.out.1⟩
section
variable {Q : Exit → Act → World → Prop} {a : Act} {w : World} {o : Oper} {s : Spec}
theorem loc_addS {x y : Operand} {t : TypeId} (ho : o.op = .binOp .add 9 x y t) {b c : ByteArray} (hx : a.eval x = .string b) (hy : a.eval y = .string c) (hn : b.size + c.size ≤ 4000000000) (hs : s.p (.string (b ++ c)) w) :
  o.wp Tryd.prog a w (fun a' w' => ∃ v, a' = a.put o.dst v ∧ Below w.heap.size w w' ∧ s.p v w') Q :=
 loc_run (v := .string (b ++ c)) (by
  have h := run_string_add_sum (P := Tryd.prog) (w := w) b c (by omega)
  unfold execOp
  simp [ho, hx, hy, eqGuard, binOp, h, Result.andThen]) (Below.refl _ _) hs
theorem loc_cell {x : Operand} {t : TypeId} (ho : o.op = .load t x) {p : Addr} (hx : a.eval x = .pointer (some p)) {v : Value} (hc : w.cell? p = some v) (ht : (isAgg t).run Tryd.prog w = .ok false w) (hs : s.p v w) :
  o.wp Tryd.prog a w (fun a' w' => ∃ v, a' = a.put o.dst v ∧ Below w.heap.size w w' ∧ s.p v w') Q :=
 loc_load ho (v := v) (by
  rw [hx]
  simp [Instr.loadAt, Instr.sureAddr, loadVar, hc, ht]) hs
theorem agg_string (w : World) : (isAgg 9).run Tryd.prog w = .ok false w := by
 unfold isAgg; rw [Sem.run_bind, run_underlying Tryd.underlying9 w]; rfl
end
end Go.Proofs.YthgiplnidnkajaaDoor
namespace Go.Proofs.YthgiplnidnkajaaDoor
open Go.RowKit
theorem IntsF.alloc {w : World} {a : Option Addr} {n : Nat} (h : IntsF w a n) (o : Obj) : IntsF (w.alloc o) a n := h.keep (below_oneF w o)
theorem src_box {w : World} {a : Option Addr} {n c : Nat} (h : IntsF w a n) (hn : n ≤ maxLen) : Src (w.alloc (.cells #[.slice a n c, .int .i64 0] 46)) w.heap.size a n c := by
 refine ⟨⟨0, Nat.zero_le _, heap_alloc_new _ _⟩, hn, h.alloc _, fun x e h0 => ?_⟩
 obtain ⟨y, z, e2, hc, _⟩ := h 0 h0
 rw [e] at e2
 obtain rfl := Option.some.inj e2
 have := lt_cell hc
 rw [add_blockF] at this
 omega
theorem below_box {w w1 w2 : World} (h : Below w.heap.size w w1) (hg : w1.grownBy w2 (some w.heap.size)) : Below w.heap.size w w2 :=
 h.grown hg h.size fun k e => by have := Option.some.inj e; omega
theorem SmallF.short {l : List Fld} (h : SmallF l) : ShortF l := fun f hf => ⟨le_maxLen (h f hf).1, le_maxLen (h f hf).2⟩
theorem strsIn_twoF (w : World) (n m : ByteArray) (t : TypeId) : StrsIn (w.alloc (.cells #[.string n, .string m] t)) (some ⟨w.heap.size, 0, none⟩) [n, m] := fun j hj => by
 have hj' : j < 2 := by simpa using hj
 match j, hj' with
 | 0, _ => exact ⟨_, rfl, by rw [Addr.add_lit, new_cellF]; rfl⟩
 | 1, _ => exact ⟨_, rfl, by rw [Addr.add_lit, new_cellF]; rfl⟩
theorem digs_len {b : Nat} (hb : 2 ≤ b) : ∀ (k n : Nat), n < 2 ^ k → 1 ≤ k → (digs b n).length ≤ k
 | 0, n, _, h => absurd h (by omega)
 | k + 1, n, hn, _ => by
  by_cases h : n < b
  · rw [digs_small h]; simp
  · rw [digs_big hb h, List.length_append]
    have h1 : n / b ≤ n / 2 := Nat.div_le_div_left hb (by omega)
    have h2 : n / 2 < 2 ^ k := by rw [Nat.pow_succ] at hn; omega
    have h3 : 1 ≤ n / b := by
     have : b / b ≤ n / b := Nat.div_le_div_right (by omega)
     rw [Nat.div_self (by omega)] at this; exact this
    have hk : 1 ≤ k := by
     match k, h2 with
     | 0, h2 => simp at h2; omega
     | k + 1, _ => omega
    have := digs_len hb k (n / b) (by omega) hk
    simp; omega
theorem fmtS_size {b : Nat} (hb : 2 ≤ b) (n : Int) (h1 : n ≤ 9223372036854775807) : (fmtS b n).size ≤ 64 := by
  unfold fmtS; split
  · decide
  · show (digs b n.toNat).toArray.size ≤ 64
    simpa using digs_len hb 64 n.toNat (by have : (2 : Nat) ^ 64 = 18446744073709551616 := by decide
                                           omega) (by omega)
theorem fmtS_max {b : Nat} (hb : 2 ≤ b) (n : Int) (h1 : n ≤ 9223372036854775807) : (fmtS b n).size ≤ maxLen := Nat.le_trans (fmtS_size hb n h1) (by decide)
theorem refSum_two (s1 s2 : ByteArray) (a : Addr) (c : Nat) (w : World) (h1 : s1.size ≤ maxLen) (h2 : s2.size ≤ maxLen) (h : StrsIn w (some a) [s1, s2]) :
  Calls Tryd.prog 36 #[.slice (some a) 2 c] w fun e w' => ∃ h : Nat, e = .returned (.int .u64 h) ∧ h < 18446744073709551616 ∧ Below w.heap.size w w' := by
 refine (refSum_any [s1, s2] (some a) c w (by show 2 ≤ maxLen; decide) (fun x hx => ?_) h).mono ?_
 · simp at hx
   rcases hx with rfl | rfl
   · exact h1
   · exact h2
 · rintro e w' ⟨rfl, hb⟩
   exact ⟨_, rfl, (by unfold sumL; rw [List.foldl_cons, List.foldl_cons, List.foldl_nil]; exact sumN_lt _ _), hb⟩
def hexOk (c : UInt8) : Bool := decide (48 ≤ c.toNat ∧ c.toNat ≤ 57 ∨ 97 ≤ c.toNat ∧ c.toNat ≤ 102)
theorem hex_digit {z : Int} (h0 : 0 ≤ z) (h1 : z ≤ 15) : (fmtS 16 z).size = 1 ∧ (fmtS 16 z).data.toList.all hexOk = true := by
 obtain ⟨k, rfl⟩ : ∃ k : Nat, z = k := ⟨z.toNat, by omega⟩
 have hk : k < 16 := by omega
 have h : ∀ m : Fin 16, (fmtS 16 (m.val : Int)).size = 1 ∧ (fmtS 16 (m.val : Int)).data.toList.all hexOk = true := by decide +kernel
 exact h ⟨k, hk⟩
theorem idB_has (c : UInt8) : decide (0 ≤ Lib.indexByte idDig.data.toList c) = idB c := indexByte_has idDig c
set_option maxHeartbeats 1000000 in
theorem ckID_any (s : ByteArray) (w : World) (hs : s.size ≤ maxLen) :
  Calls Tryd.prog 15 #[.string s] w fun e w' => e = .returned (.bool (idS s)) ∧ w = w' := by
 unfold maxLen at hs
 by_cases h16 : s.size = 16
 · have H16 := Box.mk h16
   have e16 : ((s.size : Int) != 16) = false := by rw [h16]; rfl
   clear h16
   go_enter Tryd.func15, Tryd.ntmps15
   go_wp2
   go_loop [9] (fun i => ∃ k : Nat, k ≤ s.size ∧ i = .int .i64 k ∧ Box ((s.data.toList.take k).all idB = true)) (fun i => s.size - (intOf i).toNat)
   case atStart => exact ⟨0, Nat.zero_le _, rfl, ⟨by simp⟩⟩
   case round =>
    obtain ⟨k, hk, rfl, HP⟩ := hrel
    by_cases hlt : k < s.size
    · have HI := Box.mk (idB_has s[k])
      obtain ⟨z, hz⟩ : ∃ z, Lib.indexByte idDig.data.toList s[k] = z := ⟨_, rfl⟩
      have HZ := Box.mk hz
      rw [hz] at HI
      clear hz
      by_cases hc : idB s[k] = true
      · have h0 : 0 ≤ z := by have := HI.out; rw [hc] at this; simpa using this
        have HC := Box.mk hc
        clear hc
        go_wp2_with (go_at_call 34; refine (indexByte_any idDig _ _).mono ?_; rintro e w' ⟨rfl, rfl⟩; rw [HZ.out])
        go_round
        case rel => exact ⟨k + 1, by omega, by go_num, ⟨by rw [take_snoc s k hlt, List.all_append, HP.out]; simpa using HC.out⟩⟩
        case measure => simp [intOf]; omega
      · have hc' : idB s[k] = false := by simpa using hc
        have h0 : z < 0 := by have := HI.out; rw [hc'] at this; simpa using this
        have HC := Box.mk hc'
        clear hc hc'
        go_wp2_with (go_at_call 34; refine (indexByte_any idDig _ _).mono ?_; rintro e w' ⟨rfl, rfl⟩; rw [HZ.out])
        go_ret
        exact ⟨ret_bool (idS_no hlt HC.out).symm, rfl⟩
    · have HE := Box.mk (idS_end hk hlt HP.out)
      go_wp2
      go_ret
      exact ⟨ret_bool (by rw [HE.out, H16.out]; rfl), rfl⟩
 · have HR := Box.mk (idS_len h16)
   have e16 : ((s.size : Int) != 16) = true := by rw [bne_iff_ne]; omega
   clear h16
   go_enter Tryd.func15, Tryd.ntmps15
   go_wp2
   go_ret
   exact ⟨ret_bool HR.out.symm, rfl⟩
set_option maxHeartbeats 1000000 in
theorem refID_any (s : ByteArray) (w : World) (hs : s.size ≤ maxLen) :
    Calls Tryd.prog 16 #[.string s] w fun e w' => e = .returned (.bool (idS s)) ∧ w = w' := by
  unfold maxLen at hs
  go_enter Tryd.func16, Tryd.ntmps16
  go_wp2
  go_loop [3] (fun i => ∃ k : Nat, k ≤ s.size ∧ i = .int .i64 k ∧ Box ((s.data.toList.take k).all idB = true)) (fun i => s.size - (intOf i).toNat)
  case atStart => exact ⟨0, Nat.zero_le _, rfl, ⟨by simp⟩⟩
  case round =>
    obtain ⟨k, hk, rfl, HP⟩ := hrel
    by_cases hlt : k < s.size
    · have b1 : (s[k].toNat : Int) ≤ 255 := by have := s[k].toNat_lt; omega
      have HI := Box.mk (idB_eq s[k])
      have hcase : Box (idB s[k] = true) ∧ digB (s[k].toNat : Int) = true ∨ Box (idB s[k] = true) ∧ digB (s[k].toNat : Int) = false ∧ ¬ (s[k].toNat : Int) < 97 ∧ (s[k].toNat : Int) ≤ 102
          ∨ Box (idB s[k] = false) ∧ digB (s[k].toNat : Int) = false ∧ (s[k].toNat : Int) < 97 ∨ Box (idB s[k] = false) ∧ digB (s[k].toNat : Int) = false ∧ ¬ (s[k].toNat : Int) < 97 ∧ ¬ (s[k].toNat : Int) ≤ 102 := by
        have e := HI.out
        cases hd : digB (s[k].toNat : Int) with
        | true => left; exact ⟨⟨by rw [e, hd]; rfl⟩, rfl⟩
        | false =>
          right
          rw [hd, Bool.false_or] at e
          by_cases h1 : (s[k].toNat : Int) < 97
          · right; left
            exact ⟨⟨by rw [e, decide_eq_false (by omega)]; rfl⟩, rfl, h1⟩
          · by_cases h2 : (s[k].toNat : Int) ≤ 102
            · left
              exact ⟨⟨by rw [e, decide_eq_true (by omega), decide_eq_true h2]; rfl⟩, rfl, h1, h2⟩
            · right; right
              exact ⟨⟨by rw [e, decide_eq_false h2, Bool.and_false]⟩, rfl, h1, h2⟩
      clear HI
      rcases hcase with ⟨HC, hd⟩ | ⟨HC, hd, h97, h102⟩ | ⟨HC, hd, h97⟩ | ⟨HC, hd, h97, h102⟩
      all_goals
        go_wp2_with (go_at_call 35; refine (digit_any _ _ (by omega) (by omega)).mono ?_; rintro e w' ⟨rfl, rfl⟩)
        first
        | (go_round
           case rel => exact ⟨k + 1, by omega, by go_num, ⟨by rw [take_snoc s k hlt, List.all_append, HP.out]; simpa using HC.out⟩⟩
           case measure => simp [intOf]; omega)
        | (go_ret
           exact ⟨ret_bool (idS_no hlt HC.out).symm, rfl⟩)
    · have HE := Box.mk (idS_end hk hlt HP.out)
      go_wp2
      go_ret
      exact ⟨ret_bool (by rw [HE.out]; rw [Bool.eq_iff_iff]; simp; omega), rfl⟩
def eqS : ByteArray := ⟨#[61]⟩
def setCk : ByteArray := ⟨#[83, 101, 116, 45, 67, 111, 111, 107, 105, 101]⟩
def attrS : ByteArray := ⟨#[59, 32, 80, 97, 116, 104, 61, 47, 59, 32, 72, 116, 116, 112, 79, 110, 108, 121]⟩
def issueS (n i : ByteArray) : ByteArray := n ++ eqS ++ i ++ attrS
set_option maxRecDepth 100000 in
set_option maxHeartbeats 2000000 in
theorem issue_any (n i : ByteArray) (w : World) (hn : n.size ≤ 4000000000) (hi : i.size ≤ 4000000000) :
  Calls Tryd.prog 17 #[.string n, .string i] w fun e w' => e = .returned (.agg #[.string setCk, .string (issueS n i)]) ∧ Below w.heap.size w w' := by
 have HB := Box.mk (below_oneF w (.cells #[.string ⟨#[]⟩, .string ⟨#[]⟩] 37))
 have HQ := Box.mk (FVar.new w ⟨#[]⟩ ⟨#[]⟩)
 go_enter Tryd.func17, Tryd.ntmps17
 go_wp2_with (refine wpList_store_row rfl 37 _ _ rfl w.heap.size #[.string setCk, .string (issueS n i)] rfl rfl 37 _ HQ.out sizeF rfl (oneF _ _) ?_)
 (try simp only [Exit.inBlock, Exit.then])
 refine bodyPost_ret (results_cell_row rfl _ _ w.heap.size _ _ _ _ rfl (setRow_heap _ _ _ _ _ _ HQ.out) Tryd.underlying37 rfl sizeF) rfl ?_
 exact ⟨rfl, below_setRow HB.out (Nat.le_refl _) _⟩
set_option maxRecDepth 100000 in
set_option maxHeartbeats 2000000 in
theorem refIssue_any (n i : ByteArray) (w : World) (hn : n.size ≤ 4000000000) (hi : i.size ≤ 4000000000) :
  Calls Tryd.prog 18 #[.string n, .string i] w fun e w' => e = .returned (.agg #[.string setCk, .string (issueS n i)]) ∧ Below w.heap.size w w' := by
 have HB := Box.mk (below_oneF w (.cells #[.string ⟨#[]⟩, .string ⟨#[]⟩] 37))
 have HQ := Box.mk (FVar.new w ⟨#[]⟩ ⟨#[]⟩)
 go_enter Tryd.func18, Tryd.ntmps18
 go_wp2_with (refine wpList_store_row rfl 37 _ _ rfl w.heap.size #[.string setCk, .string (issueS n i)] rfl rfl 37 _ HQ.out sizeF rfl (oneF _ _) ?_)
 (try simp only [Exit.inBlock, Exit.then])
 refine bodyPost_ret (results_cell_row rfl _ _ w.heap.size _ _ _ _ rfl (setRow_heap _ _ _ _ _ _ HQ.out) Tryd.underlying37 rfl sizeF) rfl ?_
 exact ⟨rfl, below_setRow HB.out (Nat.le_refl _) _⟩
theorem OwnF.mono {B B' : Nat} {w : World} {v : Value} {l : List Fld} (h : OwnF B w v l) (hb : B' ≤ B) : OwnF B' w v l := by
 obtain ⟨h1, h2⟩ := h
 refine ⟨h1, ?_⟩
 rcases h2 with h2 | ⟨g, cap, cur, hv, hg, hc, r⟩
 · exact .inl h2
 · exact .inr ⟨g, cap, cur, hv, Nat.le_trans hb hg, hc, r⟩
theorem fldsIn_new (w : World) (l : List Fld) (cs : Array Value) (h : cs = (cellsF l).toArray) : FldsIn (w.alloc (.cells cs 37)) (some ⟨w.heap.size, 0, none⟩) l := by
 refine FldsIn.of_cells fun j u hj => ?_
 rw [Addr.add_lit, Nat.zero_add, new_cellF, h]
 simpa using hj
def MdSt (g : Nat) (a : Option Addr) (n c : Nat) (W : World) (K : Nat) (v : Value) (w : World) : Prop :=
 ∃ x, OwnF (g + 1) w v x ∧ x.length ≤ K ∧ SmallF x ∧ Src w g a n c ∧ W.grownBy w (some g)
theorem MdSt.next {g : Nat} {a : Option Addr} {n c : Nat} {W : World} {K : Nat} {v : Value} {w w' : World} (h : MdSt g a n c W K v w) (hs : Src w' g a n c) (hg : w.grownBy w' (some g)) : MdSt g a n c W K v w' := by
 obtain ⟨x, h1, h2, h3, _, h5⟩ := h
 exact ⟨x, h1.grown hg (fun k hk e => by have := (h1.lt hk).1; have := Option.some.inj e; omega), h2, h3, hs, grownBy_trans h5 hg⟩
theorem MdSt.src {g : Nat} {a : Option Addr} {n c : Nat} {W : World} {K : Nat} {v : Value} {w : World} (h : MdSt g a n c W K v w) : Src w g a n c := by
 obtain ⟨x, _, _, _, h, _⟩ := h
 exact h
theorem mdApp {g : Nat} {a : Option Addr} {n c : Nat} {W w2 w3 : World} {K : Nat} {v v' : Value} {x : List Fld} {f : Fld} {o : Obj} (hW : W.heap.size = g + 1) (ho : OwnF (g + 1) w2 v x) (hk : x.length ≤ K) (hs : SmallF x) (hsrc : Src w2 g a n c) (hgr : W.grownBy w2 (some g))
  (hlow : ∀ y, a = some y → 0 < n → y.block < g) (hf : f.1.size ≤ 1048576 ∧ f.2.size ≤ 1048576) (hown : OwnF (g + 1) w3 v' (x ++ [f])) (hgrow : (w2.alloc o).grownBy w3 v.ownBlock) : MdSt g a n c W (K + 1) v' w3 := by
 have hg2 : w2.grownBy w3 v.ownBlock := ⟨hgrow.os, hgrow.tape, hgrow.output, Nat.le_trans (by simp) hgrow.size, fun k hk hne => by
  rw [hgrow.block k (by simp; omega) hne]
  exact (below_oneF w2 _).block k hk⟩
 refine ⟨_, hown, by rw [List.length_append]; show _ + 1 ≤ _; omega, ?_, hsrc.grown hg2 (fun e => by have := (ho.lt e.symm).1; omega) (fun y e h0 e2 => by have := (ho.lt e2.symm).1; have := hlow y e h0; omega), grownBy_new hgr hg2 (fun i e => by have := (ho.lt e).1; omega)⟩
 intro y hy
 rcases List.mem_append.1 hy with hy | hy
 · exact hs y hy
 · obtain rfl := List.mem_singleton.1 hy; exact hf
theorem mdOf_any {g : Nat} {a : Option Addr} {n c : Nat} {W : World} {K : Nat} {v : Value} (l : List ByteArray) (m : Nat) (cs : Array Value) (w : World) (h : MdSt g a n c W K v w) (hc : cs = (l.map Value.string).toArray) (hm : l.length = m) (h0 : 0 < m) (h1 : m ≤ 1000) :
  Calls Tryd.prog 23 #[.pointer (some ⟨g, 0, none⟩), .slice (some ⟨w.heap.size, 0, none⟩) m m] (w.alloc (.cells cs 9)) fun e w' => ∃ s ∈ l, e = .returned (.string s) ∧ MdSt g a n c W K v w' := by
 subst hc
 have hb := below_oneF w (.cells (l.map Value.string).toArray 9)
 have hlt := h.src.lt
 refine (of_n g w.heap.size m l m a n c _ (h.src.keep hb) (strsIn_newF w l 9) (by omega) hm h0 h1).mono ?_
 rintro e w' ⟨s, hs, rfl, hsrc, hg⟩
 exact ⟨s, hs, rfl, h.next hsrc (grownBy_trans (grownBy_below hb) hg)⟩
theorem AccP.lit {w0 w : World} {v : Value} {l : List Fld} (h : AccP w0 w v l) (hne : l ≠ []) : ∃ g cap, v = .slice (some ⟨g, 0, none⟩) l.length cap ∧ g < w.heap.size ∧ ∀ j u, (cellsF l)[j]? = some u → w.cell? ⟨g, j, none⟩ = some u := by
 obtain ⟨a, c, hv, hs⟩ := h.shape
 rcases h.1.2 with ⟨_, h2⟩ | ⟨g, cap, cur, hv', _, hc, _⟩
 · exact absurd (List.eq_nil_of_length_eq_zero h2) hne
 · rw [hv] at hv'
   cases hv'
   refine ⟨g, c, hv, (Array.getElem?_eq_some_iff.1 hc).1, fun j u hj => ?_⟩
   have := hs.cells j u hj
   rwa [Addr.add_lit, Nat.zero_add] at this
def awCk : List Fld := [(ckL, ⟨#[97, 61, 49, 59, 32, 98, 59, 32, 99, 61, 120, 61, 121]⟩)]
def awPs : List Fld := [(⟨#[97]⟩, ⟨#[49]⟩), (⟨#[99]⟩, ⟨#[120, 61, 121]⟩)]
def awI1 : ByteArray := ⟨#[48, 49, 50, 51, 52, 53, 54, 55, 56, 57, 97, 98, 99, 100, 101, 102]⟩
def awI2 : ByteArray := ⟨#[48, 49, 50, 51, 52, 53, 54, 55, 56, 57, 97, 98, 99, 100, 101, 70]⟩
theorem awCk_ps : pairsL (valuesL awCk ckL) = awPs := by decide +kernel
theorem awCk_total : total (valuesL awCk ckL) ≤ 4000000000 := by decide +kernel
theorem awI1_yes : idS awI1 = true := by decide +kernel
theorem awI2_no : idS awI2 = false := by decide +kernel
theorem awCk_short : ShortF awCk := by
 have h : awCk.all (fun f => decide (f.1.size ≤ maxLen) && decide (f.2.size ≤ maxLen)) = true := by decide +kernel
 intro f hf
 have h1 := List.all_eq_true.1 h f hf
 rw [Bool.and_eq_true] at h1
 exact ⟨of_decide_eq_true h1.1, of_decide_eq_true h1.2⟩
theorem ckID_eq {s : ByteArray} {r : Bool} (w : World) (hs : s.size ≤ maxLen) (h : idS s = r) :
  Calls Tryd.prog 15 #[.string s] w fun e w' => e = .returned (.bool r) ∧ w = w' := by
 subst h; exact ckID_any s w hs
theorem refID_eq {s : ByteArray} {r : Bool} (w : World) (hs : s.size ≤ maxLen) (h : idS s = r) :
  Calls Tryd.prog 16 #[.string s] w fun e w' => e = .returned (.bool r) ∧ w = w' := by
 subst h; exact refID_any s w hs
set_option maxRecDepth 100000 in
set_option maxHeartbeats 4000000 in
theorem ckAwake_any (w : World) (m : Int) (hm : w.cell? ⟨0, 0, none⟩ = some (.int .i64 m)) : Calls Tryd.prog 8 #[] w fun e w' => e = .returned (.bool true) ∧ Below w.heap.size w w' := by
 obtain ⟨W1, hW1⟩ : ∃ W1, W1 = w.alloc (.cells (cellsF awCk).toArray 37) := ⟨_, rfl⟩
 have HB1 := Box.mk (show Below w.heap.size w W1 by rw [hW1]; exact below_oneF w _)
 have HF1 := Box.mk (show FldsIn W1 (some ⟨w.heap.size, 0, none⟩) awCk by rw [hW1]; exact fldsIn_new w awCk _ rfl)
 have HM := Box.mk (below_cell HB1.out hm)
 clear hm
 go_enter Tryd.func8, Tryd.ntmps8
 go_wp2_with fail
 change Calls _ _ _ (w.alloc (.cells (cellsF awCk).toArray 37)) _
 rw [← hW1]
 clear hW1
 refine (ckPairs_any awCk _ 1 W1 m HF1.out awCk_short (by decide) HM.out awCk_total).mono ?_
 rintro e w2 ⟨v2, rfl, hv2⟩
 rw [awCk_ps] at hv2
 obtain ⟨g2, c2, hve, hg2, hs2⟩ := hv2.lit (by decide)
 have hve : v2 = .slice (some ⟨g2, 0, none⟩) 2 c2 := hve
 subst hve
 have HB2 := Box.mk (below_trans HB1.out hv2.2)
 have hx0 := show w2.cell? ⟨g2, 0, none⟩ = some (.string ⟨#[97]⟩) from hs2 0 _ rfl
 have hx1 := show w2.cell? ⟨g2, 1, none⟩ = some (.string ⟨#[49]⟩) from hs2 1 _ rfl
 have hx2 := show w2.cell? ⟨g2, 2, none⟩ = some (.string ⟨#[99]⟩) from hs2 2 _ rfl
 have hx3 := show w2.cell? ⟨g2, 3, none⟩ = some (.string ⟨#[120, 61, 121]⟩) from hs2 3 _ rfl
 clear hv2 hs2 HF1 HB1 HM hg2
 go_wp2_with fail
 refine (ckID_eq _ (by decide) awI1_yes).mono ?_
 rintro e w3 ⟨rfl, rfl⟩
 go_wp2_with fail
 refine (ckID_eq _ (by decide) awI2_no).mono ?_
 rintro e w3 ⟨rfl, rfl⟩
 go_wp2_with fail
 go_ret
 exact ⟨rfl, HB2.out⟩
def safeB (l : List UInt8) : List UInt8 := l.filter fun c => c != 59
theorem safeB_snoc (s : ByteArray) (k : Nat) (h : k < s.size) : safeB (s.data.toList.take (k + 1)) = safeB (s.data.toList.take k) ++ (if s[k] = 59 then [] else [s[k]]) := by
 unfold safeB
 rw [take_snoc s k h, List.filter_append]
 congr 1
 by_cases e : s[k] = 59
 · rw [if_pos e, List.filter_cons, e]; rfl
 · rw [if_neg e, List.filter_cons, if_pos (by simpa using e)]; rfl
theorem safeB_no (l : List UInt8) : ¬ (59 : UInt8) ∈ safeB l := fun h => by
 have := (List.mem_filter.1 h).2
 simp at this
theorem safeB_len (l : List UInt8) : (safeB l).length ≤ l.length := List.length_filter_le _ _
set_option maxRecDepth 100000 in
set_option maxHeartbeats 2000000 in
theorem ckSafe_any (s : ByteArray) (w : World) (hs : s.size ≤ maxLen) :
  Calls Tryd.prog 20 #[.string s] w fun e w' => ∃ a cap, e = .returned (.slice a (safeB (s.data.toList.take 30)).length cap) ∧ IsBytes w' a (safeB (s.data.toList.take 30)) cap ∧ Below w.heap.size w w' := by
 unfold maxLen at hs
 obtain ⟨r, hr⟩ : ∃ r, r = safeB (s.data.toList.take 30) := ⟨_, rfl⟩
 have HR := Box.mk hr
 rw [← hr]
 clear hr
 go_enter Tryd.func20, Tryd.ntmps20
 go_wp2_with fail
 go_loopw [3, 4] (fun v iv wr => ∃ k : Nat, k ≤ s.size ∧ k ≤ 30 ∧ iv = .int .i64 k ∧ ∃ t : List UInt8, t.length ≤ 30 ∧ Box (t = safeB (s.data.toList.take k) ∧ AccB w wr v t)) (fun _ iv _ => s.size - (intOf iv).toNat)
 case atStart => exact ⟨0, Nat.zero_le _, Nat.zero_le _, rfl, [], by decide, ⟨rfl, AccB.start w⟩⟩
 case round =>
  obtain ⟨k, hk, hk30, rfl, t, ht, HT⟩ := hrel
  by_cases hlt : k < s.size ∧ k < 30
  · obtain ⟨hlt, h30⟩ := hlt
    have HS := Box.mk (safeB_snoc s k hlt)
    have hlen := Box.mk (Nat.le_trans (safeB_len (s.data.toList.take k)) (List.length_take_le _ _))
    by_cases hc : s[k] = 59
    · have HC := Box.mk hc
      have e1 : ((s[k].toNat : Int) != 59) = false := by rw [hc]; rfl
      clear hc
      go_wp2_with fail
      go_roundw
      case rel => exact ⟨k + 1, by omega, by omega, by go_num, t, ht, ⟨by rw [HS.out, if_pos HC.out, List.append_nil]; exact HT.out.1, HT.out.2⟩⟩
      case measure => simp [intOf]; omega
    · have HC := Box.mk hc
      have e1 : ((s[k].toNat : Int) != 59) = true := by
       rw [bne_iff_ne]; intro e
       exact hc (eqb_of (b := 59) (by rw [beq_iff_eq]; exact e))
      clear hc
      have htl : t.length ≤ k := by rw [HT.out.1]; exact hlen.out
      go_wp2_with (at_builtin; refine wpList_append_accb _ rfl _ _ rfl rfl (HT.out.2.keep ((Below.refl _ _).alloc (Nat.le_refl _) _)) rfl (y := s[k]) ?c1 ?c2 ?c3)
      case c1 => simp
      case c2 => omega
      case c3 =>
       intro g cap' w' hacc
       have HN := Box.mk (show t ++ [s[k]] = safeB (s.data.toList.take (k + 1)) ∧ AccB w w' _ (t ++ [s[k]]) from ⟨by rw [HS.out, if_neg HC.out, HT.out.1], hacc⟩)
       clear hacc HT
       go_wp2_with fail
       go_roundw
       case rel => exact ⟨k + 1, by omega, by omega, by go_num, t ++ [s[k]], by rw [List.length_append]; show t.length + 1 ≤ 30; omega, HN⟩
       case measure => simp [intOf]; omega
  · have HE := Box.mk (show AccB w wr _ r by
     have h1 := HT.out.2
     rw [HT.out.1] at h1
     rw [HR.out]
     have e : s.data.toList.take k = s.data.toList.take 30 := by
      by_cases h30 : k = 30
      · rw [h30]
      · have hl := len_toList s
        rw [List.take_of_length_le (by omega), List.take_of_length_le (by omega)]
     rw [← e]; exact h1)
    have hcase : ¬ k < s.size ∨ k < s.size ∧ ¬ k < 30 := by omega
    clear hlt HT
    rcases hcase with h1 | ⟨h1, h2⟩
    all_goals
     go_wp2_with fail
     obtain ⟨a, cap, rfl, hb⟩ := HE.out.shape
     go_ret
     exact ⟨a, cap, rfl, hb, HE.out.2⟩
theorem below_box14 {g : Nat} {w W w' : World} (hg : w.heap.size = g) (h : Below g w W) (k : W.grownBy w' (some g)) : Below w.heap.size w w' := by
 subst hg; exact below_box h k
def ckM1 : List ByteArray := [⟨#[97]⟩, ⟨#[98]⟩, ⟨#[99, 111, 104, 111, 114, 116]⟩, ⟨#[]⟩, ⟨#[97, 32, 98]⟩]
def ckM2 : List ByteArray := [⟨#[61]⟩, ⟨#[61]⟩, ⟨#[]⟩, ⟨#[32, 61, 32]⟩]
def ckM3 : List ByteArray := [⟨#[49]⟩, ⟨#[48, 49, 50, 51, 52, 53, 54, 55, 56, 57, 97, 98, 99, 100, 101, 102]⟩, ⟨#[120, 61, 121]⟩, ⟨#[]⟩]
def ckM4 : List ByteArray := [⟨#[59]⟩, ⟨#[59, 32]⟩, ⟨#[32, 59]⟩]
def ckM5 : List ByteArray := [⟨#[67, 111, 111, 107, 105, 101]⟩, ⟨#[99, 111, 111, 107, 105, 101]⟩]
theorem ckM_size : (ckM1 ++ ckM2 ++ ckM3 ++ ckM4 ++ ckM5).all (fun s => decide (s.size ≤ 16)) = true := by decide +kernel
theorem ckM_le {s : ByteArray} (h : s ∈ ckM1 ++ ckM2 ++ ckM3 ++ ckM4 ++ ckM5) : s.size ≤ 16 := of_decide_eq_true (List.all_eq_true.1 ckM_size s h)
theorem ckM1_le {s : ByteArray} (h : s ∈ ckM1) : s.size ≤ 16 := ckM_le (by simp [h])
theorem ckM2_le {s : ByteArray} (h : s ∈ ckM2) : s.size ≤ 16 := ckM_le (by simp [h])
theorem ckM3_le {s : ByteArray} (h : s ∈ ckM3) : s.size ≤ 16 := ckM_le (by simp [h])
theorem ckM4_le {s : ByteArray} (h : s ∈ ckM4) : s.size ≤ 16 := ckM_le (by simp [h])
theorem ckM5_le {s : ByteArray} (h : s ∈ ckM5) : s.size ≤ 16 := ckM_le (by simp [h])
set_option maxRecDepth 100000 in
set_option maxHeartbeats 4000000 in
theorem ckMade_any (a : Option Addr) (n c : Nat) (w : World) (hi : IntsF w a n) (hn : n ≤ maxLen) :
  Calls Tryd.prog 7 #[.slice a n c] w fun e w' => ∃ v x, e = .returned v ∧ OwnF w.heap.size w' v x ∧ x.length ≤ 5 ∧ SmallF x ∧ Below w.heap.size w w' := by
 have HLOW := Box.mk (show ∀ y, a = some y → 0 < n → y.block < w.heap.size from fun y e h0 => by
  obtain ⟨x, z, e1, h1, _⟩ := hi 0 h0
  rw [e] at e1
  obtain rfl := Option.some.inj e1
  have := lt_cell h1
  rwa [add_blockF] at this)
 have HSB := Box.mk (src_box (c := c) hi hn)
 have HBB := Box.mk (below_oneF w (.cells #[.slice a n c, .int .i64 0] 46))
 have HWS := Box.mk (show (w.alloc (.cells #[.slice a n c, .int .i64 0] 46)).heap.size = w.heap.size + 1 by rw [World.size_alloc])
 clear hi hn
 go_enter Tryd.func7, Tryd.ntmps7
 go_wp2_with fail
 generalize hWW : w.alloc (.cells #[.slice a n c, .int .i64 0] 46) = W at *
 clear hWW
 refine (srcFieldsS_any w.heap.size 3 a n c W HSB.out (by decide)).mono ?_
 rintro e w1 ⟨v1, x1, rfl, ho, hl, hf, hsrc, hg1⟩
 have HST := Box.mk (show MdSt w.heap.size a n c W 3 v1 w1 from ⟨x1, by rw [← HWS.out]; exact ho, hl, fun f hm => by obtain ⟨_, h1, h2⟩ := (hf f hm).made; exact ⟨by omega, by omega⟩, hsrc, hg1⟩)
 clear ho hl hf hsrc hg1 HSB
 generalize hg : w.heap.size = g at *
 have HG := Box.mk hg
 clear hg
 go_wp2_with fail
 refine (next_any g 3 a n c w1 HST.out.src (by decide) (by decide)).mono ?_
 rintro e w2 ⟨k0, hk0, rfl, hsrc, hgn⟩
 have HST2 := Box.mk (HST.out.next hsrc hgn)
 clear hsrc hgn HST
 go_wp2_with fail
 go_loopw [4, 5] (fun v iv wr => ∃ j : Nat, j ≤ 2 ∧ iv = .int .i64 j ∧ ∃ K : Nat, K + j ≤ 5 ∧ Box (MdSt g a n c W K v wr)) (fun _ iv _ => (intOf iv).toNat)
 case atStart => exact ⟨k0, by omega, rfl, 3, by omega, HST2⟩
 case round =>
  clear HST2
  obtain ⟨j, hj, rfl, K, hK, HM⟩ := hrel
  by_cases hpos : 0 < j
  · go_wp2_with fail
    refine (next_any g 4 a n c _ HM.out.src (by decide) (by decide)).mono ?_
    rintro e w3 ⟨k1, hk1, rfl, hsrc, hgn⟩
    have HST3 := Box.mk (HM.out.next hsrc hgn)
    clear hsrc hgn HM
    go_wp2_with fail
    go_loopw [6, 7] (fun v iv wq => ∃ i : Nat, i ≤ 3 ∧ iv = .int .i64 i ∧ ∃ s : ByteArray, v = .string s ∧ s.size + 64 * i ≤ 192 ∧ Box (MdSt g a n c W K u4 wq)) (fun _ iv _ => (intOf iv).toNat)
    case atStart => exact ⟨k1, by omega, rfl, ⟨#[]⟩, rfl, by show 0 + 64 * k1 ≤ 192; omega, HST3⟩
    case round =>
     clear HST3
     obtain ⟨i, hi, rfl, s, rfl, hs, HQ⟩ := hrel
     by_cases hip : 0 < i
     · go_wp2_with fail
       refine (mdOf_any ckM1 5 _ _ HQ.out rfl rfl (by decide) (by decide)).mono ?_
       rintro e w4 ⟨s1, hs1, rfl, hst⟩
       have hz1 := ckM1_le hs1
       have HQ1 := Box.mk hst
       clear hst hs1 HQ
       go_wp2_with fail
       refine (mdOf_any ckM2 4 _ w4 HQ1.out rfl rfl (by decide) (by decide)).mono ?_
       rintro e w5 ⟨s2, hs2, rfl, hst⟩
       have hz2 := ckM2_le hs2
       have HQ2 := Box.mk hst
       clear hst hs2 HQ1
       go_wp2_with fail
       refine (mdOf_any ckM3 4 _ w5 HQ2.out rfl rfl (by decide) (by decide)).mono ?_
       rintro e w6 ⟨s3, hs3, rfl, hst⟩
       have hz3 := ckM3_le hs3
       have HQ3 := Box.mk hst
       clear hst hs3 HQ2
       go_wp2_with fail
       refine (mdOf_any ckM4 3 _ w6 HQ3.out rfl rfl (by decide) (by decide)).mono ?_
       rintro e w7 ⟨s4, hs4, rfl, hst⟩
       have hz4 := ckM4_le hs4
       have HQ4 := Box.mk hst
       clear hst hs4 HQ3
       go_wp2_with fail
       go_roundw
       case rel => exact ⟨i - 1, by omega, by go_num, s ++ s1 ++ s2 ++ s3 ++ s4, rfl, by simp only [ByteArray.size_append]; omega, HQ4⟩
       case measure => simp [intOf]; omega
     · obtain rfl : i = 0 := by omega
       have hsz : s.size ≤ 192 := by omega
       go_wp2_with fail
       refine (mdOf_any ckM5 2 _ _ HQ.out rfl rfl (by decide) (by decide)).mono ?_
       rintro e w4 ⟨nm, hnm, rfl, hst⟩
       have hz5 := ckM5_le hnm
       have HQ1 := Box.mk hst
       clear hst hnm HQ
       go_wp2_with fail
       refine (refTrim_any s _ (by unfold maxLen; omega)).mono ?_
       rintro e w5 ⟨rfl, rfl⟩
       have htz := Nat.le_trans (trimBA_size s) hsz
       generalize trimBA s = t at *
       obtain ⟨x, ho, hx4, hsm, hsrc, hgr⟩ := HQ1.out
       have HO := Box.mk ho
       have HX := Box.mk (And.intro hx4 (And.intro hsm (And.intro hsrc hgr)))
       have hgB := hgr.size
       have hWZ := HWS.out
       have hglt := hsrc.lt
       clear ho hsm hsrc hgr HQ1
       have HFS := Box.mk (show (((nm, t) : Fld)).1.size ≤ 1048576 ∧ (((nm, t) : Fld)).2.size ≤ 1048576 from ⟨by show nm.size ≤ _; omega, by show t.size ≤ _; omega⟩)
       go_wp2_with (at_builtin; refine wpList_append_ownf _ rfl _ _ rfl rfl (HO.out.keep ((Below.refl _ _).alloc (Nat.le_refl _) _)) rfl (y := ((nm, t) : Fld)) (by simp) (by simp) (by omega) (by simp; omega) ?c3)
       case c3 =>
        intro v' w9 hown hgrow
        have HN := Box.mk (mdApp HWS.out HO.out HX.out.1 HX.out.2.1 HX.out.2.2.1 HX.out.2.2.2 HLOW.out HFS.out hown hgrow)
        clear hown hgrow HO HX
        go_wp2_with fail
        go_roundw
        case rel => exact ⟨j - 1, by omega, by go_num, K + 1, by omega, HN⟩
        case measure => simp [intOf]; omega
  · obtain rfl : j = 0 := by omega
    go_wp2_with fail
    go_ret
    obtain ⟨x, ho, hx4, hsm, _, hgr⟩ := HM.out
    exact ⟨_, x, rfl, by rw [HG.out]; exact ho.mono (by omega), by omega, hsm, below_box14 HG.out HBB.out hgr⟩
theorem total_values {x : List Fld} (h : SmallF x) (n : ByteArray) : total (valuesL x n) ≤ x.length * 1048577 := by
 unfold valuesL
 induction x with
 | nil => exact Nat.zero_le _
 | cons f t ih =>
  have h1 := ih (fun g hg => h g (List.mem_cons_of_mem _ hg))
  have h2 := (h f (List.mem_cons_self ..)).2
  clear h ih
  rw [List.filter_cons, List.length_cons, Nat.add_mul, Nat.one_mul]
  split
  · simp only [List.map_cons, total]
    exact Nat.le_trans (Nat.add_le_add (Nat.add_le_add_right h2 1) h1) (Nat.le_of_eq (Nat.add_comm _ _))
  · exact Nat.le_trans h1 (Nat.le_add_right _ _)
theorem small_total {l : List Fld} (h : SmallF l) (hl : l.length ≤ 1000) (n : ByteArray) : total (valuesL l n) ≤ 2000000000 := Nat.le_trans (total_values h n) (Nat.le_trans (Nat.mul_le_mul_right _ hl) (by decide))
def FdCk (w0 : World) (v : Value) (w : World) : Prop := ∃ x a c, v = .slice a (List.length x) c ∧ FldsIn w a x ∧ SmallF x ∧ Below w0.heap.size w0 w
theorem findV_two (r : Option Fld) : ∃ v b, findV r = .tuple #[.string v, .bool b] := by
 cases r with
 | none => exact ⟨_, _, rfl⟩
 | some f => exact ⟨_, _, rfl⟩
set_option maxRecDepth 100000 in
set_option maxHeartbeats 4000000 in
theorem cookiePairs_any (b : Option Addr) (n cb : Nat) (l : List Fld) (a : Option Addr) (cap : Nat) (nm : ByteArray) (wild : Bool) (w : World) (m : Int) (hi : IntsF w b n) (hn : n ≤ maxLen) (h : FldsIn w a l) (hs : SmallF l) (hm : w.cell? ⟨0, 0, none⟩ = some (.int .i64 m)) :
  Calls Tryd.prog 3 #[.slice b n cb, .slice a l.length cap, .string nm, .bool wild] w fun e w' => e = .returned (.bool true) ∧ Below w.heap.size w w' := by
 have H0 := Box.mk (And.intro h hs)
 have HM := Box.mk hm
 have HI := Box.mk (And.intro hi hn)
 unfold maxLen at hn
 clear h hs hm hi
 go_enter Tryd.func3, Tryd.ntmps3
 go_wp2_with fail
 refine (ckMade_any b n cb w HI.out.1 HI.out.2).mono ?_
 rintro e w1 ⟨v1, x1, rfl, ho1, _, hs1, hb1⟩
 have HX1 := Box.mk (show FdCk w v1 w1 by
  obtain ⟨a1, c1, hv, hf, _⟩ := ho1.shape
  exact ⟨x1, a1, c1, hv, hf.1, hs1, hb1⟩)
 have HR1 := Box.mk (show FdCk w (.slice a l.length cap) w1 from ⟨l, a, cap, rfl, H0.out.1.keep hb1, H0.out.2, hb1⟩)
 clear ho1 hs1 hb1 H0 HI
 go_upto_if 19 with fail
 go_cut [2, 9] (fun u v wx => Box (FdCk w v wx ∧ ∃ s : ByteArray, u = .string s))
 case first =>
  cases wild with
  | true =>
   go_wp2_with fail
   go_meet
   exact ⟨HR1.out, _, rfl⟩
  | false =>
   by_cases h3 : n % 3 = 0
   · have e3 : ((n : Int).tmod 3) = 0 := by rw [Int.tmod_eq_emod_of_nonneg (by omega)]; omega
     clear h3
     go_wp2_with fail
     go_meet
     exact ⟨HX1.out, _, rfl⟩
   · obtain ⟨r, hr, hr0⟩ : ∃ r : Int, ((n : Int).tmod 3) = r ∧ 0 < r := ⟨_, rfl, by rw [Int.tmod_eq_emod_of_nonneg (by omega)]; omega⟩
     clear h3
     go_wp2_with fail
     go_meet
     exact ⟨HX1.out, _, rfl⟩
 case rest =>
  obtain ⟨⟨x, ax, cx, hv, hf, hsm, hb⟩, nm2, hnm⟩ := hcut.out
  subst hv
  subst hnm
  have HB := Box.mk hb
  have HF := Box.mk hf
  have HS := Box.mk hsm
  have HM1 := Box.mk (below_cell hb HM.out)
  clear hcut hb hf hsm HX1 HR1 HM
  by_cases h30 : 30 < x.length
  · go_wp2_with fail
    refine (ckAwake_any _ m HM1.out).mono ?_
    rintro e w2 ⟨rfl, hb2⟩
    have HB2 := Box.mk (below_trans HB.out hb2)
    clear hb2
    go_wp2_with fail
    go_ret
    exact ⟨rfl, HB2.out⟩
  · have HT := Box.mk (Nat.le_trans (small_total HS.out (by omega) ckL) (show 2000000000 ≤ 4000000000 by decide))
    obtain ⟨ps, hps⟩ : ∃ ps, ps = pairsL (valuesL x ckL) := ⟨_, rfl⟩
    have hpl : ps.length ≤ 4000000000 := by rw [hps]; exact Nat.le_trans (pairsL_len _) HT.out
    have HPS := Box.mk hps
    clear hps
    go_wp2_with fail
    refine (ckPairs_any x ax cx _ m HF.out HS.out.short (by omega) HM1.out HT.out).mono ?_
    rintro e w2 ⟨v2, rfl, hv2⟩
    rw [← HPS.out] at hv2
    obtain ⟨a2, c2, rfl, hf2⟩ := hv2.shape
    have HF2 := Box.mk (And.intro (HF.out.keep hv2.2) hf2)
    have HM2 := Box.mk (below_cell hv2.2 HM1.out)
    have HB2 := Box.mk (below_trans HB.out hv2.2)
    clear hv2 hf2 HF HM1 HB
    go_wp2_with fail
    refine (refPairs_any x ax cx w2 HF2.out.1 HS.out.short (by omega) HT.out).mono ?_
    rintro e w3 ⟨v3, rfl, hv3⟩
    rw [← HPS.out] at hv3
    obtain ⟨a3, c3, rfl, hf3⟩ := hv3.shape
    have HF3 := Box.mk (And.intro (HF2.out.1.keep hv3.2) (And.intro (HF2.out.2.keep hv3.2) hf3))
    have HM3 := Box.mk (below_cell hv3.2 HM2.out)
    have HB3 := Box.mk (below_trans HB2.out hv3.2)
    clear hv3 hf3 HF2 HM2 HB2
    go_wp2_with fail
    go_loopw [12] (fun iv wr => ∃ k : Nat, k ≤ ps.length ∧ iv = .int .i64 k ∧ Box (Below w3.heap.size w3 wr)) (fun iv _ => ps.length - (intOf iv).toNat)
    case atStart => exact ⟨0, Nat.zero_le _, rfl, ⟨Below.refl _ _⟩⟩
    case round =>
     obtain ⟨k, hk, rfl, HK⟩ := hrel
     by_cases hlt : k < ps.length
     · obtain ⟨x1, rfl, c1, c2⟩ := (HF3.out.2.1.keep HK.out) k hlt
       obtain ⟨y1, rfl, d1, d2⟩ := (HF3.out.2.2.keep HK.out) k hlt
       have c2 := cell_next c2
       have d2 := cell_next d2
       generalize ps[k] = f at *
       go_wp2_with fail
       go_quiet (fail)
       go_wp2
       go_roundw
       case rel => exact ⟨k + 1, by omega, by go_num, ⟨below_drewN HK.out _⟩⟩
       case measure => simp [intOf]; omega
     · have HF4 := Box.mk (HF3.out.1.keep HK.out)
       have HM4 := Box.mk (below_cell HK.out HM3.out)
       have HB4 := Box.mk (below_trans HB3.out HK.out)
       clear HF3 HM3 HB3 HK
       obtain ⟨rv, rb, hrv⟩ := findV_two (findL ps nm2)
       have HRV := Box.mk hrv
       clear hrv
       go_wp2_with fail
       refine (ckFind_any x nm2 ax cx _ m HF4.out HS.out.short (by omega) HM4.out HT.out).mono ?_
       rintro e w5 ⟨he, hb5⟩
       rw [← HPS.out, HRV.out] at he
       subst he
       have HF5 := Box.mk (HF4.out.keep hb5)
       have HM5 := Box.mk (below_cell hb5 HM4.out)
       have HB5 := Box.mk (below_trans HB4.out hb5)
       clear hb5 HF4 HM4 HB4
       go_wp2_with fail
       refine (refFind_any x nm2 ax cx w5 HF5.out HS.out.short (by omega) HT.out).mono ?_
       rintro e w6 ⟨he, hb6⟩
       rw [← HPS.out, HRV.out] at he
       subst he
       have HM6 := Box.mk (below_cell hb6 HM5.out)
       have HB6 := Box.mk (below_trans HB5.out hb6)
       clear hb6 HF5 HM5 HB5
       have hq : (rv.toList == rv.toList) = true := by simp
       go_wp2_with fail
       refine (ckAwake_any _ m HM6.out).mono ?_
       rintro e w7 ⟨rfl, hb7⟩
       have HB7 := Box.mk (below_trans HB6.out hb7)
       clear hb7
       go_wp2_with fail
       go_ret
       exact ⟨rfl, HB7.out⟩
theorem IsBytes.takeF {w : World} {a : Option Addr} {l : List UInt8} {c : Nat} (h : IsBytes w a l c) (n : Nat) : IsBytes w a (l.take n) c := by
 rcases h with ⟨h1, h2, h3⟩ | ⟨x, h1, h2, h3, h4⟩
 · exact .inl ⟨h1, by rw [h2]; exact List.take_nil, h3⟩
 · exact .inr ⟨x, h1, by rw [List.length_take]; omega, h3, fun j hj => by rw [List.getElem_take]; exact h4 j (by rw [List.length_take] at hj; omega)⟩
theorem shortF_any (l : List UInt8) (a : Option Addr) (cap n : Nat) (w : World) (h : IsBytes w a l cap) (hn : n ≤ 1000) :
  Calls Tryd.prog 14 #[.slice a l.length cap, .int .i64 n] w fun e w' => ∃ cap', e = .returned (.slice a (l.take n).length cap') ∧ IsBytes w a (l.take n) cap' ∧ w = w' := by
 have H0 := Box.mk h
 clear h
 by_cases hlt : n < l.length
 · have HB := Box.mk (H0.out.takeF n)
   have hle : l.length ≤ cap := by
    rcases H0.out with ⟨h1, h2, _⟩ | ⟨x, h1, h2, _⟩
    · rw [h2] at hlt; exact absurd hlt (by simp)
    · exact h2
   have hl : (l.take n).length = n := by rw [List.length_take]; omega
   rw [hl]
   go_enter Tryd.func14, Tryd.ntmps14
   go_wp2
   go_ret
   exact ⟨_, rfl, HB.out, rfl⟩
 · rw [List.take_of_length_le (by omega)]
   go_enter Tryd.func14, Tryd.ntmps14
   go_wp2
   go_ret
   exact ⟨_, rfl, H0.out, rfl⟩
section
variable (s : ByteArray) (lb : List UInt8) (ab : Option Addr) (cb : Nat) (b : Option Addr) (n c : Nat) (p : Int) (ch : UInt8) (wild : Int) (w : World)
end
end Go.Proofs.YthgiplnidnkajaaDoor
namespace Go.Proofs.YthgiplnidnkajaaDoor
open Go.ChangeShapes Go.WideShapes Go.ChangeAt Go.RowKit
theorem fields_none {H : Type} {enc : TypeId × Value → H} {W : World} {a : Option Addr} {len cap : Nat} {d : DataW H} {ps : List MemPlace} {base : Nat}
  (h : DataW.Trod enc Tryd.prog W base (fun _ => true) true 23 (.slice a len cap) d ps) : a = none → len = 0 ∧ cap = 0 := by
 obtain ⟨fuel, hf⟩ := h
 rcases Go.Deep.open_slice_pairs Tryd.underlying23 Tryd.underlying37 (by kernel_rfl) (by kernel_rfl) (by kernel_rfl) (by kernel_rfl) (by kernel_rfl) hf with ⟨hcs, _⟩ | ⟨x, n, c, m, k, V0, V1, D0, D1, P0, P1, hcs, _⟩
 · simp [Value.cells] at hcs
   obtain ⟨rfl, rfl, rfl⟩ := hcs
   exact fun _ => ⟨rfl, rfl⟩
 · simp [Value.cells] at hcs
   obtain ⟨rfl, rfl, rfl⟩ := hcs
   intro e; cases e
theorem open_fieldsC {H : Type} {enc : TypeId × Value → H} {W : World} {a : Option Addr} {len cap : Nat} {d : DataW H} {ps : List MemPlace} {base : Nat}
  (h : DataW.Trod enc Tryd.prog W base (fun _ => true) true 23 (.slice a len cap) d ps) :
  ∃ l : List Fld, len = l.length ∧ FldsC W a l cap ∧ l.length ≤ cap ∧ cap ≤ maxLen ∧ ShortF l ∧ (Rows.uptoBulk d ≤ 1048576 → SmallF l) := by
 obtain ⟨l, rfl, h1, h2, h3, h4, h5⟩ := open_fields h
 refine ⟨l, rfl, ⟨h1, fun e => ?_⟩, h2, h3, h4, fun hb f hf => ⟨Nat.le_trans (h5 f hf).1 hb, Nat.le_trans (h5 f hf).2 hb⟩⟩
 obtain ⟨e1, e2⟩ := fields_none h e
 exact ⟨List.eq_nil_of_length_eq_zero e1, e2⟩
theorem i64_ofF {x : Int} (h : (Lit.int .i64 x).wf = true) : -9223372036854775808 ≤ x ∧ x ≤ 9223372036854775807 := bounds_i64 h
theorem open_intsf {H : Type} {enc : TypeId × Value → H} {W : World} {a : Option Addr} {len cap : Nat} {d : DataW H} {ps : List MemPlace} {base : Nat}
  (h : DataW.Trod enc Tryd.prog W base (fun _ => true) true 22 (.slice a len cap) d ps) : IntsF W a len ∧ len ≤ maxLen := by
 obtain ⟨fuel, hf⟩ := h
 rcases open_ints Tryd.underlying22 Tryd.underlying3 (by kernel_rfl) hf with ⟨hcs, _⟩ | ⟨x, l, c, zs, hcs, _, hl, hm, hz, _, hcell, hwz⟩
 · simp [Value.cells] at hcs
   obtain ⟨rfl, rfl, rfl⟩ := hcs
   exact ⟨fun k hk => absurd hk (Nat.not_lt_zero _), Nat.zero_le _⟩
 · simp [Value.cells] at hcs
   obtain ⟨rfl, rfl, rfl⟩ := hcs
   have hz' : zs.length = cap := by simpa using hz
   refine ⟨fun k hk => ?_, Nat.le_trans hl hm⟩
   have hk' : k < zs.length := by omega
   have e : zs.getD k 0 = zs[k] := by rw [List.getD_eq_getElem?_getD, List.getElem?_eq_getElem hk']; rfl
   refine ⟨x, zs[k], rfl, by rw [hcell k hk', e], i64_ofF (hwz zs[k] (List.getElem_mem _))⟩
end Go.Proofs.YthgiplnidnkajaaDoor
namespace Go.Proofs.YthgiplnidnkajaaDoor
open Go.RowKit
def ckX : List UInt8 := [48, 48, 102, 49, 101, 50, 100, 51, 99, 52, 98, 53, 97, 54, 57, 55]
section
variable {Q : Exit → Act → World → Prop} {act : Act} {w : World} {o : Oper} {s : Spec}
theorem loc_eqlCk {x y : Operand} {t : TypeId} (ho : o.op = .binOp .eql 4 x y t) {b : Bool} (hx : act.eval x = .bool b) (hy : act.eval y = .bool b) (hs : s.p (.bool true) w) :
  o.wp Tryd.prog act w (fun a' w' => ∃ v, a' = act.put o.dst v ∧ Below w.heap.size w w' ∧ s.p v w') Q :=
 loc_run (v := .bool true) (by
  unfold execOp
  simp only [ho, hx, hy]
  have he : (Op.equalIn Op.maxDepth 4 (.bool b) (.bool b)).run Tryd.prog w = .ok true w := by
   rw [show Op.maxDepth = 9999 + 1 from rfl]
   unfold Op.equalIn
   rw [Sem.run_bind, run_underlying Tryd.underlying4]
   cases b <;> rfl
  simp [eqGuard, binOp, Op.equal, he]) (Below.refl _ _) hs
theorem eq_fieldCk (a b : ByteArray) (w : World) : (Op.equalIn Op.maxDepth 37 (.agg #[.string a, .string b]) (.agg #[.string a, .string b])).run Tryd.prog w = .ok true w := by
 rw [show Op.maxDepth = 9999 + 1 from rfl, run_equalIn_struct w 9999 _ _ _ (by kernel_rfl) (by kernel_rfl)]
 go_simp
theorem loc_eqlFCk {x y : Operand} {t : TypeId} (ho : o.op = .binOp .eql 37 x y t) {a b : ByteArray} (hx : act.eval x = .agg #[.string a, .string b]) (hy : act.eval y = .agg #[.string a, .string b]) (hs : s.p (.bool true) w) :
  o.wp Tryd.prog act w (fun a' w' => ∃ v, a' = act.put o.dst v ∧ Below w.heap.size w w' ∧ s.p v w') Q :=
 loc_run (v := .bool true) (by
  unfold execOp
  simp only [ho, hx, hy]
  have he := eq_fieldCk a b w
  simp [eqGuard, binOp, Op.equal, he]) (Below.refl _ _) hs
end
theorem ckID_v (s : ByteArray) (r : Bool) (v : Value) (w : World) (hv : v = .string s) (hs : s.size ≤ maxLen) (h : idS s = r) :
  Calls Tryd.prog 15 #[v] w fun e w' => ∃ v', e = .returned v' ∧ Below w.heap.size w w' ∧ v' = .bool r := by
 subst hv
 refine (ckID_eq w hs h).mono ?_
 rintro e w' ⟨rfl, rfl⟩
 exact ⟨_, rfl, Below.refl _ _, rfl⟩
theorem refID_v (s : ByteArray) (r : Bool) (v : Value) (w : World) (hv : v = .string s) (hs : s.size ≤ maxLen) (h : idS s = r) :
  Calls Tryd.prog 16 #[v] w fun e w' => ∃ v', e = .returned v' ∧ Below w.heap.size w w' ∧ v' = .bool r := by
 subst hv
 refine (refID_eq w hs h).mono ?_
 rintro e w' ⟨rfl, rfl⟩
 exact ⟨_, rfl, Below.refl _ _, rfl⟩
theorem issue_v (n i r : ByteArray) (v u : Value) (w : World) (hv : v = .string n) (hu : u = .string i) (hn : n.size ≤ 4000000000) (hi : i.size ≤ 4000000000) (hr : r = issueS n i) :
  Calls Tryd.prog 17 #[v, u] w fun e w' => ∃ v', e = .returned v' ∧ Below w.heap.size w w' ∧ v' = .agg #[.string setCk, .string r] := by
 subst hv hu hr
 refine (issue_any n i w hn hi).mono ?_
 rintro e w' ⟨rfl, hb⟩
 exact ⟨_, rfl, hb, rfl⟩
theorem refIssue_v (n i r : ByteArray) (v u : Value) (w : World) (hv : v = .string n) (hu : u = .string i) (hn : n.size ≤ 4000000000) (hi : i.size ≤ 4000000000) (hr : r = issueS n i) :
  Calls Tryd.prog 18 #[v, u] w fun e w' => ∃ v', e = .returned v' ∧ Below w.heap.size w w' ∧ v' = .agg #[.string setCk, .string r] := by
 subst hv hu hr
 refine (refIssue_any n i w hn hi).mono ?_
 rintro e w' ⟨rfl, hb⟩
 exact ⟨_, rfl, hb, rfl⟩
theorem ckAwake_v (w : World) (m : Int) (hm : w.cell? ⟨0, 0, none⟩ = some (.int .i64 m)) : Calls Tryd.prog 8 #[] w fun e w' => ∃ v', e = .returned v' ∧ Below w.heap.size w w' ∧ v' = .bool true := by
 refine (ckAwake_any w m hm).mono ?_
 rintro e w' ⟨rfl, hb⟩
 exact ⟨_, rfl, hb, rfl⟩
theorem heap_setCk {w : World} {g k : Nat} {cs : Array Value} {t : TypeId} {fr : Nat × Nat} (v : Value) (h : w.heap[g]? = some (.cells cs t fr)) : (w.setCell ⟨g, k, none⟩ v).heap[g]? = some (.cells (cs.setIfInBounds k v) t fr) := by
 simp [World.setCell, Array.getElem?_modify, h]
theorem isBytes_set {w : World} {g k : Nat} {t : TypeId} {fr : Nat × Nat} (l : List UInt8) (c : UInt8) (h : w.heap[g]? = some (.cells (bytesV l).toArray t fr)) (hm : l.length ≤ maxLen) :
  IsBytes (w.setCell ⟨g, k, none⟩ (.int .u8 (c.toNat : Int))) (some ⟨g, 0, none⟩) (l.set k c) l.length := by
 have h2 := heap_setCk (k := k) (.int .u8 (c.toNat : Int)) h
 refine .inr ⟨_, rfl, by rw [List.length_set]; exact Nat.le_refl _, hm, fun j hj => ?_⟩
 have hj' : j < l.length := by rwa [List.length_set] at hj
 rw [Addr.add_lit, Nat.zero_add, cell_of_row _ _ _ _ _ _ h2]
 have hl := bytesV_len l
 by_cases e : k = j
 · subst e
   simp [hj', hl]
 · simp [e, hj', bytesV]
set_option maxRecDepth 100000 in
set_option maxHeartbeats 4000000 in
theorem cookieID_any (s : ByteArray) (bl : List UInt8) (ba : Option Addr) (bc : Nat) (z : Int) (c : UInt8) (w : World) (m : Int) (hs : s.size ≤ 4000000000) (hb : IsBytes w ba bl bc) (hm : w.cell? ⟨0, 0, none⟩ = some (.int .i64 m)) :
  Calls Tryd.prog 4 #[.string s, .slice ba bl.length bc, .int .i64 z, .int .u8 (c.toNat : Int)] w fun e w' => e = .returned (.bool true) ∧ Below w.heap.size w w' := by
 obtain ⟨k, hk, hwk⟩ := withI_range z 16 (by decide) (by decide)
 obtain ⟨W0, hW0⟩ : ∃ W0, W0 = w.alloc (.cells (bytesV ckX).toArray 5 (16, 17)) := ⟨_, rfl⟩
 have HB0 := Box.mk (show Below w.heap.size w W0 by rw [hW0]; exact below_oneF w _)
 have HR0 := Box.mk (show W0.heap[w.heap.size]? = some (.cells (bytesV ckX).toArray 5 (16, 17)) by rw [hW0]; exact heap_alloc_new _ _)
 have HI := Box.mk (And.intro hb hm)
 have HWK := Box.mk hwk
 clear hb hm hwk
 go_enter Tryd.func4, Tryd.ntmps4
 have kc := fun (w : World) (C : Array Value) (n c : Nat) => Lib.run_convert_bytes_const (P := Tryd.prog) w 33 5 C n c Tryd.underlying33 Tryd.underlying5
 go_upto_region 2 with fail
 clear kc
 change Code.wp _ _ _ _ (w.alloc (.cells (bytesV ckX).toArray 5 (16, 17)))
 rw [← hW0]
 clear hW0
 have hglt : w.heap.size < W0.heap.size := (Array.getElem?_eq_some_iff.1 HR0.out).1
 generalize hg : w.heap.size = g at *
 have HG := Box.mk hg
 clear hg
 have hfz : W0.frozen? ⟨g, k, none⟩ = false := by
  simp only [World.frozen?, HR0.out]
  rw [Bool.and_eq_false_iff]; left; simpa using hk
 obtain ⟨x0, hx0⟩ : ∃ x, W0.cell? ⟨g, k, none⟩ = some (.int .u8 x) := by
  rw [cell_of_row _ _ _ _ _ _ HR0.out]
  exact ⟨_, by simp [bytesV, show k < ckX.length from hk]; rfl⟩
 go_wp2_with fail
 refine (withinF z 16 _ (by decide) (by decide)).mono ?_
 rintro e w1 ⟨he, rfl⟩
 rw [HWK.out] at he
 subst he
 go_upto_region 3 with fail
 obtain ⟨W1, hW1⟩ : ∃ W1, W1 = w1.setCell ⟨g, k, none⟩ (.int .u8 (c.toNat : Int)) := ⟨_, rfl⟩
 obtain ⟨X, hX⟩ : ∃ X, X = ckX.set k c := ⟨_, rfl⟩
 have HX := Box.mk (show IsBytes W1 (some ⟨g, 0, none⟩) X 16 by rw [hW1, hX]; exact isBytes_set ckX c HR0.out (by decide))
 have HXL := Box.mk (show X.length = 16 by rw [hX, List.length_set]; rfl)
 have HB1 := Box.mk (show Below w.heap.size w W1 by
  rw [hW1]
  exact below_box14 HG.out HB0.out ⟨rfl, rfl, rfl, by simp [World.setCell], fun q _ hne => heap_setCell_other _ ⟨g, k, none⟩ q _ (fun e => hne (by rw [e]))⟩)
 rw [← hW1]
 have HI1 := Box.mk (And.intro (HI.out.1.keep HB1.out) (below_cell HB1.out HI.out.2))
 clear hW1 hX HB0 HR0 hfz hx0 HI
 go_wp2_with fail
 refine (shortF_any bl ba bc 20 W1 HI1.out.1 (by decide)).mono ?_
 rintro e w2 ⟨c2, rfl, hbt, rfl⟩
 have hcv := conv_bytes hbt
 have htl : (bl.take 20).length ≤ 20 := List.length_take_le _ _
 generalize bl.take 20 = tl at *
 go_upto_region 4 with fail
 clear hcv hbt
 obtain ⟨tS, htS⟩ : ∃ tS : ByteArray, tS = ⟨tl.toArray⟩ := ⟨_, rfl⟩
 have htz : tS.size ≤ 4000000000 := by rw [htS]; show tl.toArray.size ≤ _; simp; omega
 rw [← htS]
 clear htS
 obtain ⟨XS, hXS⟩ : ∃ XS : ByteArray, XS = ⟨X.toArray⟩ := ⟨_, rfl⟩
 have hxz : XS.size = 16 := by rw [hXS]; show X.toArray.size = _; simp [HXL.out]
 have HXS := Box.mk hXS
 obtain ⟨r1, hr1⟩ : ∃ r, idS s = r := ⟨_, rfl⟩
 obtain ⟨r2, hr2⟩ : ∃ r, idS XS = r := ⟨_, rfl⟩
 obtain ⟨r3, hr3⟩ : ∃ r, idS tS = r := ⟨_, rfl⟩
 have HR1 := Box.mk hr1
 have HR2 := Box.mk hr2
 have HR3 := Box.mk hr3
 obtain ⟨R, hR⟩ : ∃ R, R = issueS s tS := ⟨_, rfl⟩
 have HRR := Box.mk hR
 have HZ := Box.mk (show s.size ≤ maxLen ∧ XS.size ≤ maxLen ∧ tS.size ≤ maxLen from ⟨by unfold maxLen; omega, by unfold maxLen; omega, by unfold maxLen; omega⟩)
 have HM := Box.mk HI1.out.2
 have HXV := Box.mk (show Value.slice (some ⟨g, 0, none⟩) 16 16 = Value.slice (some ⟨g, 0, none⟩) X.length 16 by rw [HXL.out])
 clear hXS hxz hr1 hr2 hr3 hR
 rename_i K hK
 refine wp_region_local (S := [.val (.string s), .val (.bool r1), .val (.string s), .val (.bool r1), .val (.bool true), .val (.bool true), .bytes X, .val (.string XS), .val (.bool r2), .bytes X, .val (.string XS), .val (.bool r2), .val (.bool true), .val (.bool true), .val (.bool true), .val (.string tS), .val (.bool r3), .val (.string tS), .val (.bool r3), .val (.bool true), .val (.bool true), .val (.bool true), .val (.string s), .val (.string tS), .val (.agg #[.string setCk, .string R]), .val (.string s), .val (.string tS), .val (.agg #[.string setCk, .string R]), .val (.bool true), .val (.bool true), .val (.bool true), .val (.bool true), .val (.bool true), .val (.bool true)])
  (by kernel_rfl) (by kernel_rfl) (by kernel_rfl) ?_ ?_
 · refine ⟨?_, ?_, ?_, ?_, ?_, ?_, ?_, ?_, ?_, ?_, ?_, ?_, ?_, ?_, ?_, ?_, ?_, ?_, ?_, ?_, ?_, ?_, ?_, ?_, ?_, ?_, ?_, ?_, ?_, ?_, ?_, ?_, ?_, ?_, trivial⟩ <;> intro a w hb hf hd
   · exact ⟨wanted_none rfl, loc_move rfl (hf.base 0 rfl)⟩
   · exact ⟨wanted_none rfl, loc_call rfl (by kernel_rfl) (ckID_v s r1 _ w (hd 0 rfl) HZ.out.1 HR1.out)⟩
   · exact ⟨wanted_none rfl, loc_move rfl (hf.base 0 rfl)⟩
   · exact ⟨wanted_none rfl, loc_call rfl (by kernel_rfl) (refID_v s r1 _ w (hd 2 rfl) HZ.out.1 HR1.out)⟩
   · exact ⟨wanted_none rfl, loc_eqlCk rfl (hd 1 rfl) (hd 3 rfl) rfl⟩
   · exact ⟨wanted_none rfl, loc_move rfl (hd 4 rfl)⟩
   · exact ⟨wanted_true rfl rfl (hd 5 rfl), loc_move rfl ⟨_, _, (hf.base 9 rfl).trans HXV.out, HX.out.keep hb⟩⟩
   · exact ⟨wanted_true rfl rfl (hd 5 rfl), loc_string rfl (hd 6 rfl) (by rw [HXS.out]; rfl)⟩
   · exact ⟨wanted_true rfl rfl (hd 5 rfl), loc_call rfl (by kernel_rfl) (ckID_v XS r2 _ w (hd 7 rfl) HZ.out.2.1 HR2.out)⟩
   · exact ⟨wanted_true rfl rfl (hd 5 rfl), loc_move rfl ⟨_, _, (hf.base 9 rfl).trans HXV.out, HX.out.keep hb⟩⟩
   · exact ⟨wanted_true rfl rfl (hd 5 rfl), loc_string rfl (hd 9 rfl) (by rw [HXS.out]; rfl)⟩
   · exact ⟨wanted_true rfl rfl (hd 5 rfl), loc_call rfl (by kernel_rfl) (refID_v XS r2 _ w (hd 10 rfl) HZ.out.2.1 HR2.out)⟩
   · exact ⟨wanted_true rfl rfl (hd 5 rfl), loc_eqlCk rfl (hd 8 rfl) (hd 11 rfl) rfl⟩
   · exact ⟨wanted_none rfl, loc_pick rfl (hd 5 rfl) (hd 12 rfl)⟩
   · exact ⟨wanted_none rfl, loc_move rfl (hd 13 rfl)⟩
   · exact ⟨wanted_true rfl rfl (hd 14 rfl), loc_move rfl (hf.base 10 rfl)⟩
   · exact ⟨wanted_true rfl rfl (hd 14 rfl), loc_call rfl (by kernel_rfl) (ckID_v tS r3 _ w (hd 15 rfl) HZ.out.2.2 HR3.out)⟩
   · exact ⟨wanted_true rfl rfl (hd 14 rfl), loc_move rfl (hf.base 10 rfl)⟩
   · exact ⟨wanted_true rfl rfl (hd 14 rfl), loc_call rfl (by kernel_rfl) (refID_v tS r3 _ w (hd 17 rfl) HZ.out.2.2 HR3.out)⟩
   · exact ⟨wanted_true rfl rfl (hd 14 rfl), loc_eqlCk rfl (hd 16 rfl) (hd 18 rfl) rfl⟩
   · exact ⟨wanted_none rfl, loc_pick rfl (hd 14 rfl) (hd 19 rfl)⟩
   · exact ⟨wanted_none rfl, loc_move rfl (hd 20 rfl)⟩
   · exact ⟨wanted_true rfl rfl (hd 21 rfl), loc_move rfl (hf.base 0 rfl)⟩
   · exact ⟨wanted_true rfl rfl (hd 21 rfl), loc_move rfl (hf.base 10 rfl)⟩
   · exact ⟨wanted_true rfl rfl (hd 21 rfl), loc_call rfl (by kernel_rfl) (issue_v s tS R _ _ w (hd 22 rfl) (hd 23 rfl) hs htz HRR.out)⟩
   · exact ⟨wanted_true rfl rfl (hd 21 rfl), loc_move rfl (hf.base 0 rfl)⟩
   · exact ⟨wanted_true rfl rfl (hd 21 rfl), loc_move rfl (hf.base 10 rfl)⟩
   · exact ⟨wanted_true rfl rfl (hd 21 rfl), loc_call rfl (by kernel_rfl) (refIssue_v s tS R _ _ w (hd 25 rfl) (hd 26 rfl) hs htz HRR.out)⟩
   · exact ⟨wanted_true rfl rfl (hd 21 rfl), loc_eqlFCk rfl (hd 24 rfl) (hd 27 rfl) rfl⟩
   · exact ⟨wanted_none rfl, loc_pick rfl (hd 21 rfl) (hd 28 rfl)⟩
   · exact ⟨wanted_none rfl, loc_move rfl (hd 29 rfl)⟩
   · exact ⟨wanted_true rfl rfl (hd 30 rfl), loc_call rfl (by kernel_rfl) (ckAwake_v w m (below_cell hb HM.out))⟩
   · exact ⟨wanted_none rfl, loc_pick rfl (hd 30 rfl) (hd 31 rfl)⟩
   · exact ⟨wanted_none rfl, loc_assign rfl (hd 32 rfl)⟩
 · intro a w' hb hf hh
   refine hK a w' ?_
   go_wp2_with fail
   exact local_ret rfl hf.defers (show a.eval (.tmp 8) = .bool true from hh 33 (by decide)) ⟨rfl, below_trans HB1.out hb⟩
end Go.Proofs.YthgiplnidnkajaaDoor
namespace Go.Proofs.YthgiplnidnkajaaDoor
open Go.RowKit
theorem rdrop_keep {c : UInt8} (t : List UInt8) (h : blankB c = false) : rdrop blankB (c :: t) = c :: rdrop blankB t := by
 rw [rdrop_cons]
 split
 · rename_i he
   have : rdrop blankB t = [] := by simpa using he
   rw [this]
   simp [h]
 · rfl
theorem rdrop_all : ∀ (l : List UInt8), l.all (fun c => !blankB c) = true → rdrop blankB l = l
 | [], _ => rdrop_nil _
 | c :: t, h => by
  rw [List.all_cons, Bool.and_eq_true] at h
  rw [rdrop_keep t (by simpa using h.1), rdrop_all t h.2]
theorem trimL_all {l : List UInt8} (h : l.all (fun c => !blankB c) = true) : trimL l = l := by
 unfold trimL
 rw [rdrop_all l h]
 cases l with
 | nil => rfl
 | cons c t =>
  rw [List.all_cons, Bool.and_eq_true] at h
  have : blankB c = false := by simpa using h.1
  simp [List.dropWhile, this]
theorem trimL_two (c d : UInt8) (t : List UInt8) (hc : blankB c = false) (hd : blankB d = false) : trimL (c :: d :: t) = c :: d :: rdrop blankB t := by
 unfold trimL
 rw [rdrop_keep _ hc, rdrop_keep _ hd]
 simp [List.dropWhile, hc]
theorem ofL_size (l : List UInt8) : (ofL l).size = l.length := by
 show (ofL l).data.size = _
 simp [ofL]
theorem ofL_get (l : List UInt8) (k : Nat) (h : k < (ofL l).size) : (ofL l)[k] = l[k]'(by rw [ofL_size] at h; exact h) := by
 show (ofL l).data[k]'_ = _
 simp [ofL]
theorem cut_head {n r : List UInt8} (h : ¬ (61 : UInt8) ∈ n) : idxI 61 (ofL (n ++ 61 :: r)) = (n.length : Nat) ∧ cutS 61 (ofL (n ++ 61 :: r)) = (ofL n, ofL r) := by
 have hk : n.length < (ofL (n ++ 61 :: r)).size := by rw [ofL_size]; simp
 have hi : idxI 61 (ofL (n ++ 61 :: r)) = (n.length : Nat) := by
  refine idxI_at 61 _ n.length hk ?_ fun j hj => ?_
  · rw [ofL_get]; simp
  · rw [ofL_list, List.getElem?_append_left hj]
    intro e
    exact h (List.mem_of_getElem? e)
 refine ⟨hi, ?_⟩
 rw [cutS_at hi]
 congr 1
 · rw [extract_ofL, ofL_list]; simp
 · rw [extract_ofL, ofL_list, ofL_size, List.length_append, List.length_cons, show n.length + (r.length + 1) - (n.length + 1) = r.length by omega]; simp
theorem pairO_head {n r : List UInt8} (h : ¬ (61 : UInt8) ∈ n) (ht : tokS (ofL n) = true) : pairO (ofL (n ++ 61 :: r)) = [(ofL n, ofL r)] := by
 obtain ⟨h1, h2⟩ := cut_head (r := r) h
 rw [pairO_yes h1 (by rw [h2]; exact ht), h2]
theorem split_one {p : List UInt8} (hp : ¬ (59 : UInt8) ∈ p) : splitS 59 (ofL p) = [ofL p] := by
 unfold splitS
 rw [ofL_list, splitL_whole 59 p hp]; rfl
theorem split_more {p q : List UInt8} (hp : ¬ (59 : UInt8) ∈ p) : splitS 59 (ofL (p ++ 59 :: q)) = ofL p :: splitS 59 (ofL q) := by
 unfold splitS
 rw [ofL_list, ofL_list, splitL_append, splitL_whole 59 p hp]; rfl
theorem partsL_cons (a : ByteArray) (t : List ByteArray) : partsL (a :: t) = pairO (trimBA a) ++ partsL t := by unfold partsL; rw [List.flatMap_cons]
theorem trimBA_ofL (l : List UInt8) : trimBA (ofL l) = ofL (trimL l) := ba_ext (by rw [trimBA_list, ofL_list, ofL_list])
theorem findL_skip {a b : List Fld} {n : ByteArray} (h : ∀ f ∈ a, ¬ f.1 = n) : findL (a ++ b) n = findL b n := by
 unfold findL
 rw [List.find?_append, List.find?_eq_none.2 (fun f hf => by simpa using h f hf)]; rfl
theorem findL_here {f : Fld} {b : List Fld} {n : ByteArray} (h : f.1 = n) : findL (f :: b) n = some f := by
 unfold findL
 rw [List.find?_cons_of_pos (by simpa using h)]
theorem hexOk_facts : ∀ m : Fin 256, hexOk (UInt8.ofNat m.val) = true → blankB (UInt8.ofNat m.val) = false ∧ UInt8.ofNat m.val ≠ 59 ∧ UInt8.ofNat m.val ≠ 61 ∧ idB (UInt8.ofNat m.val) = true := by decide +kernel
theorem hexOk_fact {c : UInt8} (h : hexOk c = true) : blankB c = false ∧ c ≠ 59 ∧ c ≠ 61 ∧ idB c = true := by
 have := hexOk_facts ⟨c.toNat, c.toNat_lt⟩
 rw [UInt8.ofNat_toNat] at this
 exact this h
theorem hex_id {s : ByteArray} (h16 : s.size = 16) (h : s.data.toList.all hexOk = true) : idS s = true := by
 unfold idS
 rw [decide_eq_true h16, Bool.true_and, List.all_eq_true]
 intro c hc
 exact (hexOk_fact (List.all_eq_true.1 h c hc)).2.2.2
theorem hex_no59 {l : List UInt8} (h : l.all hexOk = true) : ¬ (59 : UInt8) ∈ l := fun hm => (hexOk_fact (List.all_eq_true.1 h _ hm)).2.1 rfl
theorem hex_blank {l : List UInt8} (h : l.all hexOk = true) : l.all (fun c => !blankB c) = true := by
 rw [List.all_eq_true]
 intro c hc
 rw [(hexOk_fact (List.all_eq_true.1 h c hc)).1]; rfl
def cohL : List UInt8 := [99, 111, 104, 111, 114, 116]
def cohS : ByteArray := ⟨#[99, 111, 104, 111, 114, 116]⟩
theorem cohS_of : ofL cohL = cohS := rfl
theorem found_three {B A I : List UInt8} (hB : ¬ (59 : UInt8) ∈ B) (hI : I.all hexOk = true) {v : ByteArray} (hv : v = ofL ((120 :: 61 :: B) ++ 59 :: ((32 :: (cohL ++ 61 :: I)) ++ 59 :: (32 :: 121 :: 61 :: A)))) :
  findL (pairsV v) cohS = some (cohS, ofL I) := by
 have h1 : ¬ (59 : UInt8) ∈ 120 :: 61 :: B := by simp [hB]
 have h2 : ¬ (59 : UInt8) ∈ 32 :: (cohL ++ 61 :: I) := by
  have := hex_no59 hI
  simp [cohL, this]
 have hbl : (cohL ++ 61 :: I).all (fun c => !blankB c) = true := by
  rw [List.all_append, List.all_cons, hex_blank hI]; rfl
 unfold pairsV
 rw [hv, split_more h1, split_more h2, partsL_cons, partsL_cons, trimBA_ofL, trimBA_ofL, trimL_two 120 61 B rfl rfl, trimL_front _ 32 rfl, trimL_all hbl,
  show (120 : UInt8) :: 61 :: rdrop blankB B = [120] ++ 61 :: rdrop blankB B from rfl, pairO_head (by decide) (by decide +kernel), pairO_head (by decide) (by decide +kernel)]
 rw [findL_skip (fun f hf => by
  obtain rfl := List.mem_singleton.1 hf
  exact show ¬ ofL [120] = cohS by decide)]
 rw [List.singleton_append, findL_here cohS_of]
 rfl
def ceL (I : List UInt8) : List UInt8 := 99 :: 61 :: I
def cS : ByteArray := ⟨#[99]⟩
theorem ce_pair {I : List UInt8} (hI : I.all hexOk = true) : pairO (trimBA (ofL (ceL I))) = [(cS, ofL I)] := by
 have hbl : (ceL I).all (fun c => !blankB c) = true := by
  unfold ceL
  rw [List.all_cons, List.all_cons, hex_blank hI]; rfl
 rw [trimBA_ofL, trimL_all hbl]
 exact pairO_head (n := [99]) (by decide) (by decide +kernel)
theorem ce_no59 {I : List UInt8} (hI : I.all hexOk = true) : ¬ (59 : UInt8) ∈ ceL I := by
 have := hex_no59 hI
 simp [ceL, this]
theorem first_two {I J : List UInt8} (hI : I.all hexOk = true) {v : ByteArray} (hv : v = ofL (ceL I ++ 59 :: J)) : findL (pairsV v) cS = some (cS, ofL I) := by
 unfold pairsV
 rw [hv, split_more (ce_no59 hI), partsL_cons, ce_pair hI, List.singleton_append, findL_here rfl]
theorem first_one {I : List UInt8} (hI : I.all hexOk = true) {v : ByteArray} (hv : v = ofL (ceL I)) (t : List Fld) : findL (pairsV v ++ t) cS = some (cS, ofL I) := by
 unfold pairsV
 rw [hv, split_one (ce_no59 hI), partsL_cons, ce_pair hI, List.append_assoc, List.singleton_append, findL_here rfl]
theorem values_one (v : ByteArray) : valuesL [(ckU, v)] ckL = [v] := by
 unfold valuesL
 have : foldS ckU ckL = true := by decide +kernel
 simp [this]
def ckC : ByteArray := ⟨#[67, 79, 79, 75, 73, 69]⟩
theorem values_two (v u : ByteArray) : valuesL [(ckU, v), (ckC, u)] ckL = [v, u] := by
 unfold valuesL
 have h1 : foldS ckU ckL = true := by decide +kernel
 have h2 : foldS ckC ckL = true := by decide +kernel
 simp [h1, h2]
theorem pairs_one (v : ByteArray) : pairsL [v] = pairsV v := by unfold pairsL; simp
theorem pairs_two (v u : ByteArray) : pairsL [v, u] = pairsV v ++ pairsV u := by unfold pairsL; simp
set_option maxRecDepth 100000 in
set_option maxHeartbeats 2000000 in
theorem refNewIDz_any (a b : Int) (w : World) (ha0 : -9223372036854775808 ≤ a) (ha1 : a ≤ 9223372036854775807) (hb0 : -9223372036854775808 ≤ b) (hb1 : b ≤ 9223372036854775807) :
  Calls Tryd.prog 19 #[.int .i64 a, .int .i64 b] w fun e w' => ∃ s : ByteArray, e = .returned (.string s) ∧ s.size = 16 ∧ s.data.toList.all hexOk = true ∧ Below w.heap.size w w' := by
 obtain ⟨p, hp, hp0, hp1⟩ : ∃ p : Int, (∀ (ts : Array TypeId) (t : TypeId) (W : World), (Builtin.max_ ts t #[.int .i64 a, .int .i64 0]).run Tryd.prog W = .ok (.int .i64 p) W) ∧ 0 ≤ p ∧ p ≤ 9223372036854775807 := by
  refine ⟨if 0 > a then 0 else a, fun ts t W => by rw [run_max_int2], ?_, ?_⟩
  all_goals (split <;> omega)
 obtain ⟨q, hq, hq0, hq1⟩ : ∃ q : Int, (∀ (ts : Array TypeId) (t : TypeId) (W : World), (Builtin.max_ ts t #[.int .i64 b, .int .i64 0]).run Tryd.prog W = .ok (.int .i64 q) W) ∧ 0 ≤ q ∧ q ≤ 9223372036854775807 := by
  refine ⟨if 0 > b then 0 else b, fun ts t W => by rw [run_max_int2], ?_, ?_⟩
  all_goals (split <;> omega)
 go_enter Tryd.func19, Tryd.ntmps19
 go_wp2_with fail
 refine (refDecimal_any p _ (by omega) (by omega)).mono ?_
 rintro e w1 ⟨rfl, hb1'⟩
 have HB1 := Box.mk hb1'
 clear hb1'
 go_wp2_with fail
 refine (refDecimal_any q _ (by omega) (by omega)).mono ?_
 rintro e w2 ⟨rfl, hb2⟩
 have HB2 := Box.mk (below_trans HB1.out hb2)
 have HZ := Box.mk (And.intro (fmtS_max (b := 10) (by decide) p (by omega)) (fmtS_max (b := 10) (by decide) q (by omega)))
 clear hb2 HB1 hp hq
 generalize fmtS 10 p = s1 at *
 generalize fmtS 10 q = s2 at *
 go_wp2_with fail
 refine (refSum_two s1 s2 _ _ _ HZ.out.1 HZ.out.2 (strsIn_twoF w2 s1 s2 _)).mono ?_
 rintro e w3 ⟨h, rfl, hh, hb3⟩
 have HB3 := Box.mk (below_trans (below_twoF HB2.out (.cells #[.string s1, .string s2] 9)) hb3)
 clear hb3 HB2 HZ
 go_wp2_with fail
 go_loopw [6, 7] (fun v iv wr => ∃ k : Nat, k ≤ 16 ∧ iv = .int .i64 k ∧ ∃ s : ByteArray, v = .string s ∧ s.size ≤ 1000 ∧ Box (s.size = k ∧ s.data.toList.all hexOk = true ∧ Below w.heap.size w wr)) (fun _ iv _ => 16 - (intOf iv).toNat)
 case atStart => exact ⟨0, Nat.zero_le _, rfl, ⟨#[]⟩, rfl, by decide, ⟨rfl, rfl, HB3.out⟩⟩
 case round =>
  clear HB3
  obtain ⟨k, hk, rfl, s, rfl, hs, HM⟩ := hrel
  by_cases hlt : k < 16
  · go_wp2_with fail
    obtain ⟨d, hd, hd15⟩ : ∃ d : Nat, wrap64 (bits .and .u64 ((h : Int) / 2 ^ (60 - 4 * k)) 15) = d ∧ d ≤ 15 := by
     have e1 : ((h : Int) / 2 ^ (60 - 4 * k)) = ((h / 2 ^ (60 - 4 * k) : Nat) : Int) := by push_cast; rfl
     have h2 : h / 2 ^ (60 - 4 * k) < 18446744073709551616 := Nat.lt_of_le_of_lt (Nat.div_le_self _ _) hh
     have h3 := bits_and_u64_nat (h / 2 ^ (60 - 4 * k)) 15 h2 (by decide)
     refine ⟨h / 2 ^ (60 - 4 * k) &&& 15, ?_, Nat.and_le_right⟩
     rw [e1, show (15 : Int) = ((15 : Nat) : Int) from rfl, h3]
     have h4 : h / 2 ^ (60 - 4 * k) &&& 15 ≤ 15 := Nat.and_le_right
     generalize h / 2 ^ (60 - 4 * k) &&& 15 = x at *
     simp only [wrap64]; omega
    rw [hd]
    have HD := Box.mk (hex_digit (z := (d : Int)) (by omega) (by omega))
    refine (refHex_any (d : Int) wr (by omega) (by omega)).mono ?_
    rintro e w4 ⟨rfl, hb4⟩
    generalize fmtS 16 (d : Int) = t at *
    have hts : t.size ≤ 10 := by have := HD.out.1; omega
    have HM2 := Box.mk (show (s ++ t).size = k + 1 ∧ (s ++ t).data.toList.all hexOk = true ∧ Below w.heap.size w w4 from ⟨by rw [ByteArray.size_append, HM.out.1, HD.out.1], by rw [ba_app_list, List.all_append, HM.out.2.1, HD.out.2]; rfl, below_trans HM.out.2.2 hb4⟩)
    clear hb4 HM HD hd
    go_wp2_with fail
    go_roundw
    case rel => exact ⟨k + 1, by omega, by go_num, s ++ t, rfl, by have := HM2.out.1; omega, HM2⟩
    case measure => simp [intOf]; omega
  · obtain rfl : k = 16 := by omega
    go_wp2_with fail
    go_ret
    exact ⟨s, rfl, HM.out.1, HM.out.2.1, HM.out.2.2⟩
theorem run_fieldCk (w : World) (g i : Nat) (h : i < 2) : (Instr.fieldAt 37 (.pointer (some ⟨g, 0, none⟩)) i).run Tryd.prog w = .ok (.pointer (some ⟨g, i, none⟩)) w := by
 match i, h with
 | 0, _ => simp [Instr.fieldAt, run_underlying Tryd.underlying37, Instr.sureAddr, fieldPlace, Addr.add]
 | 1, _ => simp [Instr.fieldAt, run_underlying Tryd.underlying37, Instr.sureAddr, fieldPlace, Addr.add]
theorem loc_fieldCk {Q : Exit → Act → World → Prop} {a : Act} {w : World} {o : Oper} {s : Spec} {x : Operand} {i : Nat} (ho : o.op = .fieldAddr 37 x i) {g : Nat} (hx : a.eval x = .pointer (some ⟨g, 0, none⟩)) (hi : i < 2) (hs : s.p (.pointer (some ⟨g, i, none⟩)) w) :
  o.wp Tryd.prog a w (fun a' w' => ∃ v, a' = a.put o.dst v ∧ Below w.heap.size w w' ∧ s.p v w') Q :=
 loc_run (v := .pointer (some ⟨g, i, none⟩)) (by unfold execOp; rw [ho]; simp only [hx, Sem.run_bind, run_fieldCk _ _ _ hi, Result.andThen_ok, Sem.run_pure]) (Below.refl _ _) hs
def cohE : ByteArray := ⟨#[99, 111, 104, 111, 114, 116, 61]⟩
def xE : ByteArray := ⟨#[120, 61]⟩
def scS : ByteArray := ⟨#[59, 32]⟩
def yE : ByteArray := ⟨#[59, 32, 121, 61]⟩
theorem ba_list (a b : ByteArray) : (a ++ b).data.toList = a.data.toList ++ b.data.toList := ba_app_list a b
theorem issue_len (id : ByteArray) (h : id.size = 16) : (issueS cohS id).size = 41 := by
 unfold issueS
 rw [ByteArray.size_append, ByteArray.size_append, ByteArray.size_append, h]; rfl
theorem issue_front (id : ByteArray) (h : id.size = 16) : (issueS cohS id).extract 0 23 = cohE ++ id := by
 apply ba_ext
 rw [Lib.extract_data]
 unfold issueS
 rw [ba_list, ba_list, ba_list, ba_list]
 have hl : id.data.toList.length = 16 := by rw [len_toList]; exact h
 rw [List.drop_zero, Nat.sub_zero, show cohS.data.toList ++ eqS.data.toList ++ id.data.toList ++ attrS.data.toList = (cohE.data.toList ++ id.data.toList) ++ attrS.data.toList by rfl]
 exact List.take_left' (by rw [List.length_append, hl]; rfl)
theorem found_str (B A : List UInt8) (id v : ByteArray) (h : v = xE ++ ⟨B.toArray⟩ ++ scS ++ (cohE ++ id) ++ yE ++ ⟨A.toArray⟩) :
  v = ofL ((120 :: 61 :: B) ++ 59 :: ((32 :: (cohL ++ 61 :: id.data.toList)) ++ 59 :: (32 :: 121 :: 61 :: A))) := by
 rw [h]
 apply ba_ext
 rw [ofL_list]
 simp only [ba_list]
 simp [xE, scS, cohE, yE, cohL]
theorem ckSafe_v (s : ByteArray) (v : Value) (w : World) (hv : v = .string s) (hs : s.size ≤ maxLen) :
  Calls Tryd.prog 20 #[v] w fun e w' => ∃ v', e = .returned v' ∧ Below w.heap.size w w' ∧ BytesV w' v' (safeB (s.data.toList.take 30)) := by
 subst hv
 refine (ckSafe_any s w hs).mono ?_
 rintro e w' ⟨a, cap, rfl, hb, hbl⟩
 exact ⟨_, rfl, hbl, a, cap, rfl, hb⟩
set_option maxRecDepth 100000 in
set_option maxHeartbeats 4000000 in
theorem cookieFound_any (d z : Int) (s t : ByteArray) (w : World) (m : Int) (hd0 : -9223372036854775808 ≤ d) (hd1 : d ≤ 9223372036854775807) (hz0 : -9223372036854775808 ≤ z) (hz1 : z ≤ 9223372036854775807) (hs : s.size ≤ maxLen) (ht : t.size ≤ maxLen) (hm : w.cell? ⟨0, 0, none⟩ = some (.int .i64 m)) :
  Calls Tryd.prog 5 #[.int .i64 d, .int .i64 z, .string s, .string t] w fun e w' => e = .returned (.bool true) ∧ Below w.heap.size w w' := by
 have HM := Box.mk hm
 have HZ := Box.mk (And.intro hs ht)
 clear hm hs ht
 go_enter Tryd.func5, Tryd.ntmps5
 go_wp2_with fail
 refine (refNewIDz_any d z w hd0 hd1 hz0 hz1).mono ?_
 rintro e w1 ⟨id, rfl, hid, hhx, hb1⟩
 have HID := Box.mk (And.intro hid hhx)
 have HB1 := Box.mk hb1
 have hids : id.size ≤ 1000 := by omega
 clear hid hhx hb1
 go_wp2_with fail
 refine (issue_any cohS id w1 (by decide) (by omega)).mono ?_
 rintro e w2 ⟨rfl, hb2⟩
 have hvl := issue_len id HID.out.1
 have HV23 := Box.mk (issue_front id HID.out.1)
 have hV1 : 24 ≤ (issueS cohS id).size := by omega
 have hV2 : (issueS cohS id).size ≤ 1000 := by omega
 clear hvl
 generalize issueS cohS id = V at *
 have hq : ((V.extract 0 23).toList == (cohE ++ id).toList) = true := by rw [HV23.out]; simp
 unfold cohE at hq
 go_upto_region 3 with fail
 obtain ⟨W3, hW3⟩ : ∃ W3, W3 = w2.alloc (.cells #[.string setCk, .string V] 37) := ⟨_, rfl⟩
 have HF := Box.mk (show FVar W3 w2.heap.size setCk V by rw [hW3]; exact FVar.new _ _ _)
 have HB3 := Box.mk (show Below w.heap.size w W3 by rw [hW3]; exact below_twoF (below_trans HB1.out hb2) _)
 have HM3 := Box.mk (below_cell HB3.out HM.out)
 change Code.wp _ _ _ _ (w2.alloc (.cells #[.string setCk, .string V] 37))
 rw [← hW3]
 clear hW3 HM HB1 hb2
 generalize w2.heap.size = gf at *
 have hc1 := HF.out.c1
 go_wp2_with fail
 clear hq
 obtain ⟨B, hB⟩ : ∃ B, B = safeB (s.data.toList.take 30) := ⟨_, rfl⟩
 obtain ⟨A, hA⟩ : ∃ A, A = safeB (t.data.toList.take 30) := ⟨_, rfl⟩
 have HBB := Box.mk hB
 have HAA := Box.mk hA
 have HNB := Box.mk (show ¬ (59 : UInt8) ∈ B by rw [hB]; exact safeB_no _)
 have hBl : B.length ≤ 30 := by rw [hB]; exact Nat.le_trans (safeB_len _) (List.length_take_le _ _)
 have hAl : A.length ≤ 30 := by rw [hA]; exact Nat.le_trans (safeB_len _) (List.length_take_le _ _)
 clear hB hA
 obtain ⟨P, hP⟩ : ∃ P : ByteArray, P = V.extract 0 23 := ⟨_, rfl⟩
 have HP := Box.mk (show P = cohE ++ id by rw [hP]; exact HV23.out)
 have hPl : P.size ≤ 1000 := by rw [hP]; have := extract_le V 0 23; omega
 have HPE := Box.mk hP
 clear hP
 obtain ⟨s3, hs3⟩ : ∃ s3 : ByteArray, s3 = xE ++ ⟨B.toArray⟩ := ⟨_, rfl⟩
 obtain ⟨s4, hs4⟩ : ∃ s4 : ByteArray, s4 = s3 ++ scS := ⟨_, rfl⟩
 obtain ⟨s8, hs8⟩ : ∃ s8 : ByteArray, s8 = s4 ++ P := ⟨_, rfl⟩
 obtain ⟨s9, hs9⟩ : ∃ s9 : ByteArray, s9 = s8 ++ yE := ⟨_, rfl⟩
 obtain ⟨v, hv⟩ : ∃ v : ByteArray, v = s9 ++ ⟨A.toArray⟩ := ⟨_, rfl⟩
 have hBz : (⟨B.toArray⟩ : ByteArray).size ≤ 30 := by show B.toArray.size ≤ 30; simpa using hBl
 have hAz : (⟨A.toArray⟩ : ByteArray).size ≤ 30 := by show A.toArray.size ≤ 30; simpa using hAl
 have hz3 : s3.size ≤ 100 := by rw [hs3, ByteArray.size_append]; have : xE.size = 2 := rfl; omega
 have hz4 : s4.size ≤ 200 := by rw [hs4, ByteArray.size_append]; have : scS.size = 2 := rfl; omega
 have hz8 : s8.size ≤ 1300 := by rw [hs8, ByteArray.size_append]; omega
 have hz9 : s9.size ≤ 1400 := by rw [hs9, ByteArray.size_append]; have : yE.size = 4 := rfl; omega
 have hzv : v.size ≤ 1500 := by rw [hv, ByteArray.size_append]; omega
 have HS3 := Box.mk hs3
 have HS4 := Box.mk hs4
 have HS8 := Box.mk hs8
 have HS9 := Box.mk hs9
 have HSV := Box.mk hv
 have HR := Box.mk (found_three HNB.out HID.out.2 (found_str B A id v (by rw [hv, hs9, hs8, hs4, hs3, HP.out])))
 clear hs3 hs4 hs8 hs9 hv
 rename_i K hK
 refine wp_region_local (S := [.val (.string s), .bytes B, .val (.string ⟨B.toArray⟩), .val (.string s3), .val (.string s4), .val (.pointer (some ⟨gf, 1, none⟩)), .val (.string V), .val (.string P), .val (.string s8), .val (.string s9), .val (.string t), .bytes A, .val (.string ⟨A.toArray⟩), .val (.string v), .val (.string v)])
  (by kernel_rfl) (by kernel_rfl) (by kernel_rfl) ?_ ?_
 · refine ⟨?_, ?_, ?_, ?_, ?_, ?_, ?_, ?_, ?_, ?_, ?_, ?_, ?_, ?_, ?_, trivial⟩ <;> intro a w' hb hf hd
   · exact ⟨wanted_none rfl, loc_move rfl (hf.base 2 rfl)⟩
   · exact ⟨wanted_none rfl, loc_call rfl (by kernel_rfl) (by rw [HBB.out]; exact ckSafe_v s _ w' (hd 0 rfl) HZ.out.1)⟩
   · exact ⟨wanted_none rfl, loc_string rfl (hd 1 rfl) rfl⟩
   · exact ⟨wanted_none rfl, loc_addS (b := xE) rfl rfl (hd 2 rfl) (by show 2 + _ ≤ _; omega) (by rw [HS3.out]; rfl)⟩
   · exact ⟨wanted_none rfl, loc_addS (c := scS) rfl (hd 3 rfl) rfl (by show _ + 2 ≤ _; omega) (by rw [HS4.out]; rfl)⟩
   · exact ⟨wanted_none rfl, loc_fieldCk rfl (hf.base 10 rfl) (by decide) rfl⟩
   · exact ⟨wanted_none rfl, loc_cell rfl (hd 5 rfl) (HF.out.keep hb).c1 (agg_string _) rfl⟩
   · exact ⟨wanted_none rfl, loc_sub_to (k := 23) rfl (hd 6 rfl) rfl (by omega) (by rw [HPE.out]; rfl)⟩
   · exact ⟨wanted_none rfl, loc_addS rfl (hd 4 rfl) (hd 7 rfl) (by omega) (by rw [HS8.out]; rfl)⟩
   · exact ⟨wanted_none rfl, loc_addS (c := yE) rfl (hd 8 rfl) rfl (by show _ + 4 ≤ _; omega) (by rw [HS9.out]; rfl)⟩
   · exact ⟨wanted_none rfl, loc_move rfl (hf.base 3 rfl)⟩
   · exact ⟨wanted_none rfl, loc_call rfl (by kernel_rfl) (by rw [HAA.out]; exact ckSafe_v t _ w' (hd 10 rfl) HZ.out.2)⟩
   · exact ⟨wanted_none rfl, loc_string rfl (hd 11 rfl) rfl⟩
   · exact ⟨wanted_none rfl, loc_addS rfl (hd 9 rfl) (hd 12 rfl) (by omega) (by rw [HSV.out]; rfl)⟩
   · exact ⟨wanted_none rfl, loc_assign rfl (hd 13 rfl)⟩
 · intro a W5 hb hf hh
   have e11 : a.eval (.tmp 11) = .string v := hh 14 (by decide)
   have HB5 := Box.mk (below_trans HB3.out hb)
   have HM5 := Box.mk (below_cell hb HM3.out)
   rw [fr_putAll hf]
   clear hf hh hb
   simp only [putAll, e11]
   generalize a.eval (.tmp 31) = u31
   generalize a.eval (.tmp 32) = u32
   generalize a.eval (.tmp 33) = u33
   generalize a.eval (.tmp 34) = u34
   generalize a.eval (.tmp 35) = u35
   generalize a.eval (.tmp 36) = u36
   generalize a.eval (.tmp 37) = u37
   generalize a.eval (.tmp 38) = u38
   generalize a.eval (.tmp 39) = u39
   generalize a.eval (.tmp 40) = u40
   generalize a.eval (.tmp 41) = u41
   generalize a.eval (.tmp 42) = u42
   generalize a.eval (.tmp 43) = u43
   generalize a.eval (.tmp 44) = u44
   clear e11 a
   simp only [Act.put, List.setIfInBounds_toArray, List.set_cons_succ, List.set_cons_zero, Exit.then]
   refine hK _ _ ?_
   clear hc1 HS3 HS4 HS8 HS9 HSV HPE HP HBB HAA
   go_wp2_with fail
   obtain ⟨W6, hW6⟩ : ∃ W6, W6 = W5.alloc (.cells (cellsF [(ckU, v)]).toArray 37) := ⟨_, rfl⟩
   have hb6 : Below W5.heap.size W5 W6 := by rw [hW6]; exact below_oneF W5 _
   have HF6 := Box.mk (show FldsIn W6 (some ⟨W5.heap.size, 0, none⟩) [(ckU, v)] by rw [hW6]; exact fldsIn_new W5 [(ckU, v)] _ rfl)
   have HB6 := Box.mk (below_trans HB5.out hb6)
   have HM6 := Box.mk (below_cell hb6 HM5.out)
   change Calls _ _ _ (W5.alloc (.cells (cellsF [(ckU, v)]).toArray 37)) _
   rw [← hW6]
   clear hW6 hb6 HB5 HM5
   have HSH := Box.mk (show ShortF [(ckU, v)] from fun f hf => by
    obtain rfl := List.mem_singleton.1 hf
    exact ⟨by show 6 ≤ maxLen; decide, by show v.size ≤ maxLen; unfold maxLen; omega⟩)
   have HTO := Box.mk (show total (valuesL [(ckU, v)] ckL) ≤ 4000000000 by rw [values_one]; unfold total total; omega)
   have HFE := Box.mk (show findV (findL (pairsL (valuesL [(ckU, v)] ckL)) cohS) = .tuple #[.string id, .bool true] by rw [values_one, pairs_one, HR.out, ofL_of]; rfl)
   refine (ckFind_any [(ckU, v)] cohS _ 1 W6 m HF6.out HSH.out (show 1 ≤ 1000000 by decide) HM6.out HTO.out).mono ?_
   rintro e W7 ⟨he, hb7⟩
   rw [HFE.out] at he
   subst he
   have HB7 := Box.mk (below_trans HB6.out hb7)
   have HM7 := Box.mk (below_cell hb7 HM6.out)
   clear hb7 HB6 HM6 HF6
   have hq2 : (id.toList == id.toList) = true := by simp
   go_wp2_with fail
   refine (ckID_eq _ (by unfold maxLen; omega) (hex_id HID.out.1 HID.out.2)).mono ?_
   rintro e W8 ⟨rfl, rfl⟩
   go_wp2_with fail
   refine (ckAwake_any _ m HM7.out).mono ?_
   rintro e W9 ⟨rfl, hb9⟩
   have HB9 := Box.mk (below_trans HB7.out hb9)
   clear hb9
   go_wp2_with fail
   go_ret
   exact ⟨rfl, HB9.out⟩
def ceE : ByteArray := ⟨#[99, 61]⟩
def sceE : ByteArray := ⟨#[59, 32, 99, 61]⟩
theorem ce_one (x v : ByteArray) (h : v = ceE ++ x) : v = ofL (ceL x.data.toList) := by
 rw [h]
 apply ba_ext
 rw [ofL_list, ba_app_list]
 rfl
theorem ce_two (x y v : ByteArray) (h : v = ceE ++ x ++ sceE ++ y) : v = ofL (ceL x.data.toList ++ 59 :: (32 :: 99 :: 61 :: y.data.toList)) := by
 rw [h]
 apply ba_ext
 rw [ofL_list]
 simp only [ba_app_list]
 simp [ceE, sceE, ceL]
theorem ckFind_lit (l : List Fld) (k : Nat) (cs : Array Value) (n : ByteArray) (r : Value) (W : World) (m : Int) (hcs : cs = (cellsF l).toArray) (hk : l.length = k) (h10 : k ≤ 10) (hz : ∀ f ∈ l, f.1.size ≤ 3000 ∧ f.2.size ≤ 3000) (hm : W.cell? ⟨0, 0, none⟩ = some (.int .i64 m)) (hr : findV (findL (pairsL (valuesL l ckL)) n) = r) :
  Calls Tryd.prog 11 #[.slice (some ⟨W.heap.size, 0, none⟩) k k, .string n] (W.alloc (.cells cs 37)) fun e w' => e = .returned r ∧ Below W.heap.size W w' := by
 subst hr hk
 have hs : SmallF l := fun f hf => ⟨Nat.le_trans (hz f hf).1 (by decide), Nat.le_trans (hz f hf).2 (by decide)⟩
 have hb := below_oneF W (.cells cs 37)
 refine (ckFind_any l n _ _ _ m (fldsIn_new W l cs hcs) hs.short (by omega) (below_cell hb hm) (Nat.le_trans (small_total hs (by omega) ckL) (by decide))).mono ?_
 rintro e w' ⟨rfl, h⟩
 exact ⟨rfl, below_trans hb h⟩
set_option maxRecDepth 100000 in
set_option maxHeartbeats 4000000 in
theorem cookieFirst_any (p q : Int) (w : World) (m : Int) (hp0 : -9223372036854775808 ≤ p) (hp1 : p ≤ 9223372036854775807) (hq0 : -9223372036854775808 ≤ q) (hq1 : q ≤ 9223372036854775807) (hm : w.cell? ⟨0, 0, none⟩ = some (.int .i64 m)) :
  Calls Tryd.prog 6 #[.int .i64 p, .int .i64 q] w fun e w' => e = .returned (.bool true) ∧ Below w.heap.size w w' := by
 have HM := Box.mk hm
 clear hm
 go_enter Tryd.func6, Tryd.ntmps6
 go_wp2_with fail
 refine (refNewIDz_any p 1 w hp0 hp1 (by decide) (by decide)).mono ?_
 rintro e w1 ⟨x, rfl, hx, hxx, hb1⟩
 have HX := Box.mk (And.intro hx hxx)
 have HB1 := Box.mk hb1
 have hxs : x.size ≤ 1000 := by omega
 clear hx hxx hb1
 go_wp2_with fail
 refine (refNewIDz_any q 2 w1 hq0 hq1 (by decide) (by decide)).mono ?_
 rintro e w2 ⟨y, rfl, hy, hyy, hb2⟩
 have HB2 := Box.mk (below_trans HB1.out hb2)
 have HM2 := Box.mk (below_cell HB2.out HM.out)
 have hys : y.size ≤ 1000 := by omega
 clear hy hyy hb2 HB1 HM
 have z1 : (ceE ++ x).size = x.size + 2 := by rw [ByteArray.size_append, show ceE.size = 2 from rfl]; omega
 have z2 : (ceE ++ x ++ sceE).size = x.size + 6 := by rw [ByteArray.size_append, z1, show sceE.size = 4 from rfl]
 have Z3 := Box.mk (show (ceE ++ x ++ sceE ++ y).size ≤ 2500 by rw [ByteArray.size_append, z2]; omega)
 have z4 : (ceE ++ y).size = y.size + 2 := by rw [ByteArray.size_append, show ceE.size = 2 from rfl]; omega
 have Z1 := Box.mk z1
 have Z4 := Box.mk z4
 have HR1 := Box.mk (first_two HX.out.2 (ce_two x y _ rfl))
 have HR2 := Box.mk (first_one HX.out.2 (ce_one x _ rfl) (pairsV (ceE ++ y)))
 unfold ceE at z1 z2 z4
 unfold sceE at z2
 go_wp2_with fail
 have HV3 := Box.mk (show findV (findL (pairsL (valuesL [(ckU, ceE ++ x ++ sceE ++ y)] ckL)) cS) = .tuple #[.string x, .bool true] by rw [values_one, pairs_one, HR1.out, ofL_of]; rfl)
 have HV4 := Box.mk (show findV (findL (pairsL (valuesL [(ckU, ceE ++ x), (ckC, ceE ++ y)] ckL)) cS) = .tuple #[.string x, .bool true] by rw [values_two, pairs_two, HR2.out, ofL_of]; rfl)
 refine (ckFind_lit [(ckU, ceE ++ x ++ sceE ++ y)] 1 _ cS _ w2 m rfl rfl (by decide) (fun f hf => by
  obtain rfl := List.mem_singleton.1 hf
  exact ⟨by show 6 ≤ 3000; decide, Nat.le_trans Z3.out (by decide)⟩) HM2.out HV3.out).mono ?_
 rintro e w3 ⟨rfl, hb3⟩
 have HB3 := Box.mk (below_trans HB2.out hb3)
 have HM3 := Box.mk (below_cell hb3 HM2.out)
 clear hb3 HB2 HM2
 go_wp2_with fail
 refine (ckFind_lit [(ckU, ceE ++ x), (ckC, ceE ++ y)] 2 _ cS _ w3 m rfl rfl (by decide) (fun f hf => by
  have h1 := Z1.out
  have h4 := Z4.out
  rcases List.mem_cons.1 hf with rfl | hf
  · exact ⟨by show 6 ≤ 3000; decide, by show (ceE ++ x).size ≤ 3000; omega⟩
  · obtain rfl := List.mem_singleton.1 hf
    exact ⟨by show 6 ≤ 3000; decide, by show (ceE ++ y).size ≤ 3000; omega⟩) HM3.out HV4.out).mono ?_
 rintro e w4 ⟨rfl, hb4⟩
 have HB4 := Box.mk (below_trans HB3.out hb4)
 have HM4 := Box.mk (below_cell hb4 HM3.out)
 clear hb4 HB3 HM3
 have hq2 : (x.toList == x.toList) = true := by simp
 go_wp2_with fail
 refine (ckAwake_any _ m HM4.out).mono ?_
 rintro e w5 ⟨rfl, hb5⟩
 have HB5 := Box.mk (below_trans HB4.out hb5)
 clear hb5
 go_wp2_with fail
 go_ret
 exact ⟨rfl, HB5.out⟩
end Go.Proofs.YthgiplnidnkajaaDoor
