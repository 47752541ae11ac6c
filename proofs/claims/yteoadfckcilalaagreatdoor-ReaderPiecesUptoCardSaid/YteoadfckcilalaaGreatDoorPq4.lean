/- The request line, parsed: package startline and the reference. The request line, parsed by the reference. The status line, parsed by package startline: the same as the reference's. The law FieldWithout. SameReply and SameRequest of the reference, at equal messages; FormatRequest and FormatStatus of package startline. Heads of messages: where a head ends, its lines. The reference's End. The reference's lines. The reference's fields of lines. A slice of bytes of the call's own, beside other memory: what an append leaves alone. The reference's ParseRequest. The reference's ParseReply. The reference's FormatRequest and FormatReply. Chunked bodies: the state of the decoder, one byte, many bytes. The reference's step: bytes of a line that is not complete. The reference's step: a line that ends with CR. The decoder's states stay in order; the reference's step in one contract. The reference's Feed. The reader of messages: its state, what Next does. What heads lead to: sizes. The reference's reader: a head that is not complete, or too long. Write: a text that comes in pieces. The reference's reader: a reply whose head is not in order. The reference's reader: the region that sets the new state: local laws. -/
import Derived.Test.YteoadfckcilalaaGreatDoorPq1
import Derived.Test.YteoadfckcilalaaGreatDoorPq2
import Derived.Test.YteoadfckcilalaaGreatDoorPq3
import Derived.Test.YteoadfckcilalaaGreatDoorRows
import Derived.WalkKit
import Derived.WalkSpells
import Derived.WalkLawsBesides
import Derived.BigQuiet
import Derived.Deep.QuietTactic
import Derived.Lib.Bytealg
import Derived.Lib.IndexLaws
import Derived.Lib.Hide
import Derived.Laws.IdiomStrings
import Derived.Lib.SlTrimSet
import Derived.Lib.IndexBytes
import Derived.Lib.Split
import Derived.Deep.AppendLies
import Derived.Shelf.Strings.SlTrimAscii
import Derived.Shelf.Strings.SplitShaped
import Derived.Shelf.LaysM
import Derived.Shelf.Strings.BuilderK
import Derived.Shelf.Strconv.Itoa4
import Derived.Shelf.Strings.Prefix
import Derived.Shelf.Bytes.SlIndexWhole
import Derived.Test.YteoadfckcilalaaGreatDoorProg
import Derived.Lib.SplitLaws
import Derived.WalkSmall
import Derived.ProofKit
import Derived.OpenShut
import Derived.Lib.Strings
import Derived.SliceStrings
import Derived.Deep.Quiet
import Derived.Tactics
import Derived.KernelRfl
import Derived.Below
import Derived.Laws.Bits64
import Derived.Lib.SlBytesConst
import Derived.Maps.AppendAt
import Derived.Laws.AppendOwnNone
import Derived.Great.BuildSlice
import Derived.Laws.Rows
import Derived.Laws.BitsAllLaws
import Derived.Laws.Shifts
import Derived.Maps.OwnOps
import Derived.Maps.OwnSet
import Derived.Deep.SlicePairs
import Derived.Lib.AppendZerosOnto
import Derived.Lib.AppendStr
import Derived.Laws.CopyOwn
import Derived.OwnWalk
import Derived.Laws.Strings3
import Derived.Laws.Concat
import Derived.Lib.ItoaMem
import Derived.IntWalk
import Derived.Laws.RangeAny
import Derived.LoopTactic
import Derived.Sort.Grow
import Derived.Lib.ConvBytes
import Derived.Deep.RegionHeld3
import Derived.Deep.DeepCutAuto
import Derived.Deep.MidRow
import Derived.Laws.Tables
import Derived.Deep.WholeRow
import Derived.StillTailTactics
import Derived.Deep.CutBlock
namespace Go.Proofs.YteoadfckcilalaaGreatDoor
open Go.RowKit

def RVar (w : World) (g : Nat) (m t : ByteArray) (z : Int) : Prop := w.heap[g]? = some (.cells #[.string m, .string t, .int .i64 z, .slice none 0 0, .bool false, .slice none 0 0] 29 (0, 0))
theorem RVar.keep {w w' : World} {g : Nat} {m t : ByteArray} {z : Int} (h : RVar w g m t z) (hb : Below w.heap.size w w') : RVar w' g m t z := by
 unfold RVar at *
 rw [hb.block g (Array.getElem?_eq_some_iff.1 h).1]; exact h
theorem sizeR : (Tryz.prog.info? 29).map (·.size) = some 6 := by kernel_rfl
theorem oneR (m t : ByteArray) (z : Int) : (#[.string m, .string t, .int .i64 z, .slice none 0 0, .bool false, .slice none 0 0] : Array Value).all (·.oneCell') = true := by simp [Value.oneCell']
def reqV : Option (ByteArray × ByteArray × Int) × Int → Value
 | (some f, _) => .tuple #[.agg #[.string f.1, .string f.2.1, .int .i64 f.2.2, .slice none 0 0, .bool false, .slice none 0 0], .int .i64 0]
 | (none, e) => .tuple #[.agg #[.string ⟨#[]⟩, .string ⟨#[]⟩, .int .i64 0, .slice none 0 0, .bool false, .slice none 0 0], .int .i64 e]
def lineR : List ByteArray → Option (ByteArray × ByteArray × Int) × Int
 | [m, t, v] => if tokS m = true ∧ targetS t = true then (if (verZ v).2 = 0 then (some (m, t, (verZ v).1), 0) else (none, (verZ v).2)) else (none, 2)
 | _ => (none, 2)
theorem lineR_no {l : List ByteArray} (h : ¬ l.length = 3) : lineR l = (none, 2) := by
 unfold lineR
 split
 · exact absurd rfl h
 · rfl
theorem lineR_ok {m t v : ByteArray} (h1 : tokS m = true) (h2 : targetS t = true) (h4 : (verZ v).2 = 0) : lineR [m, t, v] = (some (m, t, (verZ v).1), 0) := by
 show (if tokS m = true ∧ targetS t = true then (if (verZ v).2 = 0 then (some (m, t, (verZ v).1), 0) else (none, (verZ v).2)) else (none, 2)) = (_ : Option (ByteArray × ByteArray × Int) × Int)
 rw [if_pos ⟨h1, h2⟩, if_pos h4]
theorem lineR_err {m t v : ByteArray} (h1 : tokS m = true) (h2 : targetS t = true) (h4 : ¬ (verZ v).2 = 0) : lineR [m, t, v] = (none, (verZ v).2) := by
 show (if tokS m = true ∧ targetS t = true then (if (verZ v).2 = 0 then (some (m, t, (verZ v).1), 0) else (none, (verZ v).2)) else (none, 2)) = (_ : Option (ByteArray × ByteArray × Int) × Int)
 rw [if_pos ⟨h1, h2⟩, if_neg h4]
theorem lineR_bad {m t v : ByteArray} (h : ¬ (tokS m = true ∧ targetS t = true)) : lineR [m, t, v] = (none, 2) := by
 show (if tokS m = true ∧ targetS t = true then (if (verZ v).2 = 0 then (some (m, t, (verZ v).1), 0) else (none, (verZ v).2)) else (none, 2)) = (_ : Option (ByteArray × ByteArray × Int) × Int)
 rw [if_neg h]
theorem lineR_words (s : ByteArray) : lineR (wordsS s) = lineR (splitS 32 s) := by
 rcases wordsS_eq s with h | ⟨h1, h2⟩
 · rw [h]
 · rw [lineR_no (by omega), lineR_no h2]
theorem three {l : List ByteArray} (h : l.length = 3) : ∃ a b c, l = [a, b, c] := by
 match l, h with
 | [a, b, c], _ => exact ⟨a, b, c, rfl⟩
theorem wordsS_small {s : ByteArray} (h : (wordsS s).length = 3) (x : ByteArray) (hx : x ∈ wordsS s) : x.size ≤ s.size := by
 rcases wordsS_eq s with h1 | ⟨h1, _⟩
 · rw [h1] at hx; exact splitS_small 32 s x hx
 · omega
theorem cellsOf_at (l : List ByteArray) (n j : Nat) (hj : j < l.length) : (Lib.cellsOf l n)[j]? = some (.string l[j]) := by
 unfold Lib.cellsOf
 rw [List.getElem?_toArray, List.getElem?_append_left (by simpa using hj)]; simp [hj]
theorem splitN_any (s : ByteArray) (w : World) (m : Int) (hs : s.size < 4294967281) (hm : w.cell? ⟨1, 0, none⟩ = some (.int .i64 m)) :
  Calls Tryz.prog 167 #[.string s, .string ⟨#[32]⟩, .int .i64 4] w fun e w' => ∃ cap, e = .returned (.slice (some ⟨w.heap.size, 0, none⟩) (wordsS s).length cap) ∧
   (∀ j (hj : j < (wordsS s).length), w'.cell? ⟨w.heap.size, j, none⟩ = some (.string (wordsS s)[j])) ∧ Below w.heap.size w w' := by
 refine (Any.strings_SplitN { Tryz.laysM147 with } Tryz.laysM147.i9 s ⟨#[32]⟩ 4 m w hs hm (by decide) (by decide) (by decide)).mono ?_
 rintro e w' ⟨he, hw⟩
 refine ⟨_, he, fun j hj => ?_, by rw [hw]; exact (Below.refl _ _).alloc (Nat.le_refl _) _⟩
 rw [hw, new_cellF]
 exact cellsOf_at _ _ j hj

section
variable {Q : Exit → Act → World → Prop} {a : Act} {w : World} {o : Oper} {s : Spec}
theorem loc_index_s {x y : Operand} (ho : o.op = .indexAddr 71 x y) {ad : Addr} {n c k : Nat} (hx : a.eval x = .slice (some ad) n c) (hy : a.eval y = .int .i64 k) (hk : k < n) (hs : s.p (.pointer (some (ad.add k))) w) :
  o.wp Tryz.prog a w (fun a' w' => ∃ v, a' = a.put o.dst v ∧ Below w.heap.size w w' ∧ s.p v w') Q :=
 loc_run (v := .pointer (some (ad.add k))) (by
  have es : (sizeOf (Tryz.prog.elem 71)).run Tryz.prog w = .ok 1 w := by
   rw [show Tryz.prog.elem 71 = 9 by kernel_rfl]
   have h : (Tryz.prog.info? 9).map (·.size) = some 1 := by kernel_rfl
   cases hq : Tryz.prog.info? 9 with
   | none => rw [hq] at h; cases h
   | some i => rw [hq] at h; simp at h; simp [sizeOf, typeInfo, hq, h]
  have h := run_indexAt_slice (P := Tryz.prog) (w := w) 71 ad n c .i64 (k : Int) (by kernel_rfl)
  rw [if_pos ⟨by omega, by omega⟩, es] at h
  simp only [Result.andThen, Int.toNat_natCast, Nat.mul_one] at h
  unfold execOp
  simp only [ho, hx, hy, Sem.run_bind, h, Result.andThen_ok, Sem.run_pure]) (Below.refl _ _) hs
theorem loc_buildR {x y z : Operand} (ho : o.op = .build 29 #[(0, x), (1, y), (2, z)]) {m t : ByteArray} {n : Int} (hx : a.eval x = .string m) (hy : a.eval y = .string t) (hz : a.eval z = .int .i64 n)
  (hs : s.p (.agg #[.string m, .string t, .int .i64 n, .slice none 0 0, .bool false, .slice none 0 0]) w) :
  o.wp Tryz.prog a w (fun a' w' => ∃ v, a' = a.put o.dst v ∧ Below w.heap.size w w' ∧ s.p v w') Q := by
 refine loc_run (v := .agg #[.string m, .string t, .int .i64 n, .slice none 0 0, .bool false, .slice none 0 0]) ?_ (Below.refl _ _) hs
 have hb := run_build (P := Tryz.prog) w 29 #[(0, .string m), (1, .string t), (2, .int .i64 n)] #[.string m, .string t, .int .i64 n, .slice none 0 0, .bool false, .slice none 0 0] (by kernel_rfl)
 unfold execOp
 simp only [ho, List.map_toArray, List.map_cons, List.map_nil, hx, hy, hz, Sem.run_bind, hb, Result.andThen_ok, Sem.run_pure]
end

set_option maxRecDepth 100000 in
set_option maxHeartbeats 2000000 in
theorem projParseReq_any (s : ByteArray) (w : World) (mm : Int) (hs : s.size < 4294967281) (hm : w.cell? ⟨1, 0, none⟩ = some (.int .i64 mm)) :
  Calls Tryz.prog 170 #[.string s] w fun e w' => e = .returned (reqV (lineR (splitS 32 s))) ∧ Below w.heap.size w w' := by
 have HW := Box.mk (lineR_words s)
 have HB := Box.mk (below_oneF w (.cells #[.string ⟨#[]⟩, .string ⟨#[]⟩, .int .i64 0, .slice none 0 0, .bool false, .slice none 0 0] 29))
 have HR := Box.mk (show RVar (w.alloc (.cells #[.string ⟨#[]⟩, .string ⟨#[]⟩, .int .i64 0, .slice none 0 0, .bool false, .slice none 0 0] 29)) w.heap.size ⟨#[]⟩ ⟨#[]⟩ 0 from heap_alloc_new _ _)
 have HM := Box.mk (below_cell HB.out hm)
 have HSM := Box.mk (fun h => wordsS_small (s := s) h)
 clear hm
 go_enter Tryz.func170, Tryz.ntmps170
 go_wp2_with fail
 refine (splitN_any s _ mm hs HM.out).mono ?_
 rintro e w1 ⟨cap, rfl, hcell, hb1⟩
 have HB1 := Box.mk (below_trans HB.out hb1)
 have HR1 := Box.mk (HR.out.keep hb1)
 have HC := Box.mk hcell
 have hg1 : (w.alloc (.cells #[.string ⟨#[]⟩, .string ⟨#[]⟩, .int .i64 0, .slice none 0 0, .bool false, .slice none 0 0] 29)).heap.size = w.heap.size + 1 := World.size_alloc _ _
 rw [hg1] at HC ⊢
 clear hb1 hcell HM HB HR hg1
 generalize hws : wordsS s = ws at *
 clear hws
 by_cases h3 : ws.length = 3
 · obtain ⟨m, t, v, rfl⟩ := three h3
   have hc0 := HC.out 0 (by simp)
   have hc1 := HC.out 1 (by simp)
   have hc2 := HC.out 2 (by simp)
   simp only [List.getElem_cons_zero, List.getElem_cons_succ] at hc0 hc1 hc2
   have HZ := Box.mk (show m.size ≤ maxLen by have := HSM.out rfl m (by simp); unfold maxLen; omega)
   clear h3 HC HSM
   rw [show ([m, t, v] : List ByteArray).length = 3 from rfl]
   by_cases h1 : tokS m = true
   · have H1 := Box.mk h1
     clear h1
     by_cases h2 : targetS t = true
     · have H2 := Box.mk h2
       clear h2
       by_cases h4 : (verZ v).2 = 0
       · have HP := Box.mk (show lineR (splitS 32 s) = (some (m, t, (verZ v).1), 0) by rw [← HW.out]; exact lineR_ok H1.out H2.out h4)
         have H4 := Box.mk h4
         clear h4
         go_wp2_with fail
         refine (token_any m _ HZ.out).mono ?_
         rintro e w2 ⟨he, rfl⟩
         rw [H1.out] at he
         subst he
         go_wp2_with fail
         refine (projTarget_any t _).mono ?_
         rintro e w3 ⟨he, hb3⟩
         rw [H2.out] at he
         subst he
         have HB3 := Box.mk (below_trans HB1.out hb3)
         have HR3 := Box.mk (HR1.out.keep hb3)
         have hd0 := below_cell hb3 hc0
         have hd1 := below_cell hb3 hc1
         have hd2 := below_cell hb3 hc2
         clear hb3 hc0 hc1 hc2 HB1 HR1
         go_wp2_with fail
         refine (parseVersion_any v _).mono ?_
         rintro e w4 ⟨he, rfl⟩
         rw [H4.out] at he
         generalize hzz : (verZ v).1 = z at *
         clear hzz
         subst he
         go_wp2_with fail
         generalize hg : w.heap.size = g at *
         have HG := Box.mk hg
         clear hg
         rename_i K hK
         refine wp_region_store (S := [some (.val (.slice (some ⟨g + 1, 0, none⟩) 3 cap)), some (.val (.pointer (some ⟨g + 1, 0, none⟩))), some (.val (.string m)), some (.val (.slice (some ⟨g + 1, 0, none⟩) 3 cap)), some (.val (.pointer (some ⟨g + 1, 1, none⟩))), some (.val (.string t)), some (.val (.int .i64 z)),
          some (.val (.agg #[.string m, .string t, .int .i64 z, .slice none 0 0, .bool false, .slice none 0 0])), none, some (.val (.int .i64 0))]) 8 [9]
          (fun w' => Below g w w' ∧ RVar w' g m t z) (by kernel_rfl) (by kernel_rfl) (by kernel_rfl) (by kernel_rfl) rfl rfl rfl ?_ ?_ ?_ ?_
         · refine ⟨?_, ?_, ?_, ?_, ?_, ?_, ?_, ?_, ?_, trivial⟩ <;> intro a w5 hb hf hd
           · exact ⟨wanted_none rfl, loc_move rfl (hf.base 4 rfl)⟩
           · exact ⟨wanted_none rfl, loc_index_s (k := 0) rfl (hd 0 rfl) rfl (by decide) rfl⟩
           · exact ⟨wanted_none rfl, loc_cell rfl (hd 1 rfl) (below_cell hb hd0) (agg_string _) rfl⟩
           · exact ⟨wanted_none rfl, loc_move rfl (hf.base 4 rfl)⟩
           · exact ⟨wanted_none rfl, loc_index_s (k := 1) rfl (hd 3 rfl) rfl (by decide) rfl⟩
           · exact ⟨wanted_none rfl, loc_cell rfl (hd 4 rfl) (below_cell hb hd1) (agg_string _) rfl⟩
           · exact ⟨wanted_none rfl, loc_move rfl (hf.base 5 rfl)⟩
           · exact ⟨wanted_none rfl, loc_buildR rfl (hd 2 rfl) (hd 5 rfl) (hd 6 rfl) rfl⟩
           · exact ⟨wanted_none rfl, loc_assign rfl rfl⟩
         · exact ⟨fun a w5 hf hd => ⟨wanted_none rfl, late_assign rfl rfl⟩, trivial⟩
         · refine ⟨rfl, fun a w5 hb hf hd => ⟨wanted_none rfl, ?_⟩⟩
           refine wp_store_row 29 _ _ rfl g #[.string m, .string t, .int .i64 z, .slice none 0 0, .bool false, .slice none 0 0] (hf.base 2 rfl) (hd 7 rfl) 29 _ (HR3.out.keep hb) sizeR rfl (oneR _ _ _) ⟨rfl, ?_, ?_⟩
           · have h8 := HG.out
             exact below_setRow (HB3.out.trans (hb.mono (by have := HB3.out.size; omega))) (Nat.le_refl _) _
           · exact setRow_heap _ _ _ _ _ _ (HR3.out.keep hb)
         · intro a w5 hp hf hh
           refine hK a w5 ?_
           go_wp2_with fail
           refine bodyPost_ret (results_row_tmpF rfl _ w5 g _ _ _ _ (hf.base 2 rfl) hp.2 Tryz.underlying29 rfl sizeR) hf.defers ?_
           rw [show a.tmps.getD 3 undef = .int .i64 0 from hh 9 (by decide)]
           exact ⟨by rw [HP.out]; rfl, by rw [HG.out]; exact hp.1⟩
       · have HP := Box.mk (show lineR (splitS 32 s) = (none, (verZ v).2) by rw [← HW.out]; exact lineR_err H1.out H2.out h4)
         have hb4 : ((verZ v).2 != 0) = true := by rw [bne_iff_ne]; exact h4
         clear h4
         go_wp2_with fail
         refine (token_any m _ HZ.out).mono ?_
         rintro e w2 ⟨he, rfl⟩
         rw [H1.out] at he
         subst he
         go_wp2_with fail
         refine (projTarget_any t _).mono ?_
         rintro e w3 ⟨he, hb3⟩
         rw [H2.out] at he
         subst he
         have HB3 := Box.mk (below_trans HB1.out hb3)
         have HR3 := Box.mk (HR1.out.keep hb3)
         have hd2 := below_cell hb3 hc2
         clear hb3 hc0 hc1 hc2 HB1 HR1
         go_wp2_with fail
         refine (parseVersion_any v _).mono ?_
         rintro e w4 ⟨he, rfl⟩
         generalize (verZ v).1 = z at *
         generalize (verZ v).2 = er at *
         subst he
         go_wp2_with (refine wpList_store_row rfl 29 _ _ rfl w.heap.size #[.string ⟨#[]⟩, .string ⟨#[]⟩, .int .i64 0, .slice none 0 0, .bool false, .slice none 0 0] rfl rfl 29 _ HR3.out sizeR rfl (oneR _ _ _) ?_)
         (try simp only [Exit.inBlock, Exit.then])
         refine bodyPost_ret (results_row_tmpF rfl _ _ w.heap.size _ _ _ _ rfl (setRow_heap _ _ _ _ _ _ HR3.out) Tryz.underlying29 rfl sizeR) rfl ?_
         exact ⟨by rw [HP.out]; rfl, below_setRow HB3.out (Nat.le_refl _) _⟩
     · have H2 := Box.mk (show targetS t = false by simpa using h2)
       have HP := Box.mk (show lineR (splitS 32 s) = (none, 2) by rw [← HW.out]; exact lineR_bad (fun h => h2 h.2))
       clear h2
       go_wp2_with fail
       refine (token_any m _ HZ.out).mono ?_
       rintro e w2 ⟨he, rfl⟩
       rw [H1.out] at he
       subst he
       go_wp2_with fail
       refine (projTarget_any t _).mono ?_
       rintro e w3 ⟨he, hb3⟩
       rw [H2.out] at he
       subst he
       have HB3 := Box.mk (below_trans HB1.out hb3)
       have HR3 := Box.mk (HR1.out.keep hb3)
       clear hb3 hc0 hc1 hc2 HB1 HR1
       go_wp2_with (refine wpList_store_row rfl 29 _ _ rfl w.heap.size #[.string ⟨#[]⟩, .string ⟨#[]⟩, .int .i64 0, .slice none 0 0, .bool false, .slice none 0 0] rfl rfl 29 _ HR3.out sizeR rfl (oneR _ _ _) ?_)
       (try simp only [Exit.inBlock, Exit.then])
       refine bodyPost_ret (results_row_tmpF rfl _ _ w.heap.size _ _ _ _ rfl (setRow_heap _ _ _ _ _ _ HR3.out) Tryz.underlying29 rfl sizeR) rfl ?_
       exact ⟨by rw [HP.out]; rfl, below_setRow HB3.out (Nat.le_refl _) _⟩
   · have H1 := Box.mk (show tokS m = false by simpa using h1)
     have HP := Box.mk (show lineR (splitS 32 s) = (none, 2) by rw [← HW.out]; exact lineR_bad (fun h => h1 h.1))
     clear h1
     go_wp2_with fail
     refine (token_any m _ HZ.out).mono ?_
     rintro e w2 ⟨he, rfl⟩
     rw [H1.out] at he
     subst he
     go_wp2_with (refine wpList_store_row rfl 29 _ _ rfl w.heap.size #[.string ⟨#[]⟩, .string ⟨#[]⟩, .int .i64 0, .slice none 0 0, .bool false, .slice none 0 0] rfl rfl 29 _ HR1.out sizeR rfl (oneR _ _ _) ?_)
     (try simp only [Exit.inBlock, Exit.then])
     refine bodyPost_ret (results_row_tmpF rfl _ _ w.heap.size _ _ _ _ rfl (setRow_heap _ _ _ _ _ _ HR1.out) Tryz.underlying29 rfl sizeR) rfl ?_
     exact ⟨by rw [HP.out]; rfl, below_setRow HB1.out (Nat.le_refl _) _⟩
 · have HP := Box.mk (show lineR (splitS 32 s) = (none, 2) by rw [← HW.out]; exact lineR_no h3)
   have hb3 : (((ws.length : Nat) : Int) != 3) = true := by rw [bne_iff_ne]; omega
   clear h3 HC HSM
   go_wp2_with (refine wpList_store_row rfl 29 _ _ rfl w.heap.size #[.string ⟨#[]⟩, .string ⟨#[]⟩, .int .i64 0, .slice none 0 0, .bool false, .slice none 0 0] rfl rfl 29 _ HR1.out sizeR rfl (oneR _ _ _) ?_)
   (try simp only [Exit.inBlock, Exit.then])
   refine bodyPost_ret (results_row_tmpF rfl _ _ w.heap.size _ _ _ _ rfl (setRow_heap _ _ _ _ _ _ HR1.out) Tryz.underlying29 rfl sizeR) rfl ?_
   exact ⟨by rw [HP.out]; rfl, below_setRow HB1.out (Nat.le_refl _) _⟩
end Go.Proofs.YteoadfckcilalaaGreatDoor
namespace Go.Proofs.YteoadfckcilalaaGreatDoor
open Go.RowKit

theorem verZ_min {v : ByteArray} (h : 0 ≤ minorZ v) : verZ v = (minorZ v, 0) := by
 unfold minorZ at *
 unfold verZ
 by_cases h0 : v = v10
 · rw [if_pos h0, if_pos h0]
 · rw [if_neg h0] at h ⊢
   rw [if_neg h0]
   by_cases h1 : v = v11
   · rw [if_pos h1, if_pos h1]
   · rw [if_neg h1] at h; omega
theorem verZ_yes {v : ByteArray} (h : minorZ v < 0) (hv : verB v = true) : verZ v = (0, 6) := by
 unfold minorZ at h
 unfold verZ
 by_cases h0 : v = v10
 · rw [if_pos h0] at h; omega
 · rw [if_neg h0] at h ⊢
   by_cases h1 : v = v11
   · rw [if_pos h1] at h; omega
   · rw [if_neg h1, if_pos hv]
theorem verZ_no {v : ByteArray} (h : minorZ v < 0) (hv : verB v = false) : verZ v = (0, 2) := by
 unfold minorZ at h
 unfold verZ
 by_cases h0 : v = v10
 · rw [if_pos h0] at h; omega
 · rw [if_neg h0] at h ⊢
   by_cases h1 : v = v11
   · rw [if_pos h1] at h; omega
   · rw [if_neg h1, if_neg (by rw [hv]; decide)]
end Go.Proofs.YteoadfckcilalaaGreatDoor
namespace Go.Proofs.YteoadfckcilalaaGreatDoor
open Go.RowKit

theorem parse599 (s : ByteArray) : (parseS 10 599 s).2 = 0 ∧ (parseS 10 599 s).1 ≤ 599 ∨ ¬ (parseS 10 599 s).2 = 0 ∧ (parseS 10 599 s).1 = 0 := by
 unfold parseS
 split
 · rename_i h
   have hne : s.data.toList ≠ [] := by
    intro e
    unfold numS at h
    rw [e] at h; simp at h
   rw [pgo_eq 10 599 (by decide) _ 0 (by decide) (.inr hne)]
   split
   · exact .inl ⟨rfl, by assumption⟩
   · exact .inr ⟨by decide, rfl⟩
 · exact .inr ⟨by decide, rfl⟩
theorem stat_parse (s : ByteArray) : statB (parseS 10 599 s).1 = true ↔ (parseS 10 599 s).2 = 0 ∧ 100 ≤ (parseS 10 599 s).1 := by
 unfold statB
 simp only [Bool.and_eq_true, decide_eq_true_eq]
 rcases parse599 s with ⟨h1, h2⟩ | ⟨h1, h2⟩
 · exact ⟨fun h => ⟨h1, h.1⟩, fun h => ⟨h.2, h2⟩⟩
 · rw [h2]; exact ⟨fun h => absurd h.1 (by decide), fun h => absurd h.2 (by decide)⟩
theorem parse_blank {s : ByteArray} {k : Nat} (h : s.data.toList[k]? = some 32) : ¬ (parseS 10 599 s).2 = 0 := by
 unfold parseS
 rw [if_neg]
 · decide
 · intro h2
   unfold numS at h2
   rw [Bool.and_eq_true] at h2
   have := List.all_eq_true.1 h2.1 32 (List.mem_of_getElem? h)
   revert this; decide
theorem verZ_iff (v : ByteArray) : (verZ v).2 = 0 ↔ 0 ≤ minorZ v := by
 by_cases h : 0 ≤ minorZ v
 · exact ⟨fun _ => h, fun _ => by rw [verZ_min h]⟩
 · refine ⟨fun h2 => ?_, fun h2 => absurd h2 h⟩
   have hlt : minorZ v < 0 := by omega
   cases hv : verB v with
   | true => rw [verZ_yes hlt hv] at h2; exact absurd h2 (by decide)
   | false => rw [verZ_no hlt hv] at h2; exact absurd h2 (by decide)
theorem minorZ_is {v : ByteArray} (h : 0 ≤ minorZ v) : v = v10 ∨ v = v11 := by
 unfold minorZ at h
 by_cases h0 : v = v10
 · exact .inl h0
 · rw [if_neg h0] at h
   by_cases h1 : v = v11
   · exact .inr h1
   · rw [if_neg h1] at h; omega
theorem minorZ_size {v : ByteArray} (h : 0 ≤ minorZ v) : v.size = 8 := by
 rcases minorZ_is h with rfl | rfl <;> rfl
theorem minorZ_blank {v : ByteArray} (h : 0 ≤ minorZ v) (k : Nat) : v.data.toList[k]? ≠ some 32 := by
 have h10 : ∀ k : Nat, v10.data.toList[k]? ≠ some 32 := fun k e => by
  have := List.mem_of_getElem? e
  revert this; decide
 have h11 : ∀ k : Nat, v11.data.toList[k]? ≠ some 32 := fun k e => by
  have := List.mem_of_getElem? e
  revert this; decide
 rcases minorZ_is h with rfl | rfl
 · exact h10 k
 · exact h11 k

def parseA2 (s : ByteArray) : Option (Int × ByteArray × Int) :=
 if (verZ (cutS 32 s).1).2 = 0 ∧ statB (codeZ (cutS 32 (cutS 32 s).2).1) = true ∧ visS (cutS 32 (cutS 32 s).2).2 = true then
  some (codeZ (cutS 32 (cutS 32 s).2).1, (cutS 32 (cutS 32 s).2).2, (verZ (cutS 32 s).1).1) else none
theorem stat0 : statB 0 = false := rfl
theorem code_no {s : ByteArray} (h : ¬ s.size = 3) : codeZ s = 0 := by unfold codeZ; rw [if_neg h]
theorem parseA2_code {s : ByteArray} (h : ¬ (cutS 32 (cutS 32 s).2).1.size = 3) : parseA2 s = none := by
 unfold parseA2
 rw [if_neg (fun h2 => by have := h2.2.1; rw [code_no h, stat0] at this; cases this)]
theorem parseA2_ver {s : ByteArray} (h : ¬ 0 ≤ minorZ (cutS 32 s).1) : parseA2 s = none := by
 unfold parseA2
 rw [if_neg (fun h2 => h ((verZ_iff _).1 h2.1))]
theorem extract_at (s : ByteArray) (a b k : Nat) (h : k < b - a) : (s.extract a b).data.toList[k]? = s.data.toList[a + k]? := by
 rw [Lib.extract_data, List.getElem?_take_of_lt h, List.getElem?_drop]
theorem both_same {s : ByteArray} {d r : ByteArray} (h1 : (cutS 32 s).1 = s.extract 0 8) (h2 : (cutS 32 (cutS 32 s).2).1 = d) (h3 : (cutS 32 (cutS 32 s).2).2 = r) (hd : d = s.extract 9 12) (hz : d.size = 3) (hr : r = reasonS s)
  (g1 : 12 ≤ s.size) (g2 : s.data.toList[8]? = some 32) (g3 : 12 < s.size → s.data.toList[12]? = some 32) : parseA2 s = parseA s := by
 unfold parseA2 parseA
 rw [h1, h2, h3, hr]
 have hc : codeZ d = (parseS 10 599 (s.extract 9 12)).1 := by unfold codeZ; rw [if_pos hz, hd]
 rw [hc]
 by_cases c : 0 ≤ minorZ (s.extract 0 8)
 · have e1 : verZ (s.extract 0 8) = (minorZ (s.extract 0 8), 0) := verZ_min c
   rw [e1]
   by_cases c2 : statB (parseS 10 599 (s.extract 9 12)).1 = true
   · obtain ⟨c3, c4⟩ := (stat_parse _).1 c2
     by_cases c5 : visS (reasonS s) = true
     · rw [if_pos ⟨rfl, c2, c5⟩, if_pos ⟨g1, c, g2, g3, c3, c4, c5⟩]
     · rw [if_neg (fun h => c5 h.2.2), if_neg (fun h => c5 h.2.2.2.2.2.2)]
   · rw [if_neg (fun h => c2 h.2.1), if_neg (fun h => c2 ((stat_parse _).2 ⟨h.2.2.2.2.1, h.2.2.2.2.2.1⟩))]
 · rw [if_neg (fun h => c ((verZ_iff _).1 h.1)), if_neg (fun h => c h.2.1)]
theorem parseA_no {s : ByteArray} (h : 12 ≤ s.size → 0 ≤ minorZ (s.extract 0 8) → s.data.toList[8]? = some 32 → (12 < s.size → s.data.toList[12]? = some 32) → (parseS 10 599 (s.extract 9 12)).2 = 0 → False) : parseA s = none := by
 unfold parseA
 rw [if_neg (fun h2 => h h2.1 h2.2.1 h2.2.2.1 h2.2.2.2.1 h2.2.2.2.2.1)]
theorem sub_a (s : ByteArray) (h : 12 < s.size) : (s.extract 9 s.size).extract 0 3 = s.extract 9 12 := by
 apply ba_ext
 rw [Lib.extract_data, Lib.extract_data, Lib.extract_data, List.drop_zero, List.take_take, show min (3 - 0) (s.size - 9) = 12 - 9 by omega]
theorem sub_b (s : ByteArray) (h : 12 < s.size) : (s.extract 9 s.size).extract (3 + 1) (s.extract 9 s.size).size = s.extract 13 s.size := by
 have hz : (s.extract 9 s.size).size = s.size - 9 := by rw [ByteArray.size_extract]; omega
 rw [hz]
 apply ba_ext
 rw [Lib.extract_data, Lib.extract_data, Lib.extract_data, List.drop_take, List.drop_drop, List.take_take, show min (s.size - 9 - (3 + 1)) (s.size - 9 - (3 + 1)) = s.size - 13 by omega]
set_option maxHeartbeats 1000000 in
theorem parseA2_eq (s : ByteArray) : parseA2 s = parseA s := by
 rcases idxI_cases 32 s with h | ⟨k, h, hk⟩
 · have hn := Lib.indexByte_none h
   rw [parseA2_code (by rw [cutS_no h]; show ¬ (cutS 32 ⟨#[]⟩).1.size = 3; decide), parseA_no (fun _ _ h2 => absurd h2 (hn 8))]
 · have hs := Lib.indexByte_some h
   by_cases h8 : k = 8
   · subst h8
     have h1 : (cutS 32 s).1 = s.extract 0 8 := by rw [cutS_at h]
     have h2 : (cutS 32 s).2 = s.extract 9 s.size := by rw [cutS_at h]
     have hz : (s.extract 9 s.size).size = s.size - 9 := by rw [ByteArray.size_extract]; omega
     rcases idxI_cases 32 (s.extract 9 s.size) with ht | ⟨j, ht, hj⟩
     · have hn := Lib.indexByte_none ht
       by_cases hz3 : (s.extract 9 s.size).size = 3
       · have h12 : s.size = 12 := by omega
         refine both_same h1 (by rw [h2, cutS_no ht]) (by rw [h2, cutS_no ht]) ?_ hz3 ?_ (by omega) hs.1 (fun h3 => by omega)
         · rw [h12]
         · unfold reasonS; rw [if_neg (by omega)]
       · rw [parseA2_code (by rw [h2, cutS_no ht]; exact hz3)]
         refine (parseA_no fun h3 h4 h5 h6 h7 => ?_).symm
         have h12 : 12 < s.size := by omega
         refine hn 3 ?_
         rw [extract_at _ _ _ _ (by omega)]; exact h6 h12
     · have hjs := Lib.indexByte_some ht
       have hq1 : (cutS 32 (cutS 32 s).2).1 = (s.extract 9 s.size).extract 0 j := by rw [h2, cutS_at ht]
       have hq2 : (cutS 32 (cutS 32 s).2).2 = (s.extract 9 s.size).extract (j + 1) (s.extract 9 s.size).size := by rw [h2, cutS_at ht]
       have hjz : ((s.extract 9 s.size).extract 0 j).size = j := by rw [ByteArray.size_extract]; omega
       by_cases hj3 : j = 3
       · subst hj3
         have h13 : 12 < s.size := by omega
         refine both_same h1 hq1 hq2 ?_ hjz ?_ (by omega) hs.1 (fun _ => ?_)
         · exact sub_a s h13
         · unfold reasonS
           rw [if_pos h13]
           exact sub_b s h13
         · have := hjs.1
           rw [extract_at _ _ _ _ (by omega)] at this; exact this
       · rw [parseA2_code (by rw [hq1, hjz]; exact hj3)]
         refine (parseA_no fun h3 h4 h5 h6 h7 => ?_).symm
         rcases Nat.lt_or_ge j 3 with hlt | hge
         · refine parse_blank (k := j) ?_ h7
           have := hjs.1
           rw [extract_at _ _ _ _ (by omega)] at this ⊢; exact this
         · have h12 : 12 < s.size := by omega
           refine hjs.2 3 (by omega) ?_
           rw [extract_at _ _ _ _ (by omega)]; exact h6 h12
   · have h1 : (cutS 32 s).1 = s.extract 0 k := by rw [cutS_at h]
     rw [parseA2_ver (by rw [h1]; intro h2; have := minorZ_size h2; rw [ByteArray.size_extract] at this; omega)]
     refine (parseA_no fun h3 h4 h5 h6 h7 => ?_).symm
     rcases Nat.lt_or_ge k 8 with hlt | hge
     · refine minorZ_blank h4 k ?_
       rw [extract_at _ _ _ _ (by omega), Nat.zero_add]; exact hs.1
     · exact hs.2 8 (by omega) h5

set_option maxRecDepth 100000 in
set_option maxHeartbeats 2000000 in
theorem projParseRep_any (s : ByteArray) (w : World) (hs : s.size ≤ maxLen) :
  Calls Tryz.prog 176 #[.string s] w fun e w' => e = .returned (replyV (parseA s)) ∧ Below w.heap.size w w' := by
 rw [← parseA2_eq]
 have HB := Box.mk (below_oneF w (.cells #[.int .i64 0, .string ⟨#[]⟩, .int .i64 0, .slice none 0 0, .slice none 0 0] 31))
 have HR := Box.mk (show AVar (w.alloc (.cells #[.int .i64 0, .string ⟨#[]⟩, .int .i64 0, .slice none 0 0, .slice none 0 0] 31)) w.heap.size 0 ⟨#[]⟩ 0 from heap_alloc_new _ _)
 have HZ2 := Box.mk (cutS_size2 32 s)
 have HZ3 := Box.mk (cutS_size1 32 (cutS 32 s).2)
 have HP0 := Box.mk (show parseA2 s = if (verZ (cutS 32 s).1).2 = 0 ∧ statB (codeZ (cutS 32 (cutS 32 s).2).1) = true ∧ visS (cutS 32 (cutS 32 s).2).2 = true then
  some (codeZ (cutS 32 (cutS 32 s).2).1, (cutS 32 (cutS 32 s).2).2, (verZ (cutS 32 s).1).1) else none from rfl)
 have H0 := Box.mk hs
 clear hs
 go_enter Tryz.func176, Tryz.ntmps176
 go_wp2_with fail
 refine (cutC_any 32 s _ H0.out).mono ?_
 rintro e w1 ⟨b1, rfl, hb1⟩
 have HB1 := Box.mk (below_trans HB.out hb1)
 have HR1 := Box.mk (HR.out.keep hb1)
 clear hb1 HB HR
 generalize (cutS 32 s).1 = v at *
 generalize (cutS 32 s).2 = t at *
 go_wp2_with fail
 refine (cutC_any 32 t _ (Nat.le_trans HZ2.out H0.out)).mono ?_
 rintro e w2 ⟨b2, rfl, hb2⟩
 have HB2 := Box.mk (below_trans HB1.out hb2)
 have HR2 := Box.mk (HR1.out.keep hb2)
 clear hb2 HB1 HR1
 generalize (cutS 32 t).1 = d at *
 generalize (cutS 32 t).2 = r at *
 go_wp2_with fail
 refine (parseVersion_any v _).mono ?_
 rintro e w3 ⟨rfl, rfl⟩
 generalize verZ v = q at *
 obtain ⟨q1, q2⟩ := q
 go_wp2_with fail
 refine (parseCode_any d _ (Nat.le_trans HZ3.out (Nat.le_trans HZ2.out H0.out))).mono ?_
 rintro e w3 ⟨rfl, rfl⟩
 generalize codeZ d = c at *
 by_cases c0 : q2 = 0
 · by_cases c1 : statB c = true
   · by_cases c2 : visS r = true
     · have HP := Box.mk (show parseA2 s = some (c, r, q1) by rw [HP0.out, if_pos ⟨c0, c1, c2⟩])
       subst c0
       have C1 := Box.mk c1
       have C2 := Box.mk c2
       clear c1 c2 HP0
       go_wp2_with fail
       refine (isStatus_any c _).mono ?_
       rintro e w4 ⟨he, rfl⟩
       rw [C1.out] at he
       subst he
       go_wp2_with fail
       refine (isReason_any r _).mono ?_
       rintro e w4 ⟨he, hb4⟩
       rw [C2.out] at he
       subst he
       have HB4 := Box.mk (below_trans HB2.out hb4)
       have HR4 := Box.mk (HR2.out.keep hb4)
       clear hb4 HB2 HR2
       go_wp2_with (refine wpList_store_row rfl 31 _ _ rfl w.heap.size #[.int .i64 c, .string r, .int .i64 q1, .slice none 0 0, .slice none 0 0] rfl rfl 31 _ HR4.out sizeA rfl (oneA _ _ _) ?_)
       (try simp only [Exit.inBlock, Exit.then])
       refine bodyPost_ret (results_row_tmpF rfl _ _ w.heap.size _ _ _ _ rfl (setRow_heap _ _ _ _ _ _ HR4.out) Tryz.underlying31 rfl sizeA) rfl ?_
       exact ⟨by rw [HP.out]; rfl, below_setRow HB4.out (Nat.le_refl _) _⟩
     · have HP := Box.mk (show parseA2 s = none by rw [HP0.out, if_neg (fun h => c2 h.2.2)])
       subst c0
       have C1 := Box.mk c1
       have C2 := Box.mk (show visS r = false by simpa using c2)
       clear c1 c2 HP0
       go_wp2_with fail
       refine (isStatus_any c _).mono ?_
       rintro e w4 ⟨he, rfl⟩
       rw [C1.out] at he
       subst he
       go_wp2_with fail
       refine (isReason_any r _).mono ?_
       rintro e w4 ⟨he, hb4⟩
       rw [C2.out] at he
       subst he
       have HB4 := Box.mk (below_trans HB2.out hb4)
       have HR4 := Box.mk (HR2.out.keep hb4)
       clear hb4 HB2 HR2
       go_wp2_with (refine wpList_store_row rfl 31 _ _ rfl w.heap.size #[.int .i64 0, .string ⟨#[]⟩, .int .i64 0, .slice none 0 0, .slice none 0 0] rfl rfl 31 _ HR4.out sizeA rfl (oneA _ _ _) ?_)
       (try simp only [Exit.inBlock, Exit.then])
       refine bodyPost_ret (results_row_tmpF rfl _ _ w.heap.size _ _ _ _ rfl (setRow_heap _ _ _ _ _ _ HR4.out) Tryz.underlying31 rfl sizeA) rfl ?_
       exact ⟨by rw [HP.out]; rfl, below_setRow HB4.out (Nat.le_refl _) _⟩
   · have HP := Box.mk (show parseA2 s = none by rw [HP0.out, if_neg (fun h => c1 h.2.1)])
     subst c0
     have C1 := Box.mk (show statB c = false by simpa using c1)
     clear c1 HP0
     go_wp2_with fail
     refine (isStatus_any c _).mono ?_
     rintro e w4 ⟨he, rfl⟩
     rw [C1.out] at he
     subst he
     go_wp2_with (refine wpList_store_row rfl 31 _ _ rfl w.heap.size #[.int .i64 0, .string ⟨#[]⟩, .int .i64 0, .slice none 0 0, .slice none 0 0] rfl rfl 31 _ HR2.out sizeA rfl (oneA _ _ _) ?_)
     (try simp only [Exit.inBlock, Exit.then])
     refine bodyPost_ret (results_row_tmpF rfl _ _ w.heap.size _ _ _ _ rfl (setRow_heap _ _ _ _ _ _ HR2.out) Tryz.underlying31 rfl sizeA) rfl ?_
     exact ⟨by rw [HP.out]; rfl, below_setRow HB2.out (Nat.le_refl _) _⟩
 · have HP := Box.mk (show parseA2 s = none by rw [HP0.out, if_neg (fun h => c0 h.1)])
   have e0 : (q2 != 0) = true := by rw [bne_iff_ne]; exact c0
   clear c0 HP0
   go_wp2_with (refine wpList_store_row rfl 31 _ _ rfl w.heap.size #[.int .i64 0, .string ⟨#[]⟩, .int .i64 0, .slice none 0 0, .slice none 0 0] rfl rfl 31 _ HR2.out sizeA rfl (oneA _ _ _) ?_)
   (try simp only [Exit.inBlock, Exit.then])
   refine bodyPost_ret (results_row_tmpF rfl _ _ w.heap.size _ _ _ _ rfl (setRow_heap _ _ _ _ _ _ HR2.out) Tryz.underlying31 rfl sizeA) rfl ?_
   exact ⟨by rw [HP.out]; rfl, below_setRow HB2.out (Nat.le_refl _) _⟩
end Go.Proofs.YteoadfckcilalaaGreatDoor
namespace Go.Proofs.YteoadfckcilalaaGreatDoor
open Go.RowKit

theorem strsIn_twoF (w : World) (n m : ByteArray) (t : TypeId) : StrsIn (w.alloc (.cells #[.string n, .string m] t)) (some ⟨w.heap.size, 0, none⟩) [n, m] := fun j hj => by
 have hj' : j < 2 := by simpa using hj
 match j, hj' with
 | 0, _ => exact ⟨_, rfl, by rw [Addr.add_lit, new_cellF]; rfl⟩
 | 1, _ => exact ⟨_, rfl, by rw [Addr.add_lit, new_cellF]; rfl⟩
theorem same_true (x : List Fld) (a b : Option Addr) (ca cb : Nat) (w : World) (hx : FldsIn w a x) (hy : FldsIn w b x) (h : x.length ≤ 2000000) :
  Calls Tryz.prog 42 #[.slice a x.length ca, .slice b x.length cb] w fun e w' => e = .returned (.bool true) ∧ Below w.heap.size w w' := by
 refine (sameFields_any x x a b ca cb w hx hy h h).mono ?_
 rintro e w' ⟨rfl, hb⟩
 exact ⟨by rw [sameF_self], hb⟩

end Go.Proofs.YteoadfckcilalaaGreatDoor
namespace Go.Proofs.YteoadfckcilalaaGreatDoor
open Go.RowKit

theorem cellTwo0 (w : World) (cs ds : Array Value) (t s : TypeId) (j : Nat) : ((w.alloc (.cells cs t (0, 0))).alloc (.cells ds s (0, 0))).cell? ⟨w.heap.size, j, none⟩ = cs[j]? := by
 have h1 : (w.alloc (.cells cs t (0, 0))).heap[w.heap.size]? = some (.cells cs t (0, 0)) := heap_alloc_new _ _
 have h2 := (below_oneF (w.alloc (.cells cs t (0, 0))) (.cells ds s (0, 0))).block w.heap.size (by rw [World.size_alloc]; omega)
 exact cell_of_row _ _ _ _ _ _ (h2.trans h1)

set_option maxRecDepth 100000 in
set_option maxHeartbeats 2000000 in
theorem sameRep_any (st z : Int) (r : ByteArray) (x : List Fld) (l : List UInt8) (a b p q : Option Addr) (ca cb cp cq : Nat) (w : World) (h1 : FldsIn w a x) (h2 : FldsIn w b x) (h3 : IsBytes w p l cp) (h4 : IsBytes w q l cq) (hx : x.length ≤ 2000000) :
  Calls Tryz.prog 20 #[.agg #[.int .i64 st, .string r, .int .i64 z, .slice a x.length ca, .slice p l.length cp], .agg #[.int .i64 st, .string r, .int .i64 z, .slice b x.length cb, .slice q l.length cq]] w fun e w' => e = .returned (.bool true) ∧ Below w.heap.size w w' := by
 have HBW := Box.mk (below_twoF (below_oneF w (.cells #[.int .i64 st, .string r, .int .i64 z, .slice a x.length ca, .slice p l.length cp] 31)) (.cells #[.int .i64 st, .string r, .int .i64 z, .slice b x.length cb, .slice q l.length cq] 31))
 have hd4 := cellTwo0 w #[.int .i64 st, .string r, .int .i64 z, .slice a x.length ca, .slice p l.length cp] #[.int .i64 st, .string r, .int .i64 z, .slice b x.length cb, .slice q l.length cq] 31 31 4
 have he4 := new_cellF2 w (.cells #[.int .i64 st, .string r, .int .i64 z, .slice a x.length ca, .slice p l.length cp] 31) #[.int .i64 st, .string r, .int .i64 z, .slice b x.length cb, .slice q l.length cq] 31 4
 have HC := Box.mk (And.intro hd4 he4)
 have H := Box.mk (And.intro (h1.keep HBW.out) (And.intro (h2.keep HBW.out) (And.intro (h3.keep HBW.out) (h4.keep HBW.out))))
 clear h1 h2 h3 h4 hd4 he4
 go_enter Tryz.func20, Tryz.ntmps20
 go_wp2_with fail
 refine (same_true x a b ca cb _ H.out.1 H.out.2.1 hx).mono ?_
 rintro e w1 ⟨rfl, hb1⟩
 have hc4 := below_cell hb1 (show _ = some (Value.slice p l.length cp) from HC.out.1)
 have he4 := below_cell hb1 (show _ = some (Value.slice q l.length cq) from HC.out.2)
 have hcv1 := conv_bytes (H.out.2.2.1.keep hb1)
 have hcv2 := conv_bytes (H.out.2.2.2.keep hb1)
 have HB := Box.mk (below_trans HBW.out hb1)
 clear hb1 H HC HBW
 generalize (⟨l.toArray⟩ : ByteArray) = bs at *
 have hself : (bs.toList == bs.toList) = true := by simp
 go_wp2_with fail
 go_ret
 exact ⟨rfl, HB.out⟩

set_option maxRecDepth 100000 in
set_option maxHeartbeats 2000000 in
theorem sameReq_any (m t : ByteArray) (z : Int) (fr : Bool) (x : List Fld) (l : List UInt8) (a b p q : Option Addr) (ca cb cp cq : Nat) (w : World) (h1 : FldsIn w a x) (h2 : FldsIn w b x) (h3 : IsBytes w p l cp) (h4 : IsBytes w q l cq) (hx : x.length ≤ 2000000) :
  Calls Tryz.prog 19 #[.agg #[.string m, .string t, .int .i64 z, .slice a x.length ca, .bool fr, .slice p l.length cp], .agg #[.string m, .string t, .int .i64 z, .slice b x.length cb, .bool fr, .slice q l.length cq]] w fun e w' => e = .returned (.bool true) ∧ Below w.heap.size w w' := by
 have HBW := Box.mk (below_twoF (below_oneF w (.cells #[.string m, .string t, .int .i64 z, .slice a x.length ca, .bool fr, .slice p l.length cp] 29)) (.cells #[.string m, .string t, .int .i64 z, .slice b x.length cb, .bool fr, .slice q l.length cq] 29))
 have hd5 := cellTwo0 w #[.string m, .string t, .int .i64 z, .slice a x.length ca, .bool fr, .slice p l.length cp] #[.string m, .string t, .int .i64 z, .slice b x.length cb, .bool fr, .slice q l.length cq] 29 29 5
 have he5 := new_cellF2 w (.cells #[.string m, .string t, .int .i64 z, .slice a x.length ca, .bool fr, .slice p l.length cp] 29) #[.string m, .string t, .int .i64 z, .slice b x.length cb, .bool fr, .slice q l.length cq] 29 5
 have HC := Box.mk (And.intro hd5 he5)
 have H := Box.mk (And.intro (h1.keep HBW.out) (And.intro (h2.keep HBW.out) (And.intro (h3.keep HBW.out) (h4.keep HBW.out))))
 clear h1 h2 h3 h4 hd5 he5
 have hfr : (fr == fr) = true := by simp
 go_enter Tryz.func19, Tryz.ntmps19
 go_wp2_with fail
 refine (same_true x a b ca cb _ H.out.1 H.out.2.1 hx).mono ?_
 rintro e w1 ⟨rfl, hb1⟩
 have hc5 := below_cell hb1 (show _ = some (Value.slice p l.length cp) from HC.out.1)
 have he5 := below_cell hb1 (show _ = some (Value.slice q l.length cq) from HC.out.2)
 have hcv1 := conv_bytes (H.out.2.2.1.keep hb1)
 have hcv2 := conv_bytes (H.out.2.2.2.keep hb1)
 have HB := Box.mk (below_trans HBW.out hb1)
 clear hb1 H HC HBW
 generalize (⟨l.toArray⟩ : ByteArray) = bs at *
 have hself : (bs.toList == bs.toList) = true := by simp
 go_wp2_with fail
 go_ret
 exact ⟨rfl, HB.out⟩

theorem versionS_dec {z : Int} (h0 : 0 ≤ z) (h1 : z ≤ 1) : ⟨#[32]⟩ ++ versionS z = http1 ++ fmtS 10 z ∧ versionS z = http0 ++ fmtS 10 z := by
 have : z = 0 ∨ z = 1 := by omega
 rcases this with rfl | rfl
 · decide +kernel
 · decide +kernel
end Go.Proofs.YteoadfckcilalaaGreatDoor
namespace Go.Proofs.YteoadfckcilalaaGreatDoor
open Go.RowKit

def crlf2 : List UInt8 := [13, 10, 13, 10]
def endGo : Nat → List UInt8 → Int
 | _, [] => -1
 | i, x :: r => if (x :: r).take 4 = crlf2 then ((i + 4 : Nat) : Int) else endGo (i + 1) r
def endZ (l : List UInt8) : Int := endGo 0 l
theorem endGo_range : ∀ (l : List UInt8) (i : Nat), endGo i l = -1 ∨ ∃ k : Nat, endGo i l = k ∧ i + 4 ≤ k ∧ k ≤ i + l.length
 | [], _ => .inl rfl
 | x :: r, i => by
  unfold endGo
  by_cases h : (x :: r).take 4 = crlf2
  · rw [if_pos h]
    have h2 := congrArg List.length h
    rw [List.length_take] at h2
    simp only [crlf2, List.length_cons, List.length_nil] at h2
    exact .inr ⟨i + 4, rfl, Nat.le_refl _, by rw [List.length_cons]; omega⟩
  · rw [if_neg h]
    rcases endGo_range r (i + 1) with h | ⟨k, h1, h2, h3⟩
    · exact .inl h
    · exact .inr ⟨k, h1, by omega, by rw [List.length_cons]; omega⟩
def endS (b : List UInt8) (most : Int) : Int × Int :=
 if 0 ≤ endZ b ∧ endZ b ≤ most then (endZ b, 0) else if most ≤ b.length then (0, 3) else (0, 4)
def linesGo : List UInt8 → List UInt8 → Option (List ByteArray)
 | _, [] => some []
 | cur, x :: r =>
  if (x = 13 ∧ ¬ r.head? = some 10) ∨ (x = 10 ∧ ¬ cur.getLast? = some 13) then none
  else if x = 10 then (linesGo [] r).map (⟨cur.dropLast.toArray⟩ :: ·) else linesGo (cur ++ [x]) r
def linesS (b : List UInt8) : Option (List ByteArray) := if endZ b = b.length ∧ 4 ≤ b.length then (linesGo [] b).map List.dropLast else none
def fieldsGo : List ByteArray → Option (List Fld)
 | [] => some []
 | s :: r => match parseF s with
  | some f => (fieldsGo r).map (f :: ·)
  | none => none
def fieldsS (l : List ByteArray) : Int × List Fld := if 64 < l.length then (3, []) else match fieldsGo l with | some x => (0, x) | none => (2, [])
theorem fieldsGo_snoc : ∀ (l : List ByteArray) (s : ByteArray) (x : List Fld), fieldsGo l = some x → fieldsGo (l ++ [s]) = (parseF s).map fun f => x ++ [f]
 | [], s, x, h => by
  cases h
  show (match parseF s with | some f => (fieldsGo []).map (f :: ·) | none => none) = _
  cases parseF s <;> rfl
 | t :: l, s, x, h => by
  rw [List.cons_append]
  unfold fieldsGo at h ⊢
  cases ht : parseF t with
  | none => rw [ht] at h; cases h
  | some f =>
   rw [ht] at h
   simp only at h ⊢
   cases hx : fieldsGo l with
   | none => rw [hx] at h; cases h
   | some y =>
    rw [hx] at h
    simp only [Option.map_some, Option.some.injEq] at h
    subst h
    rw [fieldsGo_snoc l s y hx]
    cases parseF s <;> rfl
theorem fieldsGo_none : ∀ (l r : List ByteArray), fieldsGo l = none → fieldsGo (l ++ r) = none
 | [], _, h => by cases h
 | t :: l, r, h => by
  rw [List.cons_append]
  unfold fieldsGo at h ⊢
  cases ht : parseF t with
  | none => rfl
  | some f =>
   rw [ht] at h
   simp only at h ⊢
   cases hx : fieldsGo l with
   | none => rw [fieldsGo_none l r hx]; rfl
   | some y => rw [hx] at h; cases h
end Go.Proofs.YteoadfckcilalaaGreatDoor
namespace Go.Proofs.YteoadfckcilalaaGreatDoor
open Go.RowKit

theorem isBytes_cap {w : World} {a : Option Addr} {l : List UInt8} {c : Nat} (h : IsBytes w a l c) : l.length ≤ c := by
 rcases h with ⟨_, e, e2⟩ | ⟨_, _, h1, _, _⟩
 · subst e; simp
 · exact h1
end Go.Proofs.YteoadfckcilalaaGreatDoor
namespace Go.Proofs.YteoadfckcilalaaGreatDoor
open Go.RowKit

theorem lines_nil (cur : List UInt8) : linesGo cur [] = some [] := by unfold linesGo; rfl
theorem lines_bad {cur : List UInt8} {x : UInt8} {r : List UInt8} (h : (x = 13 ∧ ¬ r.head? = some 10) ∨ (x = 10 ∧ ¬ cur.getLast? = some 13)) : linesGo cur (x :: r) = none := by
 unfold linesGo; rw [if_pos h]
theorem lines_end {cur : List UInt8} {r : List UInt8} (h : cur.getLast? = some 13) : linesGo cur (10 :: r) = (linesGo [] r).map (⟨cur.dropLast.toArray⟩ :: ·) := by
  conv => lhs; unfold linesGo
  rw [if_neg (by rintro (h2 | h2); · exact absurd h2.1 (by decide)
                 · exact h2.2 h), if_pos rfl]
theorem lines_more {cur : List UInt8} {x : UInt8} {r : List UInt8} (hx : ¬ x = 10) (h : x = 13 → r.head? = some 10) : linesGo cur (x :: r) = linesGo (cur ++ [x]) r := by
  conv => lhs; unfold linesGo
  rw [if_neg (by rintro (h2 | h2); · exact h2.2 (h h2.1)
                 · exact hx h2.1), if_neg hx]
theorem lines_count : ∀ (l cur : List UInt8) (L : List ByteArray), linesGo cur l = some L → L.length = l.count 10
 | [], _, L, h => by
  unfold linesGo at h
  cases h; rfl
 | x :: r, cur, L, h => by
  by_cases hb : (x = 13 ∧ ¬ r.head? = some 10) ∨ (x = 10 ∧ ¬ cur.getLast? = some 13)
  · rw [lines_bad hb] at h; cases h
  · by_cases hx : x = 10
    · subst hx
      have hl : cur.getLast? = some 13 := Decidable.byContradiction fun e => hb (.inr ⟨rfl, e⟩)
      rw [lines_end hl] at h
      cases hq : linesGo [] r with
      | none => rw [hq] at h; cases h
      | some L2 =>
       rw [hq] at h
       simp only [Option.map_some, Option.some.injEq] at h
       subst h
       rw [List.length_cons, lines_count r [] L2 hq, List.count_cons_self]
    · rw [lines_more hx (fun e => Decidable.byContradiction fun e2 => hb (.inl ⟨e, e2⟩))] at h
      rw [lines_count r _ L h, List.count_cons_of_ne (by simpa using hx)]
theorem end_suffix : ∀ (l : List UInt8) (i : Nat), endGo i l = ((i + l.length : Nat) : Int) → 4 ≤ l.length ∧ l.drop (l.length - 4) = crlf2
 | [], i, h => by
  unfold endGo at h
  omega
 | x :: r, i, h => by
  unfold endGo at h
  by_cases hm : (x :: r).take 4 = crlf2
  · rw [if_pos hm] at h
    have hl : (x :: r).length = 4 := by omega
    refine ⟨by omega, ?_⟩
    rw [hl, Nat.sub_self, List.drop_zero, ← hm, List.take_of_length_le (by omega)]
  · rw [if_neg hm] at h
    obtain ⟨h1, h2⟩ := end_suffix r (i + 1) (by rw [h, List.length_cons]; omega)
    refine ⟨by rw [List.length_cons]; omega, ?_⟩
    rw [List.length_cons, show r.length + 1 - 4 = (r.length - 4) + 1 by omega, List.drop_succ_cons]
    exact h2
end Go.Proofs.YteoadfckcilalaaGreatDoor
namespace Go.Proofs.YteoadfckcilalaaGreatDoor
open Go.RowKit

theorem fieldsGo_stop {l : List ByteArray} {k : Nat} {x : List Fld} {s : ByteArray} (hk : k < l.length) (hs : l[k] = s) (h : fieldsGo (l.take k) = some x) : fieldsGo (l.take (k + 1)) = (parseF s).map fun f => x ++ [f] := by
 rw [List.take_succ_eq_append_getElem hk, hs]
 exact fieldsGo_snoc _ _ _ h
theorem AccF.fresh {w0 w : World} {a : Option Addr} {n c : Nat} {l : List Fld} (h : AccF w0 w (.slice a n c) l) : ∀ y, a = some y → w0.heap.size ≤ y.block := fun y hy => by
 obtain ⟨⟨_, h2⟩, _⟩ := h
 rcases h2 with ⟨e, _⟩ | ⟨g, cap, cur, hv, hg, _⟩
 · injection e with e1 _ _
   rw [e1] at hy; cases hy
 · injection hv with e1 _ _
   rw [e1] at hy
   obtain rfl := Option.some.inj hy
   exact hg
theorem fieldsS_big {l : List ByteArray} (h : 64 < l.length) : fieldsS l = (3, []) := by unfold fieldsS; rw [if_pos h]
theorem fieldsS_some {l : List ByteArray} {x : List Fld} (h : ¬ 64 < l.length) (hx : fieldsGo l = some x) : fieldsS l = (0, x) := by unfold fieldsS; rw [if_neg h, hx]
theorem fieldsS_none {l : List ByteArray} (h : ¬ 64 < l.length) (hx : fieldsGo l = none) : fieldsS l = (2, []) := by unfold fieldsS; rw [if_neg h, hx]
end Go.Proofs.YteoadfckcilalaaGreatDoor
namespace Go.Proofs.YteoadfckcilalaaGreatDoor
open Go.RowKit

def Own (B : Nat) (w : World) (v : Value) (l : List UInt8) : Prop := w.ownsRow B 5 1 v l.length (bytesV l)
theorem Own.start (B : Nat) (w : World) : Own B w (.slice none 0 0) [] := World.ownsRow_nil _ _ _ _
theorem Own.same {B : Nat} {w w' : World} {v : Value} {l : List UInt8} (h : Own B w v l) (hs : ∀ k, v.ownBlock = some k → w'.heap[k]? = w.heap[k]?) : Own B w' v l := by
 obtain ⟨h1, h2⟩ := h
 refine ⟨h1, ?_⟩
 rcases h2 with h2 | ⟨g, cap, cur, hv, hg, hc, r⟩
 · exact .inl h2
 · exact .inr ⟨g, cap, cur, hv, hg, by rw [hs g (by rw [hv]; rfl)]; exact hc, r⟩
theorem Own.lt {B : Nat} {w : World} {v : Value} {l : List UInt8} (h : Own B w v l) {k : Nat} (hk : v.ownBlock = some k) : B ≤ k ∧ k < w.heap.size := World.ownsRow.lt h k hk
theorem Own.keep {B : Nat} {w w' : World} {v : Value} {l : List UInt8} (h : Own B w v l) (hb : Below w.heap.size w w') : Own B w' v l :=
 h.same fun k hk => hb.block k (h.lt hk).2
theorem Own.val {B : Nat} {w : World} {v : Value} {l : List UInt8} (h : Own B w v l) : BytesV w v l := by
 obtain ⟨h1, h2⟩ := h
 rcases h2 with ⟨rfl, h2⟩ | ⟨g, cap, cur, rfl, hg, hc, hcap, hm, hsz, ht⟩
 · have : l = [] := List.eq_nil_of_length_eq_zero h2
   subst this
   exact ⟨none, 0, rfl, .inl ⟨rfl, rfl, rfl⟩⟩
 · refine ⟨_, cap, rfl, .inr ⟨_, rfl, hcap, hm, fun j hj => ?_⟩⟩
   have e : cur.toList[j]? = some (Value.int .u8 (l[j].toNat : Int)) := by
    have := congrArg (fun x => x[j]?) ht
    simp only [Nat.mul_one, bytesV] at this
    rw [List.getElem?_take_of_lt hj, List.getElem?_map, List.getElem?_eq_getElem hj] at this
    exact this
   rw [Addr.add_lit]
   simp only [World.cell?, hc, Nat.zero_add]
   simpa using e
theorem cell_same {w w' : World} {p : Addr} (h : w'.heap[p.block]? = w.heap[p.block]?) : w'.cell? p = w.cell? p := by
 unfold World.cell?
 rw [h]
theorem add_block (x : Addr) (j : Nat) : (x.add j).block = x.block := by unfold Addr.add; split <;> rfl
theorem IsBytes.same {w w' : World} {a : Option Addr} {l : List UInt8} {c : Nat} (h : IsBytes w a l c) (hs : ∀ x, a = some x → l ≠ [] → w'.heap[x.block]? = w.heap[x.block]?) : IsBytes w' a l c := by
 rcases h with h | ⟨x, h1, h2, h3, h4⟩
 · exact .inl h
 · refine .inr ⟨x, h1, h2, h3, fun j hj => ?_⟩
   have e : w'.heap[(x.add j).block]? = w.heap[(x.add j).block]? := by
    rw [add_block]
    exact hs x h1 (fun e => by rw [e] at hj; exact absurd hj (Nat.not_lt_zero _))
   rw [cell_same e]
   exact h4 j hj
section
variable {ops : Array Oper} {rest : List Oper} {o : Oper} {act : Act} {Q : Exit → Act → World → Prop}
theorem wpList_append_ownb (w : World) (hgd : o.guard = none) (s x : Operand) (ho : o.op = .call { callee := .builtin .append, args := #[s, x], argTypes := #[23, 23] })
  {B : Nat} {v : Value} {l : List UInt8} (hs : act.eval s = v) (h : Own B w v l) {a : Option Addr} {r : List UInt8} {c : Nat} (hx : act.eval x = .slice a r.length c) (hr : IsBytes w a r c)
  (hn : l.length + r.length ≤ 140737488355328) (hB : B ≤ w.heap.size)
  (K : ∀ v' w', Own B w' v' (l ++ r) → w.grownBy w' v.ownBlock → (v'.ownBlock = v.ownBlock ∨ v'.ownBlock = some w.heap.size) → wpList Tryz.prog ops Q rest (act.put o.dst v') w') : wpList Tryz.prog ops Q (o :: rest) act w := by
 obtain ⟨i0, hi, hz0, hz1, hz2⟩ := info_parts Tryz.info5
 rcases hr with ⟨rfl, rfl, rfl⟩ | ⟨ad, rfl, hr1, hr2, hr3⟩
 · refine wpList_append_own_none hgd s x 23 ho B 5 i0 1 Tryz.underlying23 hi v l.length (bytesV l) hs h hx (K _ _ ?_ (World.grownBy.refl _ _) (.inl rfl))
   rw [List.append_nil]; exact h
 · refine wpList_append_own_at w hgd s x 23 ho B 5 i0 (.int .u8 0) 1 1 Tryz.underlying23 hi hz0 hz1 hz2 rfl (by decide) v l.length (bytesV l) hs h ad r.length c (bytesV r) hx (by rw [bytesV_len, Nat.mul_one]) ?_ ?_ (by unfold maxLen; omega) (by omega) hB ?_
   · intro j u hj
     unfold bytesV at hj
     rw [List.getElem?_map] at hj
     obtain ⟨c', hc', rfl⟩ := Option.map_eq_some_iff.1 hj
     obtain ⟨hlt, rfl⟩ := List.getElem?_eq_some_iff.1 hc'
     exact hr3 j hlt
   · intro u hu
     unfold bytesV at hu
     obtain ⟨c', _, rfl⟩ := List.mem_map.1 hu
     rfl
   · intro v' w' hown hgrow _ h5
     refine K v' w' ?_ hgrow h5
     unfold Own
     rw [List.length_append]
     have e : bytesV (l ++ r) = bytesV l ++ bytesV r := by unfold bytesV; rw [List.map_append]
     rw [e]; exact hown
end
end Go.Proofs.YteoadfckcilalaaGreatDoor
namespace Go.Proofs.YteoadfckcilalaaGreatDoor
open Go.RowKit

theorem lineR_ne (l : List ByteArray) (h : (lineR l).1 = none) : ¬ (lineR l).2 = 0 := by
 unfold lineR at h ⊢
 split at h
 · rename_i m t v
   by_cases h1 : tokS m = true ∧ targetS t = true
   · rw [if_pos h1] at h ⊢
     by_cases h2 : (verZ v).2 = 0
     · rw [if_pos h2] at h; cases h
     · rw [if_neg h2]; exact h2
   · rw [if_neg h1]; decide
 · decide
theorem lines_small : ∀ (l cur : List UInt8) (L : List ByteArray), linesGo cur l = some L → ∀ s ∈ L, s.size ≤ cur.length + l.length
 | [], _, L, h, s, hs => by
  rw [lines_nil] at h
  cases h; cases hs
 | x :: r, cur, L, h, s, hs => by
  by_cases hb : (x = 13 ∧ ¬ r.head? = some 10) ∨ (x = 10 ∧ ¬ cur.getLast? = some 13)
  · rw [lines_bad hb] at h; cases h
  · by_cases hx : x = 10
    · subst hx
      have hl : cur.getLast? = some 13 := Decidable.byContradiction fun e => hb (.inr ⟨rfl, e⟩)
      rw [lines_end hl] at h
      cases hq : linesGo [] r with
      | none => rw [hq] at h; cases h
      | some L2 =>
       rw [hq] at h
       simp only [Option.map_some, Option.some.injEq] at h
       subst h
       rcases List.mem_cons.1 hs with rfl | hs
       · show cur.dropLast.toArray.size ≤ _
         rw [List.size_toArray, List.length_dropLast]; omega
       · have := lines_small r [] L2 hq s hs
         rw [List.length_cons]
         simp at this
         omega
    · rw [lines_more hx (fun e => Decidable.byContradiction fun e2 => hb (.inl ⟨e, e2⟩))] at h
      have := lines_small r _ L h s hs
      rw [List.length_append] at this
      rw [List.length_cons]
      simp at this
      omega
theorem linesS_facts {b : List UInt8} {L : List ByteArray} (h : linesS b = some L) : (∀ s ∈ L, s.size ≤ b.length) ∧ L.length ≤ b.length := by
 unfold linesS at h
 split at h
 · cases hq : linesGo [] b with
   | none => rw [hq] at h; cases h
   | some G =>
    rw [hq] at h
    simp only [Option.map_some, Option.some.injEq] at h
    subst h
    refine ⟨fun s hs => ?_, ?_⟩
    · have := lines_small b [] G hq s ((List.dropLast_sublist G).subset hs)
      simpa using this
    · have := lines_count b [] G hq
      have h2 := List.count_le_length (a := (10 : UInt8)) (l := b)
      rw [List.length_dropLast]; omega
 · cases h
theorem parseF_small {s : ByteArray} {f : Fld} (h : parseF s = some f) : f.1.size ≤ s.size ∧ f.2.size ≤ s.size := by
 unfold parseF at h
 split at h
 · split at h
   · cases h
     exact ⟨extract_le _ _ _, Nat.le_trans (trimBA_size _) (extract_le _ _ _)⟩
   · cases h
 · cases h
theorem fieldsGo_small : ∀ (l : List ByteArray) (x : List Fld), fieldsGo l = some x → (∀ s ∈ l, s.size ≤ maxLen) → ShortF x ∧ x.length = l.length
 | [], x, h, _ => by
  cases h
  exact ⟨fun f hf => absurd hf (by simp), rfl⟩
 | t :: l, x, h, hz => by
  unfold fieldsGo at h
  cases ht : parseF t with
  | none => rw [ht] at h; cases h
  | some f =>
   rw [ht] at h
   simp only at h
   cases hx : fieldsGo l with
   | none => rw [hx] at h; cases h
   | some y =>
    rw [hx] at h
    simp only [Option.map_some, Option.some.injEq] at h
    subst h
    obtain ⟨h1, h2⟩ := fieldsGo_small l y hx (fun s hs => hz s (List.mem_cons_of_mem _ hs))
    have h3 := parseF_small ht
    have h4 := hz t (List.mem_cons_self ..)
    refine ⟨fun g hg => ?_, by simp [h2]⟩
    rcases List.mem_cons.1 hg with rfl | hg
    · exact ⟨Nat.le_trans h3.1 h4, Nat.le_trans h3.2 h4⟩
    · exact h1 g hg
theorem fieldsS_small {l : List ByteArray} {x : List Fld} {er : Int} (h : fieldsS l = (er, x)) (hz : ∀ s ∈ l, s.size ≤ maxLen) : ShortF x ∧ x.length ≤ 64 ∧ (¬ er = 0 → x = []) := by
 unfold fieldsS at h
 split at h
 · cases h
   exact ⟨fun f hf => absurd hf (by simp), by simp, fun _ => rfl⟩
 · rename_i h64
   cases hx : fieldsGo l with
   | none =>
    rw [hx] at h
    cases h
    exact ⟨fun f hf => absurd hf (by simp), by simp, fun _ => rfl⟩
   | some y =>
    rw [hx] at h
    cases h
    obtain ⟨h1, h2⟩ := fieldsGo_small l x hx hz
    exact ⟨h1, by omega, fun e => absurd rfl e⟩
def hostN : ByteArray := ⟨#[104, 111, 115, 116]⟩
def headR (b : List UInt8) : Int × ByteArray × ByteArray × Int × List Fld :=
 match linesS b with
 | some (l0 :: ls) =>
  match lineR (splitS 32 l0) with
  | (some f, _) =>
   if (fieldsS ls).1 = 0 then (if 1 < (valuesL (fieldsS ls).2 hostN).length ∨ ((valuesL (fieldsS ls).2 hostN).length = 0 ∧ f.2.2 = 1) then (2, ⟨#[]⟩, ⟨#[]⟩, 0, []) else (0, f.1, f.2.1, f.2.2, (fieldsS ls).2))
   else ((fieldsS ls).1, ⟨#[]⟩, ⟨#[]⟩, 0, [])
  | (none, e) => (e, ⟨#[]⟩, ⟨#[]⟩, 0, [])
 | _ => (2, ⟨#[]⟩, ⟨#[]⟩, 0, [])
def QVarH (w : World) (g : Nat) (m t : ByteArray) (z : Int) (v : Value) : Prop := w.heap[g]? = some (.cells #[.string m, .string t, .int .i64 z, v, .bool false, .slice none 0 0] 29 (0, 0))
theorem QVarH.keep {w w' : World} {g : Nat} {m t : ByteArray} {z : Int} {v : Value} (h : QVarH w g m t z v) (hb : Below w.heap.size w w') : QVarH w' g m t z v := by
 unfold QVarH at *
 rw [hb.block g (Array.getElem?_eq_some_iff.1 h).1]; exact h
theorem oneQH (m t : ByteArray) (z : Int) (a : Option Addr) (n c : Nat) : (#[.string m, .string t, .int .i64 z, .slice a n c, .bool false, .slice none 0 0] : Array Value).all (·.oneCell') = true := by simp [Value.oneCell']
theorem FldsIn.same {w w' : World} {a : Option Addr} {l : List Fld} (h : FldsIn w a l) (hs : ∀ y, a = some y → w'.heap[y.block]? = w.heap[y.block]?) : FldsIn w' a l := fun j hj => by
 obtain ⟨x, e, h1, h2⟩ := h j hj
 have hx := hs x e
 exact ⟨x, e, (cell_same (w := w) (w' := w') (by rw [add_block]; exact hx)).trans h1, (cell_same (w := w) (w' := w') (by rw [add_block]; exact hx)).trans h2⟩
theorem StrsAt.tail {w : World} {g : Nat} {s : ByteArray} {l : List ByteArray} (h : StrsAt w (some ⟨g, 0, none⟩) (s :: l)) : StrsAt w (some ⟨g, 1, none⟩) l := fun j hj => by
 obtain ⟨b, off, e, hc⟩ := h (j + 1) (by rw [List.length_cons]; omega)
 cases e
 refine ⟨g, 1, rfl, ?_⟩
 rw [show 1 + j = 0 + (j + 1) by omega]
 exact hc
theorem StrsAt.head {w : World} {g : Nat} {s : ByteArray} {l : List ByteArray} (h : StrsAt w (some ⟨g, 0, none⟩) (s :: l)) : w.cell? ⟨g, 0, none⟩ = some (.string s) := by
 obtain ⟨b, off, e, hc⟩ := h 0 (by simp)
 cases e
 exact hc
def RetReqF (w : World) (r : Int × ByteArray × ByteArray × Int × List Fld) (e : Ending) (w' : World) : Prop :=
 ∃ fa fc, e = .returned (.tuple #[.agg #[.string r.2.1, .string r.2.2.1, .int .i64 r.2.2.2.1, .slice fa r.2.2.2.2.length fc, .bool false, .slice none 0 0], .int .i64 r.1]) ∧ FldsIn w' fa r.2.2.2.2 ∧ (∀ y, fa = some y → w.heap.size ≤ y.block) ∧ Below w.heap.size w w'
end Go.Proofs.YteoadfckcilalaaGreatDoor
namespace Go.Proofs.YteoadfckcilalaaGreatDoor
open Go.RowKit

def headA (b : List UInt8) : Int × Int × ByteArray × Int × List Fld :=
 match linesS b with
 | some (l0 :: ls) =>
  match parseA l0 with
  | some f => if (fieldsS ls).1 = 0 then (0, f.1, f.2.1, f.2.2, (fieldsS ls).2) else ((fieldsS ls).1, 0, ⟨#[]⟩, 0, [])
  | none => (2, 0, ⟨#[]⟩, 0, [])
 | _ => (2, 0, ⟨#[]⟩, 0, [])
def AVarH (w : World) (g : Nat) (m : Int) (t : ByteArray) (z : Int) (v : Value) : Prop := w.heap[g]? = some (.cells #[.int .i64 m, .string t, .int .i64 z, v, .slice none 0 0] 31 (0, 0))
theorem AVarH.keep {w w' : World} {g : Nat} {m : Int} {t : ByteArray} {z : Int} {v : Value} (h : AVarH w g m t z v) (hb : Below w.heap.size w w') : AVarH w' g m t z v := by
 unfold AVarH at *
 rw [hb.block g (Array.getElem?_eq_some_iff.1 h).1]; exact h
theorem oneAH (m : Int) (t : ByteArray) (z : Int) (a : Option Addr) (n c : Nat) : (#[.int .i64 m, .string t, .int .i64 z, .slice a n c, .slice none 0 0] : Array Value).all (·.oneCell') = true := by simp [Value.oneCell']
def RetRepF (w : World) (r : Int × Int × ByteArray × Int × List Fld) (e : Ending) (w' : World) : Prop :=
 ∃ fa fc, e = .returned (.tuple #[.agg #[.int .i64 r.2.1, .string r.2.2.1, .int .i64 r.2.2.2.1, .slice fa r.2.2.2.2.length fc, .slice none 0 0], .int .i64 r.1]) ∧ FldsIn w' fa r.2.2.2.2 ∧ (∀ y, fa = some y → w.heap.size ≤ y.block) ∧ Below w.heap.size w w'
end Go.Proofs.YteoadfckcilalaaGreatDoor
namespace Go.Proofs.YteoadfckcilalaaGreatDoor
open Go.RowKit

theorem allB_no {l : List Fld} {k : Nat} (hk : k < l.length) (h : fldB l[k].1 l[k].2 = false) : allB l = false := by
 unfold allB
 rw [← Bool.not_eq_true, List.all_eq_true]
 intro h2
 have := h2 _ (List.getElem_mem hk)
 rw [h] at this; cases this
theorem allB_yes {l : List Fld} (h : ∀ f ∈ l, fldB f.1 f.2 = true) : allB l = true := by
 unfold allB
 exact List.all_eq_true.2 h
set_option maxRecDepth 100000 in
set_option maxHeartbeats 2000000 in
theorem refAllValid_any (l : List Fld) (a : Option Addr) (cap : Nat) (w : World) (h : FldsIn w a l) (hz : ShortF l) (hl : l.length ≤ 4000000) :
  Calls Tryz.prog 71 #[.slice a l.length cap] w fun e w' => e = .returned (.bool (allB l)) ∧ Below w.heap.size w w' := by
 have H0 := Box.mk h
 have HZ := Box.mk hz
 have HN := Box.mk (fun (k : Nat) (hk : k < l.length) h => allB_no hk h)
 have HY := Box.mk (fun h => allB_yes (l := l) h)
 generalize hR : allB l = R at *
 clear h hz hR
 go_enter Tryz.func71, Tryz.ntmps71
 go_wp2_with fail
 go_loopw [3] (fun iv wr => ∃ k : Nat, k ≤ l.length ∧ iv = .int .i64 k ∧ Box (Below w.heap.size w wr ∧ ∀ f ∈ l.take k, fldB f.1 f.2 = true)) (fun iv _ => l.length - (intOf iv).toNat)
 case atStart => exact ⟨0, Nat.zero_le _, rfl, ⟨Below.refl _ _, by simp⟩⟩
 case round =>
  obtain ⟨k, hk, rfl, HM⟩ := hrel
  by_cases hlt : k < l.length
  · obtain ⟨x, rfl, hx1, hx2⟩ := (H0.out.keep HM.out.1) k hlt
    have hx2 := cell_next hx2
    have HSZ := Box.mk (HZ.out _ (List.getElem_mem hlt))
    by_cases hv : fldB l[k].1 l[k].2 = true
    · have HALL := Box.mk (all_stepF hlt HM.out.2 hv)
      have HV := Box.mk hv
      clear hv
      generalize l[k] = f at *
      go_wp2_with fail
      refine (refFieldValid_any f.1 f.2 _ HSZ.out.1 HSZ.out.2).mono ?_
      rintro e w1 ⟨he, hb1⟩
      rw [HV.out] at he
      subst he
      have HB1 := Box.mk (below_trans HM.out.1 hb1)
      clear hb1 hx1 hx2
      go_wp2_with fail
      go_roundw
      case rel => exact ⟨k + 1, by omega, by go_num, ⟨HB1.out, HALL.out⟩⟩
      case measure => simp [intOf]; omega
    · have HV := Box.mk (show fldB l[k].1 l[k].2 = false by simpa using hv)
      have HP := Box.mk (HN.out k hlt HV.out)
      clear hv
      generalize l[k] = f at *
      go_wp2_with fail
      refine (refFieldValid_any f.1 f.2 _ HSZ.out.1 HSZ.out.2).mono ?_
      rintro e w1 ⟨he, hb1⟩
      rw [HV.out] at he
      subst he
      have HB1 := Box.mk (below_trans HM.out.1 hb1)
      clear hb1 hx1 hx2
      go_wp2_with fail
      go_ret
      exact ⟨ret_bool HP.out.symm, HB1.out⟩
  · have HP := Box.mk (HY.out (by have := HM.out.2; rw [List.take_of_length_le (by omega)] at this; exact this))
    go_wp2_with fail
    go_ret
    exact ⟨ret_bool HP.out.symm, HM.out.1⟩
def headB (s : ByteArray) (x : List Fld) : List UInt8 := if s.size = 0 ∨ allB x = false then [] else s.data.toList ++ [13, 10] ++ linesB x ++ [13, 10]
theorem headB_no {s : ByteArray} {x : List Fld} (h : s.size = 0 ∨ allB x = false) : headB s x = [] := by unfold headB; rw [if_pos h]
theorem headB_yes {s : ByteArray} {x : List Fld} (h : ¬ s.size = 0) (h2 : allB x = true) : headB s x = s.data.toList ++ [13, 10] ++ linesB x ++ [13, 10] := by
 unfold headB
 rw [if_neg (fun e => e.elim h (fun e => by rw [h2] at e; cases e))]
def RetHd (w : World) (l : List UInt8) (e : Ending) (w' : World) : Prop :=
 (l = [] ∧ e = .returned (.slice none 0 0) ∧ Below w.heap.size w w') ∨
 ∃ W s, s.data.toList = l ∧ 0 < l.length ∧ e = .returned (.slice (some ⟨W.heap.size, 0, none⟩) s.size (grownCap W s.size 0 5)) ∧ w' = Lib.bytesWorld W 5 s ∧ Below w.heap.size w W
theorem empty_s {y : ByteArray} (h : y.size = 0) : y.toList.isEmpty = true := by
 rw [ByteArray.toList_eq, List.isEmpty_iff, ← List.length_eq_zero_iff, Array.length_toList]; exact h
theorem full_s {y : ByteArray} (h : ¬ y.size = 0) : y.toList.isEmpty = false := by
 rw [← Bool.not_eq_true, ByteArray.toList_eq, List.isEmpty_iff, ← List.length_eq_zero_iff, Array.length_toList]; exact h
set_option maxRecDepth 100000 in
set_option maxHeartbeats 4000000 in
theorem refFmtReq_any (m t : ByteArray) (z : Int) (fr : Bool) (x : List Fld) (fa ba : Option Addr) (fc bn bc : Nat) (w : World) (hm : m.size ≤ 1000000000) (ht : t.size ≤ 1000000000) (hx : FldsIn w fa x) (hz : SmallF x) (hl : x.length ≤ 1000) (hq : (fmtReq m t z).size ≤ 4000000000) :
  Calls Tryz.prog 48 #[.agg #[.string m, .string t, .int .i64 z, .slice fa x.length fc, .bool fr, .slice ba bn bc]] w (RetHd w (headB (fmtReq m t z) x)) := by
 have HB0 := Box.mk (below_oneF w (.cells #[.string m, .string t, .int .i64 z, .slice fa x.length fc, .bool fr, .slice ba bn bc] 29))
 have hc3 : (w.alloc (.cells #[.string m, .string t, .int .i64 z, .slice fa x.length fc, .bool fr, .slice ba bn bc] 29)).cell? ⟨w.heap.size, 3, none⟩ = some (.slice fa x.length fc) := by rw [new_cellF]; rfl
 have HC3 := Box.mk hc3
 have HX0 := Box.mk (hx.keep HB0.out)
 have HZ := Box.mk hz
 have HCALL := Box.mk (fun W => refFormatReq_any m t z fa ba x.length fc bn bc fr W hm ht)
 have HN := Box.mk (fun h => headB_no (s := fmtReq m t z) (x := x) h)
 have HY := Box.mk (fun h h2 => headB_yes (s := fmtReq m t z) (x := x) h h2)
 generalize headB (fmtReq m t z) x = R at *
 generalize fmtReq m t z = s at *
 clear hx hz hc3
 go_enter Tryz.func48, Tryz.ntmps48
 go_wp2_with fail
 refine (HCALL.out _).mono ?_
 rintro e w1 ⟨rfl, hb1⟩
 have hd3 := below_cell hb1 HC3.out
 have HX1 := Box.mk (HX0.out.keep hb1)
 have HB1 := Box.mk (below_trans HB0.out hb1)
 have HD3 := Box.mk hd3
 clear hb1 HX0 HB0 HC3
 by_cases h0 : s.size = 0
 · have he := empty_s h0
   have HP := Box.mk (HN.out (.inl h0))
   clear h0 hd3
   go_wp2_with fail
   go_ret
   exact .inl ⟨HP.out, rfl, HB1.out⟩
 · have he := full_s h0
   have H0 := Box.mk h0
   clear h0
   go_wp2_with fail
   refine (refAllValid_any x fa fc _ HX1.out (fun f hf => ⟨le_maxLen (HZ.out f hf).1, le_maxLen (HZ.out f hf).2⟩) (by omega)).mono ?_
   rintro e w2 ⟨he2, hb2⟩
   have hd3 := below_cell hb2 HD3.out
   have HX2 := Box.mk (HX1.out.keep hb2)
   have HB2 := Box.mk (below_trans HB1.out hb2)
   clear hb2 HX1 HB1 HD3
   by_cases hv : allB x = true
   · rw [hv] at he2
     subst he2
     have HP := Box.mk (HY.out H0.out hv)
     have HF := Box.mk (show (fmtF x).data.toList = linesB x by unfold fmtF; rw [if_pos hv])
     have hfz : (fmtF x).size ≤ 1000 * 2097156 := by
      have h1 := linesB_len x HZ.out x.length
      rw [List.take_length] at h1
      have h2 := congrArg List.length HF.out
      rw [Array.length_toList] at h2
      have h3 : (fmtF x).data.size = (fmtF x).size := rfl
      have h4 : x.length * 2097156 ≤ 1000 * 2097156 := Nat.mul_le_mul_right _ hl
      omega
     have hadd1 := fun W => run_string_add_sum (P := Tryz.prog) (w := W) s ⟨#[13, 10]⟩ (by show s.size + 2 ≤ _; omega)
     obtain ⟨s1, hs1⟩ : ∃ s1, s1 = s ++ (⟨#[13, 10]⟩ : ByteArray) := ⟨_, rfl⟩
     rw [← hs1] at hadd1
     have hs1z : s1.size = s.size + 2 := by rw [hs1, ByteArray.size_append]; rfl
     have HFM := Box.mk (fun W (h : FldsIn W fa x) => refFormat_any x fa fc W h HZ.out (by omega))
     generalize fmtF x = f at *
     have hadd2 := fun W => run_string_add_sum (P := Tryz.prog) (w := W) s1 f (by omega)
     obtain ⟨s2, hs2⟩ : ∃ s2, s2 = s1 ++ f := ⟨_, rfl⟩
     rw [← hs2] at hadd2
     have hs2z : s2.size = s.size + 2 + f.size := by rw [hs2, ByteArray.size_append, hs1z]
     have hadd3 := fun W => run_string_add_sum (P := Tryz.prog) (w := W) s2 ⟨#[13, 10]⟩ (by show s2.size + 2 ≤ _; omega)
     obtain ⟨s3, hs3⟩ : ∃ s3, s3 = s2 ++ (⟨#[13, 10]⟩ : ByteArray) := ⟨_, rfl⟩
     rw [← hs3] at hadd3
     have HS3 := Box.mk (show s3.data.toList = R by
      rw [HP.out, hs3, hs2, hs1, ← HF.out]
      simp)
     have HRP := Box.mk (show 0 < R.length by rw [HP.out]; simp; omega)
     have hcvb := fun W => Lib.run_convert_string_bytes (P := Tryz.prog) W 9 23 5 s3 Tryz.underlying9 Tryz.underlying23 Tryz.underlying5
     clear hs1 hs2 hs3 hs1z hs2z hv
     go_wp2_with fail
     refine (HFM.out _ HX2.out).mono ?_
     rintro e w3 ⟨rfl, hb3⟩
     have HB3 := Box.mk (below_trans HB2.out hb3)
     clear hb3
     go_wp2_with fail
     go_ret
     exact .inr ⟨w3, s3, HS3.out, HRP.out, rfl, rfl, HB3.out⟩
   · have hv2 : allB x = false := by rw [← Bool.not_eq_true]; exact hv
     rw [hv2] at he2
     subst he2
     have HP := Box.mk (HN.out (.inr hv2))
     clear hv hv2
     go_wp2_with fail
     go_ret
     exact .inl ⟨HP.out, rfl, HB2.out⟩
set_option maxRecDepth 100000 in
set_option maxHeartbeats 4000000 in
theorem refFmtRep_any (st : Int) (r : ByteArray) (z : Int) (x : List Fld) (fa ba : Option Addr) (fc bn bc : Nat) (w : World) (hr : r.size ≤ 1000000000) (hx : FldsIn w fa x) (hz : SmallF x) (hl : x.length ≤ 1000) (hq : (fmtRep st r z).size ≤ 4000000000) :
  Calls Tryz.prog 50 #[.agg #[.int .i64 st, .string r, .int .i64 z, .slice fa x.length fc, .slice ba bn bc]] w (RetHd w (headB (fmtRep st r z) x)) := by
 have HB0 := Box.mk (below_oneF w (.cells #[.int .i64 st, .string r, .int .i64 z, .slice fa x.length fc, .slice ba bn bc] 31))
 have hc3 : (w.alloc (.cells #[.int .i64 st, .string r, .int .i64 z, .slice fa x.length fc, .slice ba bn bc] 31)).cell? ⟨w.heap.size, 3, none⟩ = some (.slice fa x.length fc) := by rw [new_cellF]; rfl
 have HC3 := Box.mk hc3
 have HX0 := Box.mk (hx.keep HB0.out)
 have HZ := Box.mk hz
 have HCALL := Box.mk (fun W => refFormatRep_any st r z fa ba x.length fc bn bc W hr)
 have HN := Box.mk (fun h => headB_no (s := fmtRep st r z) (x := x) h)
 have HY := Box.mk (fun h h2 => headB_yes (s := fmtRep st r z) (x := x) h h2)
 generalize headB (fmtRep st r z) x = R at *
 generalize fmtRep st r z = s at *
 clear hx hz hc3
 go_enter Tryz.func50, Tryz.ntmps50
 go_wp2_with fail
 refine (HCALL.out _).mono ?_
 rintro e w1 ⟨rfl, hb1⟩
 have hd3 := below_cell hb1 HC3.out
 have HX1 := Box.mk (HX0.out.keep hb1)
 have HB1 := Box.mk (below_trans HB0.out hb1)
 have HD3 := Box.mk hd3
 clear hb1 HX0 HB0 HC3
 by_cases h0 : s.size = 0
 · have he := empty_s h0
   have HP := Box.mk (HN.out (.inl h0))
   clear h0 hd3
   go_wp2_with fail
   go_ret
   exact .inl ⟨HP.out, rfl, HB1.out⟩
 · have he := full_s h0
   have H0 := Box.mk h0
   clear h0
   go_wp2_with fail
   refine (refAllValid_any x fa fc _ HX1.out (fun f hf => ⟨le_maxLen (HZ.out f hf).1, le_maxLen (HZ.out f hf).2⟩) (by omega)).mono ?_
   rintro e w2 ⟨he2, hb2⟩
   have hd3 := below_cell hb2 HD3.out
   have HX2 := Box.mk (HX1.out.keep hb2)
   have HB2 := Box.mk (below_trans HB1.out hb2)
   clear hb2 HX1 HB1 HD3
   by_cases hv : allB x = true
   · rw [hv] at he2
     subst he2
     have HP := Box.mk (HY.out H0.out hv)
     have HF := Box.mk (show (fmtF x).data.toList = linesB x by unfold fmtF; rw [if_pos hv])
     have hfz : (fmtF x).size ≤ 1000 * 2097156 := by
      have h1 := linesB_len x HZ.out x.length
      rw [List.take_length] at h1
      have h2 := congrArg List.length HF.out
      rw [Array.length_toList] at h2
      have h3 : (fmtF x).data.size = (fmtF x).size := rfl
      have h4 : x.length * 2097156 ≤ 1000 * 2097156 := Nat.mul_le_mul_right _ hl
      omega
     have hadd1 := fun W => run_string_add_sum (P := Tryz.prog) (w := W) s ⟨#[13, 10]⟩ (by show s.size + 2 ≤ _; omega)
     obtain ⟨s1, hs1⟩ : ∃ s1, s1 = s ++ (⟨#[13, 10]⟩ : ByteArray) := ⟨_, rfl⟩
     rw [← hs1] at hadd1
     have hs1z : s1.size = s.size + 2 := by rw [hs1, ByteArray.size_append]; rfl
     have HFM := Box.mk (fun W (h : FldsIn W fa x) => refFormat_any x fa fc W h HZ.out (by omega))
     generalize fmtF x = f at *
     have hadd2 := fun W => run_string_add_sum (P := Tryz.prog) (w := W) s1 f (by omega)
     obtain ⟨s2, hs2⟩ : ∃ s2, s2 = s1 ++ f := ⟨_, rfl⟩
     rw [← hs2] at hadd2
     have hs2z : s2.size = s.size + 2 + f.size := by rw [hs2, ByteArray.size_append, hs1z]
     have hadd3 := fun W => run_string_add_sum (P := Tryz.prog) (w := W) s2 ⟨#[13, 10]⟩ (by show s2.size + 2 ≤ _; omega)
     obtain ⟨s3, hs3⟩ : ∃ s3, s3 = s2 ++ (⟨#[13, 10]⟩ : ByteArray) := ⟨_, rfl⟩
     rw [← hs3] at hadd3
     have HS3 := Box.mk (show s3.data.toList = R by
      rw [HP.out, hs3, hs2, hs1, ← HF.out]
      simp)
     have HRP := Box.mk (show 0 < R.length by rw [HP.out]; simp; omega)
     have hcvb := fun W => Lib.run_convert_string_bytes (P := Tryz.prog) W 9 23 5 s3 Tryz.underlying9 Tryz.underlying23 Tryz.underlying5
     clear hs1 hs2 hs3 hs1z hs2z hv
     go_wp2_with fail
     refine (HFM.out _ HX2.out).mono ?_
     rintro e w3 ⟨rfl, hb3⟩
     have HB3 := Box.mk (below_trans HB2.out hb3)
     clear hb3
     go_wp2_with fail
     go_ret
     exact .inr ⟨w3, s3, HS3.out, HRP.out, rfl, rfl, HB3.out⟩
   · have hv2 : allB x = false := by rw [← Bool.not_eq_true]; exact hv
     rw [hv2] at he2
     subst he2
     have HP := Box.mk (HN.out (.inr hv2))
     clear hv hv2
     go_wp2_with fail
     go_ret
     exact .inl ⟨HP.out, rfl, HB2.out⟩
end Go.Proofs.YteoadfckcilalaaGreatDoor
namespace Go.Proofs.YteoadfckcilalaaGreatDoor
open Go.RowKit

structure Chk where
 ph : Int
 left : Int
 tr : Int
 line : List UInt8
def zeroC : Chk := ⟨0, 0, 0, []⟩
def szS (y : ByteArray) : ByteArray := ((splitS 59 y)[0]?).getD ⟨#[]⟩
def lineS (s : Chk) (y : ByteArray) : Int × Chk :=
 if s.ph = 0 then
  (if (parseS 16 1000000000 (szS y)).2 = 2 ∨ visS y = false then (2, zeroC)
  else if (parseS 16 1000000000 (szS y)).2 = 0 then (0, ⟨if (parseS 16 1000000000 (szS y)).1 = 0 then 3 else 1, (parseS 16 1000000000 (szS y)).1, s.tr, []⟩)
  else ((parseS 16 1000000000 (szS y)).2, zeroC))
 else if s.ph = 2 then (if y.size = 0 then (0, ⟨0, s.left, s.tr, []⟩) else (2, zeroC))
 else if s.ph = 3 then (if y.size = 0 then (0, ⟨4, s.left, s.tr, []⟩) else if (parseF y).isSome = true then (0, ⟨3, s.left, s.tr, []⟩) else (2, zeroC))
 else (0, ⟨s.ph, s.left, s.tr, []⟩)
def crB (l : List UInt8) : Bool := l.getLast? == some 13
def byteS (s : Chk) (t : Int) (x : UInt8) : Int × Chk :=
 if crB s.line = false then
  (if x = 10 then (2, zeroC) else if 128 < s.line.length + 1 ∧ ¬ x = 13 then (3, zeroC) else (0, ⟨s.ph, s.left, t, s.line ++ [x]⟩))
 else if x = 10 then lineS ⟨s.ph, s.left, t, []⟩ ⟨s.line.dropLast.toArray⟩ else (2, zeroC)
def stepS (s : Chk) (x : UInt8) : Int × Chk :=
 if s.ph = 3 then (if 1024 < s.tr + 1 then (3, zeroC) else byteS s (s.tr + 1) x) else byteS s s.tr x
def feedS (room : Int) : Chk → List UInt8 → Nat → List UInt8 → Int × Chk × List UInt8 × Nat
 | s, out, i, [] => (0, s, out, i)
 | s, out, i, x :: r =>
  if s.ph = 4 ∨ s.ph = 1 ∧ room ≤ out.length then (0, s, out, i)
  else if s.ph = 1 then feedS room ⟨if s.left - 1 = 0 then 2 else 1, s.left - 1, s.tr, s.line⟩ (out ++ [x]) (i + 1) r
  else if (stepS s x).1 = 0 then feedS room (stepS s x).2 out (i + 1) r
  else ((stepS s x).1, zeroC, [], 0)

def CVar (w : World) (g : Nat) (p l t : Int) (v : Value) : Prop := w.heap[g]? = some (.cells #[.int .i64 p, .int .i64 l, .int .i64 t, v] 35 (0, 0))
theorem CVar.keep {w w' : World} {g : Nat} {p l t : Int} {v : Value} (h : CVar w g p l t v) (hb : Below w.heap.size w w') : CVar w' g p l t v := by
 unfold CVar at *
 rw [hb.block g (Array.getElem?_eq_some_iff.1 h).1]; exact h
theorem CVar.lt {w : World} {g : Nat} {p l t : Int} {v : Value} (h : CVar w g p l t v) : g < w.heap.size := (Array.getElem?_eq_some_iff.1 h).1
theorem CVar.cells {w : World} {g : Nat} {p l t : Int} {v : Value} (h : CVar w g p l t v) : w.cell? ⟨g, 0, none⟩ = some (.int .i64 p) ∧ w.cell? ⟨g, 1, none⟩ = some (.int .i64 l) ∧ w.cell? ⟨g, 2, none⟩ = some (.int .i64 t) ∧ w.cell? ⟨g, 3, none⟩ = some v := by
 refine ⟨?_, ?_, ?_, ?_⟩ <;> rw [cell_of_row _ _ _ _ _ _ h] <;> rfl
theorem sizeC : (Tryz.prog.info? 35).map (·.size) = some 4 := by kernel_rfl
theorem oneC (p l t : Int) (a : Option Addr) (n c : Nat) : (#[.int .i64 p, .int .i64 l, .int .i64 t, .slice a n c] : Array Value).all (·.oneCell') = true := by simp [Value.oneCell']
theorem CVar.setV {w : World} {g : Nat} {p l t : Int} {v u : Value} (h : CVar w g p l t v) : CVar (w.setCell ⟨g, 3, none⟩ u) g p l t u := by
 unfold CVar; rw [heap_setCell_same _ _ _ _ _ _ h]; rfl
theorem CVar.setP {w : World} {g : Nat} {p l t z : Int} {v : Value} (h : CVar w g p l t v) : CVar (w.setCell ⟨g, 0, none⟩ (.int .i64 z)) g z l t v := by
 unfold CVar; rw [heap_setCell_same _ _ _ _ _ _ h]; rfl
theorem CVar.setL {w : World} {g : Nat} {p l t z : Int} {v : Value} (h : CVar w g p l t v) : CVar (w.setCell ⟨g, 1, none⟩ (.int .i64 z)) g p z t v := by
 unfold CVar; rw [heap_setCell_same _ _ _ _ _ _ h]; rfl
theorem CVar.setT {w : World} {g : Nat} {p l t z : Int} {v : Value} (h : CVar w g p l t v) : CVar (w.setCell ⟨g, 2, none⟩ (.int .i64 z)) g p l z v := by
 unfold CVar; rw [heap_setCell_same _ _ _ _ _ _ h]; rfl
theorem CVar.other {w : World} {g : Nat} {p l t : Int} {v u : Value} {x : Addr} (h : CVar w g p l t v) (hne : g ≠ x.block) : CVar (w.setCell x u) g p l t v := by
 unfold CVar; rw [heap_setCell_other _ _ _ _ hne]; exact h
theorem CVar.frozen {w : World} {g i : Nat} {p l t : Int} {v : Value} (h : CVar w g p l t v) : w.frozen? ⟨g, i, none⟩ = false := by
 unfold CVar at h; simp [World.frozen?, h]
section
variable {ops : Array Oper} {rest : List Oper} {o : Oper} {act : Act} {Q : Exit → Act → World → Prop} {w : World}
theorem wpList_store_slice {P : Program} (hgd : o.guard = none) (ty : TypeId) (x y : Operand) (ho : o.op = .store ty x y) {p : Addr} {sa : Option Addr} {sn sc : Nat} {u : Value} (hx : act.eval x = .pointer (some p)) (hy : act.eval y = .slice sa sn sc) (hi : (P.info? ty).map (·.size) = some 1)
  (hc : w.cell? p = some u) (hf : w.frozen? p = false) (h : wpList P ops Q rest (act.put o.dst undef) (w.setCell p (.slice sa sn sc))) : wpList P ops Q (o :: rest) act w :=
 wpList_plain hgd fun K hK => by
  have hz : (sizeOf ty).run P w = .ok 1 w := by
   cases hq : P.info? ty with
   | none => rw [hq] at hi; cases hi
   | some i => rw [hq] at hi; simp at hi; simp [sizeOf, typeInfo, hq, hi]
  have h2 := hK _ _ h
  unfold Oper.wp execOp
  simp_all [Instr.storeAt, Instr.sureAddr, storeVar, storeCells, Value.cells, go_sem]
end
theorem Own.setC {B g i : Nat} {w : World} {v u : Value} {l : List UInt8} (h : Own B w v l) (hg : g < B) : Own B (w.setCell ⟨g, i, none⟩ u) v l :=
 h.same fun k hk => heap_setCell_other _ _ _ _ (by have := (h.lt hk).1; show k ≠ g; omega)
theorem Own.bytes {B : Nat} {w : World} {a : Option Addr} {l : List UInt8} {n c : Nat} (h : Own B w (.slice a n c) l) : IsBytes w a l c := by
 obtain ⟨a', c', e, hb⟩ := h.val
 injection e with e1 e2 e3
 subst e1 e3
 exact hb
theorem last_cases (l : List UInt8) : l = [] ∨ ∃ m z, l = m ++ [z] := by
 rcases List.eq_nil_or_concat l with h | ⟨m, z, h⟩
 · exact .inl h
 · exact .inr ⟨m, z, by rw [h, List.concat_eq_append]⟩
theorem crB_app (m : List UInt8) (z : UInt8) : crB (m ++ [z]) = (z == 13) := by unfold crB; simp
end Go.Proofs.YteoadfckcilalaaGreatDoor
namespace Go.Proofs.YteoadfckcilalaaGreatDoor
open Go.RowKit

theorem byteS_ten {s : Chk} {t : Int} (h : crB s.line = false) : byteS s t 10 = (2, zeroC) := by unfold byteS; rw [if_pos h, if_pos rfl]
theorem byteS_long {s : Chk} {t : Int} {x : UInt8} (h : crB s.line = false) (hx : ¬ x = 10) (hl : 128 < s.line.length + 1) (h13 : ¬ x = 13) : byteS s t x = (3, zeroC) := by
 unfold byteS; rw [if_pos h, if_neg hx, if_pos ⟨hl, h13⟩]
theorem byteS_more {s : Chk} {t : Int} {x : UInt8} (h : crB s.line = false) (hx : ¬ x = 10) (hl : ¬ (128 < s.line.length + 1 ∧ ¬ x = 13)) : byteS s t x = (0, ⟨s.ph, s.left, t, s.line ++ [x]⟩) := by
 unfold byteS; rw [if_pos h, if_neg hx, if_neg hl]
theorem byteS_bad {s : Chk} {t : Int} {x : UInt8} (h : crB s.line = true) (hx : ¬ x = 10) : byteS s t x = (2, zeroC) := by
 unfold byteS; rw [if_neg (by rw [h]; decide), if_neg hx]
theorem byteS_line {m : List UInt8} {p l t0 t : Int} : byteS ⟨p, l, t0, m ++ [13]⟩ t 10 = lineS ⟨p, l, t, []⟩ ⟨m.toArray⟩ := by
 unfold byteS; rw [if_neg (by rw [crB_app]; decide), if_pos rfl]; simp
theorem isBytes_front {w : World} {a : Option Addr} {m : List UInt8} {z : UInt8} {c : Nat} (h : IsBytes w a (m ++ [z]) c) : IsBytes w a m c := by
 rcases h with ⟨_, e, _⟩ | ⟨x, e, h1, h2, h3⟩
 · simp at e
 · refine .inr ⟨x, e, by simp at h1; omega, h2, fun j hj => ?_⟩
   have := h3 j (by simp; omega)
   rwa [List.getElem_append_left hj] at this

end Go.Proofs.YteoadfckcilalaaGreatDoor
namespace Go.Proofs.YteoadfckcilalaaGreatDoor
open Go.RowKit

theorem lineS_bad {l t : Int} {y : ByteArray} (h : (parseS 16 1000000000 (szS y)).2 = 2 ∨ visS y = false) : lineS ⟨0, l, t, []⟩ y = (2, zeroC) := by
 unfold lineS; rw [if_pos rfl, if_pos h]
theorem lineS_size {l t : Int} {y : ByteArray} (h : ¬ ((parseS 16 1000000000 (szS y)).2 = 2 ∨ visS y = false)) (h0 : (parseS 16 1000000000 (szS y)).2 = 0) : lineS ⟨0, l, t, []⟩ y = (0, ⟨if (parseS 16 1000000000 (szS y)).1 = 0 then 3 else 1, (parseS 16 1000000000 (szS y)).1, t, []⟩) := by
 unfold lineS; rw [if_pos rfl, if_neg h, if_pos h0]
theorem lineS_big {l t : Int} {y : ByteArray} (h : ¬ ((parseS 16 1000000000 (szS y)).2 = 2 ∨ visS y = false)) (h0 : ¬ (parseS 16 1000000000 (szS y)).2 = 0) : lineS ⟨0, l, t, []⟩ y = ((parseS 16 1000000000 (szS y)).2, zeroC) := by
 unfold lineS; rw [if_pos rfl, if_neg h, if_neg h0]
end Go.Proofs.YteoadfckcilalaaGreatDoor
namespace Go.Proofs.YteoadfckcilalaaGreatDoor
open Go.RowKit

theorem parse_range (s : ByteArray) : 0 ≤ (parseS 16 1000000000 s).1 ∧ (parseS 16 1000000000 s).1 ≤ 1000000000 ∧ ((parseS 16 1000000000 s).2 = 0 ∨ (parseS 16 1000000000 s).2 = 2 ∨ (parseS 16 1000000000 s).2 = 3) := by
 unfold parseS
 split
 · rename_i h
   have hne : s.data.toList ≠ [] := by
    intro e
    unfold numS at h
    rw [e] at h; simp at h
   have h1 := vgo_ge 16 (by decide) s.data.toList 0 (by decide)
   rw [pgo_eq 16 1000000000 (by decide) _ 0 (by decide) (.inr hne)]
   split
   · exact ⟨h1, by assumption, .inl rfl⟩
   · exact ⟨by decide, by decide, .inr (.inr rfl)⟩
 · exact ⟨by decide, by decide, .inr (.inl rfl)⟩

structure OkC (s : Chk) : Prop where
 ph : 0 ≤ s.ph ∧ s.ph ≤ 4
 line : s.line.length ≤ 128 ∨ crB s.line = true ∧ s.line.length ≤ 129
 tr : 0 ≤ s.tr ∧ s.tr ≤ 1024
 tr0 : s.ph ≤ 2 → s.tr = 0
 data : s.ph = 1 → 1 ≤ s.left ∧ s.left ≤ 1000000000
 left : ¬ s.ph = 1 → s.left = 0
 empty : s.ph = 1 ∨ s.ph = 4 → s.line = []
theorem okC_mk {p l t : Int} {ln : List UInt8} (h1 : 0 ≤ p ∧ p ≤ 4) (h2 : ln.length ≤ 128 ∨ crB ln = true ∧ ln.length ≤ 129) (h3 : 0 ≤ t ∧ t ≤ 1024) (h4 : p ≤ 2 → t = 0) (h5 : p = 1 → 1 ≤ l ∧ l ≤ 1000000000) (h6 : ¬ p = 1 → l = 0) (h7 : p = 1 ∨ p = 4 → ln = []) : OkC ⟨p, l, t, ln⟩ := ⟨h1, h2, h3, h4, h5, h6, h7⟩
theorem isBytes_some {w : World} {a : Option Addr} {m : List UInt8} {z : UInt8} {c : Nat} (h : IsBytes w a (m ++ [z]) c) : ∃ ad, a = some ad := by
 rcases h with ⟨_, e, _⟩ | ⟨x, e, _⟩
 · simp at e
 · exact ⟨x, e⟩
theorem OkC.len {s : Chk} (h : OkC s) : s.line.length ≤ 129 := by
 rcases h.line with h | ⟨_, h⟩ <;> omega
theorem okC_zero : OkC zeroC := ⟨by decide, .inl (by decide), by decide, fun _ => rfl, fun h => absurd h (by decide), fun _ => rfl, fun _ => rfl⟩
theorem okC_line {s : Chk} {y : ByteArray} (h : OkC s) (hl : s.line = []) (h1 : ¬ s.ph = 1) (h0 : (lineS s y).1 = 0) : OkC (lineS s y).2 := by
 obtain ⟨p, l, t, ln⟩ := s
 simp only [] at hl h1
 subst hl
 have hp := h.ph
 have hlf := h.left h1
 simp only [] at hp hlf
 have hpr := parse_range (szS y)
 unfold lineS at h0 ⊢
 simp only [] at h0 ⊢
 by_cases e0 : p = 0
 · rw [if_pos e0] at h0 ⊢
   have ht := h.tr0 (by show p ≤ 2; omega)
   simp only [] at ht
   split at h0
   · simp at h0
   · rename_i hn
     rw [if_neg hn]
     split at h0
     · rename_i hz
       rw [if_pos hz]
       by_cases hn0 : (parseS 16 1000000000 (szS y)).1 = 0
       · simp only [if_pos hn0]
         exact okC_mk (by decide) (.inl (by decide)) (by omega) (fun h => absurd h (by decide)) (fun h => absurd h (by decide)) (fun _ => hn0) (fun _ => rfl)
       · simp only [if_neg hn0]
         exact okC_mk (by decide) (.inl (by decide)) (by omega) (fun _ => ht) (fun _ => by omega) (fun h => absurd rfl h) (fun _ => rfl)
     · rename_i hz
       exact absurd h0 hz
 · rw [if_neg e0] at h0 ⊢
   by_cases e2 : p = 2
   · rw [if_pos e2] at h0 ⊢
     have ht := h.tr0 (by show p ≤ 2; omega)
     simp only [] at ht
     split at h0
     · rename_i hs
       rw [if_pos hs]
       exact okC_mk (by decide) (.inl (by decide)) (by omega) (fun _ => ht) (fun h => absurd h (by decide)) (fun _ => hlf) (fun _ => rfl)
     · simp at h0
   · rw [if_neg e2] at h0 ⊢
     have htr := h.tr
     simp only [] at htr
     by_cases e3 : p = 3
     · rw [if_pos e3] at h0 ⊢
       split at h0
       · rename_i hs
         rw [if_pos hs]
         exact okC_mk (by decide) (.inl (by decide)) htr (fun h => absurd h (by decide)) (fun h => absurd h (by decide)) (fun _ => hlf) (fun _ => rfl)
       · rename_i hs
         rw [if_neg hs]
         split at h0
         · rename_i hf
           rw [if_pos hf]
           exact okC_mk (by decide) (.inl (by decide)) htr (fun h => absurd h (by decide)) (fun h => absurd h (by decide)) (fun _ => hlf) (fun _ => rfl)
         · simp at h0
     · rw [if_neg e3]
       exact okC_mk hp (.inl (by decide)) htr h.tr0 h.data h.left (fun _ => rfl)
theorem okC_byte {s : Chk} {t : Int} {x : UInt8} (h : OkC s) (h1 : ¬ s.ph = 1) (h4 : ¬ s.ph = 4) (ht : 0 ≤ t ∧ t ≤ 1024) (ht0 : s.ph ≤ 2 → t = 0) (h0 : (byteS s t x).1 = 0) : OkC (byteS s t x).2 := by
 unfold byteS at h0 ⊢
 by_cases hc : crB s.line = false
 · rw [if_pos hc] at h0 ⊢
   have hl : s.line.length ≤ 128 := by
    rcases h.line with h | ⟨h, _⟩
    · exact h
    · rw [hc] at h; cases h
   by_cases hx : x = 10
   · rw [if_pos hx] at h0; simp at h0
   · rw [if_neg hx] at h0 ⊢
     by_cases hb : 128 < s.line.length + 1 ∧ ¬ x = 13
     · rw [if_pos hb] at h0; simp at h0
     · rw [if_neg hb]
       refine ⟨h.ph, ?_, ht, ht0, h.data, h.left, fun e => ?_⟩
       · by_cases h13 : x = 13
         · exact .inr ⟨by show crB (s.line ++ [x]) = true; rw [crB_app, h13]; rfl, by show (s.line ++ [x]).length ≤ 129; simp; omega⟩
         · refine .inl ?_
           show (s.line ++ [x]).length ≤ 128
           simp
           have : ¬ 128 < s.line.length + 1 := fun h => hb ⟨h, h13⟩
           omega
       · rcases e with e | e
         · exact absurd e h1
         · exact absurd e h4
 · rw [if_neg hc] at h0 ⊢
   by_cases hx : x = 10
   · rw [if_pos hx] at h0 ⊢
     exact okC_line ⟨h.ph, .inl (by show ([] : List UInt8).length ≤ 128; simp), ht, ht0, h.data, h.left, fun _ => rfl⟩ rfl h1 h0
   · rw [if_neg hx] at h0; simp at h0
theorem okC_step {s : Chk} {x : UInt8} (h : OkC s) (h1 : ¬ s.ph = 1) (h4 : ¬ s.ph = 4) (h0 : (stepS s x).1 = 0) : OkC (stepS s x).2 := by
 unfold stepS at h0 ⊢
 by_cases h3 : s.ph = 3
 · rw [if_pos h3] at h0 ⊢
   by_cases hm : 1024 < s.tr + 1
   · rw [if_pos hm] at h0; simp at h0
   · rw [if_neg hm] at h0 ⊢
     exact okC_byte h h1 h4 (by have := h.tr; omega) (fun e => by omega) h0
 · rw [if_neg h3] at h0 ⊢
   exact okC_byte h h1 h4 h.tr h.tr0 h0
theorem okC_data {s : Chk} (h : OkC s) (h1 : s.ph = 1) : OkC ⟨if s.left - 1 = 0 then 2 else 1, s.left - 1, s.tr, s.line⟩ := by
 have hd := h.data h1
 by_cases e : s.left - 1 = 0
 · simp only [if_pos e]
   exact okC_mk (by decide) h.line h.tr (fun _ => h.tr0 (by omega)) (fun h => absurd h (by decide)) (fun _ => e) (fun _ => h.empty (.inl h1))
 · simp only [if_neg e]
   exact okC_mk (by decide) h.line h.tr (fun _ => h.tr0 (by omega)) (fun _ => by omega) (fun h => absurd rfl h) (fun _ => h.empty (.inl h1))
end Go.Proofs.YteoadfckcilalaaGreatDoor
namespace Go.Proofs.YteoadfckcilalaaGreatDoor
open Go.RowKit

theorem results_row_tmp3C {P : Program} {fn : Func} {q1 q2 q3 p : Tmp} {ty : TypeId} (h : fn.results = #[.cell p ty, .tmp q1, .tmp q2, .tmp q3]) (tmps : Array Value) (w : World) (g : Nat) (t : TypeId) (cs : Array Value) (fr : Nat × Nat) (d : TypeDesc)
  (hp : tmps.getD p undef = .pointer (some ⟨g, 0, none⟩)) (hg : w.heap[g]? = some (.cells cs t fr))
  (hu : P.underlying ty = some d) (hd : (match d with | .struct _ | .array _ _ => true | _ => false) = true) (hi : (P.info? ty).map (·.size) = some cs.size) :
  (results fn tmps).run P w = .ok (.tuple #[.agg cs, tmps.getD q1 undef, tmps.getD q2 undef, tmps.getD q3 undef]) w := by
 have hp' : tmps[p]?.getD undef = .pointer (some ⟨g, 0, none⟩) := by simpa using hp
 simp [results, h, hp', asAddr, run_loadVar_row w g t ty cs fr d hg hu hd hi]

theorem feedS_nil (room : Int) (s : Chk) (out : List UInt8) (i : Nat) : feedS room s out i [] = (0, s, out, i) := rfl
theorem feedS_stop {room : Int} {s : Chk} {out : List UInt8} {i : Nat} {x : UInt8} {r : List UInt8} (h : s.ph = 4 ∨ s.ph = 1 ∧ room ≤ out.length) : feedS room s out i (x :: r) = (0, s, out, i) := by rw [feedS, if_pos h]
theorem feedS_data {room : Int} {s : Chk} {out : List UInt8} {i : Nat} {x : UInt8} {r : List UInt8} (h1 : s.ph = 1) (h : ¬ room ≤ out.length) : feedS room s out i (x :: r) = feedS room ⟨if s.left - 1 = 0 then 2 else 1, s.left - 1, s.tr, s.line⟩ (out ++ [x]) (i + 1) r := by
  rw [feedS, if_neg (by rintro (h4 | h4); · omega
                        · exact h h4.2), if_pos h1]
theorem feedS_ok {room : Int} {s : Chk} {out : List UInt8} {i : Nat} {x : UInt8} {r : List UInt8} (h4 : ¬ s.ph = 4) (h1 : ¬ s.ph = 1) (h0 : (stepS s x).1 = 0) : feedS room s out i (x :: r) = feedS room (stepS s x).2 out (i + 1) r := by
  rw [feedS, if_neg (by rintro (h | h); · exact h4 h
                        · exact h1 h.1), if_neg h1, if_pos h0]
theorem feedS_err {room : Int} {s : Chk} {out : List UInt8} {i : Nat} {x : UInt8} {r : List UInt8} (h4 : ¬ s.ph = 4) (h1 : ¬ s.ph = 1) (h0 : ¬ (stepS s x).1 = 0) : feedS room s out i (x :: r) = ((stepS s x).1, zeroC, [], 0) := by
  rw [feedS, if_neg (by rintro (h | h); · exact h4 h
                        · exact h1 h.1), if_neg h1, if_neg h0]
theorem add_blockC (x : Addr) (j : Nat) : (x.add j).block = x.block := by unfold Addr.add; split <;> rfl
theorem isBytes_at {w : World} {a : Option Addr} {l : List UInt8} {c : Nat} (h : IsBytes w a l c) {k : Nat} (hk : k < l.length) : ∃ ad, a = some ad ∧ w.cell? (ad.add k) = some (.int .u8 (l[k].toNat : Int)) := by
 rcases h with ⟨_, e, _⟩ | ⟨x, e, _, _, hc⟩
 · subst e; simp at hk
 · exact ⟨x, e, hc k hk⟩
theorem CVar.away {w : World} {g : Nat} {p lf t : Int} {va : Option Addr} {n vc : Nat} {a : Option Addr} {l : List UInt8} {c : Nat} (h : CVar w g p lf t (.slice va n vc)) (hb : IsBytes w a l c) : ∀ x, a = some x → l ≠ [] → x.block ≠ g := by
 intro x hx hl hg
 rcases hb with ⟨h1, _⟩ | ⟨y, h1, _, _, h4⟩
 · rw [h1] at hx; cases hx
 · rw [h1] at hx
   obtain rfl := Option.some.inj hx
   have h5 := h4 0 (List.length_pos_iff.2 hl)
   have h6 : w.heap[(y.add 0).block]? = some (.cells #[.int .i64 p, .int .i64 lf, .int .i64 t, .slice va n vc] 35 (0, 0)) := by rw [add_blockC, hg]; exact h
   unfold World.cell? at h5
   rw [h6] at h5
   simp only at h5
   split at h5
   · cases h5
   · match hq : (y.add 0).off with
     | 0 => rw [hq] at h5; simp at h5
     | 1 => rw [hq] at h5; simp at h5
     | 2 => rw [hq] at h5; simp at h5
     | 3 => rw [hq] at h5; simp at h5
     | m + 4 => rw [hq] at h5; simp at h5
theorem CVar.setCB {w : World} {g i : Nat} {p lf t : Int} {va : Option Addr} {n vc : Nat} {a : Option Addr} {l : List UInt8} {c : Nat} {u : Value} (h : CVar w g p lf t (.slice va n vc)) (hb : IsBytes w a l c) : IsBytes (w.setCell ⟨g, i, none⟩ u) a l c :=
 hb.same fun x hx hl => heap_setCell_other _ _ _ _ (h.away hb x hx hl)
theorem CVar.set4 {w : World} {g : Nat} {p0 l0 t0 p l t : Int} {v0 u : Value} (h : CVar w g p0 l0 t0 v0) : CVar ((((w.setCell ⟨g, 0, none⟩ (.int .i64 p)).setCell ⟨g, 1, none⟩ (.int .i64 l)).setCell ⟨g, 2, none⟩ (.int .i64 t)).setCell ⟨g, 3, none⟩ u) g p l t u := h.setP.setL.setT.setV
theorem CVar.set4B {w : World} {g : Nat} {p0 l0 t0 p l t : Int} {va : Option Addr} {n vc : Nat} {u : Value} {a : Option Addr} {r : List UInt8} {c : Nat} (h : CVar w g p0 l0 t0 (.slice va n vc)) (hb : IsBytes w a r c) :
  IsBytes ((((w.setCell ⟨g, 0, none⟩ (.int .i64 p)).setCell ⟨g, 1, none⟩ (.int .i64 l)).setCell ⟨g, 2, none⟩ (.int .i64 t)).setCell ⟨g, 3, none⟩ u) a r c :=
 h.setP.setL.setT.setCB (h.setP.setL.setCB (h.setP.setCB (h.setCB hb)))
theorem below_set4 {B g : Nat} {w0 w : World} {u0 u1 u2 u3 : Value} (hb : Below B w0 w) (hg : B ≤ g) : Below B w0 ((((w.setCell ⟨g, 0, none⟩ u0).setCell ⟨g, 1, none⟩ u1).setCell ⟨g, 2, none⟩ u2).setCell ⟨g, 3, none⟩ u3) :=
 (((hb.setCell (p := ⟨g, 0, none⟩) hg u0).setCell (p := ⟨g, 1, none⟩) hg u1).setCell (p := ⟨g, 2, none⟩) hg u2).setCell (p := ⟨g, 3, none⟩) hg u3
theorem isBytes_oneC (w : World) (x : UInt8) : IsBytes (w.alloc (.cells #[.int .u8 (x.toNat : Int)] 5)) (some ⟨w.heap.size, 0, none⟩) [x] 1 := by
 refine .inr ⟨_, rfl, Nat.le_refl _, by decide, fun j hj => ?_⟩
 obtain rfl : j = 0 := by simpa using hj
 rw [Addr.add_lit, new_cellF]; rfl
theorem CVar.grownC {w w' : World} {g : Nat} {p l t : Int} {v : Value} {row : Option Nat} (h : CVar w g p l t v) (hg : w.grownBy w' row) (hne : some g ≠ row) : CVar w' g p l t v := by
 unfold CVar at *
 rw [hg.block g (Array.getElem?_eq_some_iff.1 h).1 hne]; exact h
theorem grownBy_afterC {w w1 w2 : World} {row : Option Nat} (h : Below w.heap.size w w1) (k : w1.grownBy w2 row) : w.grownBy w2 row :=
 ⟨k.os.trans h.os, k.tape.trans h.tape, k.output.trans h.output, Nat.le_trans h.size k.size, fun i hi hne => (k.block i (Nat.lt_of_lt_of_le hi h.size) hne).trans (h.block i hi)⟩
section
variable {Q : Exit → Act → World → Prop} {act : Act} {w : World} {o : Oper} {s : Spec} {K : Act → World → Prop}
theorem loc_loadB {x : Operand} {t : TypeId} (ho : o.op = .load t x) {p : Addr} (hx : act.eval x = .pointer (some p)) {v : Value} (hc : w.cell? p = some v) (ht : (isAgg t).run Tryz.prog w = .ok false w) (hs : s.p v w) :
  o.wp Tryz.prog act w (fun a' w' => ∃ v, a' = act.put o.dst v ∧ Below w.heap.size w w' ∧ s.p v w') Q :=
 loc_load ho (v := v) (by
  rw [hx]
  simp [Instr.loadAt, Instr.sureAddr, loadVar, hc, ht]) hs
end
section
variable {Q : Exit → Act → World → Prop} {act : Act} {w : World} {o : Oper} {s : Spec} {K : Act → World → Prop}
end
end Go.Proofs.YteoadfckcilalaaGreatDoor
namespace Go.Proofs.YteoadfckcilalaaGreatDoor
open Go.RowKit

structure RS where
 rep : Bool
 meth : ByteArray
 ph : Int
 m : ByteArray
 t : ByteArray
 z : Int
 xs : List Fld
 fr : Bool
 st : Int
 rs : ByteArray
 z2 : Int
 ys : List Fld
 fk : Int
 fl : Int
 left : Int
 size : Int
 ck : Chk
def zeroR : RS := ⟨false, ⟨#[]⟩, 0, ⟨#[]⟩, ⟨#[]⟩, 0, [], false, 0, ⟨#[]⟩, 0, [], 0, 0, 0, 0, zeroC⟩
structure NX where
 er : Int
 r : RS
 kind : Int
 data : List UInt8
 n : Nat
def errX (e : Int) : NX := ⟨e, zeroR, 0, [], 0⟩
def finX (x : RS) (f : Int × Int × Int) (n : Nat) (body : Int) : NX :=
 if f.2.2 ≠ 0 then errX (if f.2.2 = 3 then 9 else f.2.2)
 else if f.1 = 2 ∧ body < f.2.1 then errX 9
 else ⟨0, { x with fk := f.1, fl := f.2.1, left := f.2.1, size := 0, ck := zeroC, ph := 1 }, 1, [], n⟩
def headX (r : RS) (h : List UInt8) (body : Int) : NX :=
 if r.rep = true then
  (if (headA h).1 ≠ 0 then errX (headA h).1
  else if (headA h).2.1 = 101 then errX 2
  else if 100 ≤ (headA h).2.1 ∧ (headA h).2.1 ≤ 199 then ⟨0, r, 4, [], h.length⟩
  else finX { r with st := (headA h).2.1, rs := (headA h).2.2.1, z2 := (headA h).2.2.2.1, ys := (headA h).2.2.2.2 } (replyS r.meth (headA h).2.1 (headA h).2.2.2.1 (headA h).2.2.2.2) h.length body)
 else
  (if (headR h).1 ≠ 0 then errX (headR h).1
  else finX { r with m := (headR h).2.1, t := (headR h).2.2.1, z := (headR h).2.2.2.1, xs := (headR h).2.2.2.2, fr := !decide ((frameS (headR h).2.2.2.1 (headR h).2.2.2.2 1).1 = 1) } (frameS (headR h).2.2.2.1 (headR h).2.2.2.2 1) h.length body)
def firstX (r : RS) (b : List UInt8) (most body : Int) : NX :=
 if (endS b most).2 = 4 then ⟨0, r, 0, [], 0⟩
 else if (endS b most).2 ≠ 0 then errX (endS b most).2
 else headX r (b.take (endS b most).1.toNat) body
def minI (a b : Int) : Int := if a ≤ b then a else b
def moreX (r : RS) (b : List UInt8) (body room : Int) : NX :=
 if r.fk = 1 ∨ r.fk = 2 then
  (if r.fk = 1 ∨ r.left = 0 then ⟨0, { r with ph := 2 }, 3, [], 0⟩
  else if minI (minI r.left room) b.length = 0 then ⟨0, r, 0, [], 0⟩
  else ⟨0, { r with left := r.left - minI (minI r.left room) b.length, size := r.size + minI (minI r.left room) b.length }, 2, b.take (minI (minI r.left room) b.length).toNat, (minI (minI r.left room) b.length).toNat⟩)
 else if r.fk = 3 then
  (if (feedS (minI room (body + 1 - r.size)) r.ck [] 0 b).1 ≠ 0 then errX (feedS (minI room (body + 1 - r.size)) r.ck [] 0 b).1
  else if body < r.size + (feedS (minI room (body + 1 - r.size)) r.ck [] 0 b).2.2.1.length then errX 9
  else if 0 < (feedS (minI room (body + 1 - r.size)) r.ck [] 0 b).2.2.1.length then
   ⟨0, { r with ck := (feedS (minI room (body + 1 - r.size)) r.ck [] 0 b).2.1, size := r.size + (feedS (minI room (body + 1 - r.size)) r.ck [] 0 b).2.2.1.length }, 2, (feedS (minI room (body + 1 - r.size)) r.ck [] 0 b).2.2.1, (feedS (minI room (body + 1 - r.size)) r.ck [] 0 b).2.2.2⟩
  else if (feedS (minI room (body + 1 - r.size)) r.ck [] 0 b).2.1.ph = 4 then
   ⟨0, { r with ck := (feedS (minI room (body + 1 - r.size)) r.ck [] 0 b).2.1, ph := 2 }, 3, [], (feedS (minI room (body + 1 - r.size)) r.ck [] 0 b).2.2.2⟩
  else ⟨0, { r with ck := (feedS (minI room (body + 1 - r.size)) r.ck [] 0 b).2.1 }, 0, [], (feedS (minI room (body + 1 - r.size)) r.ck [] 0 b).2.2.2⟩)
 else
  (if minI (minI room b.length) (body + 1 - r.size) ≤ 0 then ⟨0, r, 0, [], 0⟩
  else if body < r.size + minI (minI room b.length) (body + 1 - r.size) then errX 9
  else ⟨0, { r with size := r.size + minI (minI room b.length) (body + 1 - r.size) }, 2, b.take (minI (minI room b.length) (body + 1 - r.size)).toNat, (minI (minI room b.length) (body + 1 - r.size)).toNat⟩)
def nextX (r : RS) (b : List UInt8) (most body room : Int) : NX :=
 if r.ph = 0 then firstX r b most body else if r.ph = 1 then moreX r b body (if room ≤ 0 then 0 else room) else ⟨0, r, 0, [], 0⟩
structure RMem (B : Nat → Prop) (w : World) (s : RS) (fa ga la : Option Addr) (lc : Nat) : Prop where
 f1 : FldsIn w fa s.xs
 f2 : FldsIn w ga s.ys
 ln : IsBytes w la s.ck.line lc
 n1 : ∀ y, fa = some y → s.xs ≠ [] → B y.block
 n2 : ∀ y, ga = some y → s.ys ≠ [] → B y.block
theorem RMem.keep {B : Nat → Prop} {w w' : World} {s : RS} {fa ga la : Option Addr} {lc : Nat} (h : RMem B w s fa ga la lc) (hb : Below w.heap.size w w') : RMem B w' s fa ga la lc :=
 ⟨h.f1.keep hb, h.f2.keep hb, h.ln.keep hb, h.n1, h.n2⟩
def RetX (B : Nat → Prop) (w : World) (x : NX) (e : Ending) (w' : World) : Prop :=
 ∃ fa fc ga gc la lc pa pc, e = .returned (.tuple #[.agg #[.bool x.r.rep, .string x.r.meth, .int .i64 x.r.ph, .string x.r.m, .string x.r.t, .int .i64 x.r.z, .slice fa (List.length x.r.xs) fc, .bool x.r.fr, .slice none 0 0, .int .i64 x.r.st, .string x.r.rs, .int .i64 x.r.z2, .slice ga (List.length x.r.ys) gc, .slice none 0 0, .int .i64 x.r.fk, .int .i64 x.r.fl, .int .i64 x.r.left, .int .i64 x.r.size, .int .i64 x.r.ck.ph, .int .i64 x.r.ck.left, .int .i64 x.r.ck.tr, .slice la (List.length x.r.ck.line) lc], .agg #[.int .i64 x.kind, .slice pa (List.length x.data) pc], .int .i64 x.n, .int .i64 x.er]) ∧ RMem B w' x.r fa ga la lc ∧ IsBytes w' pa x.data pc ∧ Below w.heap.size w w'
structure OkR (s : RS) : Prop where
 ck : OkC s.ck
 left : s.fk = 2 → 0 ≤ s.left ∧ s.left + s.size ≤ 1000000000
 size : 0 ≤ s.size ∧ s.size ≤ 1000000000
 xs : ShortF s.xs ∧ s.xs.length ≤ 64
 ys : ShortF s.ys ∧ s.ys.length ≤ 64

theorem results_rrttR {P : Program} {fn : Func} {q1 q2 p1 p2 : Tmp} {ty1 ty2 : TypeId} (h : fn.results = #[.cell p1 ty1, .cell p2 ty2, .tmp q1, .tmp q2]) (tmps : Array Value) (w : World) (g1 g2 : Nat) (t1 t2 : TypeId) (c1 c2 : Array Value) (f1 f2 : Nat × Nat) (d1 d2 : TypeDesc)
  (hp1 : tmps.getD p1 undef = .pointer (some ⟨g1, 0, none⟩)) (hp2 : tmps.getD p2 undef = .pointer (some ⟨g2, 0, none⟩)) (hg1 : w.heap[g1]? = some (.cells c1 t1 f1)) (hg2 : w.heap[g2]? = some (.cells c2 t2 f2))
  (hu1 : P.underlying ty1 = some d1) (hd1 : (match d1 with | .struct _ | .array _ _ => true | _ => false) = true) (hi1 : (P.info? ty1).map (·.size) = some c1.size)
  (hu2 : P.underlying ty2 = some d2) (hd2 : (match d2 with | .struct _ | .array _ _ => true | _ => false) = true) (hi2 : (P.info? ty2).map (·.size) = some c2.size) :
  (results fn tmps).run P w = .ok (.tuple #[.agg c1, .agg c2, tmps.getD q1 undef, tmps.getD q2 undef]) w := by
 have hp1' : tmps[p1]?.getD undef = .pointer (some ⟨g1, 0, none⟩) := by simpa using hp1
 have hp2' : tmps[p2]?.getD undef = .pointer (some ⟨g2, 0, none⟩) := by simpa using hp2
 simp [results, h, hp1', hp2', asAddr, run_loadVar_row w g1 t1 ty1 c1 f1 d1 hg1 hu1 hd1 hi1, run_loadVar_row w g2 t2 ty2 c2 f2 d2 hg2 hu2 hd2 hi2]
theorem sizeRd : (Tryz.prog.info? 37).map (·.size) = some 22 := by kernel_rfl
theorem sizePt : (Tryz.prog.info? 41).map (·.size) = some 2 := by kernel_rfl
def RVr (w : World) (g : Nat) (cs : Array Value) : Prop := w.heap[g]? = some (.cells cs 37 (0, 0))
theorem RVr.keep {w w' : World} {g : Nat} {cs : Array Value} (h : RVr w g cs) (hb : Below w.heap.size w w') : RVr w' g cs := by
 unfold RVr at *
 rw [hb.block g (Array.getElem?_eq_some_iff.1 h).1]; exact h
theorem RVr.lt {w : World} {g : Nat} {cs : Array Value} (h : RVr w g cs) : g < w.heap.size := (Array.getElem?_eq_some_iff.1 h).1
theorem RVr.cell {w : World} {g : Nat} {cs : Array Value} (h : RVr w g cs) (i : Nat) : w.cell? ⟨g, i, none⟩ = cs[i]? := cell_of_row _ _ _ _ _ _ h
def PVr (w : World) (g : Nat) (cs : Array Value) : Prop := w.heap[g]? = some (.cells cs 41 (0, 0))
theorem PVr.keep {w w' : World} {g : Nat} {cs : Array Value} (h : PVr w g cs) (hb : Below w.heap.size w w') : PVr w' g cs := by
 unfold PVr at *
 rw [hb.block g (Array.getElem?_eq_some_iff.1 h).1]; exact h
end Go.Proofs.YteoadfckcilalaaGreatDoor
namespace Go.Proofs.YteoadfckcilalaaGreatDoor
open Go.RowKit

theorem fieldsGo_le (M : Nat) : ∀ (l : List ByteArray) (x : List Fld), fieldsGo l = some x → (∀ s ∈ l, s.size ≤ M) → ∀ f ∈ x, f.1.size ≤ M ∧ f.2.size ≤ M
 | [], x, h, _ => by
  cases h
  exact fun f hf => absurd hf (by simp)
 | t :: l, x, h, hz => by
  unfold fieldsGo at h
  cases ht : parseF t with
  | none => rw [ht] at h; cases h
  | some f =>
   rw [ht] at h
   simp only at h
   cases hx : fieldsGo l with
   | none => rw [hx] at h; cases h
   | some y =>
    rw [hx] at h
    simp only [Option.map_some, Option.some.injEq] at h
    subst h
    have h1 := fieldsGo_le M l y hx (fun s hs => hz s (List.mem_cons_of_mem _ hs))
    have h3 := parseF_small ht
    have h4 := hz t (List.mem_cons_self ..)
    intro g hg
    rcases List.mem_cons.1 hg with rfl | hg
    · exact ⟨Nat.le_trans h3.1 h4, Nat.le_trans h3.2 h4⟩
    · exact h1 g hg
theorem fieldsS_sm {l : List ByteArray} (hz : ∀ s ∈ l, s.size ≤ 1000000) : SmallF (fieldsS l).2 ∧ (fieldsS l).2.length ≤ 64 := by
 unfold fieldsS
 split
 · exact ⟨fun f hf => absurd hf (by simp), by simp⟩
 · rename_i h64
   cases hx : fieldsGo l with
   | none => exact ⟨fun f hf => absurd hf (by simp), by simp⟩
   | some y =>
    have h1 := fieldsGo_le 1000000 l y hx hz
    have h2 := (fieldsGo_small l y hx (fun s hs => Nat.le_trans (hz s hs) (by decide))).2
    exact ⟨fun f hf => ⟨Nat.le_trans (h1 f hf).1 (by decide), Nat.le_trans (h1 f hf).2 (by decide)⟩, by simp only; omega⟩
theorem small_nil : SmallF [] ∧ ([] : List Fld).length ≤ 64 := ⟨fun f hf => absurd hf (by simp), by simp⟩
theorem headA_sm {b : List UInt8} (hl : b.length ≤ 1000000) : SmallF (headA b).2.2.2.2 ∧ (headA b).2.2.2.2.length ≤ 64 := by
 unfold headA
 split
 · rename_i l0 ls hL
   have hz := (linesS_facts hL).1
   split
   · split
     · exact fieldsS_sm fun s hs => Nat.le_trans (hz s (List.mem_cons_of_mem _ hs)) hl
     · exact small_nil
   · exact small_nil
 · exact small_nil
theorem headR_sm {b : List UInt8} (hl : b.length ≤ 1000000) : SmallF (headR b).2.2.2.2 ∧ (headR b).2.2.2.2.length ≤ 64 := by
 unfold headR
 split
 · rename_i l0 ls hL
   have hz := (linesS_facts hL).1
   split
   · split
     · split
       · exact small_nil
       · exact fieldsS_sm fun s hs => Nat.le_trans (hz s (List.mem_cons_of_mem _ hs)) hl
     · exact small_nil
   · exact small_nil
 · exact small_nil
theorem total_sm {l : List Fld} (h : SmallF l) (hl : l.length ≤ 64) (n : ByteArray) : total (valuesL l n) ≤ 4000000000 := Nat.le_trans (total_values h n) (Nat.le_trans (Nat.mul_le_mul_right _ hl) (by decide))
theorem endS_ok {b : List UInt8} {most : Int} (h : (endS b most).2 = 0) : ∃ n : Nat, endS b most = ((n : Int), 0) ∧ 4 ≤ n ∧ n ≤ b.length := by
 unfold endS at h ⊢
 split at h
 · rename_i hc
   rcases endGo_range b 0 with h1 | ⟨k, h1, h2, h3⟩
   · have : endZ b = -1 := h1
     omega
   · have h4 : endZ b = k := h1
     rw [if_pos hc, h4]
     exact ⟨k, rfl, by omega, by omega⟩
 · split at h <;> cases h
end Go.Proofs.YteoadfckcilalaaGreatDoor
namespace Go.Proofs.YteoadfckcilalaaGreatDoor
open Go.RowKit

theorem oneRd (r : Bool) (p : ByteArray) (a2 : Int) (a3 a4 : ByteArray) (a5 : Int) (x6 : Option Addr) (n6 c6 : Nat) (b7 : Bool) (a9 : Int) (a10 : ByteArray) (a11 : Int) (x12 : Option Addr) (n12 c12 : Nat) (a14 a15 a16 a17 a18 a19 a20 : Int) (x21 : Option Addr) (n21 c21 : Nat) : (#[.bool r, .string p, .int .i64 a2, .string a3, .string a4, .int .i64 a5, .slice x6 n6 c6, .bool b7, .slice none 0 0, .int .i64 a9, .string a10, .int .i64 a11, .slice x12 n12 c12, .slice none 0 0, .int .i64 a14, .int .i64 a15, .int .i64 a16, .int .i64 a17, .int .i64 a18, .int .i64 a19, .int .i64 a20, .slice x21 n21 c21] : Array Value).all (·.oneCell') = true := by simp [Value.oneCell']
theorem onePt (k : Int) (a : Option Addr) (n c : Nat) : (#[.int .i64 k, .slice a n c] : Array Value).all (·.oneCell') = true := by simp [Value.oneCell']
section
variable (B : Nat → Prop) (s : RS) (b : List UInt8) (most body : Int) (ba : Option Addr) (bc : Nat) (fa ga la : Option Addr) (fc gc lc : Nat) (w : World)
end
end Go.Proofs.YteoadfckcilalaaGreatDoor
namespace Go.Proofs.YteoadfckcilalaaGreatDoor
open Go.RowKit

section
variable {w wr : World} {g : Nat} {s : St} {n : Int} {dt tv bv : Value} {blk : List UInt8}
end
section
variable {P : Program} {ops : Array Oper} {rest : List Oper} {o : Oper} {a : Act} {w : World} {Q : Exit → Act → World → Prop}
theorem wpList_store_sub (hgd : o.guard = none) (ty : TypeId) (x y : Operand) (ho : o.op = .store ty x y)
  (g off : Nat) (cells : Array Value) (hx : a.eval x = .pointer (some ⟨g, off, none⟩)) (hy : a.eval y = .agg cells)
  (t : TypeId) (cur new : Array Value) (hg : w.heap[g]? = some (.cells cur t (0, 0))) (hi : (P.info? ty).map (·.size) = some cells.size)
  (hfit : off + cells.size ≤ cur.size) (h1 : cells.all (·.oneCell') = true) (hn : (cur.toList.take off ++ cells.toList ++ cur.toList.drop (off + cells.size)).toArray = new)
  (h : wpList P ops Q rest (a.put o.dst undef) (w.setRow g new)) : wpList P ops Q (o :: rest) a w :=
 wpList_plain hgd fun K hK => by
  have hst := run_storeCells_at P g off t cells.toList 0 cur w hg (by simpa using hfit) (fun v hv => (Array.all_eq_true_iff_forall_mem.1 h1) v (by simpa using hv))
  have hsv : (storeVar ty ⟨g, off, none⟩ (.agg cells)).run P w = .ok () (w.setRow g new) := by
   cases hq : P.info? ty with
   | none => simp [hq] at hi
   | some i =>
    have hs : cells.size = i.size := by simp [hq] at hi; omega
    rw [← hn]
    simpa [storeVar, sizeOf, typeInfo, hq, Value.cells, hs] using hst
  unfold Oper.wp execOp
  simp only [ho, hx, hy, Instr.storeAt, Instr.sureAddr, Sem.run_bind, Sem.run_pure, Result.andThen_ok, hsv]
  exact hK _ _ h
end
end Go.Proofs.YteoadfckcilalaaGreatDoor
namespace Go.Proofs.YteoadfckcilalaaGreatDoor
open Go.RowKit

theorem isBytes_takeR {w : World} {a : Option Addr} {l : List UInt8} {c : Nat} (h : IsBytes w a l c) (k : Nat) : IsBytes w a (l.take k) c := by
 rcases h with ⟨h1, h2, h3⟩ | ⟨x, h1, h2, h3, h4⟩
 · subst h3
   exact .inl ⟨h1, by rw [h2, List.take_nil], rfl⟩
 · refine .inr ⟨x, h1, Nat.le_trans (by rw [List.length_take]; omega) h2, h3, fun j hj => ?_⟩
   have hj2 : j < l.length := by rw [List.length_take] at hj; omega
   rw [List.getElem_take]
   exact h4 j hj2
section
variable (B : Nat → Prop) (s : RS) (b : List UInt8) (most body : Int) (ba : Option Addr) (bc : Nat) (fa ga la : Option Addr) (fc gc lc : Nat) (w : World)
end
end Go.Proofs.YteoadfckcilalaaGreatDoor
namespace Go.Proofs.YteoadfckcilalaaGreatDoor
open Go.RowKit

theorem run_loadRR (w : World) (g : Nat) (cs : Array Value) (h : RVr w g cs) (hs : cs.size = 22) : (Instr.loadAt 37 (.pointer (some ⟨g, 0, none⟩))).run Tryz.prog w = .ok (.agg cs) w := by
 unfold RVr at h
 simp [Instr.loadAt, Instr.sureAddr, run_loadVar_row w g _ 37 _ _ _ h Tryz.underlying37 rfl (by rw [hs]; exact sizeRd)]
section
variable {Q : Exit → Act → World → Prop} {a : Act} {w : World} {o : Oper} {s : Spec}
end
end Go.Proofs.YteoadfckcilalaaGreatDoor
