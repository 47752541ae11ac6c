/- The project's reader: readChunks: errors. The project's reader: readChunks. -/
import Derived.Test.YtejbkbccljoldaaGreatDoorPk1
import Derived.Test.YtejbkbccljoldaaGreatDoorPk2
import Derived.Test.YtejbkbccljoldaaGreatDoorPk3
import Derived.Test.YtejbkbccljoldaaGreatDoorPk4
import Derived.Test.YtejbkbccljoldaaGreatDoorPk5
import Derived.Test.YtejbkbccljoldaaGreatDoorPk7
import Derived.Test.YtejbkbccljoldaaGreatDoorRows
import Derived.WalkKit
import Derived.WalkSpells
import Derived.WalkLawsBesides
import Derived.BigQuiet
import Derived.Deep.QuietTactic
import Derived.Lib.Bytealg
import Derived.Lib.IndexLaws
import Derived.Lib.Hide
import Derived.Laws.IdiomStrings
import Derived.Lib.SlTrimSet
import Derived.Lib.IndexBytes
import Derived.Lib.Split
import Derived.Deep.AppendLies
import Derived.Shelf.Strings.SlTrimAscii
import Derived.Shelf.Strings.SplitShaped
import Derived.Shelf.LaysM
import Derived.Shelf.Strings.BuilderK
import Derived.Shelf.Strconv.Itoa4
import Derived.Shelf.Strings.Prefix
import Derived.Shelf.Bytes.SlIndexWhole
import Derived.Test.YtejbkbccljoldaaGreatDoorProg
import Derived.Lib.SplitLaws
import Derived.WalkSmall
import Derived.ProofKit
import Derived.OpenShut
import Derived.Lib.Strings
import Derived.SliceStrings
import Derived.Deep.Quiet
import Derived.Tactics
import Derived.KernelRfl
import Derived.Below
import Derived.Laws.Bits64
import Derived.Lib.SlBytesConst
import Derived.Maps.AppendAt
import Derived.Laws.AppendOwnNone
import Derived.Great.BuildSlice
import Derived.Laws.Rows
import Derived.Laws.BitsAllLaws
import Derived.Laws.Shifts
import Derived.Maps.OwnOps
import Derived.Maps.OwnSet
import Derived.Deep.SlicePairs
import Derived.Lib.AppendZerosOnto
import Derived.Lib.AppendStr
import Derived.Laws.CopyOwn
import Derived.OwnWalk
import Derived.Laws.Strings3
import Derived.Laws.Concat
import Derived.Lib.ItoaMem
import Derived.Deep.RegionHeld3
import Derived.IntWalk
import Derived.Laws.RangeAny
import Derived.LoopTactic
import Derived.Sort.Grow
import Derived.Lib.ConvBytes
import Derived.Deep.DeepCutAuto
import Derived.Deep.MidRow
import Derived.Laws.Tables
import Derived.Deep.WholeRow
import Derived.StillTailTactics
import Derived.Deep.CutBlock
import Derived.Lib.LaidTab
import Derived.LaidSub
import Derived.Laws.Bits64b
import Derived.Lib.FrozenHead2
import Derived.Deep.Matrix
import Derived.Lib.LazyBuf
namespace Go.Proofs.YtejbkbccljoldaaGreatDoor
open Go.RowKit

set_option linter.unusedVariables false
/-- What Feed returned, wherever it lies. -/
def FedR (N : Nat) (er : Int) (c : Chk) (out : List UInt8) (n : Nat) (w : World) (v : Value) : Prop := ∃ a cc oa oc, v = .tuple #[.agg #[.int .i64 c.ph, .int .i64 c.left, .int .i64 c.tr, .slice a c.line.length cc], .slice oa out.length oc, .int .i64 n, .int .i64 er] ∧ IsBytes w a c.line cc ∧ IsBytes w oa out oc ∧ ∀ y, a = some y → c.line ≠ [] → N ≤ y.block
def Spec.fedR (N : Nat) (er : Int) (c : Chk) (out : List UInt8) (n : Nat) : Spec := ⟨fun v w => FedR N er c out n w v, fun _ _ _ h hb => by
  obtain ⟨a, cc, oa, oc, h1, h2, h3, h4⟩ := h
  exact ⟨a, cc, oa, oc, h1, h2.keep hb, h3.keep hb, h4⟩⟩
def AgR (N : Nat) (c : Chk) (w : World) (v : Value) : Prop := ∃ a cc, v = .agg #[.int .i64 c.ph, .int .i64 c.left, .int .i64 c.tr, .slice a c.line.length cc] ∧ IsBytes w a c.line cc ∧ ∀ y, a = some y → c.line ≠ [] → N ≤ y.block
def Spec.agR (N : Nat) (c : Chk) : Spec := ⟨fun v w => AgR N c w v, fun _ _ _ h hb => by
  obtain ⟨a, cc, h1, h2, h3⟩ := h
  exact ⟨a, cc, h1, h2.keep hb, h3⟩⟩
def CNewR (B : Nat) (w : World) (v : Value) : Prop := ∃ g, v = .pointer (some ⟨g, 0, none⟩) ∧ B ≤ g ∧ CVar w g 0 0 0 (.slice none 0 0)
def Spec.cnewR (B : Nat) : Spec := ⟨fun v w => CNewR B w v, fun _ _ _ h hb => by
  obtain ⟨g, h1, h2, h3⟩ := h
  exact ⟨g, h1, h2, h3.keep hb⟩⟩
def CStR (B : Nat) (c : Chk) (w : World) (v : Value) : Prop := ∃ g a cc, v = .pointer (some ⟨g, 0, none⟩) ∧ B ≤ g ∧ CVar w g c.ph c.left c.tr (.slice a c.line.length cc) ∧ IsBytes w a c.line cc ∧ ∀ y, a = some y → c.line ≠ [] → B ≤ y.block
def Spec.cstR (B : Nat) (c : Chk) : Spec := ⟨fun v w => CStR B c w v, fun _ _ _ h hb => by
  obtain ⟨g, a, cc, h1, h2, h3, h4, h5⟩ := h
  exact ⟨g, a, cc, h1, h2, h3.keep hb, h4.keep hb, h5⟩⟩
theorem fedR_row {w : World} {g : Nat} {cs : Array Value} {T : TypeId} {fz : Nat × Nat} {ds : Array Value} {N : Nat} {er : Int} {c : Chk} {out : List UInt8} {n : Nat} {v : Value} (h : w.heap[g]? = some (.cells cs T fz)) (hn : NoU8 cs) (f : FedR N er c out n w v) : FedR N er c out n (w.setRow g ds) v := by
  obtain ⟨a, cc, oa, oc, h1, h2, h3, h4⟩ := f
  exact ⟨a, cc, oa, oc, h1, h2.same fun x e hl => setRow_other _ _ _ _ (row_awayR h hn h2 x e hl), h3.same fun x e hl => setRow_other _ _ _ _ (row_awayR h hn h3 x e hl), h4⟩
theorem isBytes_rowR {w : World} {g : Nat} {cs : Array Value} {T : TypeId} {fz : Nat × Nat} {ds : Array Value} {a : Option Addr} {l : List UInt8} {c : Nat} (h : w.heap[g]? = some (.cells cs T fz)) (hn : NoU8 cs) (f : IsBytes w a l c) : IsBytes (w.setRow g ds) a l c := f.same fun x e hl => setRow_other _ _ _ _ (row_awayR h hn f x e hl)
theorem grownR_row {w w' : World} {g : Nat} {cs : Array Value} {a : Option Addr} {l : List UInt8} {c : Nat} (hm : MVr w g cs) (hn : NoU8 cs) (h : IsBytes w a l c) (hg : w.grownBy w' (some g)) : IsBytes w' a l c := h.grownR hg (row_awayR hm hn h)
theorem bytesV_rowR {w : World} {g : Nat} {cs : Array Value} {T : TypeId} {fz : Nat × Nat} {ds : Array Value} {out : List UInt8} {v : Value} (h : w.heap[g]? = some (.cells cs T fz)) (hn : NoU8 cs) (f : BytesV w v out) : BytesV (w.setRow g ds) v out := by
  obtain ⟨a, c, h1, h2⟩ := f
  exact ⟨a, c, h1, h2.same fun x e hl => setRow_other _ _ _ _ (row_awayR h hn h2 x e hl)⟩
section
variable {Q : Exit → Act → World → Prop} {act : Act} {w : World} {o : Oper} {s : Spec}
theorem loc_allocCR (ho : o.op = .alloc 35) {B : Nat} (hB : B ≤ w.heap.size) (hs : ∀ v w', CNewR B w' v → s.p v w') :
    o.wp Tryz.prog act w (fun a' w' => ∃ v, a' = act.put o.dst v ∧ Below w.heap.size w w' ∧ s.p v w') Q := by
  have hz : (Tryz.prog.info? 35).bind (·.zero) = some (.agg #[.int .i64 0, .int .i64 0, .int .i64 0, .slice none 0 0]) := by kernel_rfl
  refine loc_run (v := .pointer (some ⟨w.heap.size, 0, none⟩)) (w' := w.alloc (.cells #[.int .i64 0, .int .i64 0, .int .i64 0, .slice none 0 0] 35)) ?_ (below_oneF _ _) (hs _ _ ⟨_, rfl, hB, heap_alloc_new _ _⟩)
  cases hq : Tryz.prog.info? 35 with
  | none => rw [hq] at hz; cases hz
  | some i =>
    rw [hq] at hz
    simp only [Option.bind_some] at hz
    unfold execOp
    simp [ho, Instr.alloc, zeroValue, typeInfo, hq, hz, newRow, newVar, Value.cells]
theorem loc_extractR0 {x : Operand} (ho : o.op = .extract x 0) {v0 v1 v2 v3 : Value} (hx : act.eval x = .tuple #[v0, v1, v2, v3]) (hs : s.p v0 w) :
    o.wp Tryz.prog act w (fun a' w' => ∃ v, a' = act.put o.dst v ∧ Below w.heap.size w w' ∧ s.p v w') Q :=
  loc_run (v := v0) (by unfold execOp; simp [ho, hx, Instr.extract]) (Below.refl _ _) hs
theorem loc_extractR1 {x : Operand} (ho : o.op = .extract x 1) {v0 v1 v2 v3 : Value} (hx : act.eval x = .tuple #[v0, v1, v2, v3]) (hs : s.p v1 w) :
    o.wp Tryz.prog act w (fun a' w' => ∃ v, a' = act.put o.dst v ∧ Below w.heap.size w w' ∧ s.p v w') Q :=
  loc_run (v := v1) (by unfold execOp; simp [ho, hx, Instr.extract]) (Below.refl _ _) hs
theorem loc_extractR2 {x : Operand} (ho : o.op = .extract x 2) {v0 v1 v2 v3 : Value} (hx : act.eval x = .tuple #[v0, v1, v2, v3]) (hs : s.p v2 w) :
    o.wp Tryz.prog act w (fun a' w' => ∃ v, a' = act.put o.dst v ∧ Below w.heap.size w w' ∧ s.p v w') Q :=
  loc_run (v := v2) (by unfold execOp; simp [ho, hx, Instr.extract]) (Below.refl _ _) hs
theorem loc_extractR3 {x : Operand} (ho : o.op = .extract x 3) {v0 v1 v2 v3 : Value} (hx : act.eval x = .tuple #[v0, v1, v2, v3]) (hs : s.p v3 w) :
    o.wp Tryz.prog act w (fun a' w' => ∃ v, a' = act.put o.dst v ∧ Below w.heap.size w w' ∧ s.p v w') Q :=
  loc_run (v := v3) (by unfold execOp; simp [ho, hx, Instr.extract]) (Below.refl _ _) hs
end
theorem run_loadLm (w : World) (g : Nat) (x y z : Int) (h : LVr w g x y z) : (Instr.loadAt 80 (.pointer (some ⟨g, 0, none⟩))).run Tryz.prog w = .ok (.agg #[.int .i64 x, .int .i64 y, .int .i64 z]) w := by
  unfold LVr at h
  simp [Instr.loadAt, Instr.sureAddr, run_loadVar_row w g _ 80 _ _ _ h Tryz.underlying80 rfl sizeLm]
set_option maxRecDepth 100000 in
set_option maxHeartbeats 2000000 in
theorem mChunk_err (s : RS) (b : List UInt8) (most body room : Int) (ba : Option Addr) (bc : Nat) (fa ga la : Option Addr) (fc gc lc : Nat) (g : Nat) (w : World) (hb : IsBytes w ba b bc) (hl : b.length ≤ 1000000) (hm : MVr w g #[.bool s.rep, .string s.meth, .int .i64 s.ph, .string s.m, .string s.t, .int .i64 s.z, .slice fa (List.length s.xs) fc, .bool s.fr, .slice none 0 0, .int .i64 s.st, .string s.rs, .int .i64 s.z2, .slice ga (List.length s.ys) gc, .slice none 0 0, .int .i64 s.fk, .int .i64 s.fl, .int .i64 s.left, .int .i64 s.size, .int .i64 s.ck.ph, .int .i64 s.ck.left, .int .i64 s.ck.tr, .slice la (List.length s.ck.line) lc]) (hln : IsBytes w la s.ck.line lc) (hck : OkC s.ck) (hsz : 0 ≤ s.size ∧ s.size ≤ 1000000000) (hy : 0 ≤ body ∧ body ≤ 1000000000) (hr0 : 0 ≤ room ∧ room ≤ 1000000000) (er : Int) (c : Chk) (out : List UInt8) (n : Nat) (hF : feedS (minI room (body + 1 - s.size)) s.ck [] 0 b = (er, c, out, n)) (hol : out.length ≤ 1000000) (h0 : ¬ er = 0) :
    Calls Tryz.prog 68 #[.pointer (some ⟨g, 0, none⟩), .slice ba b.length bc, .agg #[.int .i64 most, .int .i64 body, .int .i64 room]] w fun e w' => e = .returned (.tuple #[.agg #[.int .i64 0, .slice none 0 0], .int .i64 0, .int .i64 er]) ∧ w.grownBy w' (some g) := by
  obtain ⟨cs, hcs⟩ : ∃ cs : Array Value, cs = #[.bool s.rep, .string s.meth, .int .i64 s.ph, .string s.m, .string s.t, .int .i64 s.z, .slice fa (List.length s.xs) fc, .bool s.fr, .slice none 0 0, .int .i64 s.st, .string s.rs, .int .i64 s.z2, .slice ga (List.length s.ys) gc, .slice none 0 0, .int .i64 s.fk, .int .i64 s.fl, .int .i64 s.left, .int .i64 s.size, .int .i64 s.ck.ph, .int .i64 s.ck.left, .int .i64 s.ck.tr, .slice la (List.length s.ck.line) lc] := ⟨_, rfl⟩
  have HCS := Box.mk hcs
  rw [← hcs] at hm
  have hcs22 : cs.size = 22 := by rw [hcs]; rfl
  clear hcs
  obtain ⟨W1, hW1⟩ : ∃ W1, W1 = (w.alloc (.cells #[.int .i64 most, .int .i64 body, .int .i64 room] 80)).alloc (.cells #[.int .i64 0, .slice none 0 0] 41) := ⟨_, rfl⟩
  have HB1 := Box.mk (show Below w.heap.size w W1 by rw [hW1]; exact below_twoF (below_oneF _ _) _)
  have HL1 := Box.mk (show LVr W1 w.heap.size most body room by rw [hW1]; exact LVr.keep (heap_alloc_new w (.cells #[.int .i64 most, .int .i64 body, .int .i64 room] 80)) (below_oneF _ _))
  have HO := Box.mk (show PVr W1 (w.heap.size + 1) #[.int .i64 0, .slice none 0 0] by
    have h := heap_alloc_new (w.alloc (.cells #[.int .i64 most, .int .i64 body, .int .i64 room] 80)) (.cells #[.int .i64 0, .slice none 0 0] 41)
    rw [World.size_alloc] at h
    rw [hW1]; exact h)
  have HW1 := Box.mk hW1
  have HM1 := Box.mk (hm.keep HB1.out)
  have hlt := hm.lt
  have hlw : w.heap.size + 1 < W1.heap.size := (Array.getElem?_eq_some_iff.1 HO.out).1
  clear hW1 hm
  have HN := Box.mk (show NoU8 cs by rw [HCS.out]; exact noU8_22 rfl)
  have HBB := Box.mk (hb.keep HB1.out)
  have HLN := Box.mk (hln.keep HB1.out)
  have H17 := Box.mk (show cs[17]? = some (.int .i64 s.size) by rw [HCS.out]; rfl)
  have HCK := Box.mk hck
  obtain ⟨rk, hrk⟩ : ∃ rk : Int, rk = minI room (body + 1 - s.size) := ⟨_, rfl⟩
  have hrkb : -9223372036854775808 ≤ rk ∧ rk ≤ 9223372036854775807 := by have := minI_le room (body + 1 - s.size); rw [hrk]; omega
  have HRK := Box.mk hrk
  have HSZ := Box.mk hsz
  have HY := Box.mk hy
  have HFE := Box.mk (show feedS rk s.ck [] 0 b = (er, c, out, n) by rw [hrk]; exact hF)
  obtain ⟨hsz0, hsz1⟩ := hsz
  clear hb hln hck hF hrk hy
  go_enter Tryz.func68, Tryz.ntmps68
  go_upto_region 1 with fail
  rw [← HW1.out]
  clear HW1
  go_wp2_with fail
  rename_i KK hKK
  refine wp_region_phases [15] (fun p => match p with | 0 => [0, 1, 2, 3, 4, 5, 6, 7, 8, 9, 10, 11, 12, 13, 14] | _ => [11, 12, 13, 16, 17, 18])
    (fun p => match p with | 0 => [.val (.pointer (some ⟨g, 0, none⟩)), .val (.pointer (some ⟨g, 0, none⟩)), .val (.pointer (some ⟨g, 18, none⟩)), .val (.agg #[.int .i64 s.ck.ph, .int .i64 s.ck.left, .int .i64 s.ck.tr, .slice la (List.length s.ck.line) lc]), .val (.slice ba b.length bc), .val (.pointer (some ⟨g, 0, none⟩)), .val (.agg #[.int .i64 most, .int .i64 body, .int .i64 room]), .val (.int .i64 rk), .fedR W1.heap.size er c out n, .fedR W1.heap.size er c out n, .agR W1.heap.size c, .bytes out, .val (.int .i64 n), .val (.int .i64 er), .cnewR W1.heap.size, .any, .nope, .nope, .nope] | _ => [.any, .any, .any, .any, .any, .any, .any, .any, .any, .fedR W1.heap.size er c out n, .any, .bytes out, .val (.int .i64 n), .val (.int .i64 er), .cstR W1.heap.size c, .any, .bytes out, .val (.int .i64 n), .val (.int .i64 er)])
    (fun _ => fun wx => Below W1.heap.size W1 wx)
    (by kernel_rfl) (by kernel_rfl) (by kernel_rfl) (by kernel_rfl) (by kernel_rfl) (by kernel_rfl) ?_ (Below.refl _ _) ?_ ?_ ?_
  · intro p wa wb h hb
    exact below_trans h hb
  · intro p hp
    match p, hp with
    | 0, _ =>
      refine ⟨?_, ?_, ?_, ?_, ?_, ?_, ?_, ?_, ?_, ?_, ?_, ?_, ?_, ?_, ?_, trivial⟩ <;> intro a1 wx hv hf hd
      · exact ⟨wanted_none rfl, loc_move rfl (hf.base 0 rfl)⟩
      · exact ⟨wanted_none rfl, loc_nilCheck rfl (hd 0 rfl) rfl⟩
      · exact ⟨wanted_none rfl, loc_fieldMs rfl (hd 1 rfl) (by decide) rfl rfl⟩
      · have hra : wx.rangeAt g 18 [.int .i64 s.ck.ph, .int .i64 s.ck.left, .int .i64 s.ck.tr, .slice la (List.length s.ck.line) lc] := fun j v hj => by
          rw [(HM1.out.keep hv).cell, HCS.out]
          match j, hj with
          | 0, hj => exact hj
          | 1, hj => exact hj
          | 2, hj => exact hj
          | 3, hj => exact hj
          | (j + 4), hj => simp at hj
        exact ⟨wanted_none rfl, loc_load rfl (by rw [show a1.eval (.tmp 16) = .pointer (some ⟨g, 18, none⟩) from hd 2 rfl]; exact run_loadAt_mid wx g 18 35 _ _ hra Tryz.underlying35 rfl sizeC) rfl⟩
      · exact ⟨wanted_none rfl, loc_move rfl (hf.base 1 rfl)⟩
      · exact ⟨wanted_none rfl, loc_move rfl (hf.base 0 rfl)⟩
      · exact ⟨wanted_none rfl, loc_load rfl (by rw [show a1.eval (.tmp 5) = .pointer (some ⟨w.heap.size, 0, none⟩) from hf.base 5 rfl]; exact run_loadLm _ _ _ _ _ (HL1.out.keep hv)) rfl⟩
      · refine ⟨wanted_none rfl, loc_call rfl (by kernel_rfl) ?_⟩
        show Calls _ _ #[a1.eval (.tmp 19), a1.eval (.tmp 20)] _ _
        rw [show a1.eval (.tmp 19) = .pointer (some ⟨g, 0, none⟩) from hd 5 rfl, show a1.eval (.tmp 20) = .agg #[.int .i64 most, .int .i64 body, .int .i64 room] from hd 6 rfl]
        refine (mRoom_any g cs most body room s.size wx (HM1.out.keep hv) H17.out HY.out HSZ.out).mono ?_
        rintro e w' ⟨he, hbb⟩
        exact ⟨_, he, hbb, by rw [HRK.out]; rfl⟩
      · refine ⟨wanted_none rfl, loc_call rfl (by kernel_rfl) ?_⟩
        show Calls _ _ #[a1.eval (.tmp 17), a1.eval (.tmp 18), a1.eval (.tmp 21)] _ _
        rw [show a1.eval (.tmp 17) = .agg #[.int .i64 s.ck.ph, .int .i64 s.ck.left, .int .i64 s.ck.tr, .slice la (List.length s.ck.line) lc] from hd 3 rfl, show a1.eval (.tmp 18) = .slice ba b.length bc from hd 4 rfl, show a1.eval (.tmp 21) = .int .i64 rk from hd 7 rfl]
        refine (projFeedF_any s.ck b rk la ba lc bc wx (HLN.out.keep hv) (HBB.out.keep hv) HCK.out (by omega) hrkb.1 hrkb.2).mono ?_
        rintro e w' ⟨a, cc, oa, oc, he, hln, hout, hbb, hlf⟩
        rw [HFE.out] at he hln hout hlf
        exact ⟨_, he, hbb, a, cc, oa, oc, rfl, hln, hout, fun y e hx => Nat.le_trans hv.size (hlf y e hx)⟩
      · exact ⟨wanted_none rfl, loc_move rfl (hd 8 rfl)⟩
      · obtain ⟨a, cc, oa, oc, e1, e2, e3, e4⟩ := hd 9 rfl
        exact ⟨wanted_none rfl, loc_extractR0 rfl e1 ⟨a, cc, rfl, e2, e4⟩⟩
      · obtain ⟨a, cc, oa, oc, e1, e2, e3, e4⟩ := hd 9 rfl
        exact ⟨wanted_none rfl, loc_extractR1 rfl e1 ⟨oa, oc, rfl, e3⟩⟩
      · obtain ⟨a, cc, oa, oc, e1, e2, e3, e4⟩ := hd 9 rfl
        exact ⟨wanted_none rfl, loc_extractR2 rfl e1 rfl⟩
      · obtain ⟨a, cc, oa, oc, e1, e2, e3, e4⟩ := hd 9 rfl
        exact ⟨wanted_none rfl, loc_extractR3 rfl e1 rfl⟩
      · exact ⟨wanted_none rfl, loc_allocCR rfl hv.size fun v w' h => h⟩
    | 1, _ =>
      refine ⟨?_, ?_, ?_, ?_, ?_, ?_, trivial⟩ <;> intro a1 wx hv hf hd
      · obtain ⟨a, cc, oa, oc, e1, e2, e3, e4⟩ := hd 9 rfl
        exact ⟨wanted_none rfl, loc_extractR1 rfl e1 ⟨oa, oc, rfl, e3⟩⟩
      · obtain ⟨a, cc, oa, oc, e1, e2, e3, e4⟩ := hd 9 rfl
        exact ⟨wanted_none rfl, loc_extractR2 rfl e1 rfl⟩
      · obtain ⟨a, cc, oa, oc, e1, e2, e3, e4⟩ := hd 9 rfl
        exact ⟨wanted_none rfl, loc_extractR3 rfl e1 rfl⟩
      · exact ⟨wanted_none rfl, loc_assign rfl (hd 11 rfl)⟩
      · exact ⟨wanted_none rfl, loc_assign rfl (hd 12 rfl)⟩
      · exact ⟨wanted_none rfl, loc_assign rfl (hd 13 rfl)⟩
  · intro p hp
    match p, hp with
    | 0, _ =>
      intro a2 wx hv hf hd
      obtain ⟨g9, e9, hB9, hk9⟩ := hd 14 rfl
      obtain ⟨a, cc, e10, hln, hlf⟩ := hd 10 rfl
      refine ⟨wanted_none rfl, wp_store_row 35 _ _ rfl g9 #[.int .i64 c.ph, .int .i64 c.left, .int .i64 c.tr, .slice a (List.length c.line) cc] e9 e10 35 _ hk9 sizeC rfl (oneC ..) ?_⟩
      exact ⟨undef, rfl, below_setRow hv hB9 _, trivial, ⟨.inr fun _ _ _ => trivial, .inr fun _ _ _ => trivial, .inr fun _ _ _ => trivial, .inr fun _ _ _ => trivial, .inr fun _ _ _ => trivial, .inr fun _ _ _ => trivial, .inr fun _ _ _ => trivial, .inr fun _ _ _ => trivial, .inr fun _ _ _ => trivial, .inr fun _ _ h => fedR_row hk9 (noU8_22 rfl) h, .inr fun _ _ _ => trivial, .inr fun _ _ h => bytesV_rowR hk9 (noU8_22 rfl) h, .inr fun _ _ h => h, .inr fun _ _ h => h, .inr fun v hv0 _ => by have h9 := hv0 _ 9 rfl rfl; rw [h9, e9]; exact ⟨g9, a, cc, rfl, hB9, setRow_heap _ _ _ _ _ _ hk9, hln.same fun x e hl => setRow_other _ _ _ _ (row_awayR hk9 (noU8_22 rfl) hln x e hl), hlf⟩, .inl rfl, .inr fun _ _ h => h.elim, .inr fun _ _ h => h.elim, .inr fun _ _ h => h.elim, trivial⟩⟩
  · intro a2 w3 hv hf hh
    obtain ⟨oa, oc, e10a, hout⟩ := hh 16 (by decide)
    have e10 : a2.eval (.tmp 10) = .slice oa (List.length out) oc := e10a
    have e11 : a2.eval (.tmp 11) = .int .i64 n := hh 17 (by decide)
    have e12 : a2.eval (.tmp 12) = .int .i64 er := hh 18 (by decide)
    obtain ⟨gk, a, cc, e9a, hgk, hk3, hln3, hlf3⟩ := hh 14 (by decide)
    have HLF := Box.mk (show ∀ y, a = some y → c.line ≠ [] → w.heap.size ≤ y.block from fun y e hx => by have := hlf3 y e hx; have := HB1.out.size; omega)
    clear hlf3
    have e9 : a2.eval (.tmp 9) = .pointer (some ⟨gk, 0, none⟩) := e9a
    clear hh e9a e10a
    rw [fr_putAll hf]
    clear hf
    simp only [putAll, e9, e10, e11, e12]
    generalize a2.eval (.tmp 14) = u14
    generalize a2.eval (.tmp 15) = u15
    generalize a2.eval (.tmp 16) = u16
    generalize a2.eval (.tmp 17) = u17
    generalize a2.eval (.tmp 18) = u18
    generalize a2.eval (.tmp 19) = u19
    generalize a2.eval (.tmp 20) = u20
    generalize a2.eval (.tmp 21) = u21
    generalize a2.eval (.tmp 22) = u22
    generalize a2.eval (.tmp 13) = u13
    generalize a2.eval (.tmp 23) = u23
    generalize a2.eval (.tmp 24) = u24
    generalize a2.eval (.tmp 25) = u25
    generalize a2.eval (.tmp 26) = u26
    clear e9 e10 e11 e12 a2
    simp only [Act.put, List.setIfInBounds_toArray, List.set_cons_succ, List.set_cons_zero]
    refine hKK _ _ ?_
    clear hKK
    have HM3 := Box.mk (HM1.out.keep hv)
    have HP3 := Box.mk (HO.out.keep hv)
    have HL3 := Box.mk (HL1.out.keep hv)
    have HK3 := Box.mk hk3
    have HLN3 := Box.mk hln3
    have HOUT3 := Box.mk hout
    have HG3 := Box.mk (grownBy_of (below_trans HB1.out hv) (some g))
    have hlw3 : w.heap.size + 1 < w3.heap.size := Nat.lt_of_lt_of_le hlw hv.size
    have hgk2 : w.heap.size + 1 < gk := Nat.lt_of_lt_of_le hlw hgk
    clear hv hk3 hln3 hout HM1 HO HL1 HB1 HBB HLN hlw hgk HFE HRK HCK HSZ HY hrkb
    have e0 : (er != 0) = true := by rw [bne_iff_ne]; exact h0
    clear h0
    go_wp2_with (refine wpList_store_row rfl 41 _ _ rfl (w.heap.size + 1) #[.int .i64 0, .slice none 0 0] rfl rfl 41 _ HP3.out sizePt rfl (onePt ..) ?_)
    (try simp only [Exit.inBlock, Exit.then])
    refine bodyPost_ret (results_rtt rfl _ _ (w.heap.size + 1) 41 #[.int .i64 0, .slice none 0 0] (0, 0) _ rfl (setRow_heap _ _ _ _ _ _ HP3.out) Tryz.underlying41 rfl sizePt) rfl ?_
    exact ⟨rfl, grownBy_own HG3.out (by omega) _⟩
set_option maxRecDepth 100000 in
set_option maxHeartbeats 2000000 in
theorem mChunk_full (s : RS) (b : List UInt8) (most body room : Int) (ba : Option Addr) (bc : Nat) (fa ga la : Option Addr) (fc gc lc : Nat) (g : Nat) (w : World) (hb : IsBytes w ba b bc) (hl : b.length ≤ 1000000) (hm : MVr w g #[.bool s.rep, .string s.meth, .int .i64 s.ph, .string s.m, .string s.t, .int .i64 s.z, .slice fa (List.length s.xs) fc, .bool s.fr, .slice none 0 0, .int .i64 s.st, .string s.rs, .int .i64 s.z2, .slice ga (List.length s.ys) gc, .slice none 0 0, .int .i64 s.fk, .int .i64 s.fl, .int .i64 s.left, .int .i64 s.size, .int .i64 s.ck.ph, .int .i64 s.ck.left, .int .i64 s.ck.tr, .slice la (List.length s.ck.line) lc]) (hln : IsBytes w la s.ck.line lc) (hck : OkC s.ck) (hsz : 0 ≤ s.size ∧ s.size ≤ 1000000000) (hy : 0 ≤ body ∧ body ≤ 1000000000) (hr0 : 0 ≤ room ∧ room ≤ 1000000000) (er : Int) (c : Chk) (out : List UInt8) (n : Nat) (hF : feedS (minI room (body + 1 - s.size)) s.ck [] 0 b = (er, c, out, n)) (hol : out.length ≤ 1000000) (h0 : er = 0) (hbs : body < s.size + ((List.length out : Nat) : Int)) :
    Calls Tryz.prog 68 #[.pointer (some ⟨g, 0, none⟩), .slice ba b.length bc, .agg #[.int .i64 most, .int .i64 body, .int .i64 room]] w fun e w' => e = .returned (.tuple #[.agg #[.int .i64 0, .slice none 0 0], .int .i64 0, .int .i64 9]) ∧ w.grownBy w' (some g) := by
  obtain ⟨cs, hcs⟩ : ∃ cs : Array Value, cs = #[.bool s.rep, .string s.meth, .int .i64 s.ph, .string s.m, .string s.t, .int .i64 s.z, .slice fa (List.length s.xs) fc, .bool s.fr, .slice none 0 0, .int .i64 s.st, .string s.rs, .int .i64 s.z2, .slice ga (List.length s.ys) gc, .slice none 0 0, .int .i64 s.fk, .int .i64 s.fl, .int .i64 s.left, .int .i64 s.size, .int .i64 s.ck.ph, .int .i64 s.ck.left, .int .i64 s.ck.tr, .slice la (List.length s.ck.line) lc] := ⟨_, rfl⟩
  have HCS := Box.mk hcs
  rw [← hcs] at hm
  have hcs22 : cs.size = 22 := by rw [hcs]; rfl
  clear hcs
  obtain ⟨W1, hW1⟩ : ∃ W1, W1 = (w.alloc (.cells #[.int .i64 most, .int .i64 body, .int .i64 room] 80)).alloc (.cells #[.int .i64 0, .slice none 0 0] 41) := ⟨_, rfl⟩
  have HB1 := Box.mk (show Below w.heap.size w W1 by rw [hW1]; exact below_twoF (below_oneF _ _) _)
  have HL1 := Box.mk (show LVr W1 w.heap.size most body room by rw [hW1]; exact LVr.keep (heap_alloc_new w (.cells #[.int .i64 most, .int .i64 body, .int .i64 room] 80)) (below_oneF _ _))
  have HO := Box.mk (show PVr W1 (w.heap.size + 1) #[.int .i64 0, .slice none 0 0] by
    have h := heap_alloc_new (w.alloc (.cells #[.int .i64 most, .int .i64 body, .int .i64 room] 80)) (.cells #[.int .i64 0, .slice none 0 0] 41)
    rw [World.size_alloc] at h
    rw [hW1]; exact h)
  have HW1 := Box.mk hW1
  have HM1 := Box.mk (hm.keep HB1.out)
  have hlt := hm.lt
  have hlw : w.heap.size + 1 < W1.heap.size := (Array.getElem?_eq_some_iff.1 HO.out).1
  clear hW1 hm
  have HN := Box.mk (show NoU8 cs by rw [HCS.out]; exact noU8_22 rfl)
  have HBB := Box.mk (hb.keep HB1.out)
  have HLN := Box.mk (hln.keep HB1.out)
  have H17 := Box.mk (show cs[17]? = some (.int .i64 s.size) by rw [HCS.out]; rfl)
  have HCK := Box.mk hck
  obtain ⟨rk, hrk⟩ : ∃ rk : Int, rk = minI room (body + 1 - s.size) := ⟨_, rfl⟩
  have hrkb : -9223372036854775808 ≤ rk ∧ rk ≤ 9223372036854775807 := by have := minI_le room (body + 1 - s.size); rw [hrk]; omega
  have HRK := Box.mk hrk
  have HSZ := Box.mk hsz
  have HY := Box.mk hy
  have HFE := Box.mk (show feedS rk s.ck [] 0 b = (er, c, out, n) by rw [hrk]; exact hF)
  obtain ⟨hsz0, hsz1⟩ := hsz
  clear hb hln hck hF hrk hy
  have Bh0 := Box.mk h0
  clear h0
  go_enter Tryz.func68, Tryz.ntmps68
  go_upto_region 1 with fail
  rw [← HW1.out]
  clear HW1
  go_wp2_with fail
  rename_i KK hKK
  refine wp_region_phases [15] (fun p => match p with | 0 => [0, 1, 2, 3, 4, 5, 6, 7, 8, 9, 10, 11, 12, 13, 14] | _ => [11, 12, 13, 16, 17, 18])
    (fun p => match p with | 0 => [.val (.pointer (some ⟨g, 0, none⟩)), .val (.pointer (some ⟨g, 0, none⟩)), .val (.pointer (some ⟨g, 18, none⟩)), .val (.agg #[.int .i64 s.ck.ph, .int .i64 s.ck.left, .int .i64 s.ck.tr, .slice la (List.length s.ck.line) lc]), .val (.slice ba b.length bc), .val (.pointer (some ⟨g, 0, none⟩)), .val (.agg #[.int .i64 most, .int .i64 body, .int .i64 room]), .val (.int .i64 rk), .fedR W1.heap.size er c out n, .fedR W1.heap.size er c out n, .agR W1.heap.size c, .bytes out, .val (.int .i64 n), .val (.int .i64 er), .cnewR W1.heap.size, .any, .nope, .nope, .nope] | _ => [.any, .any, .any, .any, .any, .any, .any, .any, .any, .fedR W1.heap.size er c out n, .any, .bytes out, .val (.int .i64 n), .val (.int .i64 er), .cstR W1.heap.size c, .any, .bytes out, .val (.int .i64 n), .val (.int .i64 er)])
    (fun _ => fun wx => Below W1.heap.size W1 wx)
    (by kernel_rfl) (by kernel_rfl) (by kernel_rfl) (by kernel_rfl) (by kernel_rfl) (by kernel_rfl) ?_ (Below.refl _ _) ?_ ?_ ?_
  · intro p wa wb h hb
    exact below_trans h hb
  · intro p hp
    match p, hp with
    | 0, _ =>
      refine ⟨?_, ?_, ?_, ?_, ?_, ?_, ?_, ?_, ?_, ?_, ?_, ?_, ?_, ?_, ?_, trivial⟩ <;> intro a1 wx hv hf hd
      · exact ⟨wanted_none rfl, loc_move rfl (hf.base 0 rfl)⟩
      · exact ⟨wanted_none rfl, loc_nilCheck rfl (hd 0 rfl) rfl⟩
      · exact ⟨wanted_none rfl, loc_fieldMs rfl (hd 1 rfl) (by decide) rfl rfl⟩
      · have hra : wx.rangeAt g 18 [.int .i64 s.ck.ph, .int .i64 s.ck.left, .int .i64 s.ck.tr, .slice la (List.length s.ck.line) lc] := fun j v hj => by
          rw [(HM1.out.keep hv).cell, HCS.out]
          match j, hj with
          | 0, hj => exact hj
          | 1, hj => exact hj
          | 2, hj => exact hj
          | 3, hj => exact hj
          | (j + 4), hj => simp at hj
        exact ⟨wanted_none rfl, loc_load rfl (by rw [show a1.eval (.tmp 16) = .pointer (some ⟨g, 18, none⟩) from hd 2 rfl]; exact run_loadAt_mid wx g 18 35 _ _ hra Tryz.underlying35 rfl sizeC) rfl⟩
      · exact ⟨wanted_none rfl, loc_move rfl (hf.base 1 rfl)⟩
      · exact ⟨wanted_none rfl, loc_move rfl (hf.base 0 rfl)⟩
      · exact ⟨wanted_none rfl, loc_load rfl (by rw [show a1.eval (.tmp 5) = .pointer (some ⟨w.heap.size, 0, none⟩) from hf.base 5 rfl]; exact run_loadLm _ _ _ _ _ (HL1.out.keep hv)) rfl⟩
      · refine ⟨wanted_none rfl, loc_call rfl (by kernel_rfl) ?_⟩
        show Calls _ _ #[a1.eval (.tmp 19), a1.eval (.tmp 20)] _ _
        rw [show a1.eval (.tmp 19) = .pointer (some ⟨g, 0, none⟩) from hd 5 rfl, show a1.eval (.tmp 20) = .agg #[.int .i64 most, .int .i64 body, .int .i64 room] from hd 6 rfl]
        refine (mRoom_any g cs most body room s.size wx (HM1.out.keep hv) H17.out HY.out HSZ.out).mono ?_
        rintro e w' ⟨he, hbb⟩
        exact ⟨_, he, hbb, by rw [HRK.out]; rfl⟩
      · refine ⟨wanted_none rfl, loc_call rfl (by kernel_rfl) ?_⟩
        show Calls _ _ #[a1.eval (.tmp 17), a1.eval (.tmp 18), a1.eval (.tmp 21)] _ _
        rw [show a1.eval (.tmp 17) = .agg #[.int .i64 s.ck.ph, .int .i64 s.ck.left, .int .i64 s.ck.tr, .slice la (List.length s.ck.line) lc] from hd 3 rfl, show a1.eval (.tmp 18) = .slice ba b.length bc from hd 4 rfl, show a1.eval (.tmp 21) = .int .i64 rk from hd 7 rfl]
        refine (projFeedF_any s.ck b rk la ba lc bc wx (HLN.out.keep hv) (HBB.out.keep hv) HCK.out (by omega) hrkb.1 hrkb.2).mono ?_
        rintro e w' ⟨a, cc, oa, oc, he, hln, hout, hbb, hlf⟩
        rw [HFE.out] at he hln hout hlf
        exact ⟨_, he, hbb, a, cc, oa, oc, rfl, hln, hout, fun y e hx => Nat.le_trans hv.size (hlf y e hx)⟩
      · exact ⟨wanted_none rfl, loc_move rfl (hd 8 rfl)⟩
      · obtain ⟨a, cc, oa, oc, e1, e2, e3, e4⟩ := hd 9 rfl
        exact ⟨wanted_none rfl, loc_extractR0 rfl e1 ⟨a, cc, rfl, e2, e4⟩⟩
      · obtain ⟨a, cc, oa, oc, e1, e2, e3, e4⟩ := hd 9 rfl
        exact ⟨wanted_none rfl, loc_extractR1 rfl e1 ⟨oa, oc, rfl, e3⟩⟩
      · obtain ⟨a, cc, oa, oc, e1, e2, e3, e4⟩ := hd 9 rfl
        exact ⟨wanted_none rfl, loc_extractR2 rfl e1 rfl⟩
      · obtain ⟨a, cc, oa, oc, e1, e2, e3, e4⟩ := hd 9 rfl
        exact ⟨wanted_none rfl, loc_extractR3 rfl e1 rfl⟩
      · exact ⟨wanted_none rfl, loc_allocCR rfl hv.size fun v w' h => h⟩
    | 1, _ =>
      refine ⟨?_, ?_, ?_, ?_, ?_, ?_, trivial⟩ <;> intro a1 wx hv hf hd
      · obtain ⟨a, cc, oa, oc, e1, e2, e3, e4⟩ := hd 9 rfl
        exact ⟨wanted_none rfl, loc_extractR1 rfl e1 ⟨oa, oc, rfl, e3⟩⟩
      · obtain ⟨a, cc, oa, oc, e1, e2, e3, e4⟩ := hd 9 rfl
        exact ⟨wanted_none rfl, loc_extractR2 rfl e1 rfl⟩
      · obtain ⟨a, cc, oa, oc, e1, e2, e3, e4⟩ := hd 9 rfl
        exact ⟨wanted_none rfl, loc_extractR3 rfl e1 rfl⟩
      · exact ⟨wanted_none rfl, loc_assign rfl (hd 11 rfl)⟩
      · exact ⟨wanted_none rfl, loc_assign rfl (hd 12 rfl)⟩
      · exact ⟨wanted_none rfl, loc_assign rfl (hd 13 rfl)⟩
  · intro p hp
    match p, hp with
    | 0, _ =>
      intro a2 wx hv hf hd
      obtain ⟨g9, e9, hB9, hk9⟩ := hd 14 rfl
      obtain ⟨a, cc, e10, hln, hlf⟩ := hd 10 rfl
      refine ⟨wanted_none rfl, wp_store_row 35 _ _ rfl g9 #[.int .i64 c.ph, .int .i64 c.left, .int .i64 c.tr, .slice a (List.length c.line) cc] e9 e10 35 _ hk9 sizeC rfl (oneC ..) ?_⟩
      exact ⟨undef, rfl, below_setRow hv hB9 _, trivial, ⟨.inr fun _ _ _ => trivial, .inr fun _ _ _ => trivial, .inr fun _ _ _ => trivial, .inr fun _ _ _ => trivial, .inr fun _ _ _ => trivial, .inr fun _ _ _ => trivial, .inr fun _ _ _ => trivial, .inr fun _ _ _ => trivial, .inr fun _ _ _ => trivial, .inr fun _ _ h => fedR_row hk9 (noU8_22 rfl) h, .inr fun _ _ _ => trivial, .inr fun _ _ h => bytesV_rowR hk9 (noU8_22 rfl) h, .inr fun _ _ h => h, .inr fun _ _ h => h, .inr fun v hv0 _ => by have h9 := hv0 _ 9 rfl rfl; rw [h9, e9]; exact ⟨g9, a, cc, rfl, hB9, setRow_heap _ _ _ _ _ _ hk9, hln.same fun x e hl => setRow_other _ _ _ _ (row_awayR hk9 (noU8_22 rfl) hln x e hl), hlf⟩, .inl rfl, .inr fun _ _ h => h.elim, .inr fun _ _ h => h.elim, .inr fun _ _ h => h.elim, trivial⟩⟩
  · intro a2 w3 hv hf hh
    obtain ⟨oa, oc, e10a, hout⟩ := hh 16 (by decide)
    have e10 : a2.eval (.tmp 10) = .slice oa (List.length out) oc := e10a
    have e11 : a2.eval (.tmp 11) = .int .i64 n := hh 17 (by decide)
    have e12 : a2.eval (.tmp 12) = .int .i64 er := hh 18 (by decide)
    obtain ⟨gk, a, cc, e9a, hgk, hk3, hln3, hlf3⟩ := hh 14 (by decide)
    have HLF := Box.mk (show ∀ y, a = some y → c.line ≠ [] → w.heap.size ≤ y.block from fun y e hx => by have := hlf3 y e hx; have := HB1.out.size; omega)
    clear hlf3
    have e9 : a2.eval (.tmp 9) = .pointer (some ⟨gk, 0, none⟩) := e9a
    clear hh e9a e10a
    rw [fr_putAll hf]
    clear hf
    simp only [putAll, e9, e10, e11, e12]
    generalize a2.eval (.tmp 14) = u14
    generalize a2.eval (.tmp 15) = u15
    generalize a2.eval (.tmp 16) = u16
    generalize a2.eval (.tmp 17) = u17
    generalize a2.eval (.tmp 18) = u18
    generalize a2.eval (.tmp 19) = u19
    generalize a2.eval (.tmp 20) = u20
    generalize a2.eval (.tmp 21) = u21
    generalize a2.eval (.tmp 22) = u22
    generalize a2.eval (.tmp 13) = u13
    generalize a2.eval (.tmp 23) = u23
    generalize a2.eval (.tmp 24) = u24
    generalize a2.eval (.tmp 25) = u25
    generalize a2.eval (.tmp 26) = u26
    clear e9 e10 e11 e12 a2
    simp only [Act.put, List.setIfInBounds_toArray, List.set_cons_succ, List.set_cons_zero]
    refine hKK _ _ ?_
    clear hKK
    have HM3 := Box.mk (HM1.out.keep hv)
    have HP3 := Box.mk (HO.out.keep hv)
    have HL3 := Box.mk (HL1.out.keep hv)
    have HK3 := Box.mk hk3
    have HLN3 := Box.mk hln3
    have HOUT3 := Box.mk hout
    have HG3 := Box.mk (grownBy_of (below_trans HB1.out hv) (some g))
    have hlw3 : w.heap.size + 1 < w3.heap.size := Nat.lt_of_lt_of_le hlw hv.size
    have hgk2 : w.heap.size + 1 < gk := Nat.lt_of_lt_of_le hlw hgk
    clear hv hk3 hln3 hout HM1 HO HL1 HB1 HBB HLN hlw hgk HFE HRK HCK HSZ HY hrkb
    have h0 := Bh0.out
    clear Bh0
    subst h0
    obtain ⟨c1, hc1⟩ : ∃ y0 : Array Value, y0 = #[.bool s.rep, .string s.meth, .int .i64 s.ph, .string s.m, .string s.t, .int .i64 s.z, .slice fa (List.length s.xs) fc, .bool s.fr, .slice none 0 0, .int .i64 s.st, .string s.rs, .int .i64 s.z2, .slice ga (List.length s.ys) gc, .slice none 0 0, .int .i64 s.fk, .int .i64 s.fl, .int .i64 s.left, .int .i64 s.size, .int .i64 c.ph, .int .i64 c.left, .int .i64 c.tr, .slice a (List.length c.line) cc] := ⟨_, rfl⟩
    have HC1 := Box.mk hc1
    obtain ⟨c2, hc2⟩ : ∃ y0 : Array Value, y0 = #[.bool s.rep, .string s.meth, .int .i64 s.ph, .string s.m, .string s.t, .int .i64 s.z, .slice fa (List.length s.xs) fc, .bool s.fr, .slice none 0 0, .int .i64 s.st, .string s.rs, .int .i64 s.z2, .slice ga (List.length s.ys) gc, .slice none 0 0, .int .i64 s.fk, .int .i64 s.fl, .int .i64 s.left, .int .i64 (s.size + ((List.length out : Nat) : Int)), .int .i64 c.ph, .int .i64 c.left, .int .i64 c.tr, .slice a (List.length c.line) cc] := ⟨_, rfl⟩
    have HC2 := Box.mk hc2
    clear hc1 hc2
    go_upto_region 5 with (first | refine wpList_load_row rfl 35 _ rfl gk rfl 35 #[.int .i64 c.ph, .int .i64 c.left, .int .i64 c.tr, .slice a (List.length c.line) cc] (0, 0) _ HK3.out Tryz.underlying35 rfl sizeC ?_ | refine wpList_store_sub rfl 35 _ _ rfl g 18 #[.int .i64 c.ph, .int .i64 c.left, .int .i64 c.tr, .slice a (List.length c.line) cc] rfl rfl 72 _ c1 HM3.out sizeC (by rw [hcs22]; show 18 + 4 ≤ 22; decide) (oneC ..) (by rw [HCS.out, HC1.out]; rfl) ?_)
    obtain ⟨W4, hW4⟩ : ∃ W4, W4 = w3.setRow g c1 := ⟨_, rfl⟩
    have HM4 := Box.mk (show MVr W4 g c1 by rw [hW4]; exact setRow_heap _ _ _ _ _ _ HM3.out)
    have HG34 := Box.mk (show w3.grownBy W4 (some g) by rw [hW4]; exact grownBy_setRowM _ _ _)
    have hc17 : W4.cell? ⟨g, 17, none⟩ = some (.int .i64 s.size) := by rw [HM4.out.cell, HC1.out]; rfl
    have hz17 : W4.frozen? ⟨g, 17, none⟩ = false := HM4.out.frozen 17
    rw [← hW4]
    clear hW4
    go_upto_region 6 with fail
    obtain ⟨W5, hW5⟩ : ∃ W5, W5 = W4.setCell ⟨g, 17, none⟩ (.int .i64 (s.size + ((List.length out : Nat) : Int))) := ⟨_, rfl⟩
    have HM5 := Box.mk (show MVr W5 g c2 by rw [hW5]; have h := HM4.out.put (i := 17) (v := .int .i64 (s.size + ((List.length out : Nat) : Int))); rw [show c1.setIfInBounds 17 (.int .i64 (s.size + ((List.length out : Nat) : Int))) = c2 by rw [HC1.out, HC2.out]; rfl] at h; exact h)
    have hg35 : w3.grownBy W5 (some g) := by rw [hW5]; exact grownBy_trans HG34.out (grownBy_setC _ _ _ _)
    have hP5 : PVr W5 (w.heap.size + 1) #[.int .i64 0, .slice none 0 0] := (hg35.block _ hlw3 (fun e => by injection e with e; omega)).trans HP3.out
    have hL5 : LVr W5 w.heap.size most body room := (hg35.block _ (by omega) (fun e => by injection e with e; omega)).trans HL3.out
    have hK5 : CVar W5 gk c.ph c.left c.tr (.slice a (List.length c.line) cc) := (hg35.block _ HK3.out.lt (fun e => by injection e with e; omega)).trans HK3.out
    have hLN5 := HLN3.out.grownR hg35 (row_awayR HM3.out HN.out HLN3.out)
    have hOUT5 := HOUT3.out.grownR hg35 (row_awayR HM3.out HN.out HOUT3.out)
    have hG5 := grownBy_trans HG3.out hg35
    have hlw5 : w.heap.size + 1 < W5.heap.size := Nat.lt_of_lt_of_le hlw3 hg35.size
    have hm17 : W5.cell? ⟨g, 17, none⟩ = some (.int .i64 (s.size + ((List.length out : Nat) : Int))) := by rw [HM5.out.cell, HC2.out]; rfl
    have hl1 : W5.cell? ⟨w.heap.size, 1, none⟩ = some (.int .i64 body) := by rw [cell_of_row _ _ _ _ _ _ hL5]; rfl
    rw [← hW5]
    have HDR : ∀ k, Below W5.heap.size W5 (W5.drewN k) := fun k => below_drewN (Below.refl _ _) k
    have HM6 := Box.mk (fun k => HM5.out.keep (HDR k))
    have HP6 := Box.mk (fun k => hP5.keep (HDR k))
    have HK6 := Box.mk (fun k => hK5.keep (HDR k))
    have HLN6 := Box.mk (fun k => hLN5.keep (HDR k))
    have HOUT6 := Box.mk (fun k => hOUT5.keep (HDR k))
    have HG6 := Box.mk (fun k => grownBy_trans hG5 (grownBy_of (HDR k) (some g)))
    have HLW := Box.mk (fun k => Nat.lt_of_lt_of_le hlw5 (HDR k).size)
    clear hW5 hc17 hz17 HM3 HM4 HM5 HG34 hg35 hP5 hL5 hK5 hLN5 hOUT5 hG5 hlw5 HDR HP3 HL3 HK3 HLN3 HOUT3 HG3 hlw3 HC1 HCS hcs22 HN H17
    have hgt : s.size + ((List.length out : Nat) : Int) > body := by omega
    clear hbs
    go_wp2_with fail
    go_quiet (fail)
    go_wp2_with (refine wpList_store_row rfl 41 _ _ rfl (w.heap.size + 1) #[.int .i64 0, .slice none 0 0] rfl rfl 41 _ (HP6.out _) sizePt rfl (onePt ..) ?_)
    (try simp only [Exit.inBlock, Exit.then])
    refine bodyPost_ret (results_rtt rfl _ _ (w.heap.size + 1) 41 #[.int .i64 0, .slice none 0 0] (0, 0) _ rfl (setRow_heap _ _ _ _ _ _ (HP6.out _)) Tryz.underlying41 rfl sizePt) rfl ?_
    exact ⟨rfl, grownBy_own (HG6.out _) (by omega) _⟩
end Go.Proofs.YtejbkbccljoldaaGreatDoor
namespace Go.Proofs.YtejbkbccljoldaaGreatDoor
open Go.RowKit

set_option linter.unusedVariables false
set_option maxRecDepth 100000 in
set_option maxHeartbeats 2000000 in
theorem mChunk_data (s : RS) (b : List UInt8) (most body room : Int) (ba : Option Addr) (bc : Nat) (fa ga la : Option Addr) (fc gc lc : Nat) (g : Nat) (w : World) (hb : IsBytes w ba b bc) (hl : b.length ≤ 1000000) (hm : MVr w g #[.bool s.rep, .string s.meth, .int .i64 s.ph, .string s.m, .string s.t, .int .i64 s.z, .slice fa (List.length s.xs) fc, .bool s.fr, .slice none 0 0, .int .i64 s.st, .string s.rs, .int .i64 s.z2, .slice ga (List.length s.ys) gc, .slice none 0 0, .int .i64 s.fk, .int .i64 s.fl, .int .i64 s.left, .int .i64 s.size, .int .i64 s.ck.ph, .int .i64 s.ck.left, .int .i64 s.ck.tr, .slice la (List.length s.ck.line) lc]) (hln : IsBytes w la s.ck.line lc) (hck : OkC s.ck) (hsz : 0 ≤ s.size ∧ s.size ≤ 1000000000) (hy : 0 ≤ body ∧ body ≤ 1000000000) (hr0 : 0 ≤ room ∧ room ≤ 1000000000) (er : Int) (c : Chk) (out : List UInt8) (n : Nat) (hF : feedS (minI room (body + 1 - s.size)) s.ck [] 0 b = (er, c, out, n)) (hol : out.length ≤ 1000000) (h0 : er = 0) (hbs : ¬ body < s.size + ((List.length out : Nat) : Int)) (ho : 0 < out.length) :
    Calls Tryz.prog 68 #[.pointer (some ⟨g, 0, none⟩), .slice ba b.length bc, .agg #[.int .i64 most, .int .i64 body, .int .i64 room]] w fun e w' => ∃ a cc oa oc, e = .returned (.tuple #[.agg #[.int .i64 2, .slice oa (List.length out) oc], .int .i64 n, .int .i64 0]) ∧ MVr w' g #[.bool s.rep, .string s.meth, .int .i64 s.ph, .string s.m, .string s.t, .int .i64 s.z, .slice fa (List.length s.xs) fc, .bool s.fr, .slice none 0 0, .int .i64 s.st, .string s.rs, .int .i64 s.z2, .slice ga (List.length s.ys) gc, .slice none 0 0, .int .i64 s.fk, .int .i64 s.fl, .int .i64 s.left, .int .i64 (s.size + ((List.length out : Nat) : Int)), .int .i64 c.ph, .int .i64 c.left, .int .i64 c.tr, .slice a (List.length c.line) cc] ∧ IsBytes w' a c.line cc ∧ IsBytes w' oa out oc ∧ (∀ y, a = some y → c.line ≠ [] → w.heap.size ≤ y.block) ∧ w.grownBy w' (some g) := by
  obtain ⟨cs, hcs⟩ : ∃ cs : Array Value, cs = #[.bool s.rep, .string s.meth, .int .i64 s.ph, .string s.m, .string s.t, .int .i64 s.z, .slice fa (List.length s.xs) fc, .bool s.fr, .slice none 0 0, .int .i64 s.st, .string s.rs, .int .i64 s.z2, .slice ga (List.length s.ys) gc, .slice none 0 0, .int .i64 s.fk, .int .i64 s.fl, .int .i64 s.left, .int .i64 s.size, .int .i64 s.ck.ph, .int .i64 s.ck.left, .int .i64 s.ck.tr, .slice la (List.length s.ck.line) lc] := ⟨_, rfl⟩
  have HCS := Box.mk hcs
  rw [← hcs] at hm
  have hcs22 : cs.size = 22 := by rw [hcs]; rfl
  clear hcs
  obtain ⟨W1, hW1⟩ : ∃ W1, W1 = (w.alloc (.cells #[.int .i64 most, .int .i64 body, .int .i64 room] 80)).alloc (.cells #[.int .i64 0, .slice none 0 0] 41) := ⟨_, rfl⟩
  have HB1 := Box.mk (show Below w.heap.size w W1 by rw [hW1]; exact below_twoF (below_oneF _ _) _)
  have HL1 := Box.mk (show LVr W1 w.heap.size most body room by rw [hW1]; exact LVr.keep (heap_alloc_new w (.cells #[.int .i64 most, .int .i64 body, .int .i64 room] 80)) (below_oneF _ _))
  have HO := Box.mk (show PVr W1 (w.heap.size + 1) #[.int .i64 0, .slice none 0 0] by
    have h := heap_alloc_new (w.alloc (.cells #[.int .i64 most, .int .i64 body, .int .i64 room] 80)) (.cells #[.int .i64 0, .slice none 0 0] 41)
    rw [World.size_alloc] at h
    rw [hW1]; exact h)
  have HW1 := Box.mk hW1
  have HM1 := Box.mk (hm.keep HB1.out)
  have hlt := hm.lt
  have hlw : w.heap.size + 1 < W1.heap.size := (Array.getElem?_eq_some_iff.1 HO.out).1
  clear hW1 hm
  have HN := Box.mk (show NoU8 cs by rw [HCS.out]; exact noU8_22 rfl)
  have HBB := Box.mk (hb.keep HB1.out)
  have HLN := Box.mk (hln.keep HB1.out)
  have H17 := Box.mk (show cs[17]? = some (.int .i64 s.size) by rw [HCS.out]; rfl)
  have HCK := Box.mk hck
  obtain ⟨rk, hrk⟩ : ∃ rk : Int, rk = minI room (body + 1 - s.size) := ⟨_, rfl⟩
  have hrkb : -9223372036854775808 ≤ rk ∧ rk ≤ 9223372036854775807 := by have := minI_le room (body + 1 - s.size); rw [hrk]; omega
  have HRK := Box.mk hrk
  have HSZ := Box.mk hsz
  have HY := Box.mk hy
  have HFE := Box.mk (show feedS rk s.ck [] 0 b = (er, c, out, n) by rw [hrk]; exact hF)
  obtain ⟨hsz0, hsz1⟩ := hsz
  clear hb hln hck hF hrk hy
  have Bh0 := Box.mk h0
  clear h0
  go_enter Tryz.func68, Tryz.ntmps68
  go_upto_region 1 with fail
  rw [← HW1.out]
  clear HW1
  go_wp2_with fail
  rename_i KK hKK
  refine wp_region_phases [15] (fun p => match p with | 0 => [0, 1, 2, 3, 4, 5, 6, 7, 8, 9, 10, 11, 12, 13, 14] | _ => [11, 12, 13, 16, 17, 18])
    (fun p => match p with | 0 => [.val (.pointer (some ⟨g, 0, none⟩)), .val (.pointer (some ⟨g, 0, none⟩)), .val (.pointer (some ⟨g, 18, none⟩)), .val (.agg #[.int .i64 s.ck.ph, .int .i64 s.ck.left, .int .i64 s.ck.tr, .slice la (List.length s.ck.line) lc]), .val (.slice ba b.length bc), .val (.pointer (some ⟨g, 0, none⟩)), .val (.agg #[.int .i64 most, .int .i64 body, .int .i64 room]), .val (.int .i64 rk), .fedR W1.heap.size er c out n, .fedR W1.heap.size er c out n, .agR W1.heap.size c, .bytes out, .val (.int .i64 n), .val (.int .i64 er), .cnewR W1.heap.size, .any, .nope, .nope, .nope] | _ => [.any, .any, .any, .any, .any, .any, .any, .any, .any, .fedR W1.heap.size er c out n, .any, .bytes out, .val (.int .i64 n), .val (.int .i64 er), .cstR W1.heap.size c, .any, .bytes out, .val (.int .i64 n), .val (.int .i64 er)])
    (fun _ => fun wx => Below W1.heap.size W1 wx)
    (by kernel_rfl) (by kernel_rfl) (by kernel_rfl) (by kernel_rfl) (by kernel_rfl) (by kernel_rfl) ?_ (Below.refl _ _) ?_ ?_ ?_
  · intro p wa wb h hb
    exact below_trans h hb
  · intro p hp
    match p, hp with
    | 0, _ =>
      refine ⟨?_, ?_, ?_, ?_, ?_, ?_, ?_, ?_, ?_, ?_, ?_, ?_, ?_, ?_, ?_, trivial⟩ <;> intro a1 wx hv hf hd
      · exact ⟨wanted_none rfl, loc_move rfl (hf.base 0 rfl)⟩
      · exact ⟨wanted_none rfl, loc_nilCheck rfl (hd 0 rfl) rfl⟩
      · exact ⟨wanted_none rfl, loc_fieldMs rfl (hd 1 rfl) (by decide) rfl rfl⟩
      · have hra : wx.rangeAt g 18 [.int .i64 s.ck.ph, .int .i64 s.ck.left, .int .i64 s.ck.tr, .slice la (List.length s.ck.line) lc] := fun j v hj => by
          rw [(HM1.out.keep hv).cell, HCS.out]
          match j, hj with
          | 0, hj => exact hj
          | 1, hj => exact hj
          | 2, hj => exact hj
          | 3, hj => exact hj
          | (j + 4), hj => simp at hj
        exact ⟨wanted_none rfl, loc_load rfl (by rw [show a1.eval (.tmp 16) = .pointer (some ⟨g, 18, none⟩) from hd 2 rfl]; exact run_loadAt_mid wx g 18 35 _ _ hra Tryz.underlying35 rfl sizeC) rfl⟩
      · exact ⟨wanted_none rfl, loc_move rfl (hf.base 1 rfl)⟩
      · exact ⟨wanted_none rfl, loc_move rfl (hf.base 0 rfl)⟩
      · exact ⟨wanted_none rfl, loc_load rfl (by rw [show a1.eval (.tmp 5) = .pointer (some ⟨w.heap.size, 0, none⟩) from hf.base 5 rfl]; exact run_loadLm _ _ _ _ _ (HL1.out.keep hv)) rfl⟩
      · refine ⟨wanted_none rfl, loc_call rfl (by kernel_rfl) ?_⟩
        show Calls _ _ #[a1.eval (.tmp 19), a1.eval (.tmp 20)] _ _
        rw [show a1.eval (.tmp 19) = .pointer (some ⟨g, 0, none⟩) from hd 5 rfl, show a1.eval (.tmp 20) = .agg #[.int .i64 most, .int .i64 body, .int .i64 room] from hd 6 rfl]
        refine (mRoom_any g cs most body room s.size wx (HM1.out.keep hv) H17.out HY.out HSZ.out).mono ?_
        rintro e w' ⟨he, hbb⟩
        exact ⟨_, he, hbb, by rw [HRK.out]; rfl⟩
      · refine ⟨wanted_none rfl, loc_call rfl (by kernel_rfl) ?_⟩
        show Calls _ _ #[a1.eval (.tmp 17), a1.eval (.tmp 18), a1.eval (.tmp 21)] _ _
        rw [show a1.eval (.tmp 17) = .agg #[.int .i64 s.ck.ph, .int .i64 s.ck.left, .int .i64 s.ck.tr, .slice la (List.length s.ck.line) lc] from hd 3 rfl, show a1.eval (.tmp 18) = .slice ba b.length bc from hd 4 rfl, show a1.eval (.tmp 21) = .int .i64 rk from hd 7 rfl]
        refine (projFeedF_any s.ck b rk la ba lc bc wx (HLN.out.keep hv) (HBB.out.keep hv) HCK.out (by omega) hrkb.1 hrkb.2).mono ?_
        rintro e w' ⟨a, cc, oa, oc, he, hln, hout, hbb, hlf⟩
        rw [HFE.out] at he hln hout hlf
        exact ⟨_, he, hbb, a, cc, oa, oc, rfl, hln, hout, fun y e hx => Nat.le_trans hv.size (hlf y e hx)⟩
      · exact ⟨wanted_none rfl, loc_move rfl (hd 8 rfl)⟩
      · obtain ⟨a, cc, oa, oc, e1, e2, e3, e4⟩ := hd 9 rfl
        exact ⟨wanted_none rfl, loc_extractR0 rfl e1 ⟨a, cc, rfl, e2, e4⟩⟩
      · obtain ⟨a, cc, oa, oc, e1, e2, e3, e4⟩ := hd 9 rfl
        exact ⟨wanted_none rfl, loc_extractR1 rfl e1 ⟨oa, oc, rfl, e3⟩⟩
      · obtain ⟨a, cc, oa, oc, e1, e2, e3, e4⟩ := hd 9 rfl
        exact ⟨wanted_none rfl, loc_extractR2 rfl e1 rfl⟩
      · obtain ⟨a, cc, oa, oc, e1, e2, e3, e4⟩ := hd 9 rfl
        exact ⟨wanted_none rfl, loc_extractR3 rfl e1 rfl⟩
      · exact ⟨wanted_none rfl, loc_allocCR rfl hv.size fun v w' h => h⟩
    | 1, _ =>
      refine ⟨?_, ?_, ?_, ?_, ?_, ?_, trivial⟩ <;> intro a1 wx hv hf hd
      · obtain ⟨a, cc, oa, oc, e1, e2, e3, e4⟩ := hd 9 rfl
        exact ⟨wanted_none rfl, loc_extractR1 rfl e1 ⟨oa, oc, rfl, e3⟩⟩
      · obtain ⟨a, cc, oa, oc, e1, e2, e3, e4⟩ := hd 9 rfl
        exact ⟨wanted_none rfl, loc_extractR2 rfl e1 rfl⟩
      · obtain ⟨a, cc, oa, oc, e1, e2, e3, e4⟩ := hd 9 rfl
        exact ⟨wanted_none rfl, loc_extractR3 rfl e1 rfl⟩
      · exact ⟨wanted_none rfl, loc_assign rfl (hd 11 rfl)⟩
      · exact ⟨wanted_none rfl, loc_assign rfl (hd 12 rfl)⟩
      · exact ⟨wanted_none rfl, loc_assign rfl (hd 13 rfl)⟩
  · intro p hp
    match p, hp with
    | 0, _ =>
      intro a2 wx hv hf hd
      obtain ⟨g9, e9, hB9, hk9⟩ := hd 14 rfl
      obtain ⟨a, cc, e10, hln, hlf⟩ := hd 10 rfl
      refine ⟨wanted_none rfl, wp_store_row 35 _ _ rfl g9 #[.int .i64 c.ph, .int .i64 c.left, .int .i64 c.tr, .slice a (List.length c.line) cc] e9 e10 35 _ hk9 sizeC rfl (oneC ..) ?_⟩
      exact ⟨undef, rfl, below_setRow hv hB9 _, trivial, ⟨.inr fun _ _ _ => trivial, .inr fun _ _ _ => trivial, .inr fun _ _ _ => trivial, .inr fun _ _ _ => trivial, .inr fun _ _ _ => trivial, .inr fun _ _ _ => trivial, .inr fun _ _ _ => trivial, .inr fun _ _ _ => trivial, .inr fun _ _ _ => trivial, .inr fun _ _ h => fedR_row hk9 (noU8_22 rfl) h, .inr fun _ _ _ => trivial, .inr fun _ _ h => bytesV_rowR hk9 (noU8_22 rfl) h, .inr fun _ _ h => h, .inr fun _ _ h => h, .inr fun v hv0 _ => by have h9 := hv0 _ 9 rfl rfl; rw [h9, e9]; exact ⟨g9, a, cc, rfl, hB9, setRow_heap _ _ _ _ _ _ hk9, hln.same fun x e hl => setRow_other _ _ _ _ (row_awayR hk9 (noU8_22 rfl) hln x e hl), hlf⟩, .inl rfl, .inr fun _ _ h => h.elim, .inr fun _ _ h => h.elim, .inr fun _ _ h => h.elim, trivial⟩⟩
  · intro a2 w3 hv hf hh
    obtain ⟨oa, oc, e10a, hout⟩ := hh 16 (by decide)
    have e10 : a2.eval (.tmp 10) = .slice oa (List.length out) oc := e10a
    have e11 : a2.eval (.tmp 11) = .int .i64 n := hh 17 (by decide)
    have e12 : a2.eval (.tmp 12) = .int .i64 er := hh 18 (by decide)
    obtain ⟨gk, a, cc, e9a, hgk, hk3, hln3, hlf3⟩ := hh 14 (by decide)
    have HLF := Box.mk (show ∀ y, a = some y → c.line ≠ [] → w.heap.size ≤ y.block from fun y e hx => by have := hlf3 y e hx; have := HB1.out.size; omega)
    clear hlf3
    have e9 : a2.eval (.tmp 9) = .pointer (some ⟨gk, 0, none⟩) := e9a
    clear hh e9a e10a
    rw [fr_putAll hf]
    clear hf
    simp only [putAll, e9, e10, e11, e12]
    generalize a2.eval (.tmp 14) = u14
    generalize a2.eval (.tmp 15) = u15
    generalize a2.eval (.tmp 16) = u16
    generalize a2.eval (.tmp 17) = u17
    generalize a2.eval (.tmp 18) = u18
    generalize a2.eval (.tmp 19) = u19
    generalize a2.eval (.tmp 20) = u20
    generalize a2.eval (.tmp 21) = u21
    generalize a2.eval (.tmp 22) = u22
    generalize a2.eval (.tmp 13) = u13
    generalize a2.eval (.tmp 23) = u23
    generalize a2.eval (.tmp 24) = u24
    generalize a2.eval (.tmp 25) = u25
    generalize a2.eval (.tmp 26) = u26
    clear e9 e10 e11 e12 a2
    simp only [Act.put, List.setIfInBounds_toArray, List.set_cons_succ, List.set_cons_zero]
    refine hKK _ _ ?_
    clear hKK
    have HM3 := Box.mk (HM1.out.keep hv)
    have HP3 := Box.mk (HO.out.keep hv)
    have HL3 := Box.mk (HL1.out.keep hv)
    have HK3 := Box.mk hk3
    have HLN3 := Box.mk hln3
    have HOUT3 := Box.mk hout
    have HG3 := Box.mk (grownBy_of (below_trans HB1.out hv) (some g))
    have hlw3 : w.heap.size + 1 < w3.heap.size := Nat.lt_of_lt_of_le hlw hv.size
    have hgk2 : w.heap.size + 1 < gk := Nat.lt_of_lt_of_le hlw hgk
    clear hv hk3 hln3 hout HM1 HO HL1 HB1 HBB HLN hlw hgk HFE HRK HCK HSZ HY hrkb
    have h0 := Bh0.out
    clear Bh0
    subst h0
    obtain ⟨c1, hc1⟩ : ∃ y0 : Array Value, y0 = #[.bool s.rep, .string s.meth, .int .i64 s.ph, .string s.m, .string s.t, .int .i64 s.z, .slice fa (List.length s.xs) fc, .bool s.fr, .slice none 0 0, .int .i64 s.st, .string s.rs, .int .i64 s.z2, .slice ga (List.length s.ys) gc, .slice none 0 0, .int .i64 s.fk, .int .i64 s.fl, .int .i64 s.left, .int .i64 s.size, .int .i64 c.ph, .int .i64 c.left, .int .i64 c.tr, .slice a (List.length c.line) cc] := ⟨_, rfl⟩
    have HC1 := Box.mk hc1
    obtain ⟨c2, hc2⟩ : ∃ y0 : Array Value, y0 = #[.bool s.rep, .string s.meth, .int .i64 s.ph, .string s.m, .string s.t, .int .i64 s.z, .slice fa (List.length s.xs) fc, .bool s.fr, .slice none 0 0, .int .i64 s.st, .string s.rs, .int .i64 s.z2, .slice ga (List.length s.ys) gc, .slice none 0 0, .int .i64 s.fk, .int .i64 s.fl, .int .i64 s.left, .int .i64 (s.size + ((List.length out : Nat) : Int)), .int .i64 c.ph, .int .i64 c.left, .int .i64 c.tr, .slice a (List.length c.line) cc] := ⟨_, rfl⟩
    have HC2 := Box.mk hc2
    clear hc1 hc2
    go_upto_region 5 with (first | refine wpList_load_row rfl 35 _ rfl gk rfl 35 #[.int .i64 c.ph, .int .i64 c.left, .int .i64 c.tr, .slice a (List.length c.line) cc] (0, 0) _ HK3.out Tryz.underlying35 rfl sizeC ?_ | refine wpList_store_sub rfl 35 _ _ rfl g 18 #[.int .i64 c.ph, .int .i64 c.left, .int .i64 c.tr, .slice a (List.length c.line) cc] rfl rfl 72 _ c1 HM3.out sizeC (by rw [hcs22]; show 18 + 4 ≤ 22; decide) (oneC ..) (by rw [HCS.out, HC1.out]; rfl) ?_)
    obtain ⟨W4, hW4⟩ : ∃ W4, W4 = w3.setRow g c1 := ⟨_, rfl⟩
    have HM4 := Box.mk (show MVr W4 g c1 by rw [hW4]; exact setRow_heap _ _ _ _ _ _ HM3.out)
    have HG34 := Box.mk (show w3.grownBy W4 (some g) by rw [hW4]; exact grownBy_setRowM _ _ _)
    have hc17 : W4.cell? ⟨g, 17, none⟩ = some (.int .i64 s.size) := by rw [HM4.out.cell, HC1.out]; rfl
    have hz17 : W4.frozen? ⟨g, 17, none⟩ = false := HM4.out.frozen 17
    rw [← hW4]
    clear hW4
    go_upto_region 6 with fail
    obtain ⟨W5, hW5⟩ : ∃ W5, W5 = W4.setCell ⟨g, 17, none⟩ (.int .i64 (s.size + ((List.length out : Nat) : Int))) := ⟨_, rfl⟩
    have HM5 := Box.mk (show MVr W5 g c2 by rw [hW5]; have h := HM4.out.put (i := 17) (v := .int .i64 (s.size + ((List.length out : Nat) : Int))); rw [show c1.setIfInBounds 17 (.int .i64 (s.size + ((List.length out : Nat) : Int))) = c2 by rw [HC1.out, HC2.out]; rfl] at h; exact h)
    have hg35 : w3.grownBy W5 (some g) := by rw [hW5]; exact grownBy_trans HG34.out (grownBy_setC _ _ _ _)
    have hP5 : PVr W5 (w.heap.size + 1) #[.int .i64 0, .slice none 0 0] := (hg35.block _ hlw3 (fun e => by injection e with e; omega)).trans HP3.out
    have hL5 : LVr W5 w.heap.size most body room := (hg35.block _ (by omega) (fun e => by injection e with e; omega)).trans HL3.out
    have hK5 : CVar W5 gk c.ph c.left c.tr (.slice a (List.length c.line) cc) := (hg35.block _ HK3.out.lt (fun e => by injection e with e; omega)).trans HK3.out
    have hLN5 := HLN3.out.grownR hg35 (row_awayR HM3.out HN.out HLN3.out)
    have hOUT5 := HOUT3.out.grownR hg35 (row_awayR HM3.out HN.out HOUT3.out)
    have hG5 := grownBy_trans HG3.out hg35
    have hlw5 : w.heap.size + 1 < W5.heap.size := Nat.lt_of_lt_of_le hlw3 hg35.size
    have hm17 : W5.cell? ⟨g, 17, none⟩ = some (.int .i64 (s.size + ((List.length out : Nat) : Int))) := by rw [HM5.out.cell, HC2.out]; rfl
    have hl1 : W5.cell? ⟨w.heap.size, 1, none⟩ = some (.int .i64 body) := by rw [cell_of_row _ _ _ _ _ _ hL5]; rfl
    rw [← hW5]
    have HDR : ∀ k, Below W5.heap.size W5 (W5.drewN k) := fun k => below_drewN (Below.refl _ _) k
    have HM6 := Box.mk (fun k => HM5.out.keep (HDR k))
    have HP6 := Box.mk (fun k => hP5.keep (HDR k))
    have HK6 := Box.mk (fun k => hK5.keep (HDR k))
    have HLN6 := Box.mk (fun k => hLN5.keep (HDR k))
    have HOUT6 := Box.mk (fun k => hOUT5.keep (HDR k))
    have HG6 := Box.mk (fun k => grownBy_trans hG5 (grownBy_of (HDR k) (some g)))
    have HLW := Box.mk (fun k => Nat.lt_of_lt_of_le hlw5 (HDR k).size)
    clear hW5 hc17 hz17 HM3 HM4 HM5 HG34 hg35 hP5 hL5 hK5 hLN5 hOUT5 hG5 hlw5 HDR HP3 HL3 HK3 HLN3 HOUT3 HG3 hlw3 HC1 HCS hcs22 HN H17
    have hgt : ¬ s.size + ((List.length out : Nat) : Int) > body := by omega
    clear hbs
    go_wp2_with fail
    go_quiet (fail)
    go_wp2_with (refine wpList_store_row rfl 41 _ _ rfl (w.heap.size + 1) #[.int .i64 2, .slice oa (List.length out) oc] rfl rfl 41 _ (HP6.out _) sizePt rfl (onePt ..) ?_)
    (try simp only [Exit.inBlock, Exit.then])
    refine bodyPost_ret (results_rtt rfl _ _ (w.heap.size + 1) 41 #[.int .i64 2, .slice oa (List.length out) oc] (0, 0) _ rfl (setRow_heap _ _ _ _ _ _ (HP6.out _)) Tryz.underlying41 rfl sizePt) rfl ?_
    exact ⟨a, cc, oa, oc, rfl, by rw [← HC2.out]; exact (setRow_other _ _ _ _ (by omega)).trans (HM6.out _), isBytes_rowR (HP6.out _) (noU8_22 rfl) (HLN6.out _), isBytes_rowR (HP6.out _) (noU8_22 rfl) (HOUT6.out _), HLF.out, grownBy_own (HG6.out _) (by omega) _⟩
set_option maxRecDepth 100000 in
set_option maxHeartbeats 2000000 in
theorem mChunk_no (s : RS) (b : List UInt8) (most body room : Int) (ba : Option Addr) (bc : Nat) (fa ga la : Option Addr) (fc gc lc : Nat) (g : Nat) (w : World) (hb : IsBytes w ba b bc) (hl : b.length ≤ 1000000) (hm : MVr w g #[.bool s.rep, .string s.meth, .int .i64 s.ph, .string s.m, .string s.t, .int .i64 s.z, .slice fa (List.length s.xs) fc, .bool s.fr, .slice none 0 0, .int .i64 s.st, .string s.rs, .int .i64 s.z2, .slice ga (List.length s.ys) gc, .slice none 0 0, .int .i64 s.fk, .int .i64 s.fl, .int .i64 s.left, .int .i64 s.size, .int .i64 s.ck.ph, .int .i64 s.ck.left, .int .i64 s.ck.tr, .slice la (List.length s.ck.line) lc]) (hln : IsBytes w la s.ck.line lc) (hck : OkC s.ck) (hsz : 0 ≤ s.size ∧ s.size ≤ 1000000000) (hy : 0 ≤ body ∧ body ≤ 1000000000) (hr0 : 0 ≤ room ∧ room ≤ 1000000000) (er : Int) (c : Chk) (out : List UInt8) (n : Nat) (hF : feedS (minI room (body + 1 - s.size)) s.ck [] 0 b = (er, c, out, n)) (hol : out.length ≤ 1000000) (h0 : er = 0) (hbs : ¬ body < s.size + ((List.length out : Nat) : Int)) (ho : ¬ 0 < out.length) (hp : ¬ c.ph = 4) :
    Calls Tryz.prog 68 #[.pointer (some ⟨g, 0, none⟩), .slice ba b.length bc, .agg #[.int .i64 most, .int .i64 body, .int .i64 room]] w fun e w' => ∃ a cc, e = .returned (.tuple #[.agg #[.int .i64 0, .slice none 0 0], .int .i64 n, .int .i64 0]) ∧ MVr w' g #[.bool s.rep, .string s.meth, .int .i64 s.ph, .string s.m, .string s.t, .int .i64 s.z, .slice fa (List.length s.xs) fc, .bool s.fr, .slice none 0 0, .int .i64 s.st, .string s.rs, .int .i64 s.z2, .slice ga (List.length s.ys) gc, .slice none 0 0, .int .i64 s.fk, .int .i64 s.fl, .int .i64 s.left, .int .i64 (s.size + ((List.length out : Nat) : Int)), .int .i64 c.ph, .int .i64 c.left, .int .i64 c.tr, .slice a (List.length c.line) cc] ∧ IsBytes w' a c.line cc ∧ (∀ y, a = some y → c.line ≠ [] → w.heap.size ≤ y.block) ∧ w.grownBy w' (some g) := by
  obtain ⟨cs, hcs⟩ : ∃ cs : Array Value, cs = #[.bool s.rep, .string s.meth, .int .i64 s.ph, .string s.m, .string s.t, .int .i64 s.z, .slice fa (List.length s.xs) fc, .bool s.fr, .slice none 0 0, .int .i64 s.st, .string s.rs, .int .i64 s.z2, .slice ga (List.length s.ys) gc, .slice none 0 0, .int .i64 s.fk, .int .i64 s.fl, .int .i64 s.left, .int .i64 s.size, .int .i64 s.ck.ph, .int .i64 s.ck.left, .int .i64 s.ck.tr, .slice la (List.length s.ck.line) lc] := ⟨_, rfl⟩
  have HCS := Box.mk hcs
  rw [← hcs] at hm
  have hcs22 : cs.size = 22 := by rw [hcs]; rfl
  clear hcs
  obtain ⟨W1, hW1⟩ : ∃ W1, W1 = (w.alloc (.cells #[.int .i64 most, .int .i64 body, .int .i64 room] 80)).alloc (.cells #[.int .i64 0, .slice none 0 0] 41) := ⟨_, rfl⟩
  have HB1 := Box.mk (show Below w.heap.size w W1 by rw [hW1]; exact below_twoF (below_oneF _ _) _)
  have HL1 := Box.mk (show LVr W1 w.heap.size most body room by rw [hW1]; exact LVr.keep (heap_alloc_new w (.cells #[.int .i64 most, .int .i64 body, .int .i64 room] 80)) (below_oneF _ _))
  have HO := Box.mk (show PVr W1 (w.heap.size + 1) #[.int .i64 0, .slice none 0 0] by
    have h := heap_alloc_new (w.alloc (.cells #[.int .i64 most, .int .i64 body, .int .i64 room] 80)) (.cells #[.int .i64 0, .slice none 0 0] 41)
    rw [World.size_alloc] at h
    rw [hW1]; exact h)
  have HW1 := Box.mk hW1
  have HM1 := Box.mk (hm.keep HB1.out)
  have hlt := hm.lt
  have hlw : w.heap.size + 1 < W1.heap.size := (Array.getElem?_eq_some_iff.1 HO.out).1
  clear hW1 hm
  have HN := Box.mk (show NoU8 cs by rw [HCS.out]; exact noU8_22 rfl)
  have HBB := Box.mk (hb.keep HB1.out)
  have HLN := Box.mk (hln.keep HB1.out)
  have H17 := Box.mk (show cs[17]? = some (.int .i64 s.size) by rw [HCS.out]; rfl)
  have HCK := Box.mk hck
  obtain ⟨rk, hrk⟩ : ∃ rk : Int, rk = minI room (body + 1 - s.size) := ⟨_, rfl⟩
  have hrkb : -9223372036854775808 ≤ rk ∧ rk ≤ 9223372036854775807 := by have := minI_le room (body + 1 - s.size); rw [hrk]; omega
  have HRK := Box.mk hrk
  have HSZ := Box.mk hsz
  have HY := Box.mk hy
  have HFE := Box.mk (show feedS rk s.ck [] 0 b = (er, c, out, n) by rw [hrk]; exact hF)
  obtain ⟨hsz0, hsz1⟩ := hsz
  clear hb hln hck hF hrk hy
  have Bh0 := Box.mk h0
  clear h0
  go_enter Tryz.func68, Tryz.ntmps68
  go_upto_region 1 with fail
  rw [← HW1.out]
  clear HW1
  go_wp2_with fail
  rename_i KK hKK
  refine wp_region_phases [15] (fun p => match p with | 0 => [0, 1, 2, 3, 4, 5, 6, 7, 8, 9, 10, 11, 12, 13, 14] | _ => [11, 12, 13, 16, 17, 18])
    (fun p => match p with | 0 => [.val (.pointer (some ⟨g, 0, none⟩)), .val (.pointer (some ⟨g, 0, none⟩)), .val (.pointer (some ⟨g, 18, none⟩)), .val (.agg #[.int .i64 s.ck.ph, .int .i64 s.ck.left, .int .i64 s.ck.tr, .slice la (List.length s.ck.line) lc]), .val (.slice ba b.length bc), .val (.pointer (some ⟨g, 0, none⟩)), .val (.agg #[.int .i64 most, .int .i64 body, .int .i64 room]), .val (.int .i64 rk), .fedR W1.heap.size er c out n, .fedR W1.heap.size er c out n, .agR W1.heap.size c, .bytes out, .val (.int .i64 n), .val (.int .i64 er), .cnewR W1.heap.size, .any, .nope, .nope, .nope] | _ => [.any, .any, .any, .any, .any, .any, .any, .any, .any, .fedR W1.heap.size er c out n, .any, .bytes out, .val (.int .i64 n), .val (.int .i64 er), .cstR W1.heap.size c, .any, .bytes out, .val (.int .i64 n), .val (.int .i64 er)])
    (fun _ => fun wx => Below W1.heap.size W1 wx)
    (by kernel_rfl) (by kernel_rfl) (by kernel_rfl) (by kernel_rfl) (by kernel_rfl) (by kernel_rfl) ?_ (Below.refl _ _) ?_ ?_ ?_
  · intro p wa wb h hb
    exact below_trans h hb
  · intro p hp
    match p, hp with
    | 0, _ =>
      refine ⟨?_, ?_, ?_, ?_, ?_, ?_, ?_, ?_, ?_, ?_, ?_, ?_, ?_, ?_, ?_, trivial⟩ <;> intro a1 wx hv hf hd
      · exact ⟨wanted_none rfl, loc_move rfl (hf.base 0 rfl)⟩
      · exact ⟨wanted_none rfl, loc_nilCheck rfl (hd 0 rfl) rfl⟩
      · exact ⟨wanted_none rfl, loc_fieldMs rfl (hd 1 rfl) (by decide) rfl rfl⟩
      · have hra : wx.rangeAt g 18 [.int .i64 s.ck.ph, .int .i64 s.ck.left, .int .i64 s.ck.tr, .slice la (List.length s.ck.line) lc] := fun j v hj => by
          rw [(HM1.out.keep hv).cell, HCS.out]
          match j, hj with
          | 0, hj => exact hj
          | 1, hj => exact hj
          | 2, hj => exact hj
          | 3, hj => exact hj
          | (j + 4), hj => simp at hj
        exact ⟨wanted_none rfl, loc_load rfl (by rw [show a1.eval (.tmp 16) = .pointer (some ⟨g, 18, none⟩) from hd 2 rfl]; exact run_loadAt_mid wx g 18 35 _ _ hra Tryz.underlying35 rfl sizeC) rfl⟩
      · exact ⟨wanted_none rfl, loc_move rfl (hf.base 1 rfl)⟩
      · exact ⟨wanted_none rfl, loc_move rfl (hf.base 0 rfl)⟩
      · exact ⟨wanted_none rfl, loc_load rfl (by rw [show a1.eval (.tmp 5) = .pointer (some ⟨w.heap.size, 0, none⟩) from hf.base 5 rfl]; exact run_loadLm _ _ _ _ _ (HL1.out.keep hv)) rfl⟩
      · refine ⟨wanted_none rfl, loc_call rfl (by kernel_rfl) ?_⟩
        show Calls _ _ #[a1.eval (.tmp 19), a1.eval (.tmp 20)] _ _
        rw [show a1.eval (.tmp 19) = .pointer (some ⟨g, 0, none⟩) from hd 5 rfl, show a1.eval (.tmp 20) = .agg #[.int .i64 most, .int .i64 body, .int .i64 room] from hd 6 rfl]
        refine (mRoom_any g cs most body room s.size wx (HM1.out.keep hv) H17.out HY.out HSZ.out).mono ?_
        rintro e w' ⟨he, hbb⟩
        exact ⟨_, he, hbb, by rw [HRK.out]; rfl⟩
      · refine ⟨wanted_none rfl, loc_call rfl (by kernel_rfl) ?_⟩
        show Calls _ _ #[a1.eval (.tmp 17), a1.eval (.tmp 18), a1.eval (.tmp 21)] _ _
        rw [show a1.eval (.tmp 17) = .agg #[.int .i64 s.ck.ph, .int .i64 s.ck.left, .int .i64 s.ck.tr, .slice la (List.length s.ck.line) lc] from hd 3 rfl, show a1.eval (.tmp 18) = .slice ba b.length bc from hd 4 rfl, show a1.eval (.tmp 21) = .int .i64 rk from hd 7 rfl]
        refine (projFeedF_any s.ck b rk la ba lc bc wx (HLN.out.keep hv) (HBB.out.keep hv) HCK.out (by omega) hrkb.1 hrkb.2).mono ?_
        rintro e w' ⟨a, cc, oa, oc, he, hln, hout, hbb, hlf⟩
        rw [HFE.out] at he hln hout hlf
        exact ⟨_, he, hbb, a, cc, oa, oc, rfl, hln, hout, fun y e hx => Nat.le_trans hv.size (hlf y e hx)⟩
      · exact ⟨wanted_none rfl, loc_move rfl (hd 8 rfl)⟩
      · obtain ⟨a, cc, oa, oc, e1, e2, e3, e4⟩ := hd 9 rfl
        exact ⟨wanted_none rfl, loc_extractR0 rfl e1 ⟨a, cc, rfl, e2, e4⟩⟩
      · obtain ⟨a, cc, oa, oc, e1, e2, e3, e4⟩ := hd 9 rfl
        exact ⟨wanted_none rfl, loc_extractR1 rfl e1 ⟨oa, oc, rfl, e3⟩⟩
      · obtain ⟨a, cc, oa, oc, e1, e2, e3, e4⟩ := hd 9 rfl
        exact ⟨wanted_none rfl, loc_extractR2 rfl e1 rfl⟩
      · obtain ⟨a, cc, oa, oc, e1, e2, e3, e4⟩ := hd 9 rfl
        exact ⟨wanted_none rfl, loc_extractR3 rfl e1 rfl⟩
      · exact ⟨wanted_none rfl, loc_allocCR rfl hv.size fun v w' h => h⟩
    | 1, _ =>
      refine ⟨?_, ?_, ?_, ?_, ?_, ?_, trivial⟩ <;> intro a1 wx hv hf hd
      · obtain ⟨a, cc, oa, oc, e1, e2, e3, e4⟩ := hd 9 rfl
        exact ⟨wanted_none rfl, loc_extractR1 rfl e1 ⟨oa, oc, rfl, e3⟩⟩
      · obtain ⟨a, cc, oa, oc, e1, e2, e3, e4⟩ := hd 9 rfl
        exact ⟨wanted_none rfl, loc_extractR2 rfl e1 rfl⟩
      · obtain ⟨a, cc, oa, oc, e1, e2, e3, e4⟩ := hd 9 rfl
        exact ⟨wanted_none rfl, loc_extractR3 rfl e1 rfl⟩
      · exact ⟨wanted_none rfl, loc_assign rfl (hd 11 rfl)⟩
      · exact ⟨wanted_none rfl, loc_assign rfl (hd 12 rfl)⟩
      · exact ⟨wanted_none rfl, loc_assign rfl (hd 13 rfl)⟩
  · intro p hp
    match p, hp with
    | 0, _ =>
      intro a2 wx hv hf hd
      obtain ⟨g9, e9, hB9, hk9⟩ := hd 14 rfl
      obtain ⟨a, cc, e10, hln, hlf⟩ := hd 10 rfl
      refine ⟨wanted_none rfl, wp_store_row 35 _ _ rfl g9 #[.int .i64 c.ph, .int .i64 c.left, .int .i64 c.tr, .slice a (List.length c.line) cc] e9 e10 35 _ hk9 sizeC rfl (oneC ..) ?_⟩
      exact ⟨undef, rfl, below_setRow hv hB9 _, trivial, ⟨.inr fun _ _ _ => trivial, .inr fun _ _ _ => trivial, .inr fun _ _ _ => trivial, .inr fun _ _ _ => trivial, .inr fun _ _ _ => trivial, .inr fun _ _ _ => trivial, .inr fun _ _ _ => trivial, .inr fun _ _ _ => trivial, .inr fun _ _ _ => trivial, .inr fun _ _ h => fedR_row hk9 (noU8_22 rfl) h, .inr fun _ _ _ => trivial, .inr fun _ _ h => bytesV_rowR hk9 (noU8_22 rfl) h, .inr fun _ _ h => h, .inr fun _ _ h => h, .inr fun v hv0 _ => by have h9 := hv0 _ 9 rfl rfl; rw [h9, e9]; exact ⟨g9, a, cc, rfl, hB9, setRow_heap _ _ _ _ _ _ hk9, hln.same fun x e hl => setRow_other _ _ _ _ (row_awayR hk9 (noU8_22 rfl) hln x e hl), hlf⟩, .inl rfl, .inr fun _ _ h => h.elim, .inr fun _ _ h => h.elim, .inr fun _ _ h => h.elim, trivial⟩⟩
  · intro a2 w3 hv hf hh
    obtain ⟨oa, oc, e10a, hout⟩ := hh 16 (by decide)
    have e10 : a2.eval (.tmp 10) = .slice oa (List.length out) oc := e10a
    have e11 : a2.eval (.tmp 11) = .int .i64 n := hh 17 (by decide)
    have e12 : a2.eval (.tmp 12) = .int .i64 er := hh 18 (by decide)
    obtain ⟨gk, a, cc, e9a, hgk, hk3, hln3, hlf3⟩ := hh 14 (by decide)
    have HLF := Box.mk (show ∀ y, a = some y → c.line ≠ [] → w.heap.size ≤ y.block from fun y e hx => by have := hlf3 y e hx; have := HB1.out.size; omega)
    clear hlf3
    have e9 : a2.eval (.tmp 9) = .pointer (some ⟨gk, 0, none⟩) := e9a
    clear hh e9a e10a
    rw [fr_putAll hf]
    clear hf
    simp only [putAll, e9, e10, e11, e12]
    generalize a2.eval (.tmp 14) = u14
    generalize a2.eval (.tmp 15) = u15
    generalize a2.eval (.tmp 16) = u16
    generalize a2.eval (.tmp 17) = u17
    generalize a2.eval (.tmp 18) = u18
    generalize a2.eval (.tmp 19) = u19
    generalize a2.eval (.tmp 20) = u20
    generalize a2.eval (.tmp 21) = u21
    generalize a2.eval (.tmp 22) = u22
    generalize a2.eval (.tmp 13) = u13
    generalize a2.eval (.tmp 23) = u23
    generalize a2.eval (.tmp 24) = u24
    generalize a2.eval (.tmp 25) = u25
    generalize a2.eval (.tmp 26) = u26
    clear e9 e10 e11 e12 a2
    simp only [Act.put, List.setIfInBounds_toArray, List.set_cons_succ, List.set_cons_zero]
    refine hKK _ _ ?_
    clear hKK
    have HM3 := Box.mk (HM1.out.keep hv)
    have HP3 := Box.mk (HO.out.keep hv)
    have HL3 := Box.mk (HL1.out.keep hv)
    have HK3 := Box.mk hk3
    have HLN3 := Box.mk hln3
    have HOUT3 := Box.mk hout
    have HG3 := Box.mk (grownBy_of (below_trans HB1.out hv) (some g))
    have hlw3 : w.heap.size + 1 < w3.heap.size := Nat.lt_of_lt_of_le hlw hv.size
    have hgk2 : w.heap.size + 1 < gk := Nat.lt_of_lt_of_le hlw hgk
    clear hv hk3 hln3 hout HM1 HO HL1 HB1 HBB HLN hlw hgk HFE HRK HCK HSZ HY hrkb
    have h0 := Bh0.out
    clear Bh0
    subst h0
    obtain ⟨c1, hc1⟩ : ∃ y0 : Array Value, y0 = #[.bool s.rep, .string s.meth, .int .i64 s.ph, .string s.m, .string s.t, .int .i64 s.z, .slice fa (List.length s.xs) fc, .bool s.fr, .slice none 0 0, .int .i64 s.st, .string s.rs, .int .i64 s.z2, .slice ga (List.length s.ys) gc, .slice none 0 0, .int .i64 s.fk, .int .i64 s.fl, .int .i64 s.left, .int .i64 s.size, .int .i64 c.ph, .int .i64 c.left, .int .i64 c.tr, .slice a (List.length c.line) cc] := ⟨_, rfl⟩
    have HC1 := Box.mk hc1
    obtain ⟨c2, hc2⟩ : ∃ y0 : Array Value, y0 = #[.bool s.rep, .string s.meth, .int .i64 s.ph, .string s.m, .string s.t, .int .i64 s.z, .slice fa (List.length s.xs) fc, .bool s.fr, .slice none 0 0, .int .i64 s.st, .string s.rs, .int .i64 s.z2, .slice ga (List.length s.ys) gc, .slice none 0 0, .int .i64 s.fk, .int .i64 s.fl, .int .i64 s.left, .int .i64 (s.size + ((List.length out : Nat) : Int)), .int .i64 c.ph, .int .i64 c.left, .int .i64 c.tr, .slice a (List.length c.line) cc] := ⟨_, rfl⟩
    have HC2 := Box.mk hc2
    clear hc1 hc2
    go_upto_region 5 with (first | refine wpList_load_row rfl 35 _ rfl gk rfl 35 #[.int .i64 c.ph, .int .i64 c.left, .int .i64 c.tr, .slice a (List.length c.line) cc] (0, 0) _ HK3.out Tryz.underlying35 rfl sizeC ?_ | refine wpList_store_sub rfl 35 _ _ rfl g 18 #[.int .i64 c.ph, .int .i64 c.left, .int .i64 c.tr, .slice a (List.length c.line) cc] rfl rfl 72 _ c1 HM3.out sizeC (by rw [hcs22]; show 18 + 4 ≤ 22; decide) (oneC ..) (by rw [HCS.out, HC1.out]; rfl) ?_)
    obtain ⟨W4, hW4⟩ : ∃ W4, W4 = w3.setRow g c1 := ⟨_, rfl⟩
    have HM4 := Box.mk (show MVr W4 g c1 by rw [hW4]; exact setRow_heap _ _ _ _ _ _ HM3.out)
    have HG34 := Box.mk (show w3.grownBy W4 (some g) by rw [hW4]; exact grownBy_setRowM _ _ _)
    have hc17 : W4.cell? ⟨g, 17, none⟩ = some (.int .i64 s.size) := by rw [HM4.out.cell, HC1.out]; rfl
    have hz17 : W4.frozen? ⟨g, 17, none⟩ = false := HM4.out.frozen 17
    rw [← hW4]
    clear hW4
    go_upto_region 6 with fail
    obtain ⟨W5, hW5⟩ : ∃ W5, W5 = W4.setCell ⟨g, 17, none⟩ (.int .i64 (s.size + ((List.length out : Nat) : Int))) := ⟨_, rfl⟩
    have HM5 := Box.mk (show MVr W5 g c2 by rw [hW5]; have h := HM4.out.put (i := 17) (v := .int .i64 (s.size + ((List.length out : Nat) : Int))); rw [show c1.setIfInBounds 17 (.int .i64 (s.size + ((List.length out : Nat) : Int))) = c2 by rw [HC1.out, HC2.out]; rfl] at h; exact h)
    have hg35 : w3.grownBy W5 (some g) := by rw [hW5]; exact grownBy_trans HG34.out (grownBy_setC _ _ _ _)
    have hP5 : PVr W5 (w.heap.size + 1) #[.int .i64 0, .slice none 0 0] := (hg35.block _ hlw3 (fun e => by injection e with e; omega)).trans HP3.out
    have hL5 : LVr W5 w.heap.size most body room := (hg35.block _ (by omega) (fun e => by injection e with e; omega)).trans HL3.out
    have hK5 : CVar W5 gk c.ph c.left c.tr (.slice a (List.length c.line) cc) := (hg35.block _ HK3.out.lt (fun e => by injection e with e; omega)).trans HK3.out
    have hLN5 := HLN3.out.grownR hg35 (row_awayR HM3.out HN.out HLN3.out)
    have hOUT5 := HOUT3.out.grownR hg35 (row_awayR HM3.out HN.out HOUT3.out)
    have hG5 := grownBy_trans HG3.out hg35
    have hlw5 : w.heap.size + 1 < W5.heap.size := Nat.lt_of_lt_of_le hlw3 hg35.size
    have hm17 : W5.cell? ⟨g, 17, none⟩ = some (.int .i64 (s.size + ((List.length out : Nat) : Int))) := by rw [HM5.out.cell, HC2.out]; rfl
    have hl1 : W5.cell? ⟨w.heap.size, 1, none⟩ = some (.int .i64 body) := by rw [cell_of_row _ _ _ _ _ _ hL5]; rfl
    rw [← hW5]
    have HDR : ∀ k, Below W5.heap.size W5 (W5.drewN k) := fun k => below_drewN (Below.refl _ _) k
    have HM6 := Box.mk (fun k => HM5.out.keep (HDR k))
    have HP6 := Box.mk (fun k => hP5.keep (HDR k))
    have HK6 := Box.mk (fun k => hK5.keep (HDR k))
    have HLN6 := Box.mk (fun k => hLN5.keep (HDR k))
    have HOUT6 := Box.mk (fun k => hOUT5.keep (HDR k))
    have HG6 := Box.mk (fun k => grownBy_trans hG5 (grownBy_of (HDR k) (some g)))
    have HLW := Box.mk (fun k => Nat.lt_of_lt_of_le hlw5 (HDR k).size)
    clear hW5 hc17 hz17 HM3 HM4 HM5 HG34 hg35 hP5 hL5 hK5 hLN5 hOUT5 hG5 hlw5 HDR HP3 HL3 HK3 HLN3 HOUT3 HG3 hlw3 HC1 HCS hcs22 HN H17
    have hk60 : ∀ k, (W5.drewN k).cell? ⟨gk, 0, none⟩ = some (.int .i64 c.ph) := fun k => by rw [(HK6.out k).cells.1]
    have ep : (c.ph == 4) = false := by rw [beq_eq_false_iff_ne]; exact hp
    clear hp
    have hgt : ¬ s.size + ((List.length out : Nat) : Int) > body := by omega
    clear hbs
    go_wp2_with fail
    go_quiet (fail)
    go_wp2_with (refine wpList_store_row rfl 41 _ _ rfl (w.heap.size + 1) #[.int .i64 0, .slice none 0 0] rfl rfl 41 _ (HP6.out _) sizePt rfl (onePt ..) ?_)
    (try simp only [Exit.inBlock, Exit.then])
    refine bodyPost_ret (results_rtt rfl _ _ (w.heap.size + 1) 41 #[.int .i64 0, .slice none 0 0] (0, 0) _ rfl (setRow_heap _ _ _ _ _ _ (HP6.out _)) Tryz.underlying41 rfl sizePt) rfl ?_
    exact ⟨a, cc, rfl, by rw [← HC2.out]; exact (setRow_other _ _ _ _ (by omega)).trans (HM6.out _), isBytes_rowR (HP6.out _) (noU8_22 rfl) (HLN6.out _), HLF.out, grownBy_own (HG6.out _) (by omega) _⟩
set_option maxRecDepth 100000 in
set_option maxHeartbeats 2000000 in
theorem mChunk_end (s : RS) (b : List UInt8) (most body room : Int) (ba : Option Addr) (bc : Nat) (fa ga la : Option Addr) (fc gc lc : Nat) (g : Nat) (w : World) (hb : IsBytes w ba b bc) (hl : b.length ≤ 1000000) (hm : MVr w g #[.bool s.rep, .string s.meth, .int .i64 s.ph, .string s.m, .string s.t, .int .i64 s.z, .slice fa (List.length s.xs) fc, .bool s.fr, .slice none 0 0, .int .i64 s.st, .string s.rs, .int .i64 s.z2, .slice ga (List.length s.ys) gc, .slice none 0 0, .int .i64 s.fk, .int .i64 s.fl, .int .i64 s.left, .int .i64 s.size, .int .i64 s.ck.ph, .int .i64 s.ck.left, .int .i64 s.ck.tr, .slice la (List.length s.ck.line) lc]) (hln : IsBytes w la s.ck.line lc) (hck : OkC s.ck) (hsz : 0 ≤ s.size ∧ s.size ≤ 1000000000) (hy : 0 ≤ body ∧ body ≤ 1000000000) (hr0 : 0 ≤ room ∧ room ≤ 1000000000) (er : Int) (c : Chk) (out : List UInt8) (n : Nat) (hF : feedS (minI room (body + 1 - s.size)) s.ck [] 0 b = (er, c, out, n)) (hol : out.length ≤ 1000000) (h0 : er = 0) (hbs : ¬ body < s.size + ((List.length out : Nat) : Int)) (ho : ¬ 0 < out.length) (hp : c.ph = 4) :
    Calls Tryz.prog 68 #[.pointer (some ⟨g, 0, none⟩), .slice ba b.length bc, .agg #[.int .i64 most, .int .i64 body, .int .i64 room]] w fun e w' => ∃ a cc, e = .returned (.tuple #[.agg #[.int .i64 3, .slice none 0 0], .int .i64 n, .int .i64 0]) ∧ MVr w' g #[.bool s.rep, .string s.meth, .int .i64 2, .string s.m, .string s.t, .int .i64 s.z, .slice fa (List.length s.xs) fc, .bool s.fr, .slice none 0 0, .int .i64 s.st, .string s.rs, .int .i64 s.z2, .slice ga (List.length s.ys) gc, .slice none 0 0, .int .i64 s.fk, .int .i64 s.fl, .int .i64 s.left, .int .i64 (s.size + ((List.length out : Nat) : Int)), .int .i64 c.ph, .int .i64 c.left, .int .i64 c.tr, .slice a (List.length c.line) cc] ∧ IsBytes w' a c.line cc ∧ (∀ y, a = some y → c.line ≠ [] → w.heap.size ≤ y.block) ∧ w.grownBy w' (some g) := by
  obtain ⟨cs, hcs⟩ : ∃ cs : Array Value, cs = #[.bool s.rep, .string s.meth, .int .i64 s.ph, .string s.m, .string s.t, .int .i64 s.z, .slice fa (List.length s.xs) fc, .bool s.fr, .slice none 0 0, .int .i64 s.st, .string s.rs, .int .i64 s.z2, .slice ga (List.length s.ys) gc, .slice none 0 0, .int .i64 s.fk, .int .i64 s.fl, .int .i64 s.left, .int .i64 s.size, .int .i64 s.ck.ph, .int .i64 s.ck.left, .int .i64 s.ck.tr, .slice la (List.length s.ck.line) lc] := ⟨_, rfl⟩
  have HCS := Box.mk hcs
  rw [← hcs] at hm
  have hcs22 : cs.size = 22 := by rw [hcs]; rfl
  clear hcs
  obtain ⟨W1, hW1⟩ : ∃ W1, W1 = (w.alloc (.cells #[.int .i64 most, .int .i64 body, .int .i64 room] 80)).alloc (.cells #[.int .i64 0, .slice none 0 0] 41) := ⟨_, rfl⟩
  have HB1 := Box.mk (show Below w.heap.size w W1 by rw [hW1]; exact below_twoF (below_oneF _ _) _)
  have HL1 := Box.mk (show LVr W1 w.heap.size most body room by rw [hW1]; exact LVr.keep (heap_alloc_new w (.cells #[.int .i64 most, .int .i64 body, .int .i64 room] 80)) (below_oneF _ _))
  have HO := Box.mk (show PVr W1 (w.heap.size + 1) #[.int .i64 0, .slice none 0 0] by
    have h := heap_alloc_new (w.alloc (.cells #[.int .i64 most, .int .i64 body, .int .i64 room] 80)) (.cells #[.int .i64 0, .slice none 0 0] 41)
    rw [World.size_alloc] at h
    rw [hW1]; exact h)
  have HW1 := Box.mk hW1
  have HM1 := Box.mk (hm.keep HB1.out)
  have hlt := hm.lt
  have hlw : w.heap.size + 1 < W1.heap.size := (Array.getElem?_eq_some_iff.1 HO.out).1
  clear hW1 hm
  have HN := Box.mk (show NoU8 cs by rw [HCS.out]; exact noU8_22 rfl)
  have HBB := Box.mk (hb.keep HB1.out)
  have HLN := Box.mk (hln.keep HB1.out)
  have H17 := Box.mk (show cs[17]? = some (.int .i64 s.size) by rw [HCS.out]; rfl)
  have HCK := Box.mk hck
  obtain ⟨rk, hrk⟩ : ∃ rk : Int, rk = minI room (body + 1 - s.size) := ⟨_, rfl⟩
  have hrkb : -9223372036854775808 ≤ rk ∧ rk ≤ 9223372036854775807 := by have := minI_le room (body + 1 - s.size); rw [hrk]; omega
  have HRK := Box.mk hrk
  have HSZ := Box.mk hsz
  have HY := Box.mk hy
  have HFE := Box.mk (show feedS rk s.ck [] 0 b = (er, c, out, n) by rw [hrk]; exact hF)
  obtain ⟨hsz0, hsz1⟩ := hsz
  clear hb hln hck hF hrk hy
  have Bh0 := Box.mk h0
  clear h0
  have Bhp := Box.mk hp
  clear hp
  go_enter Tryz.func68, Tryz.ntmps68
  go_upto_region 1 with fail
  rw [← HW1.out]
  clear HW1
  go_wp2_with fail
  rename_i KK hKK
  refine wp_region_phases [15] (fun p => match p with | 0 => [0, 1, 2, 3, 4, 5, 6, 7, 8, 9, 10, 11, 12, 13, 14] | _ => [11, 12, 13, 16, 17, 18])
    (fun p => match p with | 0 => [.val (.pointer (some ⟨g, 0, none⟩)), .val (.pointer (some ⟨g, 0, none⟩)), .val (.pointer (some ⟨g, 18, none⟩)), .val (.agg #[.int .i64 s.ck.ph, .int .i64 s.ck.left, .int .i64 s.ck.tr, .slice la (List.length s.ck.line) lc]), .val (.slice ba b.length bc), .val (.pointer (some ⟨g, 0, none⟩)), .val (.agg #[.int .i64 most, .int .i64 body, .int .i64 room]), .val (.int .i64 rk), .fedR W1.heap.size er c out n, .fedR W1.heap.size er c out n, .agR W1.heap.size c, .bytes out, .val (.int .i64 n), .val (.int .i64 er), .cnewR W1.heap.size, .any, .nope, .nope, .nope] | _ => [.any, .any, .any, .any, .any, .any, .any, .any, .any, .fedR W1.heap.size er c out n, .any, .bytes out, .val (.int .i64 n), .val (.int .i64 er), .cstR W1.heap.size c, .any, .bytes out, .val (.int .i64 n), .val (.int .i64 er)])
    (fun _ => fun wx => Below W1.heap.size W1 wx)
    (by kernel_rfl) (by kernel_rfl) (by kernel_rfl) (by kernel_rfl) (by kernel_rfl) (by kernel_rfl) ?_ (Below.refl _ _) ?_ ?_ ?_
  · intro p wa wb h hb
    exact below_trans h hb
  · intro p hp
    match p, hp with
    | 0, _ =>
      refine ⟨?_, ?_, ?_, ?_, ?_, ?_, ?_, ?_, ?_, ?_, ?_, ?_, ?_, ?_, ?_, trivial⟩ <;> intro a1 wx hv hf hd
      · exact ⟨wanted_none rfl, loc_move rfl (hf.base 0 rfl)⟩
      · exact ⟨wanted_none rfl, loc_nilCheck rfl (hd 0 rfl) rfl⟩
      · exact ⟨wanted_none rfl, loc_fieldMs rfl (hd 1 rfl) (by decide) rfl rfl⟩
      · have hra : wx.rangeAt g 18 [.int .i64 s.ck.ph, .int .i64 s.ck.left, .int .i64 s.ck.tr, .slice la (List.length s.ck.line) lc] := fun j v hj => by
          rw [(HM1.out.keep hv).cell, HCS.out]
          match j, hj with
          | 0, hj => exact hj
          | 1, hj => exact hj
          | 2, hj => exact hj
          | 3, hj => exact hj
          | (j + 4), hj => simp at hj
        exact ⟨wanted_none rfl, loc_load rfl (by rw [show a1.eval (.tmp 16) = .pointer (some ⟨g, 18, none⟩) from hd 2 rfl]; exact run_loadAt_mid wx g 18 35 _ _ hra Tryz.underlying35 rfl sizeC) rfl⟩
      · exact ⟨wanted_none rfl, loc_move rfl (hf.base 1 rfl)⟩
      · exact ⟨wanted_none rfl, loc_move rfl (hf.base 0 rfl)⟩
      · exact ⟨wanted_none rfl, loc_load rfl (by rw [show a1.eval (.tmp 5) = .pointer (some ⟨w.heap.size, 0, none⟩) from hf.base 5 rfl]; exact run_loadLm _ _ _ _ _ (HL1.out.keep hv)) rfl⟩
      · refine ⟨wanted_none rfl, loc_call rfl (by kernel_rfl) ?_⟩
        show Calls _ _ #[a1.eval (.tmp 19), a1.eval (.tmp 20)] _ _
        rw [show a1.eval (.tmp 19) = .pointer (some ⟨g, 0, none⟩) from hd 5 rfl, show a1.eval (.tmp 20) = .agg #[.int .i64 most, .int .i64 body, .int .i64 room] from hd 6 rfl]
        refine (mRoom_any g cs most body room s.size wx (HM1.out.keep hv) H17.out HY.out HSZ.out).mono ?_
        rintro e w' ⟨he, hbb⟩
        exact ⟨_, he, hbb, by rw [HRK.out]; rfl⟩
      · refine ⟨wanted_none rfl, loc_call rfl (by kernel_rfl) ?_⟩
        show Calls _ _ #[a1.eval (.tmp 17), a1.eval (.tmp 18), a1.eval (.tmp 21)] _ _
        rw [show a1.eval (.tmp 17) = .agg #[.int .i64 s.ck.ph, .int .i64 s.ck.left, .int .i64 s.ck.tr, .slice la (List.length s.ck.line) lc] from hd 3 rfl, show a1.eval (.tmp 18) = .slice ba b.length bc from hd 4 rfl, show a1.eval (.tmp 21) = .int .i64 rk from hd 7 rfl]
        refine (projFeedF_any s.ck b rk la ba lc bc wx (HLN.out.keep hv) (HBB.out.keep hv) HCK.out (by omega) hrkb.1 hrkb.2).mono ?_
        rintro e w' ⟨a, cc, oa, oc, he, hln, hout, hbb, hlf⟩
        rw [HFE.out] at he hln hout hlf
        exact ⟨_, he, hbb, a, cc, oa, oc, rfl, hln, hout, fun y e hx => Nat.le_trans hv.size (hlf y e hx)⟩
      · exact ⟨wanted_none rfl, loc_move rfl (hd 8 rfl)⟩
      · obtain ⟨a, cc, oa, oc, e1, e2, e3, e4⟩ := hd 9 rfl
        exact ⟨wanted_none rfl, loc_extractR0 rfl e1 ⟨a, cc, rfl, e2, e4⟩⟩
      · obtain ⟨a, cc, oa, oc, e1, e2, e3, e4⟩ := hd 9 rfl
        exact ⟨wanted_none rfl, loc_extractR1 rfl e1 ⟨oa, oc, rfl, e3⟩⟩
      · obtain ⟨a, cc, oa, oc, e1, e2, e3, e4⟩ := hd 9 rfl
        exact ⟨wanted_none rfl, loc_extractR2 rfl e1 rfl⟩
      · obtain ⟨a, cc, oa, oc, e1, e2, e3, e4⟩ := hd 9 rfl
        exact ⟨wanted_none rfl, loc_extractR3 rfl e1 rfl⟩
      · exact ⟨wanted_none rfl, loc_allocCR rfl hv.size fun v w' h => h⟩
    | 1, _ =>
      refine ⟨?_, ?_, ?_, ?_, ?_, ?_, trivial⟩ <;> intro a1 wx hv hf hd
      · obtain ⟨a, cc, oa, oc, e1, e2, e3, e4⟩ := hd 9 rfl
        exact ⟨wanted_none rfl, loc_extractR1 rfl e1 ⟨oa, oc, rfl, e3⟩⟩
      · obtain ⟨a, cc, oa, oc, e1, e2, e3, e4⟩ := hd 9 rfl
        exact ⟨wanted_none rfl, loc_extractR2 rfl e1 rfl⟩
      · obtain ⟨a, cc, oa, oc, e1, e2, e3, e4⟩ := hd 9 rfl
        exact ⟨wanted_none rfl, loc_extractR3 rfl e1 rfl⟩
      · exact ⟨wanted_none rfl, loc_assign rfl (hd 11 rfl)⟩
      · exact ⟨wanted_none rfl, loc_assign rfl (hd 12 rfl)⟩
      · exact ⟨wanted_none rfl, loc_assign rfl (hd 13 rfl)⟩
  · intro p hp
    match p, hp with
    | 0, _ =>
      intro a2 wx hv hf hd
      obtain ⟨g9, e9, hB9, hk9⟩ := hd 14 rfl
      obtain ⟨a, cc, e10, hln, hlf⟩ := hd 10 rfl
      refine ⟨wanted_none rfl, wp_store_row 35 _ _ rfl g9 #[.int .i64 c.ph, .int .i64 c.left, .int .i64 c.tr, .slice a (List.length c.line) cc] e9 e10 35 _ hk9 sizeC rfl (oneC ..) ?_⟩
      exact ⟨undef, rfl, below_setRow hv hB9 _, trivial, ⟨.inr fun _ _ _ => trivial, .inr fun _ _ _ => trivial, .inr fun _ _ _ => trivial, .inr fun _ _ _ => trivial, .inr fun _ _ _ => trivial, .inr fun _ _ _ => trivial, .inr fun _ _ _ => trivial, .inr fun _ _ _ => trivial, .inr fun _ _ _ => trivial, .inr fun _ _ h => fedR_row hk9 (noU8_22 rfl) h, .inr fun _ _ _ => trivial, .inr fun _ _ h => bytesV_rowR hk9 (noU8_22 rfl) h, .inr fun _ _ h => h, .inr fun _ _ h => h, .inr fun v hv0 _ => by have h9 := hv0 _ 9 rfl rfl; rw [h9, e9]; exact ⟨g9, a, cc, rfl, hB9, setRow_heap _ _ _ _ _ _ hk9, hln.same fun x e hl => setRow_other _ _ _ _ (row_awayR hk9 (noU8_22 rfl) hln x e hl), hlf⟩, .inl rfl, .inr fun _ _ h => h.elim, .inr fun _ _ h => h.elim, .inr fun _ _ h => h.elim, trivial⟩⟩
  · intro a2 w3 hv hf hh
    obtain ⟨oa, oc, e10a, hout⟩ := hh 16 (by decide)
    have e10 : a2.eval (.tmp 10) = .slice oa (List.length out) oc := e10a
    have e11 : a2.eval (.tmp 11) = .int .i64 n := hh 17 (by decide)
    have e12 : a2.eval (.tmp 12) = .int .i64 er := hh 18 (by decide)
    obtain ⟨gk, a, cc, e9a, hgk, hk3, hln3, hlf3⟩ := hh 14 (by decide)
    have HLF := Box.mk (show ∀ y, a = some y → c.line ≠ [] → w.heap.size ≤ y.block from fun y e hx => by have := hlf3 y e hx; have := HB1.out.size; omega)
    clear hlf3
    have e9 : a2.eval (.tmp 9) = .pointer (some ⟨gk, 0, none⟩) := e9a
    clear hh e9a e10a
    rw [fr_putAll hf]
    clear hf
    simp only [putAll, e9, e10, e11, e12]
    generalize a2.eval (.tmp 14) = u14
    generalize a2.eval (.tmp 15) = u15
    generalize a2.eval (.tmp 16) = u16
    generalize a2.eval (.tmp 17) = u17
    generalize a2.eval (.tmp 18) = u18
    generalize a2.eval (.tmp 19) = u19
    generalize a2.eval (.tmp 20) = u20
    generalize a2.eval (.tmp 21) = u21
    generalize a2.eval (.tmp 22) = u22
    generalize a2.eval (.tmp 13) = u13
    generalize a2.eval (.tmp 23) = u23
    generalize a2.eval (.tmp 24) = u24
    generalize a2.eval (.tmp 25) = u25
    generalize a2.eval (.tmp 26) = u26
    clear e9 e10 e11 e12 a2
    simp only [Act.put, List.setIfInBounds_toArray, List.set_cons_succ, List.set_cons_zero]
    refine hKK _ _ ?_
    clear hKK
    have HM3 := Box.mk (HM1.out.keep hv)
    have HP3 := Box.mk (HO.out.keep hv)
    have HL3 := Box.mk (HL1.out.keep hv)
    have HK3 := Box.mk hk3
    have HLN3 := Box.mk hln3
    have HOUT3 := Box.mk hout
    have HG3 := Box.mk (grownBy_of (below_trans HB1.out hv) (some g))
    have hlw3 : w.heap.size + 1 < w3.heap.size := Nat.lt_of_lt_of_le hlw hv.size
    have hgk2 : w.heap.size + 1 < gk := Nat.lt_of_lt_of_le hlw hgk
    clear hv hk3 hln3 hout HM1 HO HL1 HB1 HBB HLN hlw hgk HFE HRK HCK HSZ HY hrkb
    have h0 := Bh0.out
    clear Bh0
    subst h0
    obtain ⟨c1, hc1⟩ : ∃ y0 : Array Value, y0 = #[.bool s.rep, .string s.meth, .int .i64 s.ph, .string s.m, .string s.t, .int .i64 s.z, .slice fa (List.length s.xs) fc, .bool s.fr, .slice none 0 0, .int .i64 s.st, .string s.rs, .int .i64 s.z2, .slice ga (List.length s.ys) gc, .slice none 0 0, .int .i64 s.fk, .int .i64 s.fl, .int .i64 s.left, .int .i64 s.size, .int .i64 c.ph, .int .i64 c.left, .int .i64 c.tr, .slice a (List.length c.line) cc] := ⟨_, rfl⟩
    have HC1 := Box.mk hc1
    obtain ⟨c2, hc2⟩ : ∃ y0 : Array Value, y0 = #[.bool s.rep, .string s.meth, .int .i64 s.ph, .string s.m, .string s.t, .int .i64 s.z, .slice fa (List.length s.xs) fc, .bool s.fr, .slice none 0 0, .int .i64 s.st, .string s.rs, .int .i64 s.z2, .slice ga (List.length s.ys) gc, .slice none 0 0, .int .i64 s.fk, .int .i64 s.fl, .int .i64 s.left, .int .i64 (s.size + ((List.length out : Nat) : Int)), .int .i64 c.ph, .int .i64 c.left, .int .i64 c.tr, .slice a (List.length c.line) cc] := ⟨_, rfl⟩
    have HC2 := Box.mk hc2
    clear hc1 hc2
    go_upto_region 5 with (first | refine wpList_load_row rfl 35 _ rfl gk rfl 35 #[.int .i64 c.ph, .int .i64 c.left, .int .i64 c.tr, .slice a (List.length c.line) cc] (0, 0) _ HK3.out Tryz.underlying35 rfl sizeC ?_ | refine wpList_store_sub rfl 35 _ _ rfl g 18 #[.int .i64 c.ph, .int .i64 c.left, .int .i64 c.tr, .slice a (List.length c.line) cc] rfl rfl 72 _ c1 HM3.out sizeC (by rw [hcs22]; show 18 + 4 ≤ 22; decide) (oneC ..) (by rw [HCS.out, HC1.out]; rfl) ?_)
    obtain ⟨W4, hW4⟩ : ∃ W4, W4 = w3.setRow g c1 := ⟨_, rfl⟩
    have HM4 := Box.mk (show MVr W4 g c1 by rw [hW4]; exact setRow_heap _ _ _ _ _ _ HM3.out)
    have HG34 := Box.mk (show w3.grownBy W4 (some g) by rw [hW4]; exact grownBy_setRowM _ _ _)
    have hc17 : W4.cell? ⟨g, 17, none⟩ = some (.int .i64 s.size) := by rw [HM4.out.cell, HC1.out]; rfl
    have hz17 : W4.frozen? ⟨g, 17, none⟩ = false := HM4.out.frozen 17
    rw [← hW4]
    clear hW4
    go_upto_region 6 with fail
    obtain ⟨W5, hW5⟩ : ∃ W5, W5 = W4.setCell ⟨g, 17, none⟩ (.int .i64 (s.size + ((List.length out : Nat) : Int))) := ⟨_, rfl⟩
    have HM5 := Box.mk (show MVr W5 g c2 by rw [hW5]; have h := HM4.out.put (i := 17) (v := .int .i64 (s.size + ((List.length out : Nat) : Int))); rw [show c1.setIfInBounds 17 (.int .i64 (s.size + ((List.length out : Nat) : Int))) = c2 by rw [HC1.out, HC2.out]; rfl] at h; exact h)
    have hg35 : w3.grownBy W5 (some g) := by rw [hW5]; exact grownBy_trans HG34.out (grownBy_setC _ _ _ _)
    have hP5 : PVr W5 (w.heap.size + 1) #[.int .i64 0, .slice none 0 0] := (hg35.block _ hlw3 (fun e => by injection e with e; omega)).trans HP3.out
    have hL5 : LVr W5 w.heap.size most body room := (hg35.block _ (by omega) (fun e => by injection e with e; omega)).trans HL3.out
    have hK5 : CVar W5 gk c.ph c.left c.tr (.slice a (List.length c.line) cc) := (hg35.block _ HK3.out.lt (fun e => by injection e with e; omega)).trans HK3.out
    have hLN5 := HLN3.out.grownR hg35 (row_awayR HM3.out HN.out HLN3.out)
    have hOUT5 := HOUT3.out.grownR hg35 (row_awayR HM3.out HN.out HOUT3.out)
    have hG5 := grownBy_trans HG3.out hg35
    have hlw5 : w.heap.size + 1 < W5.heap.size := Nat.lt_of_lt_of_le hlw3 hg35.size
    have hm17 : W5.cell? ⟨g, 17, none⟩ = some (.int .i64 (s.size + ((List.length out : Nat) : Int))) := by rw [HM5.out.cell, HC2.out]; rfl
    have hl1 : W5.cell? ⟨w.heap.size, 1, none⟩ = some (.int .i64 body) := by rw [cell_of_row _ _ _ _ _ _ hL5]; rfl
    rw [← hW5]
    have HDR : ∀ k, Below W5.heap.size W5 (W5.drewN k) := fun k => below_drewN (Below.refl _ _) k
    have HM6 := Box.mk (fun k => HM5.out.keep (HDR k))
    have HP6 := Box.mk (fun k => hP5.keep (HDR k))
    have HK6 := Box.mk (fun k => hK5.keep (HDR k))
    have HLN6 := Box.mk (fun k => hLN5.keep (HDR k))
    have HOUT6 := Box.mk (fun k => hOUT5.keep (HDR k))
    have HG6 := Box.mk (fun k => grownBy_trans hG5 (grownBy_of (HDR k) (some g)))
    have HLW := Box.mk (fun k => Nat.lt_of_lt_of_le hlw5 (HDR k).size)
    clear hW5 hc17 hz17 HM3 HM4 HM5 HG34 hg35 hP5 hL5 hK5 hLN5 hOUT5 hG5 hlw5 HDR HP3 HL3 HK3 HLN3 HOUT3 HG3 hlw3 HC1 HCS hcs22 HN H17
    have hk60 : ∀ k, (W5.drewN k).cell? ⟨gk, 0, none⟩ = some (.int .i64 4) := fun k => by rw [(HK6.out k).cells.1]; rw [Bhp.out]
    have HC22 := Box.mk (show c2[2]? = some (.int .i64 s.ph) by rw [HC2.out]; rfl)
    have hgt : ¬ s.size + ((List.length out : Nat) : Int) > body := by omega
    clear hbs
    go_wp2_with fail
    go_quiet (fail)
    go_wp2_with fail
    refine (mEnd_any g c2 s.ph n _ (HM6.out _) HC22.out).mono ?_
    rintro e w7 ⟨rfl, hm7, hg7⟩
    have HM7 := Box.mk hm7
    have HP7 := Box.mk (show PVr w7 (w.heap.size + 1) #[.int .i64 0, .slice none 0 0] from (hg7.block _ (HLW.out _) (fun e => by injection e with e; omega)).trans (HP6.out _))
    have HLN7 := Box.mk (grownR_row (HM6.out _) (by rw [HC2.out]; exact noU8_22 rfl) (HLN6.out _) hg7)
    have HG7 := Box.mk (grownBy_trans (HG6.out _) hg7)
    clear hm7 hg7
    go_wp2_with (refine wpList_store_row rfl 41 _ _ rfl (w.heap.size + 1) #[.int .i64 3, .slice none 0 0] rfl rfl 41 _ HP7.out sizePt rfl (onePt ..) ?_)
    (try simp only [Exit.inBlock, Exit.then])
    refine bodyPost_ret (results_rtt rfl _ _ (w.heap.size + 1) 41 #[.int .i64 3, .slice none 0 0] (0, 0) _ rfl (setRow_heap _ _ _ _ _ _ HP7.out) Tryz.underlying41 rfl sizePt) rfl ?_
    exact ⟨a, cc, rfl, by have h := HM7.out; rw [HC2.out] at h; exact (setRow_other _ _ _ _ (by omega)).trans h, HLN7.out.same fun x e hl => setRow_other _ _ _ _ (row_awayR HP7.out (noU8_22 rfl) HLN7.out x e hl), HLF.out, grownBy_own HG7.out (by omega) _⟩
end Go.Proofs.YtejbkbccljoldaaGreatDoor
