/- The reference's Encode. Plain mathematics of the decoder: pieces and room, the beginning of a body, a line. The reader: what its states keep. Plain mathematics of the decoder: lines, chunks, whole bodies. Package chunked: the mathematics of its line and its blocks of data; what a call may touch. The project's reader: variables, what a method leaves alone; copies of slices. The project's reader: small methods. The project's reader: room, checks, the start of a body. Package chunked: leave, isExtension, startChunk, finishLine, readLine. -/
import Derived.Test.YteoadfckcilalaaGreatDoorPq1
import Derived.Test.YteoadfckcilalaaGreatDoorPq2
import Derived.Test.YteoadfckcilalaaGreatDoorPq3
import Derived.Test.YteoadfckcilalaaGreatDoorPq4
import Derived.Test.YteoadfckcilalaaGreatDoorPq5
import Derived.Test.YteoadfckcilalaaGreatDoorRows
import Derived.WalkKit
import Derived.WalkSpells
import Derived.WalkLawsBesides
import Derived.BigQuiet
import Derived.Deep.QuietTactic
import Derived.Lib.Bytealg
import Derived.Lib.IndexLaws
import Derived.Lib.Hide
import Derived.Laws.IdiomStrings
import Derived.Lib.SlTrimSet
import Derived.Lib.IndexBytes
import Derived.Lib.Split
import Derived.Deep.AppendLies
import Derived.Shelf.Strings.SlTrimAscii
import Derived.Shelf.Strings.SplitShaped
import Derived.Shelf.LaysM
import Derived.Shelf.Strings.BuilderK
import Derived.Shelf.Strconv.Itoa4
import Derived.Shelf.Strings.Prefix
import Derived.Shelf.Bytes.SlIndexWhole
import Derived.Test.YteoadfckcilalaaGreatDoorProg
import Derived.Lib.SplitLaws
import Derived.WalkSmall
import Derived.ProofKit
import Derived.OpenShut
import Derived.Lib.Strings
import Derived.SliceStrings
import Derived.Deep.Quiet
import Derived.Tactics
import Derived.KernelRfl
import Derived.Below
import Derived.Laws.Bits64
import Derived.Lib.SlBytesConst
import Derived.Maps.AppendAt
import Derived.Laws.AppendOwnNone
import Derived.Great.BuildSlice
import Derived.Laws.Rows
import Derived.Laws.BitsAllLaws
import Derived.Laws.Shifts
import Derived.Maps.OwnOps
import Derived.Maps.OwnSet
import Derived.Deep.SlicePairs
import Derived.Lib.AppendZerosOnto
import Derived.Lib.AppendStr
import Derived.Laws.CopyOwn
import Derived.OwnWalk
import Derived.Laws.Strings3
import Derived.Lib.ItoaMem
import Derived.Laws.Concat
import Derived.Deep.Matrix
import Derived.IntWalk
import Derived.Sort.Grow
import Derived.Lib.LaidTab
import Derived.LaidSub
import Derived.Lib.ConvBytes
import Derived.Deep.RegionHeld3
import Derived.Laws.RangeAny
import Derived.LoopTactic
import Derived.Deep.DeepCutAuto
import Derived.Deep.MidRow
import Derived.Laws.Tables
import Derived.Deep.WholeRow
import Derived.StillTailTactics
import Derived.Deep.CutBlock
import Derived.Laws.Bits64b
import Derived.Lib.FrozenHead2
import Derived.Lib.LazyBuf
namespace Go.Proofs.YteoadfckcilalaaGreatDoor
open Go.RowKit

def crlfB : ByteArray := ⟨#[13, 10]⟩
def endB : ByteArray := ⟨#[48, 13, 10, 13, 10]⟩
def encOne (s : ByteArray) (l : List UInt8) : ByteArray := if l.length = 0 then s else s ++ fmtS 16 l.length ++ crlfB ++ ⟨l.toArray⟩ ++ crlfB
def encGo (s : ByteArray) (ls : List (List UInt8)) : ByteArray := ls.foldl encOne s
def encodeS (ls : List (List UInt8)) : List UInt8 := (encGo ⟨#[]⟩ ls ++ endB).data.toList
theorem encGo_take {ls : List (List UInt8)} {k : Nat} (hk : k < ls.length) : encGo ⟨#[]⟩ (ls.take (k + 1)) = encOne (encGo ⟨#[]⟩ (ls.take k)) ls[k] := by
 unfold encGo
 rw [List.take_succ_eq_append_getElem hk, List.foldl_append]; rfl
theorem encOne_size (s : ByteArray) {l : List UInt8} (hl : l.length ≤ 1000000) : (encOne s l).size ≤ s.size + 1000068 := by
 unfold encOne
 split
 · omega
 · have h1 := fmtS_size (b := 16) (by decide) (l.length : Int) (by omega)
   simp only [ByteArray.size_append]
   have h2 : (⟨l.toArray⟩ : ByteArray).size = l.length := by show l.toArray.size = _; simp
   have h3 : crlfB.size = 2 := rfl
   omega
theorem encGo_size (ls : List (List UInt8)) (hl : ∀ l ∈ ls, l.length ≤ 1000000) : ∀ s : ByteArray, (encGo s ls).size ≤ s.size + ls.length * 1000068 := by
 induction ls with
 | nil => intro s; show s.size ≤ _; simp
 | cons l r ih =>
  intro s
  have h1 := ih (fun x hx => hl x (List.mem_cons_of_mem _ hx)) (encOne s l)
  have h2 := encOne_size s (hl l (by simp))
  show (encGo (encOne s l) r).size ≤ _
  rw [List.length_cons, Nat.add_mul]
  omega
theorem below_bytesWorld (w : World) (e : TypeId) (s : ByteArray) : Below w.heap.size w (Lib.bytesWorld w e s) :=
 ⟨rfl, rfl, rfl, by rw [Lib.bytesWorld_size]; omega, fun k hk => Lib.bytesWorld_at_old w e s k hk⟩
theorem isBytes_bytesWorld (w : World) (s : ByteArray) (hs : s.size ≤ 4000000000) : IsBytes (Lib.bytesWorld w 5 s) (some ⟨w.heap.size, 0, none⟩) s.data.toList (grownCap w s.size 0 5) := by
 refine .inr ⟨_, rfl, ?_, ?_, fun j hj => ?_⟩
 · have := grownCap_ge w s.size 0 5
   simpa using this
 · exact grownCap_le_maxLen w s.size 0 5 (by unfold maxLen; omega)
 · have hj' : j < s.size := by simpa using hj
   rw [Addr.add_lit, Nat.zero_add, Lib.bytesWorld_cell w 5 s j hj']
   simp [List.getD_eq_getElem?_getD, List.getElem?_eq_getElem hj]
theorem agg_slcG (w : World) : (isAgg 23).run Tryz.prog w = .ok false w := by
 unfold isAgg; rw [Sem.run_bind, run_underlying Tryz.underlying23 w]; rfl
section
variable {Q : Exit → Act → World → Prop} {act : Act} {w : World} {o : Oper} {s : Spec}
theorem loc_index_slG {x y : Operand} (ho : o.op = .indexAddr 95 x y) {ad : Addr} {n c k : Nat} (hx : act.eval x = .slice (some ad) n c) (hy : act.eval y = .int .i64 k) (hk : k < n) (hs : s.p (.pointer (some (ad.add k))) w) :
  o.wp Tryz.prog act w (fun a' w' => ∃ v, a' = act.put o.dst v ∧ Below w.heap.size w w' ∧ s.p v w') Q :=
 loc_run (v := .pointer (some (ad.add k))) (by
  have es : (sizeOf (Tryz.prog.elem 95)).run Tryz.prog w = .ok 1 w := by
   rw [show Tryz.prog.elem 95 = 23 by kernel_rfl]
   have h : (Tryz.prog.info? 23).map (·.size) = some 1 := by kernel_rfl
   cases hq : Tryz.prog.info? 23 with
   | none => rw [hq] at h; cases h
   | some i => rw [hq] at h; simp at h; simp [sizeOf, typeInfo, hq, h]
  have h := run_indexAt_slice (P := Tryz.prog) (w := w) 95 ad n c .i64 (k : Int) (by kernel_rfl)
  rw [if_pos ⟨by omega, by omega⟩, es] at h
  simp only [Result.andThen, Int.toNat_natCast, Nat.mul_one] at h
  unfold execOp
  simp only [ho, hx, hy, Sem.run_bind, h, Result.andThen_ok, Sem.run_pure]) (Below.refl _ _) hs
end
set_option maxRecDepth 100000 in
set_option maxHeartbeats 4000000 in
theorem refEncode_any (ls : List (List UInt8)) (a : Option Addr) (c : Nat) (w : World) (h : SlcIn w a ls) (hn : ls.length ≤ 1000) (hl : ∀ l ∈ ls, l.length ≤ 1000000) :
  Calls Tryz.prog 53 #[.slice a ls.length c] w fun e w' => ∃ ra rl rc, rl = encodeS ls ∧ e = .returned (.slice ra (List.length rl) rc) ∧ IsBytes w' ra rl rc ∧ Below w.heap.size w w' := by
 have H0 := Box.mk h
 have HL := Box.mk hl
 have HSZ := Box.mk (fun k => encGo_size (ls.take k) (fun l hl2 => hl l (List.mem_of_mem_take hl2)) ⟨#[]⟩)
 clear h hl
 go_enter Tryz.func53, Tryz.ntmps53
 go_wp2_with fail
 go_loopw [3, 4] (fun v iv wr => ∃ k : Nat, k ≤ ls.length ∧ iv = .int .i64 k ∧ ∃ s : ByteArray, v = .string s ∧ Box (s = encGo ⟨#[]⟩ (ls.take k) ∧ Below w.heap.size w wr)) (fun _ iv _ => ls.length - (intOf iv).toNat)
 case atStart => exact ⟨0, Nat.zero_le _, rfl, ⟨#[]⟩, rfl, ⟨rfl, Below.refl _ _⟩⟩
 case round =>
  obtain ⟨k, hk, rfl, s0, rfl, HM⟩ := hrel
  have hsz : s0.size ≤ 1000068000 := by
   have h1 := HSZ.out k
   rw [← HM.out.1] at h1
   have h2 : (ls.take k).length ≤ 1000 := by rw [List.length_take]; omega
   have h3 : (⟨#[]⟩ : ByteArray).size = 0 := rfl
   omega
  by_cases hlt : k < ls.length
  · obtain ⟨ad, ba, bc, rfl, hc1, hby⟩ := (H0.out.keep HM.out.2) k hlt
    have HTK := Box.mk (show encGo ⟨#[]⟩ (ls.take (k + 1)) = encOne s0 ls[k] by rw [encGo_take hlt, ← HM.out.1])
    have hll := HL.out _ (List.getElem_mem hlt)
    generalize ls[k] = y at *
    have HBY := Box.mk hby
    clear hby
    by_cases hy : y.length = 0
    · have HS1 := Box.mk (show encGo ⟨#[]⟩ (ls.take (k + 1)) = s0 by rw [HTK.out]; unfold encOne; rw [if_pos hy])
      have hy0 : ¬ 0 < y.length := by omega
      clear hy HTK
      go_wp2_with fail
      go_roundw
      case rel => exact ⟨k + 1, by omega, by go_num, s0, rfl, ⟨HS1.out.symm, HM.out.2⟩⟩
      case measure => simp [intOf]; omega
    · have HS1 := Box.mk (show encGo ⟨#[]⟩ (ls.take (k + 1)) = s0 ++ fmtS 16 y.length ++ crlfB ++ ⟨y.toArray⟩ ++ crlfB by rw [HTK.out]; unfold encOne; rw [if_neg hy])
      have hy0 : 0 < y.length := by omega
      have hfs := fmtS_size (b := 16) (by decide) (y.length : Int) (by omega)
      clear hy HTK
      go_wp2_with fail
      rename_i K hK
      have HB := Box.mk HM.out.2
      clear HM
      generalize hfx : fmtS 16 (y.length : Int) = fx at *
      have HFX := Box.mk hfx
      clear hfx
      have hz1 : (s0 ++ fx).size ≤ 1000069000 := by rw [ByteArray.size_append]; omega
      have hz2 : (s0 ++ fx ++ crlfB).size ≤ 1000069002 := by rw [ByteArray.size_append]; show _ + 2 ≤ _; omega
      have hz3 : (⟨y.toArray⟩ : ByteArray).size ≤ 1000000 := by show y.toArray.size ≤ _; simp; omega
      have hz4 : (s0 ++ fx ++ crlfB ++ ⟨y.toArray⟩).size ≤ 1001069002 := by rw [ByteArray.size_append]; omega
      refine wp_region_tail [.val (.string s0), .val (.slice (some ad) ls.length c), .val (.int .i64 k), .val (.pointer (some (ad.add k))), .val (.slice ba y.length bc), .val (.int .i64 y.length), .val (.string fx), .val (.string (s0 ++ fx)), .val (.string (s0 ++ fx ++ crlfB)), .val (.slice (some ad) ls.length c), .val (.int .i64 k), .val (.pointer (some (ad.add k))), .val (.slice ba y.length bc), .val (.string ⟨y.toArray⟩), .val (.string (s0 ++ fx ++ crlfB ++ ⟨y.toArray⟩)), .val (.string (s0 ++ fx ++ crlfB ++ ⟨y.toArray⟩ ++ crlfB)), .any]
       16 [0, 1, 2, 3, 4, 5, 6, 7, 8, 9, 10, 11, 12, 13, 14, 15] (by kernel_rfl) (by kernel_rfl) (by kernel_rfl) (by kernel_rfl) (by kernel_rfl) (by kernel_rfl) ?_ ?_
      · refine ⟨?_, ?_, ?_, ?_, ?_, ?_, ?_, ?_, ?_, ?_, ?_, ?_, ?_, ?_, ?_, ?_, trivial⟩ <;> intro a1 w1 hv hf hd
        · exact ⟨wanted_none rfl, loc_move rfl (hf.base 3 rfl)⟩
        · exact ⟨wanted_none rfl, loc_move rfl (hf.base 0 rfl)⟩
        · exact ⟨wanted_none rfl, loc_move rfl (hf.base 4 rfl)⟩
        · exact ⟨wanted_none rfl, loc_index_slG rfl (hd 1 rfl) (hd 2 rfl) hlt rfl⟩
        · exact ⟨wanted_none rfl, loc_loadB rfl (hd 3 rfl) (below_cell hv hc1) (agg_slcG _) rfl⟩
        · exact ⟨wanted_none rfl, loc_len rfl (hd 4 rfl) rfl⟩
        · refine ⟨wanted_none rfl, loc_call rfl (by kernel_rfl) ?_⟩
          show Calls _ _ #[a1.eval (.tmp 22)] w1 _
          rw [show a1.eval (.tmp 22) = _ from hd 5 rfl]
          refine (refHex_any y.length w1 (by omega) (by omega)).mono ?_
          rintro e w' ⟨rfl, hb'⟩
          exact ⟨_, rfl, hb', by rw [HFX.out]; rfl⟩
        · exact ⟨wanted_none rfl, loc_addS rfl (hd 0 rfl) (hd 6 rfl) (by omega) rfl⟩
        · exact ⟨wanted_none rfl, loc_addS rfl (hd 7 rfl) (c := crlfB) rfl (by show _ + 2 ≤ _; omega) rfl⟩
        · exact ⟨wanted_none rfl, loc_move rfl (hf.base 0 rfl)⟩
        · exact ⟨wanted_none rfl, loc_move rfl (hf.base 4 rfl)⟩
        · exact ⟨wanted_none rfl, loc_index_slG rfl (hd 9 rfl) (hd 10 rfl) hlt rfl⟩
        · exact ⟨wanted_none rfl, loc_loadB rfl (hd 11 rfl) (below_cell hv hc1) (agg_slcG _) rfl⟩
        · exact ⟨wanted_none rfl, loc_string rfl (by rw [show a1.eval (.tmp 29) = _ from hd 12 rfl]; exact ⟨ba, bc, rfl, HBY.out.keep hv⟩) rfl⟩
        · exact ⟨wanted_none rfl, loc_addS rfl (hd 8 rfl) (hd 13 rfl) (by omega) rfl⟩
        · exact ⟨wanted_none rfl, loc_addS rfl (hd 14 rfl) (c := crlfB) rfl (by show _ + 2 ≤ _; omega) rfl⟩
      · intro a1 w1 hv hf hh
        have e32 : a1.eval (.tmp 32) = .string (s0 ++ fx ++ crlfB ++ ⟨y.toArray⟩ ++ crlfB) := hh 15 (by decide) (by decide)
        refine tail_assign rfl rfl ?_
        rw [show a1.eval (.tmp 32) = _ from e32]
        refine hK _ w1 ?_
        rw [frX_putAll _ (isDstX_take (n := 16) rfl rfl) hf]
        clear hf hh e32
        simp only [List.take_succ_cons, List.take_zero, putAll]
        generalize a1.eval (.tmp 17) = t17
        generalize a1.eval (.tmp 18) = t18
        generalize a1.eval (.tmp 19) = t19
        generalize a1.eval (.tmp 20) = t20
        generalize a1.eval (.tmp 21) = t21
        generalize a1.eval (.tmp 22) = t22
        generalize a1.eval (.tmp 23) = t23
        generalize a1.eval (.tmp 24) = t24
        generalize a1.eval (.tmp 25) = t25
        generalize a1.eval (.tmp 26) = t26
        generalize a1.eval (.tmp 27) = t27
        generalize a1.eval (.tmp 28) = t28
        generalize a1.eval (.tmp 29) = t29
        generalize a1.eval (.tmp 30) = t30
        generalize a1.eval (.tmp 31) = t31
        generalize a1.eval (.tmp 32) = t32
        clear a1
        simp only [Act.put, List.setIfInBounds_toArray, List.set_cons_succ, List.set_cons_zero]
        have HB1 := Box.mk (below_trans HB.out hv)
        clear hv
        generalize hw0 : s0 ++ fx ++ crlfB ++ ⟨y.toArray⟩ ++ crlfB = s1
        rw [hw0] at HS1
        have HW0 := Box.mk hw0
        clear hw0
        go_wp2_with fail
        go_roundw
        case rel => exact ⟨k + 1, by omega, by go_num, s1, rfl, ⟨HS1.out.symm, HB1.out⟩⟩
        case measure => simp [intOf]; omega
  · have HP := Box.mk (show (s0 ++ endB).data.toList = encodeS ls by unfold encodeS; rw [HM.out.1, List.take_of_length_le (by omega)])
    have HB := Box.mk HM.out.2
    clear HM
    have hse : (s0 ++ endB).size ≤ 1000068005 := by rw [ByteArray.size_append]; show _ + 5 ≤ _; omega
    have hcv := Lib.run_convert_string_bytes (P := Tryz.prog) wr 9 23 5 (s0 ++ endB) Tryz.underlying9 Tryz.underlying23 Tryz.underlying5
    have HBY := Box.mk (isBytes_bytesWorld wr (s0 ++ endB) (by omega))
    have HB2 := Box.mk (below_trans HB.out (below_bytesWorld wr 5 (s0 ++ endB)))
    have HLN := Box.mk (show s0.size + 5 = (encodeS ls).length by
     have h1 : (s0 ++ endB).size = s0.size + 5 := by rw [ByteArray.size_append]; rfl
     rw [← h1, ← HP.out]; simp)
    rw [HP.out] at HBY
    unfold endB at hcv HBY HB2
    generalize Lib.bytesWorld wr 5 (s0 ++ ⟨#[48, 13, 10, 13, 10]⟩) = W9 at *
    generalize grownCap wr (s0 ++ ⟨#[48, 13, 10, 13, 10]⟩ : ByteArray).size 0 5 = cp at *
    go_wp2_with fail
    go_ret
    exact ⟨_, encodeS ls, cp, rfl, by rw [← HLN.out]; rfl, HBY.out, HB2.out⟩
end Go.Proofs.YteoadfckcilalaaGreatDoor
namespace Go.Proofs.YteoadfckcilalaaGreatDoor
open Go.RowKit

def dataS (s : Chk) : Chk := ⟨if s.left - 1 = 0 then 2 else 1, s.left - 1, s.tr, s.line⟩
def feedU : Chk → List UInt8 → Nat → List UInt8 → Int × Chk × List UInt8 × Nat
 | s, out, i, [] => (0, s, out, i)
 | s, out, i, x :: r =>
  if s.ph = 4 then (0, s, out, i)
  else if s.ph = 1 then feedU (dataS s) (out ++ [x]) (i + 1) r
  else if (stepS s x).1 = 0 then feedU (stepS s x).2 out (i + 1) r
  else ((stepS s x).1, zeroC, [], 0)
theorem feedU_nil (s : Chk) (out : List UInt8) (i : Nat) : feedU s out i [] = (0, s, out, i) := rfl
theorem feedU_done {s : Chk} (h : s.ph = 4) (out : List UInt8) (i : Nat) (l : List UInt8) : feedU s out i l = (0, s, out, i) := by
 cases l with
 | nil => rfl
 | cons x r => rw [feedU, if_pos h]
theorem feedU_data {s : Chk} (h : s.ph = 1) (out : List UInt8) (i : Nat) (x : UInt8) (r : List UInt8) : feedU s out i (x :: r) = feedU (dataS s) (out ++ [x]) (i + 1) r := by
 rw [feedU, if_neg (by omega), if_pos h]
theorem feedU_ok {s : Chk} {x : UInt8} (h4 : ¬ s.ph = 4) (h1 : ¬ s.ph = 1) (h0 : (stepS s x).1 = 0) (out : List UInt8) (i : Nat) (r : List UInt8) : feedU s out i (x :: r) = feedU (stepS s x).2 out (i + 1) r := by
 rw [feedU, if_neg h4, if_neg h1, if_pos h0]
theorem feedU_err {s : Chk} {x : UInt8} (h4 : ¬ s.ph = 4) (h1 : ¬ s.ph = 1) (h0 : ¬ (stepS s x).1 = 0) (out : List UInt8) (i : Nat) (r : List UInt8) : feedU s out i (x :: r) = ((stepS s x).1, zeroC, [], 0) := by
 rw [feedU, if_neg h4, if_neg h1, if_neg h0]
theorem feedS_piece (q : List UInt8) (room : Int) : ∀ (p : List UInt8) (s : Chk) (o : List UInt8) (k : Nat) (out : List UInt8) (i : Nat), (feedS room s o k p).1 = 0 →
  ∃ d m, (feedS room s o k p).2.2.1 = o ++ d ∧ (feedS room s o k p).2.2.2 = k + m ∧ m ≤ p.length ∧ d.length ≤ m ∧ feedU s out i (p ++ q) = feedU (feedS room s o k p).2.1 (out ++ d) (i + m) ((p ++ q).drop m)
 | [], s, o, k, out, i, _ => ⟨[], 0, by rw [feedS_nil]; simp, by rw [feedS_nil]; simp, Nat.le_refl _, Nat.le_refl _, by rw [feedS_nil]; simp⟩
 | x :: p, s, o, k, out, i, h => by
  by_cases hs : s.ph = 4 ∨ s.ph = 1 ∧ room ≤ o.length
  · rw [feedS_stop hs] at h ⊢
    exact ⟨[], 0, by simp, by simp, Nat.zero_le _, Nat.le_refl _, by simp⟩
  · have h4 : ¬ s.ph = 4 := fun e => hs (.inl e)
    by_cases h1 : s.ph = 1
    · have hr : ¬ room ≤ o.length := fun e => hs (.inr ⟨h1, e⟩)
      rw [feedS_data h1 hr] at h ⊢
      obtain ⟨d, m, e1, e2, e3, e4, e5⟩ := feedS_piece q room p _ _ _ (out ++ [x]) (i + 1) h
      refine ⟨x :: d, m + 1, by rw [e1]; simp, by rw [e2]; omega, by simp; omega, by simp; omega, ?_⟩
      rw [List.cons_append, feedU_data h1]
      unfold dataS
      rw [e5, List.drop_succ_cons, List.append_assoc, List.singleton_append, show i + 1 + m = i + (m + 1) by omega]
    · by_cases h0 : (stepS s x).1 = 0
      · rw [feedS_ok h4 h1 h0] at h ⊢
        obtain ⟨d, m, e1, e2, e3, e4, e5⟩ := feedS_piece q room p _ _ _ out (i + 1) h
        refine ⟨d, m + 1, e1, by rw [e2]; omega, by simp; omega, by omega, ?_⟩
        rw [List.cons_append, feedU_ok h4 h1 h0, e5, List.drop_succ_cons, show i + 1 + m = i + (m + 1) by omega]
      · rw [feedS_err h4 h1 h0] at h
        exact absurd h h0
theorem feedS_bad (q : List UInt8) (room : Int) : ∀ (p : List UInt8) (s : Chk) (o : List UInt8) (k : Nat) (out : List UInt8) (i : Nat), ¬ (feedS room s o k p).1 = 0 →
  feedU s out i (p ++ q) = ((feedS room s o k p).1, zeroC, [], 0)
 | [], s, o, k, out, i, h => absurd rfl h
 | x :: p, s, o, k, out, i, h => by
  by_cases hs : s.ph = 4 ∨ s.ph = 1 ∧ room ≤ o.length
  · rw [feedS_stop hs] at h; exact absurd rfl h
  · have h4 : ¬ s.ph = 4 := fun e => hs (.inl e)
    by_cases h1 : s.ph = 1
    · have hr : ¬ room ≤ o.length := fun e => hs (.inr ⟨h1, e⟩)
      rw [feedS_data h1 hr] at h ⊢
      rw [List.cons_append, feedU_data h1]
      exact feedS_bad q room p _ _ _ _ _ h
    · by_cases h0 : (stepS s x).1 = 0
      · rw [feedS_ok h4 h1 h0] at h ⊢
        rw [List.cons_append, feedU_ok h4 h1 h0]
        exact feedS_bad q room p _ _ _ _ _ h
      · rw [feedS_err h4 h1 h0]
        rw [List.cons_append, feedU_err h4 h1 h0]
theorem feedS_okC (room : Int) : ∀ (p : List UInt8) (s : Chk) (o : List UInt8) (k : Nat), OkC s → (feedS room s o k p).1 = 0 → OkC (feedS room s o k p).2.1
 | [], s, o, k, hs, _ => hs
 | x :: p, s, o, k, hs, h => by
  by_cases hst : s.ph = 4 ∨ s.ph = 1 ∧ room ≤ o.length
  · rw [feedS_stop hst]; exact hs
  · have h4 : ¬ s.ph = 4 := fun e => hst (.inl e)
    by_cases h1 : s.ph = 1
    · have hr : ¬ room ≤ o.length := fun e => hst (.inr ⟨h1, e⟩)
      rw [feedS_data h1 hr] at h ⊢
      exact feedS_okC room p _ _ _ (okC_data hs h1) h
    · by_cases h0 : (stepS s x).1 = 0
      · rw [feedS_ok h4 h1 h0] at h ⊢
        exact feedS_okC room p _ _ _ (okC_step hs h1 h4 h0) h
      · rw [feedS_err h4 h1 h0] at h
        exact absurd h h0
theorem feedS_moves {room : Int} {s : Chk} {x : UInt8} {p : List UInt8} (h4 : ¬ s.ph = 4) (hr : 1 ≤ room) (h : (feedS room s [] 0 (x :: p)).1 = 0) : 1 ≤ (feedS room s [] 0 (x :: p)).2.2.2 := by
 by_cases h1 : s.ph = 1
 · have hr2 : ¬ room ≤ (([] : List UInt8).length : Int) := by simp; omega
   rw [feedS_data h1 hr2] at h ⊢
   obtain ⟨d, m, _, e2, _⟩ := feedS_piece [] room p _ _ _ [] 0 h
   rw [e2]; omega
 · by_cases h0 : (stepS s x).1 = 0
   · rw [feedS_ok h4 h1 h0] at h ⊢
     obtain ⟨d, m, _, e2, _⟩ := feedS_piece [] room p _ _ _ [] 0 h
     rw [e2]; omega
   · rw [feedS_err h4 h1 h0] at h
     exact absurd h h0
end Go.Proofs.YteoadfckcilalaaGreatDoor
namespace Go.Proofs.YteoadfckcilalaaGreatDoor
open Go.RowKit

set_option linter.unusedVariables false
theorem parse10_range (s : ByteArray) : 0 ≤ (parseS 10 1000000000 s).1 ∧ (parseS 10 1000000000 s).1 ≤ 1000000000 ∧ ((parseS 10 1000000000 s).2 = 0 ∨ (parseS 10 1000000000 s).2 = 2 ∨ (parseS 10 1000000000 s).2 = 3) := by
 unfold parseS
 split
 · rename_i h
   have hne : s.data.toList ≠ [] := by
    intro e
    unfold numS at h
    rw [e] at h; simp at h
   have h1 := vgo_ge 10 (by decide) s.data.toList 0 (by decide)
   rw [pgo_eq 10 1000000000 (by decide) _ 0 (by decide) (.inr hne)]
   split
   · exact ⟨h1, by assumption, .inl rfl⟩
   · exact ⟨by decide, by decide, .inr (.inr rfl)⟩
 · exact ⟨by decide, by decide, .inr (.inl rfl)⟩
theorem frameS_range (v : Int) (l : List Fld) (k0 : Int) : ((frameS v l k0).2.2 = 0 ∧ ((frameS v l k0).1 = k0 ∧ (frameS v l k0).2.1 = 0 ∨ (frameS v l k0).1 = 3 ∧ (frameS v l k0).2.1 = 0 ∨ (frameS v l k0).1 = 2 ∧ 0 ≤ (frameS v l k0).2.1 ∧ (frameS v l k0).2.1 ≤ 1000000000)) ∨ (¬ (frameS v l k0).2.2 = 0 ∧ (frameS v l k0).1 = 0 ∧ (frameS v l k0).2.1 = 0) := by
 unfold frameS
 split
 · split
   · exact .inr ⟨by decide, rfl, rfl⟩
   · exact .inl ⟨rfl, .inr (.inl ⟨rfl, rfl⟩)⟩
 · split
   · exact .inl ⟨rfl, .inl ⟨rfl, rfl⟩⟩
   · rename_i y r _
     split
     · exact .inr ⟨by decide, rfl, rfl⟩
     · split
       · have h := parse10_range y
         exact .inl ⟨rfl, .inr (.inr ⟨rfl, h.1, h.2.1⟩)⟩
       · rename_i h0
         exact .inr ⟨h0, rfl, rfl⟩
theorem replyS_range (m : ByteArray) (st v : Int) (l : List Fld) : ((replyS m st v l).2.2 = 0 ∧ ((replyS m st v l).1 = 1 ∧ (replyS m st v l).2.1 = 0 ∨ (replyS m st v l).1 = 4 ∧ (replyS m st v l).2.1 = 0 ∨ (replyS m st v l).1 = 3 ∧ (replyS m st v l).2.1 = 0 ∨ (replyS m st v l).1 = 2 ∧ 0 ≤ (replyS m st v l).2.1 ∧ (replyS m st v l).2.1 ≤ 1000000000)) ∨ (¬ (replyS m st v l).2.2 = 0 ∧ (replyS m st v l).1 = 0 ∧ (replyS m st v l).2.1 = 0) := by
 unfold replyS
 split
 · exact .inl ⟨rfl, .inl ⟨rfl, rfl⟩⟩
 · rcases frameS_range v l 4 with ⟨h1, h2⟩ | h
   · exact .inl ⟨h1, .inr h2⟩
   · exact .inr h
structure OkN (body : Int) (s : RS) : Prop where
 ok : OkR s
 ph : s.ph = 0 ∨ s.ph = 1 ∨ s.ph = 2
 k1 : s.ph = 1 → s.fk = 1 ∨ s.fk = 2 ∨ s.fk = 3 ∨ s.fk = 4
 n1 : s.ph = 1 → s.fk = 1 → s.left = 0
 sz : s.ph = 1 → s.size ≤ body
 lf : s.ph = 1 → s.fk = 2 → s.left + s.size ≤ body
theorem endS_cases (b : List UInt8) (most : Int) : endS b most = (0, 4) ∨ endS b most = (0, 3) ∨ ∃ n : Nat, endS b most = ((n : Int), 0) ∧ 4 ≤ n ∧ n ≤ b.length := by
 by_cases h : (endS b most).2 = 0
 · obtain ⟨n, h1, h2⟩ := endS_ok h
   exact .inr (.inr ⟨n, h1, h2⟩)
 · unfold endS at h ⊢
   split at h
   · exact absurd rfl h
   · rename_i hc
     rw [if_neg hc] at *
     split
     · exact .inr (.inl rfl)
     · exact .inl rfl
theorem okC_zeroR : OkR zeroR := ⟨okC_zero, fun h => absurd h (by decide), by decide, ⟨fun f hf => absurd hf (by simp [zeroR]), by decide⟩, ⟨fun f hf => absurd hf (by simp [zeroR]), by decide⟩⟩
theorem minI_le (a b : Int) : minI a b ≤ a ∧ minI a b ≤ b ∧ (minI a b = a ∨ minI a b = b) := by
 unfold minI; split <;> refine ⟨by omega, by omega, ?_⟩ <;> simp
theorem smallF_short {l : List Fld} (h : SmallF l) : ShortF l := fun f hf => ⟨Nat.le_trans (h f hf).1 (by decide), Nat.le_trans (h f hf).2 (by decide)⟩
theorem finX_ok {x : RS} {f : Int × Int × Int} {n : Nat} {body : Int} (hb0 : 0 ≤ body ∧ body ≤ 1000000000) (hxs : ShortF x.xs ∧ x.xs.length ≤ 64) (hys : ShortF x.ys ∧ x.ys.length ≤ 64)
  (hf : (f.2.2 = 0 ∧ (f.1 = 1 ∧ f.2.1 = 0 ∨ f.1 = 4 ∧ f.2.1 = 0 ∨ f.1 = 3 ∧ f.2.1 = 0 ∨ f.1 = 2 ∧ 0 ≤ f.2.1 ∧ f.2.1 ≤ 1000000000)) ∨ (¬ f.2.2 = 0 ∧ f.1 = 0 ∧ f.2.1 = 0)) (h0 : (finX x f n body).er = 0) :
  OkN body (finX x f n body).r ∧ (finX x f n body).n = n ∧ (finX x f n body).data = [] ∧ (finX x f n body).kind = 1 ∧ (finX x f n body).r.ph = 1 := by
 unfold finX at h0 ⊢
 by_cases h1 : f.2.2 ≠ 0
 · rw [if_pos h1] at h0
   refine absurd h0 ?_
   show ¬ (if f.2.2 = 3 then (9 : Int) else f.2.2) = 0
   split
   · decide
   · exact h1
 · rw [if_neg h1] at h0 ⊢
   have h1' : f.2.2 = 0 := Decidable.not_not.1 h1
   by_cases h2 : f.1 = 2 ∧ body < f.2.1
   · rw [if_pos h2] at h0
     exact absurd h0 (by decide)
   · rw [if_neg h2]
     rcases hf with ⟨_, hf⟩ | ⟨hf, _⟩
     · refine ⟨⟨⟨okC_zero, fun h => ?_, ⟨by show (0 : Int) ≤ 0; omega, by show (0 : Int) ≤ _; omega⟩, hxs, hys⟩, .inr (.inl rfl), fun _ => ?_, fun _ h => ?_, fun _ => hb0.1, fun _ h => ?_⟩, rfl, rfl, rfl, rfl⟩
       · dsimp only at h ⊢; omega
       · dsimp only; omega
       · dsimp only at h ⊢; omega
       · dsimp only at h ⊢; omega
     · exact absurd h1' hf
theorem headX_ok {s : RS} {h : List UInt8} {body : Int} (hb0 : 0 ≤ body ∧ body ≤ 1000000000) (hl : h.length ≤ 1000000) (hs : OkN body s) (hp : s.ph = 0) (h0 : (headX s h body).er = 0) :
  OkN body (headX s h body).r ∧ (headX s h body).n = h.length ∧ (headX s h body).data = [] ∧ ((headX s h body).kind = 1 ∧ (headX s h body).r.ph = 1 ∨ (headX s h body).kind = 4 ∧ (headX s h body).r = s) := by
 unfold headX at h0 ⊢
 split at h0
 · rename_i hrep
   rw [if_pos hrep]
   split at h0
   · rename_i h1; exact absurd h0 h1
   · rename_i h1
     rw [if_neg h1]
     split at h0
     · exact absurd h0 (by decide)
     · rename_i h2
       rw [if_neg h2]
       split at h0
       · rename_i h3
         rw [if_pos h3]
         exact ⟨hs, rfl, rfl, .inr ⟨rfl, rfl⟩⟩
       · rename_i h3
         rw [if_neg h3]
         have hA := headA_sm hl
         have := finX_ok (x := { s with st := (headA h).2.1, rs := (headA h).2.2.1, z2 := (headA h).2.2.2.1, ys := (headA h).2.2.2.2 }) hb0 hs.ok.xs ⟨smallF_short hA.1, hA.2⟩ (replyS_range _ _ _ _) h0
         exact ⟨this.1, this.2.1, this.2.2.1, .inl ⟨this.2.2.2.1, this.2.2.2.2⟩⟩
 · rename_i hrep
   rw [if_neg hrep]
   split at h0
   · rename_i h1; exact absurd h0 h1
   · rename_i h1
     rw [if_neg h1]
     have hA := headR_sm hl
     have := finX_ok (x := { s with m := (headR h).2.1, t := (headR h).2.2.1, z := (headR h).2.2.2.1, xs := (headR h).2.2.2.2, fr := !decide ((frameS (headR h).2.2.2.1 (headR h).2.2.2.2 1).1 = 1) }) hb0 ⟨smallF_short hA.1, hA.2⟩ hs.ok.ys (by
      rcases frameS_range (headR h).2.2.2.1 (headR h).2.2.2.2 1 with ⟨h1, h2⟩ | h2
      · exact .inl ⟨h1, by omega⟩
      · exact .inr h2) h0
     exact ⟨this.1, this.2.1, this.2.2.1, .inl ⟨this.2.2.2.1, this.2.2.2.2⟩⟩
theorem firstX_ok {s : RS} {b : List UInt8} {most body : Int} (hb0 : 0 ≤ body ∧ body ≤ 1000000000) (hl : b.length ≤ 1000000) (hs : OkN body s) (hp : s.ph = 0) (h0 : (firstX s b most body).er = 0) :
  OkN body (firstX s b most body).r ∧ (firstX s b most body).n ≤ b.length ∧ (firstX s b most body).data = [] := by
 rcases endS_cases b most with h | h | ⟨n, hE, h4, hn⟩
 · unfold firstX at h0 ⊢
   rw [if_pos (by rw [h])]
   exact ⟨hs, Nat.zero_le _, rfl⟩
 · unfold firstX at h0
   rw [if_neg (by rw [h]; show ¬ (3 : Int) = 4; decide), if_pos (by rw [h]; show (3 : Int) ≠ 0; decide), h] at h0
   exact absurd h0 (by decide)
 · unfold firstX at h0 ⊢
   rw [if_neg (by rw [hE]; show ¬ (0 : Int) = 4; decide), if_neg (by rw [hE]; exact fun h => h rfl), hE] at h0 ⊢
   have e : (b.take ((n : Int), (0 : Int)).1.toNat).length = n := by rw [List.length_take]; show min (Int.toNat (n : Int)) _ = n; rw [Int.toNat_natCast]; omega
   have := headX_ok hb0 (by rw [e]; omega) hs hp h0
   exact ⟨this.1, by rw [this.2.1, e]; exact hn, this.2.2.1⟩
theorem feedS_len (room : Int) (s : Chk) (p : List UInt8) : (feedS room s [] 0 p).2.2.1.length ≤ p.length ∧ (feedS room s [] 0 p).2.2.2 ≤ p.length := by
 by_cases h : (feedS room s [] 0 p).1 = 0
 · obtain ⟨d, m, e1, e2, e3, e4, _⟩ := feedS_piece [] room p s [] 0 [] 0 h
   rw [e1, e2]
   simp only [List.nil_append]
   omega
 · have : ∀ (l : List UInt8) (s : Chk) (o : List UInt8) (k : Nat), ¬ (feedS room s o k l).1 = 0 → (feedS room s o k l).2.2.1 = [] ∧ (feedS room s o k l).2.2.2 = 0 := by
    intro l
    induction l with
    | nil => intro s o k h; exact absurd rfl h
    | cons x l ih =>
     intro s o k h
     by_cases hs : s.ph = 4 ∨ s.ph = 1 ∧ room ≤ o.length
     · rw [feedS_stop hs] at h; exact absurd rfl h
     · have h4 : ¬ s.ph = 4 := fun e => hs (.inl e)
       by_cases h1 : s.ph = 1
       · have hr : ¬ room ≤ o.length := fun e => hs (.inr ⟨h1, e⟩)
         rw [feedS_data h1 hr] at h ⊢
         exact ih _ _ _ h
       · by_cases h0 : (stepS s x).1 = 0
         · rw [feedS_ok h4 h1 h0] at h ⊢
           exact ih _ _ _ h
         · rw [feedS_err h4 h1 h0]
           exact ⟨rfl, rfl⟩
   have h2 := this p s [] 0 h
   rw [h2.1, h2.2]
   exact ⟨Nat.zero_le _, Nat.zero_le _⟩
theorem take_minI {b : List UInt8} {k : Int} (h0 : 0 ≤ k) (hk : k ≤ b.length) : (b.take k.toNat).length = k.toNat ∧ ((k.toNat : Nat) : Int) = k := by
 rw [List.length_take]
 omega
theorem moreX_ok {s : RS} {b : List UInt8} {body room : Int} (hb0 : 0 ≤ body ∧ body ≤ 1000000000) (hl : b.length ≤ 1000000) (hr0 : 0 ≤ room) (hs : OkN body s) (hp : s.ph = 1) (h0 : (moreX s b body room).er = 0) :
  OkN body (moreX s b body room).r ∧ (moreX s b body room).n ≤ b.length ∧ (moreX s b body room).data.length ≤ b.length := by
 unfold moreX at h0 ⊢
 have hsz := hs.sz hp
 have hs0 := hs.ok.size
 split at h0
 · rename_i hk
   rw [if_pos hk]
   split at h0
   · rename_i h1
     rw [if_pos h1]
     exact ⟨⟨⟨hs.ok.ck, hs.ok.left, hs.ok.size, hs.ok.xs, hs.ok.ys⟩, .inr (.inr rfl), fun h => absurd h (by show ¬ (2 : Int) = 1; decide), fun h => absurd h (by show ¬ (2 : Int) = 1; decide), fun h => absurd h (by show ¬ (2 : Int) = 1; decide), fun h => absurd h (by show ¬ (2 : Int) = 1; decide)⟩, Nat.zero_le _, Nat.zero_le _⟩
   · rename_i h1
     rw [if_neg h1]
     split at h0
     · rename_i h2
       rw [if_pos h2]
       exact ⟨hs, Nat.zero_le _, Nat.zero_le _⟩
     · rename_i h2
       rw [if_neg h2]
       have hk2 : s.fk = 2 := by omega
       have hlf := hs.ok.left hk2
       have hm1 := minI_le s.left room
       have hm2 := minI_le (minI s.left room) b.length
       generalize minI (minI s.left room) b.length = k at *
       have hkk : 0 ≤ k ∧ k ≤ s.left ∧ k ≤ b.length := by omega
       have ht := take_minI hkk.1 hkk.2.2
       refine ⟨⟨⟨hs.ok.ck, fun _ => ?_, ?_, hs.ok.xs, hs.ok.ys⟩, hs.ph, hs.k1, fun _ h => ?_, fun _ => ?_, fun _ h => ?_⟩, by dsimp only; omega, by dsimp only; omega⟩
       · dsimp only; omega
       · dsimp only; omega
       · dsimp only at h; omega
       · have := hs.lf hp hk2; dsimp only; omega
       · have := hs.lf hp hk2; dsimp only; omega
 · rename_i hk
   rw [if_neg hk]
   split at h0
   · rename_i hk3
     rw [if_pos hk3]
     have hfl := feedS_len (minI room (body + 1 - s.size)) s.ck b
     have hok := feedS_okC (minI room (body + 1 - s.size)) b s.ck [] 0 hs.ok.ck
     generalize feedS (minI room (body + 1 - s.size)) s.ck [] 0 b = f at *
     split at h0
     · rename_i h1; exact absurd h0 h1
     · rename_i h1
       rw [if_neg h1]
       have h1' : f.1 = 0 := Decidable.not_not.1 h1
       split at h0
       · exact absurd h0 (by decide)
       · rename_i h2
         rw [if_neg h2]
         have hnew : ∀ (p : Int), p = 1 ∨ p = 2 → OkN body { s with ck := f.2.1, size := s.size + f.2.2.1.length, ph := p } := fun p hp2 => by
          refine ⟨⟨hok h1', fun h => absurd h (by dsimp only; omega), by dsimp only; omega, hs.ok.xs, hs.ok.ys⟩, .inr hp2, fun _ => hs.k1 hp, fun _ h => absurd h (by dsimp only; omega), fun _ => by dsimp only; omega, fun _ h => absurd h (by dsimp only; omega)⟩
         split at h0
         · rename_i h3
           rw [if_pos h3]
           have := hnew 1 (.inl rfl)
           rw [← hp] at this
           exact ⟨this, hfl.2, hfl.1⟩
         · rename_i h3
           rw [if_neg h3]
           have hz : ((f.2.2.1.length : Nat) : Int) = 0 := by omega
           rw [hz] at hnew
           simp only [Int.add_zero] at hnew
           split at h0
           · rename_i h4
             rw [if_pos h4]
             exact ⟨hnew 2 (.inr rfl), hfl.2, Nat.zero_le _⟩
           · rename_i h4
             rw [if_neg h4]
             have := hnew 1 (.inl rfl)
             rw [← hp] at this
             exact ⟨this, hfl.2, Nat.zero_le _⟩
   · rename_i hk3
     rw [if_neg hk3]
     have hm1 := minI_le room b.length
     have hm2 := minI_le (minI room b.length) (body + 1 - s.size)
     generalize minI (minI room b.length) (body + 1 - s.size) = k at *
     split at h0
     · rename_i h1
       rw [if_pos h1]
       exact ⟨hs, Nat.zero_le _, Nat.zero_le _⟩
     · rename_i h1
       rw [if_neg h1]
       split at h0
       · exact absurd h0 (by decide)
       · rename_i h2
         rw [if_neg h2]
         have hkk : 0 ≤ k ∧ k ≤ b.length := by omega
         have ht := take_minI hkk.1 hkk.2
         refine ⟨⟨⟨hs.ok.ck, fun h => absurd h (by dsimp only; omega), by dsimp only; omega, hs.ok.xs, hs.ok.ys⟩, hs.ph, hs.k1, fun _ h => absurd h (by dsimp only; omega), fun _ => by dsimp only; omega, fun _ h => absurd h (by dsimp only; omega)⟩, by dsimp only; omega, by dsimp only; omega⟩
theorem nextX_ok {s : RS} {b : List UInt8} {most body room : Int} (hb0 : 0 ≤ body ∧ body ≤ 1000000000) (hl : b.length ≤ 1000000) (hs : OkN body s) (h0 : (nextX s b most body room).er = 0) :
  OkN body (nextX s b most body room).r ∧ (nextX s b most body room).n ≤ b.length ∧ (nextX s b most body room).data.length ≤ b.length := by
 unfold nextX at h0 ⊢
 split at h0
 · rename_i hp
   rw [if_pos hp]
   have := firstX_ok hb0 hl hs hp h0
   exact ⟨this.1, this.2.1, by rw [this.2.2]; exact Nat.zero_le _⟩
 · rename_i hp
   rw [if_neg hp]
   split at h0
   · rename_i hp1
     rw [if_pos hp1]
     exact moreX_ok hb0 hl (by split <;> omega) hs hp1 h0
   · rename_i hp1
     rw [if_neg hp1]
     exact ⟨hs, Nat.zero_le _, Nat.zero_le _⟩
end Go.Proofs.YteoadfckcilalaaGreatDoor
namespace Go.Proofs.YteoadfckcilalaaGreatDoor
open Go.RowKit

def trS (p t : Int) (n : Nat) : Int := if p = 3 then t + n else t
def Plain (w : List UInt8) : Prop := ∀ x ∈ w, ¬ x = 13 ∧ ¬ x = 10
theorem crB_plain {w : List UInt8} (h : Plain w) : crB w = false := by
 rcases last_cases w with rfl | ⟨m, z, rfl⟩
 · rfl
 · rw [crB_app]
   have := (h z (by simp)).1
   simpa using this
theorem stepS_line {p l t : Int} {w : List UInt8} {x : UInt8} (h3 : p = 3 → t + 1 ≤ 1024) : stepS ⟨p, l, t, w⟩ x = byteS ⟨p, l, t, w⟩ (trS p t 1) x := by
 unfold stepS trS
 by_cases h : p = 3
 · have := h3 h
   simp only [if_pos h]
   rw [if_neg (by omega)]; rfl
 · simp only [if_neg h]
theorem trS_add (p t : Int) (n m : Nat) : trS p (trS p t n) m = trS p t (n + m) := by
 unfold trS; split
 · push_cast; omega
 · rfl
theorem feed_plain {p l : Int} (h1 : ¬ p = 1) (h4 : ¬ p = 4) (out r : List UInt8) : ∀ (w pre : List UInt8) (t : Int) (i : Nat), Plain (pre ++ w) → (pre ++ w).length ≤ 128 → (p = 3 → t + w.length ≤ 1024) →
  feedU ⟨p, l, t, pre⟩ out i (w ++ r) = feedU ⟨p, l, trS p t w.length, pre ++ w⟩ out (i + w.length) r
 | [], pre, t, i, _, _, _ => by
  have : trS p t 0 = t := by unfold trS; split <;> simp
  simp [this]
 | x :: w, pre, t, i, hp, hl, h3 => by
  have hx := hp x (by simp)
  have hpre : Plain pre := fun y hy => hp y (by simp [hy])
  have hst : stepS ⟨p, l, t, pre⟩ x = (0, ⟨p, l, trS p t 1, pre ++ [x]⟩) := by
   rw [stepS_line (fun e => by have := h3 e; simp at this; omega)]
   exact byteS_more (crB_plain hpre) hx.2 (fun hb => by have := hb.1; simp at this hl; omega)
  rw [List.cons_append, feedU_ok h4 h1 (by rw [hst]), hst]
  have ih := feed_plain (l := l) h1 h4 out r w (pre ++ [x]) (trS p t 1) (i + 1) (by simpa using hp) (by simpa using hl) (fun e => by have := h3 e; unfold trS; rw [if_pos e]; simp at this ⊢; omega)
  rw [ih, trS_add]
  simp only [List.append_assoc, List.singleton_append, List.length_cons]
  rw [show 1 + w.length = w.length + 1 by omega, show i + 1 + w.length = i + (w.length + 1) by omega]
theorem feed_line {p l t : Int} (h1 : ¬ p = 1) (h4 : ¬ p = 4) (out r w : List UInt8) (i : Nat) (hp : Plain w) (hl : w.length ≤ 128) (h3 : p = 3 → t + w.length + 2 ≤ 1024) (h0 : (lineS ⟨p, l, trS p t (w.length + 2), []⟩ ⟨w.toArray⟩).1 = 0) :
  feedU ⟨p, l, t, []⟩ out i (w ++ 13 :: 10 :: r) = feedU (lineS ⟨p, l, trS p t (w.length + 2), []⟩ ⟨w.toArray⟩).2 out (i + (w.length + 2)) r := by
 rw [feed_plain h1 h4 out _ w [] t i (by simpa using hp) (by simpa using hl) (fun e => by have := h3 e; omega)]
 rw [List.nil_append]
 have ht3 : p = 3 → trS p t w.length = t + w.length := fun e => by unfold trS; rw [if_pos e]
 have hs1 : stepS ⟨p, l, trS p t w.length, w⟩ 13 = (0, ⟨p, l, trS p t (w.length + 1), w ++ [13]⟩) := by
  rw [stepS_line (fun e => by rw [ht3 e]; have := h3 e; omega), trS_add]
  exact byteS_more (crB_plain hp) (by decide) (fun hb => hb.2 rfl)
 rw [feedU_ok h4 h1 (by rw [hs1]), hs1]
 have hs2 : stepS ⟨p, l, trS p t (w.length + 1), w ++ [13]⟩ 10 = lineS ⟨p, l, trS p t (w.length + 2), []⟩ ⟨w.toArray⟩ := by
  rw [stepS_line (fun e => by unfold trS; rw [if_pos e]; have := h3 e; push_cast; omega), trS_add, byteS_line]
 rw [feedU_ok h4 h1 (by rw [hs2]; exact h0), hs2, show i + w.length + 1 + 1 = i + (w.length + 2) by omega]
theorem feed_data (t : Int) (r : List UInt8) : ∀ (d : List UInt8) (out : List UInt8) (i : Nat), d ≠ [] → feedU ⟨1, d.length, t, []⟩ out i (d ++ r) = feedU ⟨2, 0, t, []⟩ (out ++ d) (i + d.length) r
 | [], _, _, h => absurd rfl h
 | [x], out, i, _ => by
  rw [List.cons_append, feedU_data rfl]
  rfl
 | x :: y :: d, out, i, _ => by
  rw [List.cons_append, feedU_data rfl]
  have e : dataS ⟨1, ((x :: y :: d).length : Nat), t, []⟩ = ⟨1, ((y :: d).length : Nat), t, []⟩ := by
   unfold dataS
   simp only [List.length_cons]
   push_cast
   rw [if_neg (by omega)]
   congr 1; omega
  rw [e, feed_data t r (y :: d) (out ++ [x]) (i + 1) (by simp)]
  simp only [List.append_assoc, List.singleton_append, List.length_cons]
  rw [show i + 1 + (d.length + 1) = i + (d.length + 1 + 1) by omega]
theorem lineS_zero {l t : Int} {y : ByteArray} {n : Int} (hp : parseS 16 1000000000 (szS y) = (n, 0)) (hv : visS y = true) : lineS ⟨0, l, t, []⟩ y = (0, ⟨if n = 0 then 3 else 1, n, t, []⟩) := by
 have h := lineS_size (l := l) (t := t) (y := y) (by rw [hp, hv]; simp) (by rw [hp])
 rw [h, hp]
theorem lineS_end {l t : Int} : lineS ⟨2, l, t, []⟩ ⟨([] : List UInt8).toArray⟩ = (0, ⟨0, l, t, []⟩) := rfl
theorem lineS_fin {l t : Int} : lineS ⟨3, l, t, []⟩ ⟨([] : List UInt8).toArray⟩ = (0, ⟨4, l, t, []⟩) := rfl
theorem feed_chunk (w d r out : List UInt8) (i : Nat) (hw : Plain w) (hl : w.length ≤ 128) (hd : d ≠ []) (hp : parseS 16 1000000000 (szS ⟨w.toArray⟩) = ((d.length : Int), 0)) (hv : visS ⟨w.toArray⟩ = true) :
  feedU zeroC out i (w ++ 13 :: 10 :: (d ++ 13 :: 10 :: r)) = feedU zeroC (out ++ d) (i + (w.length + 2 + d.length + 2)) r := by
 have hd0 : ¬ (d.length : Int) = 0 := by
  have := List.length_pos_iff.2 hd; omega
 have ht : trS 0 0 (w.length + 2) = 0 := rfl
 have hls := lineS_zero (l := 0) (t := 0) hp hv
 rw [if_neg hd0] at hls
 unfold zeroC
 rw [feed_line (p := 0) (by decide) (by decide) out _ w i hw hl (fun e => absurd e (by decide)) (by rw [ht, hls]), ht, hls]
 rw [feed_data 0 _ d out _ hd]
 have h2 := feed_line (p := 2) (l := 0) (t := 0) (by decide) (by decide) (out ++ d) r [] (i + (w.length + 2) + d.length) (fun _ h => by cases h) (by simp) (fun e => absurd e (by decide)) (by rw [lineS_end])
 rw [List.nil_append] at h2
 rw [h2, lineS_end]
 show feedU ⟨0, 0, 0, []⟩ _ _ _ = _
 rw [show i + (w.length + 2) + d.length + ([].length + 2) = i + (w.length + 2 + d.length + 2) by simp; omega]
theorem feed_last (w r out : List UInt8) (i : Nat) (hw : Plain w) (hl : w.length ≤ 128) (hp : parseS 16 1000000000 (szS ⟨w.toArray⟩) = (0, 0)) (hv : visS ⟨w.toArray⟩ = true) :
  feedU zeroC out i (w ++ 13 :: 10 :: r) = feedU ⟨3, 0, 0, []⟩ out (i + (w.length + 2)) r := by
 have ht : trS 0 0 (w.length + 2) = 0 := rfl
 have hls := lineS_zero (l := 0) (t := 0) hp hv
 rw [if_pos rfl] at hls
 unfold zeroC
 rw [feed_line (p := 0) (by decide) (by decide) out _ w i hw hl (fun e => absurd e (by decide)) (by rw [ht, hls]), ht, hls]
theorem feed_done (r out : List UInt8) (t : Int) (i : Nat) (ht : t + 2 ≤ 1024) : feedU ⟨3, 0, t, []⟩ out i (13 :: 10 :: r) = (0, ⟨4, 0, t + 2, []⟩, out, i + 2) := by
 have e : trS 3 t (([] : List UInt8).length + 2) = t + 2 := by unfold trS; rw [if_pos rfl]; simp
 have h2 := feed_line (p := 3) (l := 0) (t := t) (by decide) (by decide) out r [] i (fun _ h => by cases h) (by simp) (fun _ => by simpa using ht) (by rw [e, lineS_fin])
 rw [List.nil_append] at h2
 rw [h2, e, lineS_fin, feedU_done rfl]
 rfl

theorem digs_bytes (n : Nat) : ∀ x ∈ digs 16 n, 48 ≤ x.toNat ∧ x.toNat ≤ 102 ∧ ¬ x = 59 ∧ valB x = true := fun x hx => by
 have h1 := List.all_eq_true.1 (digs_num (b := 16) (by decide) (by decide) n) x hx
 unfold numB at h1
 have h2 := of_decide_eq_true h1
 unfold dv at h2
 have h3 : 48 ≤ x.toNat ∧ x.toNat ≤ 57 ∨ 97 ≤ x.toNat ∧ x.toNat ≤ 102 ∨ 65 ≤ x.toNat ∧ x.toNat ≤ 70 := by
  split at h2
  · omega
  · split at h2
    · omega
    · split at h2
      · omega
      · omega
 refine ⟨by omega, by omega, fun e => by subst e; simp at h3, ?_⟩
 unfold valB
 simp
 omega
theorem plain_digs (n : Nat) : Plain (digs 16 n) := fun x hx => by
 have h := digs_bytes n x hx
 refine ⟨fun e => ?_, fun e => ?_⟩ <;> (subst e; simp at h)
theorem splitL_head (c : UInt8) : ∀ (a b : List UInt8), ¬ c ∈ a → (splitL c (a ++ c :: b))[0]? = some a := fun a b h => by
 rw [splitL_append, splitL_whole c a h]; rfl
theorem szS_plain {a : List UInt8} (h : ¬ (59 : UInt8) ∈ a) : szS ⟨a.toArray⟩ = ⟨a.toArray⟩ := by
 unfold szS splitS
 show (((splitL 59 a).map ofL)[0]?).getD _ = _
 rw [splitL_whole 59 a h]; rfl
theorem szS_ext {a b : List UInt8} (h : ¬ (59 : UInt8) ∈ a) : szS ⟨(a ++ 59 :: b).toArray⟩ = ⟨a.toArray⟩ := by
 unfold szS splitS
 show (((splitL 59 (a ++ 59 :: b)).map ofL)[0]?).getD _ = _
 rw [List.getElem?_map, splitL_head 59 a b h]; rfl
theorem digs_no59 (n : Nat) : ¬ (59 : UInt8) ∈ digs 16 n := fun h => (digs_bytes n _ h).2.2.1 rfl
theorem parse_digs {n : Nat} (h : n ≤ 1000000000) : parseS 16 1000000000 ⟨(digs 16 n).toArray⟩ = ((n : Int), 0) := by
 have h1 := parse_numeral (b := 16) (by decide) (by decide) n 1000000000
 rw [if_pos (by omega)] at h1
 exact h1
theorem vis_digs (n : Nat) : visS ⟨(digs 16 n).toArray⟩ = true := by
 unfold visS
 exact List.all_eq_true.2 fun x hx => (digs_bytes n x hx).2.2.2
theorem digs16_len (n : Nat) (h : n ≤ 9223372036854775807) : (digs 16 n).length ≤ 64 := by
 have h1 := fmtS_size (b := 16) (by decide) (n : Int) (by omega)
 unfold fmtS at h1
 rw [if_neg (by omega)] at h1
 have e : (numeral 16 (n : Int).toNat).size = (digs 16 n).length := by
  show (digs 16 (n : Int).toNat).toArray.size = _
  rw [List.size_toArray, Int.toNat_natCast]
 omega
def encL : List (List UInt8) → List UInt8
 | [] => [48, 13, 10, 13, 10]
 | d :: r => if d = [] then encL r else digs 16 d.length ++ 13 :: 10 :: (d ++ 13 :: 10 :: encL r)
theorem feed_enc (more : List UInt8) : ∀ (ls : List (List UInt8)) (out : List UInt8) (i : Nat), (∀ d ∈ ls, d.length ≤ 1000000) → feedU zeroC out i (encL ls ++ more) = (0, ⟨4, 0, 2, []⟩, out ++ ls.flatten, i + (encL ls).length)
 | [], out, i, _ => by
  have hl := feed_last [48] (13 :: 10 :: more) out i (fun x hx => by simp at hx; subst hx; decide) (by decide) (by decide +kernel) (by decide +kernel)
  have e : encL [] ++ more = [48] ++ 13 :: 10 :: (13 :: 10 :: more) := rfl
  rw [e, hl, feed_done more out 0 _ (by decide)]
  simp [encL]
 | d :: r, out, i, h => by
  by_cases hd : d = []
  · have e : encL (d :: r) = encL r := by rw [encL, if_pos hd]
    rw [e, feed_enc more r out i (fun x hx => h x (by simp [hx])), hd]
    simp
  · have e : encL (d :: r) = digs 16 d.length ++ 13 :: 10 :: (d ++ 13 :: 10 :: encL r) := by rw [encL, if_neg hd]
    have hdl := h d (by simp)
    have e2 : encL (d :: r) ++ more = digs 16 d.length ++ 13 :: 10 :: (d ++ 13 :: 10 :: (encL r ++ more)) := by rw [e]; simp
    have hlen := digs16_len d.length (by omega)
    rw [e2, feed_chunk (digs 16 d.length) d (encL r ++ more) out i (plain_digs _) (by omega) hd (by rw [szS_plain (digs_no59 _)]; exact parse_digs (by omega)) (vis_digs _)]
    rw [feed_enc more r (out ++ d) _ (fun x hx => h x (by simp [hx])), e]
    simp only [List.flatten_cons, List.append_assoc, List.length_append, List.length_cons]
    rw [show i + ((digs 16 d.length).length + 2 + d.length + 2) + (encL r).length = i + ((digs 16 d.length).length + (d.length + ((encL r).length + 1 + 1) + 1 + 1)) by omega]
theorem encGo_list : ∀ (ls : List (List UInt8)) (s : ByteArray), (encGo s ls ++ endB).data.toList = s.data.toList ++ encL ls
 | [], s => by
  show (s ++ endB).data.toList = _
  rw [encL]; simp [endB]
 | d :: r, s => by
  have ih := encGo_list r (encOne s d)
  show (encGo (encOne s d) r ++ endB).data.toList = _
  rw [ih]
  by_cases hd : d = []
  · have e : encOne s d = s := by unfold encOne; rw [if_pos (by rw [hd]; rfl)]
    rw [e, encL, if_pos hd]
  · have hn : ¬ d.length = 0 := fun e => hd (List.eq_nil_of_length_eq_zero e)
    have e : (encOne s d).data.toList = s.data.toList ++ (digs 16 d.length ++ 13 :: 10 :: (d ++ [13, 10])) := by
     unfold encOne
     rw [if_neg hn]
     have e2 : (fmtS 16 (d.length : Int)).data.toList = digs 16 d.length := by
      unfold fmtS; rw [if_neg (by omega)]; rfl
     simp [crlfB, e2]
    rw [e, encL, if_neg hd]
    simp
theorem encodeS_eq (ls : List (List UInt8)) : encodeS ls = encL ls := by
 unfold encodeS
 rw [encGo_list]; rfl
end Go.Proofs.YteoadfckcilalaaGreatDoor
namespace Go.Proofs.YteoadfckcilalaaGreatDoor
open Go.RowKit

theorem blank_val {c : UInt8} (h : blankB c = true) : valB c = true := by
 unfold blankB blanks at h
 simp only [List.contains_cons, List.contains_nil, Bool.or_false, Bool.or_eq_true, beq_iff_eq] at h
 rcases h with rfl | rfl <;> decide
theorem all_dropWhile (l : List UInt8) : (l.dropWhile blankB).all valB = l.all valB := by
 induction l with
 | nil => rfl
 | cons c r ih =>
  rw [List.dropWhile_cons]
  by_cases h : blankB c = true
  · rw [if_pos h, ih, List.all_cons, blank_val h, Bool.true_and]
  · rw [if_neg h]
theorem all_trimL (l : List UInt8) : (trimL l).all valB = l.all valB := by
 unfold trimL rdrop
 rw [all_dropWhile, List.all_reverse, all_dropWhile, List.all_reverse]
theorem valS_trim (s : ByteArray) : valS (trimBA s) = visS s := by
 unfold valS
 rw [trimBA_idem]
 simp only [beq_self_eq_true, Bool.and_true]
 unfold visS
 rw [trimBA_list, all_trimL]
theorem num_val {c : UInt8} (h : numB 16 c = true) : valB c = true := by
 unfold numB at h
 have h2 := of_decide_eq_true h
 unfold dv at h2
 have h3 : 48 ≤ c.toNat ∧ c.toNat ≤ 57 ∨ 97 ≤ c.toNat ∧ c.toNat ≤ 102 ∨ 65 ≤ c.toNat ∧ c.toNat ≤ 70 := by
  split at h2
  · omega
  · split at h2
    · omega
    · split at h2
      · omega
      · omega
 unfold valB
 simp
 omega
theorem parse_vis {s : ByteArray} (h : ¬ (parseS 16 1000000000 s).2 = 2) : visS s = true := by
 unfold parseS at h
 split at h
 · rename_i hn
   unfold numS at hn
   rw [Bool.and_eq_true] at hn
   exact List.all_eq_true.2 fun x hx => num_val (List.all_eq_true.1 hn.1 x hx)
 · simp at h
theorem cutS_list (s : ByteArray) : (¬ (59 : UInt8) ∈ s.data.toList ∧ cutS 59 s = (s, ⟨#[]⟩)) ∨ ∃ a b : List UInt8, ¬ (59 : UInt8) ∈ a ∧ s = ⟨(a ++ 59 :: b).toArray⟩ ∧ cutS 59 s = (⟨a.toArray⟩, ⟨b.toArray⟩) := by
 rcases idxI_cases 59 s with h | ⟨k, h, hk⟩
 · refine .inl ⟨fun hm => ?_, cutS_no h⟩
   obtain ⟨j, hj⟩ := List.getElem?_of_mem hm
   exact Lib.indexByte_none h j hj
 · obtain ⟨h1, h2⟩ := Lib.indexByte_some h
   have hl : k < s.data.toList.length := by simpa using hk
   refine .inr ⟨s.data.toList.take k, s.data.toList.drop (k + 1), fun hm => ?_, ?_, ?_⟩
   · obtain ⟨j, hj⟩ := List.getElem?_of_mem hm
     rw [List.getElem?_take] at hj
     split at hj
     · rename_i hlt
       exact h2 j hlt hj
     · cases hj
   · refine ba_ext ?_
     have e : s.data.toList = s.data.toList.take k ++ 59 :: s.data.toList.drop (k + 1) := by
      rw [List.getElem?_eq_getElem hl] at h1
      rw [← Option.some.inj h1, ← List.drop_eq_getElem_cons hl, List.take_append_drop]
     exact e
   · rw [cutS_at h]
     refine Prod.ext (ba_ext ?_) (ba_ext ?_)
     · simp
     · show (s.extract (k + 1) s.size).data.toList = s.data.toList.drop (k + 1)
       rw [ByteArray.data_extract, Array.toList_extract, List.extract_eq_take_drop]
       exact List.take_of_length_le (by rw [List.length_drop]; show _ - _ ≤ s.data.size - _; rw [Array.length_toList]; exact Nat.le_refl _)
theorem cutS_sz (y : ByteArray) : szS y = (cutS 59 y).1 := by
 rcases cutS_list y with ⟨h, e⟩ | ⟨a, b, h, rfl, e⟩
 · rw [e]
   exact szS_plain (a := y.data.toList) h
 · rw [e]
   exact szS_ext h
theorem cutS_vis (y : ByteArray) : visS y = (visS (cutS 59 y).1 && visS (cutS 59 y).2) := by
 rcases cutS_list y with ⟨h, e⟩ | ⟨a, b, h, rfl, e⟩
 · rw [e]
   show visS y = (visS y && true)
   rw [Bool.and_true]
 · rw [e]
   unfold visS
   show (a ++ 59 :: b).all valB = (a.all valB && b.all valB)
   rw [List.all_append, List.all_cons, show valB 59 = true by decide, Bool.true_and]
theorem lineS_ext {l t : Int} {y : ByteArray} (h : visS (cutS 59 y).2 = false) : lineS ⟨0, l, t, []⟩ y = (2, zeroC) :=
 lineS_bad (.inr (by rw [cutS_vis, h, Bool.and_false]))
theorem lineS_err {l t n e : Int} {y : ByteArray} (h : visS (cutS 59 y).2 = true) (hp : parseS 16 1000000000 (cutS 59 y).1 = (n, e)) (h0 : ¬ e = 0) : lineS ⟨0, l, t, []⟩ y = (e, zeroC) := by
 have hp2 : parseS 16 1000000000 (szS y) = (n, e) := by rw [cutS_sz]; exact hp
 by_cases h2 : e = 2
 · subst h2
   exact lineS_bad (.inl (by rw [hp2]))
 · have hv : visS y = true := by
    rw [cutS_vis, h, Bool.and_true]
    exact parse_vis (by rw [hp]; exact h2)
   have := lineS_big (l := l) (t := t) (y := y) (by rw [hp2, hv]; simp [h2]) (by rw [hp2]; exact h0)
   rw [hp2] at this
   exact this
theorem lineS_ok {l t n : Int} {y : ByteArray} (h : visS (cutS 59 y).2 = true) (hp : parseS 16 1000000000 (cutS 59 y).1 = (n, 0)) : lineS ⟨0, l, t, []⟩ y = (0, ⟨if n = 0 then 3 else 1, n, t, []⟩) :=
 lineS_zero (by rw [cutS_sz]; exact hp) (by
  rw [cutS_vis, h, Bool.and_true]
  exact parse_vis (by rw [hp]; exact (by decide : ¬ (0 : Int) = 2)))
theorem feedS_block (room : Int) : ∀ (n : Nat) (s : Chk) (out : List UInt8) (i : Nat) (l : List UInt8), s.ph = 1 → n + 1 ≤ l.length → ((n + 1 : Nat) : Int) ≤ s.left → (out.length : Int) + (n + 1 : Nat) ≤ room →
  feedS room s out i l = feedS room ⟨if s.left - (n + 1 : Nat) = 0 then 2 else 1, s.left - (n + 1 : Nat), s.tr, s.line⟩ (out ++ l.take (n + 1)) (i + (n + 1)) (l.drop (n + 1))
 | n, s, out, i, [], _, h, _, _ => absurd h (by simp)
 | 0, s, out, i, x :: r, h1, _, _, h4 => by
  rw [feedS_data h1 (by omega)]
  rfl
 | n + 1, s, out, i, x :: r, h1, h2, h3, h4 => by
  rw [feedS_data h1 (by omega), if_neg (by omega)]
  have ih := feedS_block room n ⟨1, s.left - 1, s.tr, s.line⟩ (out ++ [x]) (i + 1) r rfl (by simp at h2; omega) (by show _ ≤ s.left - 1; omega) (by simp; omega)
  rw [ih]
  simp only [List.take_succ_cons, List.drop_succ_cons, List.append_assoc, List.singleton_append]
  rw [show s.left - 1 - ((n + 1 : Nat) : Int) = s.left - ((n + 1 + 1 : Nat) : Int) by omega, show i + 1 + (n + 1) = i + (n + 1 + 1) by omega]

structure Touch (w w' : World) (g : Nat) (r : Option Nat) : Prop where
 os : w'.os = w.os
 tape : w'.tape = w.tape
 output : w'.output = w.output
 size : w.heap.size ≤ w'.heap.size
 block : ∀ k, k < w.heap.size → k ≠ g → some k ≠ r → w'.heap[k]? = w.heap[k]?
theorem Touch.refl (w : World) (g : Nat) (r : Option Nat) : Touch w w g r := ⟨rfl, rfl, rfl, Nat.le_refl _, fun _ _ _ _ => rfl⟩
theorem Touch.ofVar {w w' : World} {g : Nat} (h : w.grownBy w' (some g)) (r : Option Nat) : Touch w w' g r := ⟨h.os, h.tape, h.output, h.size, fun k hk hg _ => h.block k hk (fun e => hg (Option.some.inj e))⟩
theorem Touch.ofRow {w w' : World} {r : Option Nat} (h : w.grownBy w' r) (g : Nat) : Touch w w' g r := ⟨h.os, h.tape, h.output, h.size, fun k hk _ hr => h.block k hk hr⟩
theorem Touch.trans {w w1 w2 : World} {g : Nat} {r r' : Option Nat} (h : Touch w w1 g r) (k : Touch w1 w2 g r') (hr : r' = r ∨ r' = none ∨ ∃ q, r' = some q ∧ w.heap.size ≤ q) : Touch w w2 g r :=
 ⟨k.os.trans h.os, k.tape.trans h.tape, k.output.trans h.output, Nat.le_trans h.size k.size, fun i hi hg hne => (k.block i (Nat.lt_of_lt_of_le hi h.size) hg (fun e => by
  rcases hr with rfl | rfl | ⟨q, rfl, hq⟩
  · exact hne e
  · cases e
  · have := Option.some.inj e; omega)).trans (h.block i hi hg hne)⟩
theorem grownBy_setC (w : World) (g i : Nat) (u : Value) : w.grownBy (w.setCell ⟨g, i, none⟩ u) (some g) :=
 ⟨by unfold World.setCell; split <;> rfl, by unfold World.setCell; split <;> rfl, by unfold World.setCell; split <;> rfl, Nat.le_of_eq (World.size_setCell w _ u).symm, fun k _ hne => heap_setCell_other _ _ _ _ (fun e => hne (by rw [e]))⟩
theorem grownBy_of {w w' : World} (h : Below w.heap.size w w') (r : Option Nat) : w.grownBy w' r := ⟨h.os, h.tape, h.output, h.size, fun k hk _ => h.block k hk⟩
theorem Own.touch {B g : Nat} {w w' : World} {v : Value} {l : List UInt8} {r : Option Nat} (h : Own B w v l) (t : Touch w w' g r) (hg : g < B) (hne : ∀ k, v.ownBlock = some k → some k ≠ r) : Own B w' v l :=
 h.same fun k hk => t.block k (h.lt hk).2 (by have := (h.lt hk).1; omega) (hne k hk)
theorem Below.touch {B g : Nat} {w0 w w' : World} {r : Option Nat} (h : Below B w0 w) (t : Touch w w' g r) (hB : B ≤ w.heap.size) (hg : B ≤ g) (hr : ∀ k, r = some k → B ≤ k) : Below B w0 w' :=
 ⟨t.os.trans h.os, t.tape.trans h.tape, t.output.trans h.output, Nat.le_trans h.size t.size, fun i hi => (t.block i (by omega) (by omega) (fun e => by have := hr i e.symm; omega)).trans (h.block i hi)⟩
theorem CVar.touch {w w' : World} {g g2 : Nat} {p l t : Int} {v : Value} {r : Option Nat} (h : CVar w g2 p l t v) (k : Touch w w' g r) (hg : g2 ≠ g) (hr : some g2 ≠ r) : CVar w' g2 p l t v := by
 unfold CVar at *
 rw [k.block g2 (Array.getElem?_eq_some_iff.1 h).1 hg hr]; exact h
end Go.Proofs.YteoadfckcilalaaGreatDoor
namespace Go.Proofs.YteoadfckcilalaaGreatDoor
open Go.RowKit

def MVr (w : World) (g : Nat) (cs : Array Value) : Prop := w.heap[g]? = some (.cells cs 73 (0, 0))
theorem MVr.keep {w w' : World} {g : Nat} {cs : Array Value} (h : MVr w g cs) (hb : Below w.heap.size w w') : MVr w' g cs := by
 unfold MVr at *
 rw [hb.block g (Array.getElem?_eq_some_iff.1 h).1]; exact h
theorem MVr.lt {w : World} {g : Nat} {cs : Array Value} (h : MVr w g cs) : g < w.heap.size := (Array.getElem?_eq_some_iff.1 h).1
theorem MVr.cell {w : World} {g : Nat} {cs : Array Value} (h : MVr w g cs) (i : Nat) : w.cell? ⟨g, i, none⟩ = cs[i]? := cell_of_row _ _ _ _ _ _ h
theorem MVr.put {w : World} {g i : Nat} {cs : Array Value} {v : Value} (h : MVr w g cs) : MVr (w.setCell ⟨g, i, none⟩ v) g (cs.setIfInBounds i v) := heap_setCell_same w g i _ _ _ h
theorem MVr.frozen {w : World} {g : Nat} {cs : Array Value} (h : MVr w g cs) (i : Nat) : w.frozen? ⟨g, i, none⟩ = false := frozen_of_row w g i _ _ h
def LVr (w : World) (g : Nat) (a b c : Int) : Prop := w.heap[g]? = some (.cells #[.int .i64 a, .int .i64 b, .int .i64 c] 81 (0, 0))
theorem LVr.keep {w w' : World} {g : Nat} {a b c : Int} (h : LVr w g a b c) (hb : Below w.heap.size w w') : LVr w' g a b c := by
 unfold LVr at *
 rw [hb.block g (Array.getElem?_eq_some_iff.1 h).1]; exact h
theorem sizeMs : (Tryz.prog.info? 73).map (·.size) = some 22 := by kernel_rfl
theorem sizeLm : (Tryz.prog.info? 81).map (·.size) = some 3 := by kernel_rfl
theorem oneLm (a b c : Int) : (#[.int .i64 a, .int .i64 b, .int .i64 c] : Array Value).all (·.oneCell') = true := by simp [Value.oneCell']
theorem grownBy_setRowM (w : World) (g : Nat) (cs : Array Value) : w.grownBy (w.setRow g cs) (some g) :=
 ⟨rfl, rfl, rfl, by simp [World.setRow], fun k _ hk => setRow_other _ _ _ _ (fun e => hk (by rw [e]))⟩
theorem grownBy_refl (w : World) (r : Option Nat) : w.grownBy w r := ⟨rfl, rfl, rfl, Nat.le_refl _, fun _ _ _ => rfl⟩
theorem grownBy_own {w w' : World} {r : Option Nat} {g : Nat} (h : w.grownBy w' r) (hg : w.heap.size ≤ g) (cs : Array Value) : w.grownBy (w'.setRow g cs) r :=
 grownBy_new h (grownBy_setRowM w' g cs) (fun i e => by injection e with e; omega)
theorem cell_lt {w : World} {x : Addr} {j : Nat} {v : Value} (h : w.cell? (x.add j) = some v) : x.block < w.heap.size := by
 unfold World.cell? at h
 rw [add_blockC] at h
 split at h
 · rename_i c t f he
   exact (Array.getElem?_eq_some_iff.1 he).1
 · cases h
theorem sameNe {w w' : World} {a : Option Addr} {l : List Fld} (h : FldsIn w a l) (hb : ∀ y, a = some y → l ≠ [] → w'.heap[y.block]? = w.heap[y.block]?) : FldsIn w' a l := by
 by_cases hl : l = []
 · subst hl; exact FldsIn.nil _ _
 · exact h.same fun y e => hb y e hl
theorem FldsIn.old {w : World} {a : Option Addr} {l : List Fld} (h : FldsIn w a l) {y : Addr} (e : a = some y) (hl : l ≠ []) : y.block < w.heap.size := by
 obtain ⟨x, hx, hc, _⟩ := h 0 (List.length_pos_iff.2 hl)
 rw [e] at hx
 obtain rfl := Option.some.inj hx
 exact cell_lt hc
theorem IsBytes.old {w : World} {a : Option Addr} {l : List UInt8} {c : Nat} (h : IsBytes w a l c) {y : Addr} (e : a = some y) (hl : l ≠ []) : y.block < w.heap.size := by
 rcases h with ⟨h1, _⟩ | ⟨x, h1, _, _, h4⟩
 · rw [h1] at e; cases e
 · rw [h1] at e
   obtain rfl := Option.some.inj e
   exact cell_lt (h4 0 (List.length_pos_iff.2 hl))
theorem FldsIn.grownR {w w' : World} {g : Nat} {a : Option Addr} {l : List Fld} (h : FldsIn w a l) (hg : w.grownBy w' (some g)) (hne : ∀ y, a = some y → l ≠ [] → y.block ≠ g) : FldsIn w' a l :=
 sameNe h fun y e hl => hg.block _ (h.old e hl) (fun e2 => hne y e hl (Option.some.inj e2))
theorem IsBytes.grownR {w w' : World} {g : Nat} {a : Option Addr} {l : List UInt8} {c : Nat} (h : IsBytes w a l c) (hg : w.grownBy w' (some g)) (hne : ∀ y, a = some y → l ≠ [] → y.block ≠ g) : IsBytes w' a l c :=
 h.same fun y e hl => hg.block _ (h.old e hl) (fun e2 => hne y e hl (Option.some.inj e2))
def NoU8 (cs : Array Value) : Prop := ∀ (i : Nat) (z : Int), cs[i]? ≠ some (.int .u8 z)
theorem RMem.grown {P : Nat → Prop} {w w' : World} {s : RS} {fa ga la : Option Addr} {lc g : Nat} {cs : Array Value} (h : RMem P w s fa ga la lc) (hg : w.grownBy w' (some g)) (hP : ∀ k, P k → k ≠ g) (hm : MVr w g cs) (hn : NoU8 cs) : RMem P w' s fa ga la lc :=
 ⟨h.f1.grownR hg fun y e hl => hP _ (h.n1 y e hl), h.f2.grownR hg fun y e hl => hP _ (h.n2 y e hl), h.ln.grownR hg (row_awayR hm hn h.ln), h.n1, h.n2⟩
theorem results_rtt {P : Program} {fn : Func} {q1 q2 p1 : Tmp} {ty1 : TypeId} (h : fn.results = #[.cell p1 ty1, .tmp q1, .tmp q2]) (tmps : Array Value) (w : World) (g1 : Nat) (t1 : TypeId) (c1 : Array Value) (f1 : Nat × Nat) (d1 : TypeDesc)
  (hp1 : tmps.getD p1 undef = .pointer (some ⟨g1, 0, none⟩)) (hg1 : w.heap[g1]? = some (.cells c1 t1 f1))
  (hu1 : P.underlying ty1 = some d1) (hd1 : (match d1 with | .struct _ | .array _ _ => true | _ => false) = true) (hi1 : (P.info? ty1).map (·.size) = some c1.size) :
  (results fn tmps).run P w = .ok (.tuple #[.agg c1, tmps.getD q1 undef, tmps.getD q2 undef]) w := by
 have hp1' : tmps[p1]?.getD undef = .pointer (some ⟨g1, 0, none⟩) := by simpa using hp1
 simp [results, h, hp1', asAddr, run_loadVar_row w g1 t1 ty1 c1 f1 d1 hg1 hu1 hd1 hi1]
theorem results_r {P : Program} {fn : Func} {p1 : Tmp} {ty1 : TypeId} (h : fn.results = #[.cell p1 ty1]) (tmps : Array Value) (w : World) (g1 : Nat) (t1 : TypeId) (c1 : Array Value) (f1 : Nat × Nat) (d1 : TypeDesc)
  (hp1 : tmps.getD p1 undef = .pointer (some ⟨g1, 0, none⟩)) (hg1 : w.heap[g1]? = some (.cells c1 t1 f1))
  (hu1 : P.underlying ty1 = some d1) (hd1 : (match d1 with | .struct _ | .array _ _ => true | _ => false) = true) (hi1 : (P.info? ty1).map (·.size) = some c1.size) :
  (results fn tmps).run P w = .ok (.agg c1) w := by
 have hp1' : tmps[p1]?.getD undef = .pointer (some ⟨g1, 0, none⟩) := by simpa using hp1
 simp [results, h, hp1', asAddr, run_loadVar_row w g1 t1 ty1 c1 f1 d1 hg1 hu1 hd1 hi1]
theorem AccF.freshC {w0 w : World} {v : Value} {l : List Fld} (h : AccF w0 w v l) : ∃ a cap, v = .slice a l.length cap ∧ FldsIn w a l ∧ (∀ y, a = some y → w0.heap.size ≤ y.block) ∧ (a = none → cap = 0) := by
 obtain ⟨a, cap, e, hs, hn⟩ := h.shapeC
 refine ⟨a, cap, e, hs, fun y ha => ?_, fun ha => (hn ha).2⟩
 subst ha
 obtain ⟨⟨h1, h2⟩, _⟩ := h
 rcases h2 with ⟨rfl, h2⟩ | ⟨g, cap', cur, rfl, hg, _⟩
 · cases e
 · injection e with e1
   obtain rfl := Option.some.inj e1
   exact hg
theorem AccB.freshB {w0 w : World} {v : Value} {l : List UInt8} (h : AccB w0 w v l) : ∃ a cap, v = .slice a l.length cap ∧ IsBytes w a l cap ∧ ∀ y, a = some y → w0.heap.size ≤ y.block := by
 obtain ⟨a, cap, e, hs⟩ := h.shape
 refine ⟨a, cap, e, hs, fun y ha => ?_⟩
 subst ha
 obtain ⟨⟨h1, h2⟩, _⟩ := h
 rcases h2 with ⟨rfl, h2⟩ | ⟨g, cap', cur, rfl, hg, _⟩
 · cases e
 · injection e with e1
   obtain rfl := Option.some.inj e1
   exact hg

set_option maxRecDepth 100000 in
set_option maxHeartbeats 1000000 in
theorem cloneF_any (l : List Fld) (a : Option Addr) (c : Nat) (w : World) (h : FldsIn w a l) (hl : l.length ≤ 1000000) :
  Calls Tryz.prog 55 #[.slice a l.length c] w fun e w' => ∃ a' c', e = .returned (.slice a' l.length c') ∧ FldsIn w' a' l ∧ (∀ y, a' = some y → w.heap.size ≤ y.block) ∧ Below w.heap.size w w' := by
 cases a with
 | none =>
  have hl0 : l = [] := by
   cases l with
   | nil => rfl
   | cons x r => obtain ⟨y, hy, _⟩ := h 0 (by simp); cases hy
  subst hl0
  have hnil : ∀ W, (binOp .eql 27 (.slice none 0 c) (.slice none 0 0)).run Tryz.prog W = .ok (.bool true) W := fun W => run_eql_slice_nil W _ _ none 0 c Tryz.underlying27
  go_enter Tryz.func55, Tryz.ntmps55
  go_wp2_with fail
  go_ret
  exact ⟨none, 0, rfl, FldsIn.nil _ _, fun y e => (by cases e), Below.refl _ _⟩
 | some ad =>
  have H0 := Box.mk h
  clear h
  have HE := Box.mk (AccF.empty w)
  have hnil : ∀ W, (binOp .eql 27 (.slice (some ad) l.length c) (.slice none 0 0)).run Tryz.prog W = .ok (.bool false) W := fun W => run_eql_slice_nil W _ _ (some ad) l.length c Tryz.underlying27
  go_enter Tryz.func55, Tryz.ntmps55
  go_wp2_with (at_builtin; refine wpList_append_accfs _ rfl _ _ rfl rfl HE.out rfl ⟨H0.out.keep (below_oneF _ _), fun e => by cases e⟩ (by simp; omega) ?c1)
  case c1 =>
   intro v1 w1 hacc
   have H1 := Box.mk hacc
   clear hacc
   go_wp2_with fail
   go_ret
   obtain ⟨a2, c2, e2, h2, h3, _⟩ := H1.out.freshC
   exact ⟨a2, c2, by rw [e2]; rfl, h2, h3, H1.out.2⟩
set_option maxRecDepth 100000 in
set_option maxHeartbeats 1000000 in
theorem cloneY_any (l : List UInt8) (a : Option Addr) (c : Nat) (w : World) (h : IsBytes w a l c) (hl : l.length ≤ 1000000) :
  Calls Tryz.prog 56 #[.slice a l.length c] w fun e w' => ∃ a' c', e = .returned (.slice a' l.length c') ∧ IsBytes w' a' l c' ∧ (∀ y, a' = some y → w.heap.size ≤ y.block) ∧ Below w.heap.size w w' := by
 rcases h with ⟨rfl, rfl, rfl⟩ | ⟨ad, rfl, hr1, hr2, hr3⟩
 · have hnil : ∀ W, (binOp .eql 23 (.slice none 0 0) (.slice none 0 0)).run Tryz.prog W = .ok (.bool true) W := fun W => run_eql_slice_nil W _ _ none 0 0 Tryz.underlying23
   simp only [List.length_nil]
   go_enter Tryz.func56, Tryz.ntmps56
   go_wp2_with fail
   go_ret
   exact ⟨none, 0, rfl, .inl ⟨rfl, rfl, rfl⟩, (fun y e => by cases e), Below.refl _ _⟩
 · have H0 := Box.mk (show IsBytes w (some ad) l c from .inr ⟨ad, rfl, hr1, hr2, hr3⟩)
   clear hr1 hr2 hr3
   have HE := Box.mk (AccB.empty w)
   have hnil : ∀ W, (binOp .eql 23 (.slice (some ad) l.length c) (.slice none 0 0)).run Tryz.prog W = .ok (.bool false) W := fun W => run_eql_slice_nil W _ _ (some ad) l.length c Tryz.underlying23
   go_enter Tryz.func56, Tryz.ntmps56
   go_wp2_with (at_builtin; refine wpList_append_accs _ rfl _ _ rfl rfl HE.out rfl (H0.out.keep (below_oneF _ _)) (by simp; omega) ?c1)
   case c1 =>
    intro v1 w1 hacc
    have H1 := Box.mk hacc
    clear hacc
    go_wp2_with fail
    go_ret
    obtain ⟨a2, c2, e2, h2, h3⟩ := H1.out.freshB
    exact ⟨a2, c2, by rw [e2]; rfl, h2, h3, H1.out.2⟩
set_option maxRecDepth 100000 in
set_option maxHeartbeats 1000000 in
theorem cloneB_any (l : List UInt8) (a : Option Addr) (c : Nat) (w : World) (h : IsBytes w a l c) (hl : l.length ≤ 1000000) :
  Calls Tryz.prog 152 #[.slice a l.length c] w fun e w' => ∃ a' c', e = .returned (.slice a' l.length c') ∧ IsBytes w' a' l c' ∧ Below w.heap.size w w' := by
 rcases h with ⟨rfl, rfl, rfl⟩ | ⟨ad, rfl, hr1, hr2, hr3⟩
 · have hnil : ∀ W, (binOp .eql 23 (.slice none 0 0) (.slice none 0 0)).run Tryz.prog W = .ok (.bool true) W := fun W => run_eql_slice_nil W _ _ none 0 0 Tryz.underlying23
   simp only [List.length_nil]
   go_enter Tryz.func152, Tryz.ntmps152
   go_wp2_with fail
   go_ret
   exact ⟨none, 0, rfl, .inl ⟨rfl, rfl, rfl⟩, Below.refl _ _⟩
 · have H0 := Box.mk (show IsBytes w (some ad) l c from .inr ⟨ad, rfl, hr1, hr2, hr3⟩)
   clear hr1 hr2 hr3
   have HE := Box.mk (AccB.empty w)
   have hnil : ∀ W, (binOp .eql 23 (.slice (some ad) l.length c) (.slice none 0 0)).run Tryz.prog W = .ok (.bool false) W := fun W => run_eql_slice_nil W _ _ (some ad) l.length c Tryz.underlying23
   go_enter Tryz.func152, Tryz.ntmps152
   go_wp2_with (at_builtin; refine wpList_append_accs _ rfl _ _ rfl rfl HE.out rfl (H0.out.keep (below_oneF _ _)) (by simp; omega) ?c1)
   case c1 =>
    intro v1 w1 hacc
    have H1 := Box.mk hacc
    clear hacc
    go_wp2_with fail
    go_ret
    obtain ⟨a2, c2, e2, h2⟩ := H1.out.shape
    exact ⟨a2, c2, by rw [e2]; rfl, h2, H1.out.2⟩
end Go.Proofs.YteoadfckcilalaaGreatDoor
namespace Go.Proofs.YteoadfckcilalaaGreatDoor
open Go.RowKit

set_option linter.unusedVariables false
set_option maxRecDepth 100000 in
set_option maxHeartbeats 1000000 in
theorem mEnd_any (g : Nat) (cs : Array Value) (p n : Int) (w : World) (hm : MVr w g cs) (h2 : cs[2]? = some (.int .i64 p)) :
  Calls Tryz.prog 115 #[.pointer (some ⟨g, 0, none⟩), .int .i64 n] w fun e w' => e = .returned (.tuple #[.agg #[.int .i64 3, .slice none 0 0], .int .i64 n, .int .i64 0]) ∧ MVr w' g (cs.setIfInBounds 2 (.int .i64 2)) ∧ w.grownBy w' (some g) := by
 obtain ⟨W1, hW1⟩ : ∃ W1, W1 = w.alloc (.cells #[.int .i64 0, .slice none 0 0] 41) := ⟨_, rfl⟩
 have HB1 := Box.mk (show Below w.heap.size w W1 by rw [hW1]; exact below_oneF _ _)
 have HO := Box.mk (show PVr W1 w.heap.size #[.int .i64 0, .slice none 0 0] by rw [hW1]; exact heap_alloc_new _ _)
 have HW1 := Box.mk hW1
 clear hW1
 have HM1 := Box.mk (hm.keep HB1.out)
 have hlt := hm.lt
 have hc2 : W1.cell? ⟨g, 2, none⟩ = some (.int .i64 p) := by rw [HM1.out.cell]; exact h2
 have hz2 : W1.frozen? ⟨g, 2, none⟩ = false := HM1.out.frozen 2
 have HPN := Box.mk (show PVr (W1.setCell ⟨g, 2, none⟩ (.int .i64 2)) w.heap.size #[.int .i64 0, .slice none 0 0] from (heap_setCell_other _ _ _ _ (by show w.heap.size ≠ g; omega)).trans HO.out)
 clear hm h2
 go_enter Tryz.func115, Tryz.ntmps115
 go_upto_region 1 with fail
 rw [← HW1.out]
 clear HW1
 go_wp2_with (refine wpList_store_row rfl 41 _ _ rfl w.heap.size #[.int .i64 3, .slice none 0 0] rfl rfl 41 _ HPN.out sizePt rfl (onePt ..) ?_)
 (try simp only [Exit.inBlock, Exit.then])
 refine bodyPost_ret (results_rtt rfl _ _ w.heap.size 41 #[.int .i64 3, .slice none 0 0] (0, 0) _ rfl (setRow_heap _ _ _ _ _ _ HPN.out) Tryz.underlying41 rfl sizePt) rfl ?_
 exact ⟨rfl, (setRow_other _ _ _ _ (by omega)).trans HM1.out.put, grownBy_own (grownBy_afterC HB1.out (grownBy_setC _ _ _ _)) (Nat.le_refl _) _⟩
set_option maxRecDepth 100000 in
set_option maxHeartbeats 1000000 in
theorem mTake_nil (g : Nat) (cs : Array Value) (da : Option Addr) (dc : Nat) (w : World) (hm : MVr w g cs) :
  Calls Tryz.prog 116 #[.pointer (some ⟨g, 0, none⟩), .slice da 0 dc] w fun e w' => e = .returned (.tuple #[.agg #[.int .i64 0, .slice none 0 0], .int .i64 0, .int .i64 0]) ∧ MVr w' g cs ∧ w.grownBy w' (some g) := by
 obtain ⟨W1, hW1⟩ : ∃ W1, W1 = w.alloc (.cells #[.int .i64 0, .slice none 0 0] 41) := ⟨_, rfl⟩
 have HB1 := Box.mk (show Below w.heap.size w W1 by rw [hW1]; exact below_oneF _ _)
 have HO := Box.mk (show PVr W1 w.heap.size #[.int .i64 0, .slice none 0 0] by rw [hW1]; exact heap_alloc_new _ _)
 have HW1 := Box.mk hW1
 clear hW1
 have HM1 := Box.mk (hm.keep HB1.out)
 have hlt := hm.lt
 clear hm
 go_enter Tryz.func116, Tryz.ntmps116
 go_upto_region 1 with fail
 rw [← HW1.out]
 clear HW1
 go_wp2_with (refine wpList_store_row rfl 41 _ _ rfl w.heap.size #[.int .i64 0, .slice none 0 0] rfl rfl 41 _ HO.out sizePt rfl (onePt ..) ?_)
 (try simp only [Exit.inBlock, Exit.then])
 refine bodyPost_ret (results_rtt rfl _ _ w.heap.size 41 #[.int .i64 0, .slice none 0 0] (0, 0) _ rfl (setRow_heap _ _ _ _ _ _ HO.out) Tryz.underlying41 rfl sizePt) rfl ?_
 exact ⟨rfl, (setRow_other _ _ _ _ (by omega)).trans HM1.out, grownBy_own (grownBy_of HB1.out _) (Nat.le_refl _) _⟩
set_option maxRecDepth 100000 in
set_option maxHeartbeats 1000000 in
theorem mTake_some (g : Nat) (cs : Array Value) (z : Int) (d : List UInt8) (da : Option Addr) (dc : Nat) (w : World) (hm : MVr w g cs) (h17 : cs[17]? = some (.int .i64 z)) (hz : 0 ≤ z ∧ z ≤ 1000000000) (hn : NoU8 cs) (hd : IsBytes w da d dc) (hl : d.length ≤ 1000000) (h0 : 0 < d.length) :
  Calls Tryz.prog 116 #[.pointer (some ⟨g, 0, none⟩), .slice da d.length dc] w fun e w' => ∃ pa pc, e = .returned (.tuple #[.agg #[.int .i64 2, .slice pa d.length pc], .int .i64 d.length, .int .i64 0]) ∧ IsBytes w' pa d pc ∧ MVr w' g (cs.setIfInBounds 17 (.int .i64 (z + d.length))) ∧ w.grownBy w' (some g) := by
 obtain ⟨W1, hW1⟩ : ∃ W1, W1 = w.alloc (.cells #[.int .i64 0, .slice none 0 0] 41) := ⟨_, rfl⟩
 have HB1 := Box.mk (show Below w.heap.size w W1 by rw [hW1]; exact below_oneF _ _)
 have HO := Box.mk (show PVr W1 w.heap.size #[.int .i64 0, .slice none 0 0] by rw [hW1]; exact heap_alloc_new _ _)
 have HW1 := Box.mk hW1
 clear hW1
 have HM1 := Box.mk (hm.keep HB1.out)
 have hlt := hm.lt
 have hc17 : W1.cell? ⟨g, 17, none⟩ = some (.int .i64 z) := by rw [HM1.out.cell]; exact h17
 have hz17 : W1.frozen? ⟨g, 17, none⟩ = false := HM1.out.frozen 17
 have HAW := Box.mk (row_awayR hm hn hd)
 have HD := Box.mk hd
 have hlt1 : w.heap.size < W1.heap.size := (Array.getElem?_eq_some_iff.1 HO.out).1
 have el : ((d.length : Int) == 0) = false := by rw [beq_eq_false_iff_ne]; omega
 obtain ⟨hz0, hz1⟩ := hz
 clear hm h17 hn hd
 go_enter Tryz.func116, Tryz.ntmps116
 go_upto_region 1 with fail
 rw [← HW1.out]
 clear HW1
 go_upto_region 4 with fail
 obtain ⟨W2, hW2⟩ : ∃ W2, W2 = W1.setCell ⟨g, 17, none⟩ (.int .i64 (z + d.length)) := ⟨_, rfl⟩
 have HG2 := Box.mk (show w.grownBy W2 (some g) by rw [hW2]; exact grownBy_afterC HB1.out (grownBy_setC _ _ _ _))
 have HM2 := Box.mk (show MVr W2 g (cs.setIfInBounds 17 (.int .i64 (z + d.length))) by rw [hW2]; exact HM1.out.put)
 have HP2 := Box.mk (show PVr W2 w.heap.size #[.int .i64 0, .slice none 0 0] by rw [hW2]; exact (heap_setCell_other _ _ _ _ (by show w.heap.size ≠ g; omega)).trans HO.out)
 have HD2 := Box.mk (HD.out.grownR HG2.out HAW.out)
 rw [← hW2]
 clear hW2 hc17 hz17 HM1 HO HB1 HD HAW
 go_wp2_with fail
 refine (cloneB_any d da dc W2 HD2.out hl).mono ?_
 rintro e w3 ⟨pa, pc, rfl, hd3, hb3⟩
 have HD3 := Box.mk hd3
 have HM3 := Box.mk (HM2.out.keep hb3)
 have HP3 := Box.mk (HP2.out.keep hb3)
 have HG3 := Box.mk (grownBy_trans HG2.out (grownBy_of hb3 (some g)))
 clear hd3 hb3 HM2 HP2 HG2 HD2
 go_wp2_with (refine wpList_store_row rfl 41 _ _ rfl w.heap.size #[.int .i64 2, .slice pa d.length pc] rfl rfl 41 _ HP3.out sizePt rfl (onePt ..) ?_)
 (try simp only [Exit.inBlock, Exit.then])
 refine bodyPost_ret (results_rtt rfl _ _ w.heap.size 41 #[.int .i64 2, .slice pa d.length pc] (0, 0) _ rfl (setRow_heap _ _ _ _ _ _ HP3.out) Tryz.underlying41 rfl sizePt) rfl ?_
 exact ⟨pa, pc, rfl, HD3.out.same fun x e hl => setRow_other _ _ _ _ (row_awayR HP3.out (noU8_22 rfl) HD3.out x e hl), (setRow_other _ _ _ _ (by omega)).trans HM3.out, grownBy_own HG3.out (Nat.le_refl _) _⟩
set_option maxRecDepth 100000 in
set_option maxHeartbeats 1000000 in
theorem mNothing_any (g : Nat) (ba : Option Addr) (bn bc : Nat) (x y z : Int) (w : World) :
  Calls Tryz.prog 59 #[.pointer (some ⟨g, 0, none⟩), .slice ba bn bc, .agg #[.int .i64 x, .int .i64 y, .int .i64 z]] w fun e w' => e = .returned (.tuple #[.agg #[.int .i64 0, .slice none 0 0], .int .i64 0, .int .i64 0]) ∧ Below w.heap.size w w' := by
 obtain ⟨W1, hW1⟩ : ∃ W1, W1 = (w.alloc (.cells #[.int .i64 x, .int .i64 y, .int .i64 z] 81)).alloc (.cells #[.int .i64 0, .slice none 0 0] 41) := ⟨_, rfl⟩
 have HB1 := Box.mk (show Below w.heap.size w W1 by rw [hW1]; exact below_twoF (below_oneF _ _) _)
 have HO := Box.mk (show PVr W1 (w.heap.size + 1) #[.int .i64 0, .slice none 0 0] by
  have h := heap_alloc_new (w.alloc (.cells #[.int .i64 x, .int .i64 y, .int .i64 z] 81)) (.cells #[.int .i64 0, .slice none 0 0] 41)
  rw [World.size_alloc] at h
  rw [hW1]; exact h)
 have HW1 := Box.mk hW1
 clear hW1
 go_enter Tryz.func59, Tryz.ntmps59
 go_upto_region 1 with fail
 rw [← HW1.out]
 clear HW1
 go_wp2_with (refine wpList_store_row rfl 41 _ _ rfl (w.heap.size + 1) #[.int .i64 0, .slice none 0 0] rfl rfl 41 _ HO.out sizePt rfl (onePt ..) ?_)
 (try simp only [Exit.inBlock, Exit.then])
 refine bodyPost_ret (results_rtt rfl _ _ (w.heap.size + 1) 41 #[.int .i64 0, .slice none 0 0] (0, 0) _ rfl (setRow_heap _ _ _ _ _ _ HO.out) Tryz.underlying41 rfl sizePt) rfl ?_
 exact ⟨rfl, below_setRow HB1.out (by omega) _⟩
set_option maxRecDepth 100000 in
set_option maxHeartbeats 1000000 in
theorem limitsOf_any (x y z : Int) (w : World) (hy : 0 ≤ y ∧ y ≤ 1000000000) :
  Calls Tryz.prog 38 #[.int .i64 x, .int .i64 y, .int .i64 z] w fun e w' => e = .returned (.agg #[.int .i64 x, .int .i64 y, .int .i64 (if z ≤ 0 then 0 else z)]) ∧ Below w.heap.size w w' := by
 obtain ⟨W1, hW1⟩ : ∃ W1, W1 = w.alloc (.cells #[.int .i64 0, .int .i64 0, .int .i64 0] 81) := ⟨_, rfl⟩
 have HB1 := Box.mk (show Below w.heap.size w W1 by rw [hW1]; exact below_oneF _ _)
 have HO := Box.mk (show LVr W1 w.heap.size 0 0 0 by rw [hW1]; exact heap_alloc_new _ _)
 have HW1 := Box.mk hW1
 clear hW1
 have h1 : ∀ (ts : Array TypeId) (t : TypeId) (W : World), (Builtin.max_ ts t #[.int .i64 y, .int .i64 (-2)]).run Tryz.prog W = .ok (.int .i64 y) W := fun ts t W => by
  rw [run_max_int2, if_neg (by omega)]
 have h2 : ∀ (ts : Array TypeId) (t : TypeId) (W : World), (Builtin.min_ ts t #[.int .i64 y, .int .i64 9223372036854775806]).run Tryz.prog W = .ok (.int .i64 y) W := fun ts t W => by
  rw [run_min_int2, if_neg (by omega)]
 have h3 : ∀ (ts : Array TypeId) (t : TypeId) (W : World), (Builtin.max_ ts t #[.int .i64 z, .int .i64 0]).run Tryz.prog W = .ok (.int .i64 (if z ≤ 0 then 0 else z)) W := fun ts t W => by
  rw [run_max_int2]
  congr 2
  split <;> split <;> omega
 obtain ⟨r, hr⟩ : ∃ r : Int, r = if z ≤ 0 then 0 else z := ⟨_, rfl⟩
 rw [← hr] at h3
 rw [← hr]
 clear hr
 go_enter Tryz.func38, Tryz.ntmps38
 go_upto_region 1 with fail
 rw [← HW1.out]
 clear HW1
 go_wp2_with (refine wpList_store_row rfl 81 _ _ rfl w.heap.size #[.int .i64 x, .int .i64 y, .int .i64 r] rfl rfl 81 _ HO.out sizeLm rfl (oneLm ..) ?_)
 (try simp only [Exit.inBlock, Exit.then])
 refine bodyPost_ret (results_r rfl _ _ w.heap.size 81 #[.int .i64 x, .int .i64 y, .int .i64 r] (0, 0) _ rfl (setRow_heap _ _ _ _ _ _ HO.out) Tryz.underlying81 rfl sizeLm) rfl ?_
 exact ⟨rfl, below_setRow HB1.out (Nat.le_refl _) _⟩
set_option maxRecDepth 100000 in
set_option maxHeartbeats 1000000 in
theorem bodyStep_any (k : Int) (w : World) (hk : k = 1 ∨ k = 2 ∨ k = 3 ∨ k = 4) :
  Calls Tryz.prog 58 #[.int .i64 k] w fun e w' => e = .returned (if k = 3 then .func (.func 84) #[] #[] else if k = 4 then .func (.func 85) #[] #[] else .func (.func 83) #[] #[]) ∧ w = w' := by
 rcases hk with rfl | rfl | rfl | rfl <;>
 · go_enter Tryz.func58, Tryz.ntmps58
   go_wp2_with fail
   go_ret
   exact ⟨rfl, rfl⟩
set_option maxRecDepth 100000 in
set_option maxHeartbeats 1000000 in
theorem mStep_head (g : Nat) (cs : Array Value) (w : World) (hm : MVr w g cs) (h2 : cs[2]? = some (.int .i64 0)) :
  Calls Tryz.prog 37 #[.pointer (some ⟨g, 0, none⟩)] w fun e w' => e = .returned (.func (.func 57) #[] #[]) ∧ w = w' := by
 have hc2 : w.cell? ⟨g, 2, none⟩ = some (.int .i64 0) := by rw [hm.cell]; exact h2
 clear hm h2
 go_enter Tryz.func37, Tryz.ntmps37
 go_wp2_with fail
 go_ret
 exact ⟨rfl, rfl⟩
set_option maxRecDepth 100000 in
set_option maxHeartbeats 1000000 in
theorem mStep_body (g : Nat) (cs : Array Value) (k : Int) (v : Value) (w : World) (hm : MVr w g cs) (h2 : cs[2]? = some (.int .i64 1)) (h14 : cs[14]? = some (.int .i64 k)) (hk : k = 1 ∨ k = 2 ∨ k = 3 ∨ k = 4) (hv : (if k = 3 then .func (.func 84) #[] #[] else if k = 4 then .func (.func 85) #[] #[] else .func (.func 83) #[] #[]) = v) :
  Calls Tryz.prog 37 #[.pointer (some ⟨g, 0, none⟩)] w fun e w' => e = .returned v ∧ w = w' := by
 have hc2 : w.cell? ⟨g, 2, none⟩ = some (.int .i64 1) := by rw [hm.cell]; exact h2
 have hc14 : w.cell? ⟨g, 14, none⟩ = some (.int .i64 k) := by rw [hm.cell]; exact h14
 have HS := Box.mk (bodyStep_any k w hk)
 rw [hv] at HS
 clear hm h2 h14 hk hv
 go_enter Tryz.func37, Tryz.ntmps37
 go_wp2_with fail
 refine HS.out.mono ?_
 rintro e w1 ⟨rfl, rfl⟩
 go_wp2_with fail
 go_ret
 exact ⟨rfl, rfl⟩
set_option maxRecDepth 100000 in
set_option maxHeartbeats 1000000 in
theorem mStep_done (g : Nat) (cs : Array Value) (w : World) (hm : MVr w g cs) (h2 : cs[2]? = some (.int .i64 2)) :
  Calls Tryz.prog 37 #[.pointer (some ⟨g, 0, none⟩)] w fun e w' => e = .returned (.func (.func 59) #[] #[]) ∧ w = w' := by
 have hc2 : w.cell? ⟨g, 2, none⟩ = some (.int .i64 2) := by rw [hm.cell]; exact h2
 clear hm h2
 go_enter Tryz.func37, Tryz.ntmps37
 go_wp2_with fail
 go_ret
 exact ⟨rfl, rfl⟩
end Go.Proofs.YteoadfckcilalaaGreatDoor
namespace Go.Proofs.YteoadfckcilalaaGreatDoor
open Go.RowKit

section
variable {Q : Exit → Act → World → Prop} {a : Act} {w : World} {o : Oper} {s : Spec}
theorem run_fieldMsR (w : World) (g : Nat) : ∀ i, i < 9 → (Instr.fieldAt 73 (.pointer (some ⟨g, 0, none⟩)) i).run Tryz.prog w = .ok (.pointer (some ⟨g, [0, 1, 2, 3, 9, 14, 16, 17, 18].getD i 0, none⟩)) w
 | 0, _ => by simp [Instr.fieldAt, run_underlying Tryz.underlying73, Instr.sureAddr, fieldPlace, Addr.add]
 | 1, _ => by simp [Instr.fieldAt, run_underlying Tryz.underlying73, Instr.sureAddr, fieldPlace, Addr.add]
 | 2, _ => by simp [Instr.fieldAt, run_underlying Tryz.underlying73, Instr.sureAddr, fieldPlace, Addr.add]
 | 3, _ => by simp [Instr.fieldAt, run_underlying Tryz.underlying73, Instr.sureAddr, fieldPlace, Addr.add]
 | 4, _ => by simp [Instr.fieldAt, run_underlying Tryz.underlying73, Instr.sureAddr, fieldPlace, Addr.add]
 | 5, _ => by simp [Instr.fieldAt, run_underlying Tryz.underlying73, Instr.sureAddr, fieldPlace, Addr.add]
 | 6, _ => by simp [Instr.fieldAt, run_underlying Tryz.underlying73, Instr.sureAddr, fieldPlace, Addr.add]
 | 7, _ => by simp [Instr.fieldAt, run_underlying Tryz.underlying73, Instr.sureAddr, fieldPlace, Addr.add]
 | 8, _ => by simp [Instr.fieldAt, run_underlying Tryz.underlying73, Instr.sureAddr, fieldPlace, Addr.add]
theorem run_fieldLmR (w : World) (g : Nat) : ∀ i, i < 3 → (Instr.fieldAt 81 (.pointer (some ⟨g, 0, none⟩)) i).run Tryz.prog w = .ok (.pointer (some ⟨g, i, none⟩)) w
 | 0, _ => by simp [Instr.fieldAt, run_underlying Tryz.underlying81, Instr.sureAddr, fieldPlace, Addr.add]
 | 1, _ => by simp [Instr.fieldAt, run_underlying Tryz.underlying81, Instr.sureAddr, fieldPlace, Addr.add]
 | 2, _ => by simp [Instr.fieldAt, run_underlying Tryz.underlying81, Instr.sureAddr, fieldPlace, Addr.add]
theorem loc_fieldMs {x : Operand} {i : Nat} (ho : o.op = .fieldAddr 73 x i) {g j : Nat} (hx : a.eval x = .pointer (some ⟨g, 0, none⟩)) (hi : i < 9) (hj : [0, 1, 2, 3, 9, 14, 16, 17, 18].getD i 0 = j) (hs : s.p (.pointer (some ⟨g, j, none⟩)) w) :
  o.wp Tryz.prog a w (fun a' w' => ∃ v, a' = a.put o.dst v ∧ Below w.heap.size w w' ∧ s.p v w') Q := by
 subst hj
 exact loc_run (v := .pointer (some ⟨g, _, none⟩)) (by unfold execOp; rw [ho]; simp only [hx, Sem.run_bind, run_fieldMsR _ _ _ hi, Result.andThen_ok, Sem.run_pure]) (Below.refl _ _) hs
theorem loc_fieldLm {x : Operand} {i : Nat} (ho : o.op = .fieldAddr 81 x i) {g : Nat} (hx : a.eval x = .pointer (some ⟨g, 0, none⟩)) (hi : i < 3) (hs : s.p (.pointer (some ⟨g, i, none⟩)) w) :
  o.wp Tryz.prog a w (fun a' w' => ∃ v, a' = a.put o.dst v ∧ Below w.heap.size w w' ∧ s.p v w') Q :=
 loc_run (v := .pointer (some ⟨g, i, none⟩)) (by unfold execOp; rw [ho]; simp only [hx, Sem.run_bind, run_fieldLmR _ _ _ hi, Result.andThen_ok, Sem.run_pure]) (Below.refl _ _) hs
theorem loc_nilCheck {x : Operand} (ho : o.op = .nilCheck x) {p : Addr} (hx : a.eval x = .pointer (some p)) (hs : s.p (.pointer (some p)) w) :
  o.wp Tryz.prog a w (fun a' w' => ∃ v, a' = a.put o.dst v ∧ Below w.heap.size w w' ∧ s.p v w') Q :=
 loc_run (v := .pointer (some p)) (by unfold execOp; rw [ho]; simp only [hx]; rfl) (Below.refl _ _) hs
theorem loc_addZ {x y : Operand} {t : TypeId} (ho : o.op = .binOp .add 3 x y t) {m k r : Int} (hx : a.eval x = .int .i64 m) (hy : a.eval y = .int .i64 k) (hr : m + k = r) (hn : -1000000000000 ≤ r ∧ r ≤ 1000000000000) (hs : s.p (.int .i64 r) w) :
  o.wp Tryz.prog a w (fun a' w' => ∃ v, a' = a.put o.dst v ∧ Below w.heap.size w w' ∧ s.p v w') Q :=
 loc_run (v := .int .i64 r) (by
  have e : IntKind.i64.wrap (m + k) = r := by
   simp only [IntKind.wrap, IntKind.bits, IntKind.signed]; simp; omega
  have h : (Op.intArith .add .i64 m k).run Tryz.prog w = .ok (.int .i64 r) w := by
   unfold Op.intArith
   rw [← e]; rfl
  unfold execOp
  simp only [ho, hx, hy]
  simp [eqGuard, binOp, h, Result.andThen]) (Below.refl _ _) hs
theorem loc_subZ {x y : Operand} {t : TypeId} (ho : o.op = .binOp .sub 3 x y t) {m k r : Int} (hx : a.eval x = .int .i64 m) (hy : a.eval y = .int .i64 k) (hr : m - k = r) (hn : -1000000000000 ≤ r ∧ r ≤ 1000000000000) (hs : s.p (.int .i64 r) w) :
  o.wp Tryz.prog a w (fun a' w' => ∃ v, a' = a.put o.dst v ∧ Below w.heap.size w w' ∧ s.p v w') Q :=
 loc_run (v := .int .i64 r) (by
  have e : IntKind.i64.wrap (m - k) = r := by
   simp only [IntKind.wrap, IntKind.bits, IntKind.signed]; simp; omega
  have h : (Op.intArith .sub .i64 m k).run Tryz.prog w = .ok (.int .i64 r) w := by
   unfold Op.intArith
   rw [← e]; rfl
  unfold execOp
  simp only [ho, hx, hy]
  simp [eqGuard, binOp, h, Result.andThen]) (Below.refl _ _) hs
theorem loc_minZ2 {x y : Operand} {ts : Array TypeId} (ho : o.op = .call { callee := .builtin .min, args := #[x, y], argTypes := ts }) {m k r : Int} (hx : a.eval x = .int .i64 m) (hy : a.eval y = .int .i64 k) (hr : minI m k = r) (hs : s.p (.int .i64 r) w) :
  o.wp Tryz.prog a w (fun a' w' => ∃ v, a' = a.put o.dst v ∧ Below w.heap.size w w' ∧ s.p v w') Q :=
 loc_run (v := .int .i64 r) (by
  have e : (if k < m then k else m) = r := by rw [← hr]; unfold minI; split <;> split <;> omega
  unfold execOp
  simp only [ho, hx, hy, resolve, invoke, builtin, List.map_toArray, List.map_cons, List.map_nil, run_min_int2, e, Sem.run_bind, Sem.run_pure, Result.andThen_ok]) (Below.refl _ _) hs
theorem loc_minZ3 {x y z : Operand} {ts : Array TypeId} (ho : o.op = .call { callee := .builtin .min, args := #[x, y, z], argTypes := ts }) {m k l r : Int} (hx : a.eval x = .int .i64 m) (hy : a.eval y = .int .i64 k) (hz : a.eval z = .int .i64 l) (hr : minI (minI m k) l = r) (hs : s.p (.int .i64 r) w) :
  o.wp Tryz.prog a w (fun a' w' => ∃ v, a' = a.put o.dst v ∧ Below w.heap.size w w' ∧ s.p v w') Q :=
 loc_run (v := .int .i64 r) (by
  have e : (if l < (if k < m then k else m) then l else (if k < m then k else m)) = r := by rw [← hr]; unfold minI; split <;> split <;> (try split) <;> (try split) <;> omega
  unfold execOp
  simp only [ho, hx, hy, hz, resolve, invoke, builtin, List.map_toArray, List.map_cons, List.map_nil, run_min_int3, e, Sem.run_bind, Sem.run_pure, Result.andThen_ok]) (Below.refl _ _) hs
theorem wp_callV {P : Program} {K : Act → World → Prop} {y : Operand} {f : FuncId} {args : List Operand} {ts : Array TypeId} (ho : o.op = .call { callee := .value y, args := args.toArray, argTypes := ts }) (hy : a.eval y = .func (.func f) #[] #[])
  (hf : (P.funcs[f]?).map (fun fn => fn.name != "runtime.NumGoroutine" && fn.body.isSome) = some true) {R : Ending → World → Prop} (h : Calls P f (args.map a.eval).toArray w R) (hK : ∀ e w', R e w' → ∃ v, e = .returned v ∧ K (a.put o.dst v) w') : o.wp P a w K Q := by
 have hrun : (execOp a.eval o).run P w = .ok (.enter f (args.map a.eval).toArray) w := by
  unfold execOp; rw [ho]
  cases hfn : P.funcs[f]? with
  | none => rw [hfn] at hf; cases hf
  | some fn =>
   rw [hfn] at hf
   simp only [Option.map_some, Option.some.injEq, Bool.and_eq_true, bne_iff_ne, ne_eq] at hf
   have hb : fn.body ≠ none := fun e => by rw [e] at hf; exact absurd hf.2 (by simp)
   simp [resolve, Deferred.ofValue, invoke, callFunc, hy, hfn, hf.1, hb]
 unfold Oper.wp
 rw [hrun, Oper.upon_enter]
 refine h.mono ?_
 intro e w' hr
 obtain ⟨v, rfl, hk⟩ := hK e w' hr
 exact hk
end
set_option linter.unusedVariables false
set_option maxRecDepth 100000 in
set_option maxHeartbeats 1000000 in
theorem mRoom_any (g : Nat) (cs : Array Value) (x y r z : Int) (w : World) (hm : MVr w g cs) (h17 : cs[17]? = some (.int .i64 z)) (hy : 0 ≤ y ∧ y ≤ 1000000000) (hz : 0 ≤ z ∧ z ≤ 1000000000) :
  Calls Tryz.prog 118 #[.pointer (some ⟨g, 0, none⟩), .agg #[.int .i64 x, .int .i64 y, .int .i64 r]] w fun e w' => e = .returned (.int .i64 (minI r (y + 1 - z))) ∧ Below w.heap.size w w' := by
 obtain ⟨W1, hW1⟩ : ∃ W1, W1 = w.alloc (.cells #[.int .i64 x, .int .i64 y, .int .i64 r] 81) := ⟨_, rfl⟩
 have HB1 := Box.mk (show Below w.heap.size w W1 by rw [hW1]; exact below_oneF _ _)
 have HO := Box.mk (show LVr W1 w.heap.size x y r by rw [hW1]; exact heap_alloc_new _ _)
 have HW1 := Box.mk hW1
 clear hW1
 have HM1 := Box.mk (hm.keep HB1.out)
 have H17 := Box.mk h17
 clear hm h17
 go_enter Tryz.func118, Tryz.ntmps118
 go_upto_region 1 with fail
 rw [← HW1.out]
 clear HW1
 go_wp2_with fail
 rename_i K hK
 refine wp_region_local (S := [.val (.pointer (some ⟨w.heap.size, 2, none⟩)), .val (.int .i64 r), .val (.pointer (some ⟨w.heap.size, 1, none⟩)), .val (.int .i64 y), .val (.int .i64 (y + 1)), .val (.pointer (some ⟨g, 0, none⟩)), .val (.pointer (some ⟨g, 0, none⟩)), .val (.pointer (some ⟨g, 17, none⟩)), .val (.int .i64 z), .val (.int .i64 (y + 1 - z)), .val (.int .i64 (minI r (y + 1 - z))), .val (.int .i64 (minI r (y + 1 - z)))])
  (by kernel_rfl) (by kernel_rfl) (by kernel_rfl) ?_ ?_
 · refine ⟨?_, ?_, ?_, ?_, ?_, ?_, ?_, ?_, ?_, ?_, ?_, ?_, trivial⟩ <;> intro a w' hb hf hd
   · exact ⟨wanted_none rfl, loc_fieldLm rfl (hf.base 3 rfl) (by decide) rfl⟩
   · exact ⟨wanted_none rfl, loc_cell rfl (hd 0 rfl) (by rw [cell_of_row _ _ _ _ _ _ (HO.out.keep hb)]; rfl) (agg_int _) rfl⟩
   · exact ⟨wanted_none rfl, loc_fieldLm rfl (hf.base 3 rfl) (by decide) rfl⟩
   · exact ⟨wanted_none rfl, loc_cell rfl (hd 2 rfl) (by rw [cell_of_row _ _ _ _ _ _ (HO.out.keep hb)]; rfl) (agg_int _) rfl⟩
   · exact ⟨wanted_none rfl, loc_addZ rfl (hd 3 rfl) rfl rfl (by omega) rfl⟩
   · exact ⟨wanted_none rfl, loc_move rfl (hf.base 0 rfl)⟩
   · exact ⟨wanted_none rfl, loc_nilCheck rfl (hd 5 rfl) rfl⟩
   · exact ⟨wanted_none rfl, loc_fieldMs rfl (hd 6 rfl) (by decide) rfl rfl⟩
   · exact ⟨wanted_none rfl, loc_cell rfl (hd 7 rfl) (by rw [(HM1.out.keep hb).cell]; exact H17.out) (agg_int _) rfl⟩
   · exact ⟨wanted_none rfl, loc_subZ rfl (hd 4 rfl) (hd 8 rfl) rfl (by omega) rfl⟩
   · exact ⟨wanted_none rfl, loc_minZ2 rfl (hd 1 rfl) (hd 9 rfl) rfl rfl⟩
   · exact ⟨wanted_none rfl, loc_assign rfl (hd 10 rfl)⟩
 · intro a w' hb hf hh
   refine hK a w' ?_
   go_wp2_with fail
   exact local_ret rfl hf.defers (show a.eval (.tmp 4) = .int .i64 (minI r (y + 1 - z)) from hh 11 (by decide)) ⟨rfl, below_trans HB1.out hb⟩
set_option maxRecDepth 100000 in
set_option maxHeartbeats 1000000 in
theorem checkFrame_any (k l er body : Int) (w : World) :
  Calls Tryz.prog 112 #[.agg #[.int .i64 k, .int .i64 l], .int .i64 er, .int .i64 body] w fun e w' => e = .returned (.int .i64 (if er = 3 ∨ k = 2 ∧ body < l then 9 else er)) ∧ Below w.heap.size w w' := by
 obtain ⟨W1, hW1⟩ : ∃ W1, W1 = w.alloc (.cells #[.int .i64 k, .int .i64 l] 33) := ⟨_, rfl⟩
 have HB1 := Box.mk (show Below w.heap.size w W1 by rw [hW1]; exact below_oneF _ _)
 have HO := Box.mk (show KVar W1 w.heap.size k l by rw [hW1]; exact heap_alloc_new _ _)
 have HW1 := Box.mk hW1
 clear hW1
 have hk0 : W1.cell? ⟨w.heap.size, 0, none⟩ = some (.int .i64 k) := by rw [cell_of_row _ _ _ _ _ _ HO.out]; rfl
 have hk1 : W1.cell? ⟨w.heap.size, 1, none⟩ = some (.int .i64 l) := by rw [cell_of_row _ _ _ _ _ _ HO.out]; rfl
 by_cases h3 : er = 3
 · rw [if_pos (.inl h3)]
   have e3 : (er == 3) = true := by rw [h3]; rfl
   clear h3
   go_enter Tryz.func112, Tryz.ntmps112
   go_upto_region 1 with fail
   rw [← HW1.out]
   clear HW1
   go_wp2_with fail
   go_ret
   exact ⟨rfl, HB1.out⟩
 · have e3 : (er == 3) = false := by rw [beq_eq_false_iff_ne]; exact h3
   by_cases h2 : k = 2
   · have e2 : (k == 2) = true := by rw [h2]; rfl
     by_cases hb : body < l
     · rw [if_pos (.inr ⟨h2, hb⟩)]
       have hgt : l > body := hb
       clear h3 h2 hb
       go_enter Tryz.func112, Tryz.ntmps112
       go_upto_region 1 with fail
       rw [← HW1.out]
       clear HW1
       go_wp2_with fail
       go_ret
       exact ⟨rfl, HB1.out⟩
     · rw [if_neg (fun h => h.elim h3 fun h => hb h.2)]
       have hgt : ¬ l > body := hb
       clear h3 h2 hb
       go_enter Tryz.func112, Tryz.ntmps112
       go_upto_region 1 with fail
       rw [← HW1.out]
       clear HW1
       go_wp2_with fail
       go_ret
       exact ⟨rfl, HB1.out⟩
   · rw [if_neg (fun h => h.elim h3 fun h => h2 h.1)]
     have e2 : (k == 2) = false := by rw [beq_eq_false_iff_ne]; exact h2
     clear h3 h2
     go_enter Tryz.func112, Tryz.ntmps112
     go_upto_region 1 with fail
     rw [← HW1.out]
     clear HW1
     go_wp2_with fail
     go_ret
     exact ⟨rfl, HB1.out⟩
set_option maxRecDepth 100000 in
set_option maxHeartbeats 4000000 in
theorem mBody_any (g : Nat) (v0 v1 v3 v4 v5 v6 v7 v8 v9 v10 v11 v12 v13 : Value) (p k0 l0 left0 size0 q0 q1 q2 k l : Int) (qa : Option Addr) (qn qc : Nat) (w : World) (hm : MVr w g #[v0, v1, .int .i64 p, v3, v4, v5, v6, v7, v8, v9, v10, v11, v12, v13, .int .i64 k0, .int .i64 l0, .int .i64 left0, .int .i64 size0, .int .i64 q0, .int .i64 q1, .int .i64 q2, .slice qa qn qc]) :
  Calls Tryz.prog 111 #[.pointer (some ⟨g, 0, none⟩), .agg #[.int .i64 k, .int .i64 l]] w fun e w' => e = .returned (.tuple #[]) ∧ MVr w' g #[v0, v1, .int .i64 1, v3, v4, v5, v6, v7, v8, v9, v10, v11, v12, v13, .int .i64 k, .int .i64 l, .int .i64 l, .int .i64 0, .int .i64 0, .int .i64 0, .int .i64 0, .slice none 0 0] ∧ w.grownBy w' (some g) := by
 obtain ⟨c0, hc0⟩ : ∃ y0 : Array Value, y0 = #[v0, v1, .int .i64 p, v3, v4, v5, v6, v7, v8, v9, v10, v11, v12, v13, .int .i64 k0, .int .i64 l0, .int .i64 left0, .int .i64 size0, .int .i64 q0, .int .i64 q1, .int .i64 q2, .slice qa qn qc] := ⟨_, rfl⟩
 have HC0 := Box.mk hc0
 obtain ⟨c1, hc1⟩ : ∃ y0 : Array Value, y0 = #[v0, v1, .int .i64 1, v3, v4, v5, v6, v7, v8, v9, v10, v11, v12, v13, .int .i64 k0, .int .i64 l0, .int .i64 left0, .int .i64 size0, .int .i64 q0, .int .i64 q1, .int .i64 q2, .slice qa qn qc] := ⟨_, rfl⟩
 have HC1 := Box.mk hc1
 obtain ⟨c2, hc2⟩ : ∃ y0 : Array Value, y0 = #[v0, v1, .int .i64 1, v3, v4, v5, v6, v7, v8, v9, v10, v11, v12, v13, .int .i64 k, .int .i64 l, .int .i64 left0, .int .i64 size0, .int .i64 q0, .int .i64 q1, .int .i64 q2, .slice qa qn qc] := ⟨_, rfl⟩
 have HC2 := Box.mk hc2
 obtain ⟨c3, hc3⟩ : ∃ y0 : Array Value, y0 = #[v0, v1, .int .i64 1, v3, v4, v5, v6, v7, v8, v9, v10, v11, v12, v13, .int .i64 k, .int .i64 l, .int .i64 l, .int .i64 size0, .int .i64 q0, .int .i64 q1, .int .i64 q2, .slice qa qn qc] := ⟨_, rfl⟩
 have HC3 := Box.mk hc3
 obtain ⟨c4, hc4⟩ : ∃ y0 : Array Value, y0 = #[v0, v1, .int .i64 1, v3, v4, v5, v6, v7, v8, v9, v10, v11, v12, v13, .int .i64 k, .int .i64 l, .int .i64 l, .int .i64 0, .int .i64 q0, .int .i64 q1, .int .i64 q2, .slice qa qn qc] := ⟨_, rfl⟩
 have HC4 := Box.mk hc4
 obtain ⟨c5, hc5⟩ : ∃ y0 : Array Value, y0 = #[v0, v1, .int .i64 1, v3, v4, v5, v6, v7, v8, v9, v10, v11, v12, v13, .int .i64 k, .int .i64 l, .int .i64 l, .int .i64 0, .int .i64 0, .int .i64 0, .int .i64 0, .slice none 0 0] := ⟨_, rfl⟩
 have HC5 := Box.mk hc5
 rw [← hc0] at hm
 rw [← hc5]
 clear hc0 hc1 hc2 hc3 hc4 hc5
 obtain ⟨W1, hW1⟩ : ∃ W1, W1 = w.alloc (.cells #[.int .i64 k, .int .i64 l] 33) := ⟨_, rfl⟩
 have HB1 := Box.mk (show Below w.heap.size w W1 by rw [hW1]; exact below_oneF _ _)
 have HO := Box.mk (show KVar W1 w.heap.size k l by rw [hW1]; exact heap_alloc_new _ _)
 have HW1 := Box.mk hW1
 clear hW1
 have HM1 := Box.mk (hm.keep HB1.out)
 have hlt := hm.lt
 have HG1 := Box.mk (grownBy_of HB1.out (some g))
 have hm2 : W1.cell? ⟨g, 2, none⟩ = some (.int .i64 p) := by rw [HM1.out.cell, HC0.out]; rfl
 have hz2 : W1.frozen? ⟨g, 2, none⟩ = false := HM1.out.frozen 2
 clear hm
 go_enter Tryz.func111, Tryz.ntmps111
 go_upto_region 1 with fail
 rw [← HW1.out]
 clear HW1
 go_upto_region 2 with fail
 obtain ⟨W2, hW2⟩ : ∃ W2, W2 = W1.setCell ⟨g, 2, none⟩ (.int .i64 1) := ⟨_, rfl⟩
 have HM2 := Box.mk (show MVr W2 g c1 by rw [hW2]; have h := HM1.out.put (i := 2) (v := .int .i64 1); rw [show c0.setIfInBounds 2 (.int .i64 1) = c1 by rw [HC0.out, HC1.out]; rfl] at h; exact h)
 have HO2 := Box.mk (show KVar W2 w.heap.size k l by rw [hW2]; exact (heap_setCell_other _ _ _ _ (by show w.heap.size ≠ g; omega)).trans HO.out)
 have HG2 := Box.mk (show w.grownBy W2 (some g) by rw [hW2]; exact grownBy_trans HG1.out (grownBy_setC _ _ _ _))
 have hs1 : c1.size = 22 := by rw [HC1.out]; rfl
 rw [← hW2]
 clear hW2 hm2 hz2 HM1 HO HG1 HB1
 go_upto_region 3 with (first | refine wpList_load_row rfl 33 _ rfl w.heap.size rfl 33 #[.int .i64 k, .int .i64 l] (0, 0) _ HO2.out Tryz.underlying33 rfl sizeK ?_ | refine wpList_store_sub rfl 33 _ _ rfl g 14 #[.int .i64 k, .int .i64 l] rfl rfl 73 _ c2 HM2.out sizeK (by rw [hs1]; show 14 + 2 ≤ 22; decide) (oneK ..) (by rw [HC1.out, HC2.out]; rfl) ?_)
 obtain ⟨W3, hW3⟩ : ∃ W3, W3 = W2.setRow g c2 := ⟨_, rfl⟩
 have HM3 := Box.mk (show MVr W3 g c2 by rw [hW3]; exact setRow_heap _ _ _ _ _ _ HM2.out)
 have HO3 := Box.mk (show KVar W3 w.heap.size k l by rw [hW3]; exact (setRow_other _ _ _ _ (by omega)).trans HO2.out)
 have HG3 := Box.mk (show w.grownBy W3 (some g) by rw [hW3]; exact grownBy_trans HG2.out (grownBy_setRowM _ _ _))
 have hk1 : W3.cell? ⟨w.heap.size, 1, none⟩ = some (.int .i64 l) := by rw [cell_of_row _ _ _ _ _ _ HO3.out]; rfl
 have hm16 : W3.cell? ⟨g, 16, none⟩ = some (.int .i64 left0) := by rw [HM3.out.cell, HC2.out]; rfl
 have hz16 : W3.frozen? ⟨g, 16, none⟩ = false := HM3.out.frozen 16
 rw [← hW3]
 clear hW3 HM2 HO2 HG2 hs1
 go_upto_region 4 with fail
 obtain ⟨W4, hW4⟩ : ∃ W4, W4 = W3.setCell ⟨g, 16, none⟩ (.int .i64 l) := ⟨_, rfl⟩
 have HM4 := Box.mk (show MVr W4 g c3 by rw [hW4]; have h := HM3.out.put (i := 16) (v := .int .i64 l); rw [show c2.setIfInBounds 16 (.int .i64 l) = c3 by rw [HC2.out, HC3.out]; rfl] at h; exact h)
 have HG4 := Box.mk (show w.grownBy W4 (some g) by rw [hW4]; exact grownBy_trans HG3.out (grownBy_setC _ _ _ _))
 have hm17 : W4.cell? ⟨g, 17, none⟩ = some (.int .i64 size0) := by rw [HM4.out.cell, HC3.out]; rfl
 have hz17 : W4.frozen? ⟨g, 17, none⟩ = false := HM4.out.frozen 17
 rw [← hW4]
 clear hW4 HM3 HO3 HG3 hk1 hm16 hz16
 go_upto_region 5 with fail
 obtain ⟨W5, hW5⟩ : ∃ W5, W5 = W4.setCell ⟨g, 17, none⟩ (.int .i64 0) := ⟨_, rfl⟩
 have HM5 := Box.mk (show MVr W5 g c4 by rw [hW5]; have h := HM4.out.put (i := 17) (v := .int .i64 0); rw [show c3.setIfInBounds 17 (.int .i64 0) = c4 by rw [HC3.out, HC4.out]; rfl] at h; exact h)
 have HG5 := Box.mk (show w.grownBy W5 (some g) by rw [hW5]; exact grownBy_trans HG4.out (grownBy_setC _ _ _ _))
 have hs4 : c4.size = 22 := by rw [HC4.out]; rfl
 rw [← hW5]
 clear hW5 HM4 HG4 hm17 hz17
 go_wp2_with (refine wpList_store_sub rfl 35 _ _ rfl g 18 #[.int .i64 0, .int .i64 0, .int .i64 0, .slice none 0 0] rfl rfl 73 _ c5 HM5.out sizeC (by rw [hs4]; show 18 + 4 ≤ 22; decide) (oneC ..) (by rw [HC4.out, HC5.out]; rfl) ?_)
 go_end0
 exact ⟨rfl, setRow_heap _ _ _ _ _ _ HM5.out, grownBy_trans HG5.out (grownBy_setRowM _ _ _)⟩
end Go.Proofs.YteoadfckcilalaaGreatDoor
namespace Go.Proofs.YteoadfckcilalaaGreatDoor
open Go.RowKit

theorem empty_y {y : ByteArray} (h : y.size = 0) : y.toList.isEmpty = true := by
 rw [ByteArray.toList_eq, List.isEmpty_iff, ← List.length_eq_zero_iff, Array.length_toList]; exact h
theorem full_y {y : ByteArray} (h : ¬ y.size = 0) : y.toList.isEmpty = false := by
 rw [← Bool.not_eq_true, ByteArray.toList_eq, List.isEmpty_iff, ← List.length_eq_zero_iff, Array.length_toList]; exact h
set_option maxHeartbeats 1000000 in
theorem leave_any (g : Nat) (p l t left np : Int) (v : Value) (w : World) (h : CVar w g p l t v) (hnp : (if left = 0 then 2 else p) = np) :
  Calls Tryz.prog 153 #[.pointer (some ⟨g, 0, none⟩), .int .i64 left] w fun e w' => e = .returned (.tuple #[]) ∧ CVar w' g np left t v ∧ w.grownBy w' (some g) := by
 obtain ⟨ha0, ha1, ha2, ha3⟩ := h.cells
 have hf1 := h.frozen (i := 1)
 have HC := Box.mk (h.setL (z := left))
 have hf0 := HC.out.frozen (i := 0)
 obtain ⟨hb0, hb1, hb2, hb3⟩ := HC.out.cells
 clear h
 by_cases hz : left = 0
 · have HZ := Box.mk (show np = 2 by rw [← hnp, if_pos hz])
   have ez : (left == 0) = true := by rw [hz]; rfl
   clear hz hnp
   go_enter Tryz.func153, Tryz.ntmps153
   go_wp2_with fail
   go_end0
   exact ⟨rfl, by rw [HZ.out]; exact HC.out.setP, grownBy_trans (grownBy_setC _ _ _ _) (grownBy_setC _ _ _ _)⟩
 · have HZ := Box.mk (show np = p by rw [← hnp, if_neg hz])
   have ez : (left == 0) = false := by rw [beq_eq_false_iff_ne]; exact hz
   clear hz hnp
   go_enter Tryz.func153, Tryz.ntmps153
   go_wp2_with fail
   go_end0
   exact ⟨rfl, by rw [HZ.out]; exact HC.out, grownBy_setC _ _ _ _⟩
set_option maxHeartbeats 1000000 in
theorem isExtension_any (s : ByteArray) (w : World) (hs : s.size ≤ maxLen) :
  Calls Tryz.prog 220 #[.string s] w fun e w' => e = .returned (.bool (visS s)) ∧ Below w.heap.size w w' := by
 have HS := Box.mk (And.intro hs (Nat.le_trans (trimBA_size s) hs))
 have HV := Box.mk (valS_trim s)
 clear hs
 go_enter Tryz.func220, Tryz.ntmps220
 go_wp2_with fail
 refine (trim_any s _ HS.out.1).mono ?_
 rintro e w1 ⟨rfl, hb1⟩
 generalize trimBA s = u at *
 have HB1 := Box.mk hb1
 clear hb1
 go_wp2_with fail
 refine (value_any u _ HS.out.2).mono ?_
 rintro e w2 ⟨he, hb2⟩
 rw [HV.out] at he
 subst he
 have HB2 := Box.mk (below_trans HB1.out hb2)
 clear hb2
 go_wp2_with fail
 go_ret
 exact ⟨rfl, HB2.out⟩
def RetFin (w : World) (g : Nat) (r : Int × Chk) (e : Ending) (w' : World) : Prop :=
 e = .returned (.int .i64 r.1) ∧ (r.1 = 0 → CVar w' g r.2.ph r.2.left r.2.tr (.slice none 0 0) ∧ r.2.line = []) ∧ w.grownBy w' (some g)
theorem RetFin.err {w w' : World} {g : Nat} {r : Int × Chk} {e : Ending} {er : Int} (hr : r = (er, zeroC)) (he : e = .returned (.int .i64 er)) (h0 : ¬ er = 0) (hg : w.grownBy w' (some g)) : RetFin w g r e w' := by
 subst hr; exact ⟨he, fun h => absurd h h0, hg⟩
theorem RetFin.ok {w w' : World} {g : Nat} {r : Int × Chk} {e : Ending} {p l t : Int} (hr : r = (0, ⟨p, l, t, []⟩)) (he : e = .returned (.int .i64 0)) (hc : CVar w' g p l t (.slice none 0 0)) (hg : w.grownBy w' (some g)) : RetFin w g r e w' := by
 subst hr; exact ⟨he, fun _ => ⟨hc, rfl⟩, hg⟩
set_option maxRecDepth 100000 in
set_option maxHeartbeats 2000000 in
theorem startChunk_any (g : Nat) (y : ByteArray) (w : World) (h : CVar w g 0 0 0 (.slice none 0 0)) (hy : y.size ≤ 1000) :
  Calls Tryz.prog 201 #[.pointer (some ⟨g, 0, none⟩), .string y] w (RetFin w g (lineS ⟨0, 0, 0, []⟩ y)) := by
 obtain ⟨d, x, hdx⟩ : ∃ d x, cutS 59 y = (d, x) := ⟨_, _, rfl⟩
 obtain ⟨n, er, hp⟩ : ∃ n er, parseS 16 1000000000 d = (n, er) := ⟨_, _, rfl⟩
 have HD := Box.mk hdx
 have HPS := Box.mk hp
 have HDX := Box.mk (show d.size ≤ maxLen ∧ x.size ≤ maxLen from by
  have h1 := cutS_size1 59 y
  have h2 := cutS_size2 59 y
  rw [hdx] at h1 h2
  have h3 : d.size ≤ y.size := h1
  have h4 : x.size ≤ y.size := h2
  unfold maxLen
  omega)
 have HY := Box.mk (show y.size ≤ maxLen from by unfold maxLen; omega)
 have HL1 := Box.mk (fun (hv : visS x = false) => lineS_ext (l := 0) (t := 0) (y := y) (by rw [hdx]; exact hv))
 have HL2 := Box.mk (fun (hv : visS x = true) (h0 : ¬ er = 0) => lineS_err (l := 0) (t := 0) (n := n) (e := er) (y := y) (by rw [hdx]; exact hv) (by rw [hdx]; exact hp) h0)
 have HL3 := Box.mk (fun (hv : visS x = true) (h0 : er = 0) => lineS_ok (l := 0) (t := 0) (n := n) (y := y) (by rw [hdx]; exact hv) (by rw [hdx, ← h0]; exact hp))
 have HC := Box.mk h
 generalize lineS ⟨0, 0, 0, []⟩ y = R at *
 clear h hp hdx hy
 go_enter Tryz.func201, Tryz.ntmps201
 go_wp2_with fail
 refine (cutC_any 59 y _ HY.out).mono ?_
 rintro e w1 ⟨b, he, hb1⟩
 rw [HD.out] at he
 simp only [] at he
 subst he
 have HC1 := Box.mk (HC.out.keep hb1)
 have HG1 := Box.mk (grownBy_of hb1 (some g))
 clear hb1 HC
 go_wp2_with fail
 refine (isExtension_any x _ HDX.out.2).mono ?_
 rintro e w2 ⟨he, hb2⟩
 have HC2 := Box.mk (HC1.out.keep hb2)
 have HG2 := Box.mk (grownBy_trans HG1.out (grownBy_of hb2 (some g)))
 clear hb2 HC1 HG1
 by_cases hv : visS x = true
 · rw [hv] at he
   subst he
   have HV := Box.mk hv
   clear hv
   go_wp2_with fail
   refine (parseHex_any d 1000000000 _ HDX.out.1 (by decide) (by decide)).mono ?_
   rintro e w3 ⟨he, rfl⟩
   rw [HPS.out] at he
   simp only [] at he
   subst he
   by_cases h0 : er = 0
   · have HR := Box.mk (HL3.out HV.out h0)
     have e0 : (er != 0) = false := by rw [h0]; rfl
     clear h0 HL1 HL2 HL3 HPS
     obtain ⟨ha0, ha1, ha2, ha3⟩ := HC2.out.cells
     have hf0 := HC2.out.frozen (i := 0)
     by_cases hn : n = 0
     · have HR2 := Box.mk (show R = (0, ⟨3, 0, 0, []⟩) by rw [HR.out, if_pos hn, hn])
       have en : (n == 0) = true := by rw [hn]; rfl
       have HC3 := Box.mk (HC2.out.setP (z := 3))
       obtain ⟨hb0, hb1, hb2, hb3⟩ := HC3.out.cells
       have hf2 := HC3.out.frozen (i := 2)
       clear hn HR
       go_wp2_with fail
       go_ret
       exact RetFin.ok HR2.out rfl HC3.out.setT (grownBy_trans HG2.out (grownBy_trans (grownBy_setC _ _ _ _) (grownBy_setC _ _ _ _)))
     · have HR2 := Box.mk (show R = (0, ⟨1, n, 0, []⟩) by rw [HR.out, if_neg hn])
       have en : (n == 0) = false := by rw [beq_eq_false_iff_ne]; exact hn
       have HC3 := Box.mk (HC2.out.setP (z := 1))
       obtain ⟨hb0, hb1, hb2, hb3⟩ := HC3.out.cells
       have hf1 := HC3.out.frozen (i := 1)
       clear hn HR
       go_wp2_with fail
       go_ret
       exact RetFin.ok HR2.out rfl HC3.out.setL (grownBy_trans HG2.out (grownBy_trans (grownBy_setC _ _ _ _) (grownBy_setC _ _ _ _)))
   · have HR := Box.mk (HL2.out HV.out h0)
     have e0 : (er != 0) = true := by rw [bne_iff_ne]; exact h0
     have H0 := Box.mk h0
     clear h0 HL1 HL2 HL3 HPS
     go_wp2_with fail
     go_ret
     exact RetFin.err HR.out rfl H0.out HG2.out
 · have hv2 : visS x = false := by rw [← Bool.not_eq_true]; exact hv
   have HR := Box.mk (HL1.out hv2)
   rw [hv2] at he
   subst he
   clear hv hv2 HL1 HL2 HL3 HPS
   go_wp2_with fail
   go_ret
   exact RetFin.err HR.out rfl (by decide) HG2.out
set_option maxRecDepth 100000 in
set_option maxHeartbeats 2000000 in
theorem finishLine_any (p l t : Int) (g : Nat) (y : ByteArray) (w : World) (h : CVar w g p l t (.slice none 0 0)) (hp : p = 0 ∧ l = 0 ∧ t = 0 ∨ p = 2 ∨ p = 3) (hy : y.size ≤ 1000) :
  Calls Tryz.prog 177 #[.pointer (some ⟨g, 0, none⟩), .string y] w (RetFin w g (lineS ⟨p, l, t, []⟩ y)) := by
 rcases hp with ⟨rfl, rfl, rfl⟩ | rfl | rfl
 · have HC := Box.mk h
   obtain ⟨ha0, ha1, ha2, ha3⟩ := h.cells
   have HY := Box.mk hy
   generalize hR : lineS ⟨0, 0, 0, []⟩ y = R
   have HR := Box.mk hR
   clear h hy hR
   go_enter Tryz.func177, Tryz.ntmps177
   go_wp2_with fail
   refine (startChunk_any g y _ HC.out HY.out).mono ?_
   rintro e w1 ⟨he, h1, h2⟩
   rw [HR.out] at he h1
   subst he
   have H1 := Box.mk h1
   have H2 := Box.mk h2
   clear h1 h2
   go_wp2_with fail
   go_ret
   exact ⟨rfl, H1.out, H2.out⟩
 · obtain ⟨ha0, ha1, ha2, ha3⟩ := h.cells
   have hf0 := h.frozen (i := 0)
   have HC := Box.mk h
   clear h
   by_cases hz : y.size = 0
   · have HR := Box.mk (show lineS ⟨2, l, t, []⟩ y = (0, ⟨0, l, t, []⟩) by unfold lineS; simp [hz])
     have hye := empty_y hz
     generalize lineS ⟨2, l, t, []⟩ y = R at *
     clear hz hy
     go_enter Tryz.func177, Tryz.ntmps177
     go_wp2_with fail
     go_ret
     exact RetFin.ok HR.out rfl HC.out.setP (grownBy_setC _ _ _ _)
   · have HR := Box.mk (show lineS ⟨2, l, t, []⟩ y = (2, zeroC) by unfold lineS; simp [hz])
     have hye := full_y hz
     generalize lineS ⟨2, l, t, []⟩ y = R at *
     clear hz hy
     go_enter Tryz.func177, Tryz.ntmps177
     go_wp2_with fail
     go_ret
     exact RetFin.err HR.out rfl (by decide) (grownBy_of (Below.refl _ _) _)
 · obtain ⟨ha0, ha1, ha2, ha3⟩ := h.cells
   have hf0 := h.frozen (i := 0)
   have HC := Box.mk h
   clear h
   by_cases hz : y.size = 0
   · have HR := Box.mk (show lineS ⟨3, l, t, []⟩ y = (0, ⟨4, l, t, []⟩) by unfold lineS; simp [hz])
     have hye := empty_y hz
     generalize lineS ⟨3, l, t, []⟩ y = R at *
     clear hz hy
     go_enter Tryz.func177, Tryz.ntmps177
     go_wp2_with fail
     go_ret
     exact RetFin.ok HR.out rfl HC.out.setP (grownBy_setC _ _ _ _)
   · have HR1 := Box.mk (fun (hf : (parseF y).isSome = true) => show lineS ⟨3, l, t, []⟩ y = (0, ⟨3, l, t, []⟩) by unfold lineS; simp [hz, hf])
     have HR2 := Box.mk (fun (hf : ¬ (parseF y).isSome = true) => show lineS ⟨3, l, t, []⟩ y = (2, zeroC) by unfold lineS; simp [hz, hf])
     have hye := full_y hz
     have HY := Box.mk (show y.size ≤ maxLen from by unfold maxLen; omega)
     generalize lineS ⟨3, l, t, []⟩ y = R at *
     clear hz hy
     go_enter Tryz.func177, Tryz.ntmps177
     go_wp2_with fail
     refine (fParse_any y _ HY.out).mono ?_
     rintro e w1 ⟨he, hb1⟩
     have HC1 := Box.mk (HC.out.keep hb1)
     have HB1 := Box.mk hb1
     clear hb1
     rcases hq : parseF y with _ | ⟨fn, fv⟩
     · rw [hq] at he
       simp only [parseV] at he
       subst he
       have HR := Box.mk (HR2.out (by rw [hq]; simp))
       clear hq HR1 HR2
       go_wp2_with fail
       go_ret
       exact RetFin.err HR.out rfl (by decide) (grownBy_of (below_trans HB1.out (below_oneF _ _)) _)
     · rw [hq] at he
       simp only [parseV] at he
       subst he
       have HR := Box.mk (HR1.out (by rw [hq]; rfl))
       clear hq HR1 HR2
       go_wp2_with fail
       go_ret
       exact RetFin.ok HR.out rfl (HC1.out.keep (below_oneF _ _)) (grownBy_of (below_trans HB1.out (below_oneF _ _)) _)
end Go.Proofs.YteoadfckcilalaaGreatDoor
