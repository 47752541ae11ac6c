/- The law ReaderRequest, walked. The law ReaderRequest: what the fields of a made request say of its body. The law ReaderRequest: its mathematics. Opening the arguments of the laws on fields. -/
import Derived.Test.YtejbkbccljoldaaGreatDoorPq1
import Derived.Test.YtejbkbccljoldaaGreatDoorPq2
import Derived.Test.YtejbkbccljoldaaGreatDoorPq3
import Derived.Test.YtejbkbccljoldaaGreatDoorPq4
import Derived.Test.YtejbkbccljoldaaGreatDoorPq5
import Derived.Test.YtejbkbccljoldaaGreatDoorPq6
import Derived.Test.YtejbkbccljoldaaGreatDoorPq7
import Derived.Test.YtejbkbccljoldaaGreatDoorPq8
import Derived.Test.YtejbkbccljoldaaGreatDoorPq9
import Derived.Test.YtejbkbccljoldaaGreatDoorPq10
import Derived.Test.YtejbkbccljoldaaGreatDoorPq11
import Derived.Test.YtejbkbccljoldaaGreatDoorPq12
import Derived.Test.YtejbkbccljoldaaGreatDoorRows
import Derived.WalkKit
import Derived.WalkSpells
import Derived.WalkLawsBesides
import Derived.BigQuiet
import Derived.Deep.QuietTactic
import Derived.Lib.Bytealg
import Derived.Lib.IndexLaws
import Derived.Lib.Hide
import Derived.Laws.IdiomStrings
import Derived.Lib.SlTrimSet
import Derived.Lib.IndexBytes
import Derived.Lib.Split
import Derived.Deep.AppendLies
import Derived.Shelf.Strings.SlTrimAscii
import Derived.Shelf.Strings.SplitShaped
import Derived.Shelf.LaysM
import Derived.Shelf.Strings.BuilderK
import Derived.Shelf.Strconv.Itoa4
import Derived.Shelf.Strings.Prefix
import Derived.Shelf.Bytes.SlIndexWhole
import Derived.Test.YtejbkbccljoldaaGreatDoorProg
import Derived.Lib.SplitLaws
import Derived.WalkSmall
import Derived.ProofKit
import Derived.OpenShut
import Derived.Lib.Strings
import Derived.SliceStrings
import Derived.Deep.Quiet
import Derived.Tactics
import Derived.KernelRfl
import Derived.Below
import Derived.Laws.Bits64
import Derived.Lib.SlBytesConst
import Derived.Maps.AppendAt
import Derived.Laws.AppendOwnNone
import Derived.Great.BuildSlice
import Derived.Laws.Rows
import Derived.Laws.BitsAllLaws
import Derived.Laws.Shifts
import Derived.Maps.OwnOps
import Derived.Maps.OwnSet
import Derived.Deep.SlicePairs
import Derived.Lib.AppendZerosOnto
import Derived.Lib.AppendStr
import Derived.Laws.CopyOwn
import Derived.OwnWalk
import Derived.Laws.Strings3
import Derived.Laws.Concat
import Derived.Lib.ItoaMem
import Derived.Deep.RegionHeld3
import Derived.IntWalk
import Derived.Laws.RangeAny
import Derived.LoopTactic
import Derived.Sort.Grow
import Derived.Lib.ConvBytes
import Derived.Deep.DeepCutAuto
import Derived.Deep.MidRow
import Derived.Laws.Tables
import Derived.Deep.WholeRow
import Derived.StillTailTactics
import Derived.Deep.CutBlock
import Derived.Lib.LaidTab
import Derived.LaidSub
import Derived.Laws.Bits64b
import Derived.Lib.FrozenHead2
import Derived.Deep.Matrix
import Derived.Lib.LazyBuf
import Derived.ArgAppend
namespace Go.Proofs.YtejbkbccljoldaaGreatDoor
open Go.RowKit

set_option linter.unusedVariables false
/-- What Wire adds to a request's fields; the body as it sends it; all of it. -/
def reqT (fr ch : Bool) (z : Int) (l : List UInt8) : List Fld := if fr = true then (if ch = true ∧ z = 1 then [((⟨#[84, 114, 97, 110, 115, 102, 101, 114, 45, 69, 110, 99, 111, 100, 105, 110, 103]⟩ : ByteArray), (⟨#[99, 104, 117, 110, 107, 101, 100]⟩ : ByteArray))] else [((⟨#[67, 111, 110, 116, 101, 110, 116, 45, 76, 101, 110, 103, 116, 104]⟩ : ByteArray), fmtS 10 l.length)]) else []
def reqE (fr ch : Bool) (z : Int) (l : List UInt8) : List UInt8 := if fr = true ∧ ch = true ∧ z = 1 then encodeS [l.take (l.length / 2), l.drop (l.length / 2)] else l
def reqH (m t : ByteArray) (z : Int) (x : List Fld) (fr ch : Bool) (l : List UInt8) : List UInt8 := headB (fmtReq m t z) (x ++ reqT fr ch z l)
def reqW (m t : ByteArray) (z : Int) (x : List Fld) (fr ch : Bool) (l : List UInt8) : List UInt8 := reqH m t z x fr ch l ++ reqE fr ch z l
/-- What there is to know of a made request's bytes. -/
structure ReqOk (m t : ByteArray) (z : Int) (x : List Fld) (fr ch : Bool) (l : List UInt8) : Prop where
  lo : 0 < (reqH m t z x fr ch l).length
  hi : (reqH m t z x fr ch l).length ≤ 1000
  len : (reqW m t z x fr ch l).length ≤ 1800
  sm : SmallF (x ++ reqT fr ch z l)
  hq : (fmtReq m t z).size ≤ 4000000000
  good : ∀ r : List UInt8, r.length ≤ 30 → GoodB (reqW m t z x fr ch l ++ r)
  got : ∀ r : List UInt8, r.length ≤ 30 → ∃ s, CW zeroR (reqW m t z x fr ch l ++ r) = .got 0 s l (reqW m t z x fr ch l).length ∧ s.m = m ∧ s.t = t ∧ s.fr = fr
set_option maxRecDepth 100000 in
set_option maxHeartbeats 1000000 in
theorem reqWire_any (m t : ByteArray) (z : Int) (x : List Fld) (fr ch : Bool) (l : List UInt8) (fa ba : Option Addr) (fc bc : Nat) (w : World) (hm : m.size ≤ 1000000000) (ht : t.size ≤ 1000000000) (hx : FldsC w fa x fc) (hd : IsBytes w ba l bc) (hxl : x.length ≤ 900) (hl : l.length ≤ 60000) (hz : z = 0 ∨ z = 1) (h : ReqOk m t z x fr ch l) :
    Calls Tryz.prog 22 #[.agg #[.string m, .string t, .int .i64 z, .slice fa x.length fc, .bool fr, .slice ba l.length bc], .bool ch] w fun e w' => ∃ v, e = .returned v ∧ OwnM w.heap.size w' v (reqW m t z x fr ch l) ∧ Below w.heap.size w w' := by
  have h0 := h.lo
  have h1 := h.hi
  have h2 := h.sm
  have h3 := h.hq
  unfold reqW
  unfold reqH at h0 h1 ⊢
  cases fr with
  | false =>
    have e1 : x ++ reqT false ch z l = x := List.append_nil x
    have e2 : reqE false ch z l = l := if_neg (fun h => by cases h.1)
    rw [e1] at h0 h1 h2 ⊢
    rw [e2]
    exact wireN_any m t z x l fa ba fc bc ch w hm ht hx hd hxl (by omega) h2 h3 h0 (Nat.le_trans h1 (by decide))
  | true =>
    by_cases hc : ch = true ∧ z = 1
    · obtain ⟨rfl, rfl⟩ := hc
      exact wireC_any m t 1 x l fa ba fc bc true w hm ht hx hd hxl (by omega) h2 h3 h0 (Nat.le_trans h1 (by decide)) rfl rfl (l.length / 2) (reqE true true 1 l) rfl rfl hl
    · have e1 : reqT true ch z l = [((⟨#[67, 111, 110, 116, 101, 110, 116, 45, 76, 101, 110, 103, 116, 104]⟩ : ByteArray), fmtS 10 l.length)] := by unfold reqT; rw [if_pos rfl, if_neg hc]
      have e2 : reqE true ch z l = l := if_neg (fun h => hc h.2)
      rw [e1] at h0 h1 h2 ⊢
      rw [e2]
      exact wireL_any m t z x l fa ba fc bc ch w hm ht hx hd hxl (by omega) h2 h3 h0 (Nat.le_trans h1 (by decide)) (fun h h2 => hc ⟨h, h2⟩)
set_option maxRecDepth 100000 in
set_option maxHeartbeats 2000000 in
theorem readerRequest_pre (hM : ∀ (m t : ByteArray) (z : Int) (x : List Fld) (fr ch : Bool) (l : List UInt8), m ∈ methF → t ∈ targF → (z = 0 ∨ z = 1) → RF3 x → l.length ≤ 30 → (fr = false → l = []) → ReqOk m t z x fr ch l) (a ma : Option Addr) (n c mc : Nat) (ch : Bool) (more : List UInt8) (mm : Int) (w : World) (hi : IntsF w a n) (hn : n ≤ maxLen) (hmo : IsBytes w ma more mc) (hk : HdOk w mm) :
    Calls Tryz.prog 5 #[.slice a n c, .bool ch, .slice ma more.length mc] w fun e w' => e = .returned (.bool true) ∧ Below w.heap.size w w' := by
  have HS0 := Box.mk (src_box (c := c) hi hn)
  have HB0 := Box.mk (below_oneF w (.cells #[.slice a n c, .int .i64 0] 56))
  have HG0 := Box.mk (show w.heap.size < (w.alloc (.cells #[.slice a n c, .int .i64 0] 56)).heap.size from HS0.out.lt)
  have HOK := Box.mk hk
  have HMO := Box.mk hmo
  have HM := Box.mk hM
  clear hi hn hk hmo hM
  go_enter Tryz.func5, Tryz.ntmps5
  go_wp2_with fail
  refine (srcReq_any w.heap.size a n c _ HS0.out).mono ?_
  rintro e w5 ⟨m, t, z, v5, x, fr, vB, bl, rfl, hm, ht, hz, ho5, hbo, hR3, hbl, hfr, hs5, hg5⟩
  obtain ⟨fa, fc, rfl, hfc, _⟩ := ho5.shape
  obtain ⟨ba, bc, rfl, hbv⟩ := hbo.val
  have HRQ := Box.mk (HM.out m t z x fr ch bl hm ht hz hR3 hbl hfr)
  have HSZ := Box.mk (And.intro (meth_at hm).2 (And.intro (targ_at ht).2 (And.intro hR3.made.2 (And.intro hbl hz))))
  have HB5 := Box.mk (below_box HB0.out hg5)
  obtain ⟨q, hq⟩ : ∃ q, q = w5.heap.size := ⟨_, rfl⟩
  obtain ⟨W6, hW6⟩ : ∃ W6, W6 = (w5.alloc (.cells #[.string ⟨#[]⟩, .string ⟨#[]⟩, .int .i64 0, .slice none 0 0, .bool false, .slice none 0 0] 29)).setRow w5.heap.size #[.string m, .string t, .int .i64 z, .slice fa x.length fc, .bool fr, .slice ba bl.length bc] := ⟨_, rfl⟩
  have HV6 := Box.mk (show (w5.alloc (.cells #[.string ⟨#[]⟩, .string ⟨#[]⟩, .int .i64 0, .slice none 0 0, .bool false, .slice none 0 0] 29)).heap[w5.heap.size]? = some (.cells #[.string ⟨#[]⟩, .string ⟨#[]⟩, .int .i64 0, .slice none 0 0, .bool false, .slice none 0 0] 29 (0, 0)) from heap_alloc_new _ _)
  have hb56 : Below w5.heap.size w5 W6 := by rw [hW6]; exact below_setRow (below_oneF _ _) (Nat.le_refl _) _
  have HQ6 := Box.mk (show W6.heap[q]? = some (.cells #[.string m, .string t, .int .i64 z, .slice fa x.length fc, .bool fr, .slice ba bl.length bc] 29 (0, 0)) by rw [hW6, hq]; exact setRow_heap _ _ _ _ _ _ HV6.out)
  have HF6 := Box.mk (hfc.keep hb56)
  have HD6 := Box.mk (hbv.keep hb56)
  have HB6 := Box.mk (below_trans HB5.out hb56)
  clear hm ht hz ho5 hbo hR3 hbl hfr hs5 hg5 hfc hbv hb56 HS0 HB0 HG0 HB5
  go_upto_region 3 with (refine wpList_store_row rfl 29 _ _ rfl w5.heap.size #[.string m, .string t, .int .i64 z, .slice fa x.length fc, .bool fr, .slice ba bl.length bc] rfl rfl 29 _ HV6.out sizeR rfl (by simp [Value.oneCell']) ?_)
  rw [← hW6, ← hq]
  rw [← hq] at hW6
  clear hW6 HV6 hq
  go_wp2_with (refine wpList_load_row rfl 29 _ rfl q rfl 29 #[.string m, .string t, .int .i64 z, .slice fa x.length fc, .bool fr, .slice ba bl.length bc] (0, 0) _ HQ6.out Tryz.underlying29 rfl sizeR ?_)
  refine (reqWire_any m t z x fr ch bl fa ba fc bc W6 (by have := HSZ.out.1; omega) (by have := HSZ.out.2.1; omega) HF6.out HD6.out (by have := HSZ.out.2.2.1; omega) (by have := HSZ.out.2.2.2.1; omega) HSZ.out.2.2.2.2 HRQ.out).mono ?_
  rintro e w7 ⟨v, rfl, hown, hb7⟩
  obtain ⟨g, cc, rfl, hgc, hby⟩ := hown.form
  obtain ⟨b, hb⟩ : ∃ b, b = reqW m t z x fr ch bl := ⟨_, rfl⟩
  rw [← hb] at hby hgc ⊢
  have HBQ := Box.mk hb
  have HBY := Box.mk hby
  have HB7 := Box.mk (below_trans HB6.out hb7)
  have HD7 := Box.mk (HD6.out.keep hb7)
  have HQ7 := Box.mk (show w7.heap[q]? = some (.cells #[.string m, .string t, .int .i64 z, .slice fa x.length fc, .bool fr, .slice ba bl.length bc] 29 (0, 0)) by rw [hb7.block q (Array.getElem?_eq_some_iff.1 HQ6.out).1]; exact HQ6.out)
  clear hown hgc hby hb7 hb HF6 HD6 HB6 HQ6 HSZ
  go_wp2_with fail
  refine (forRequest_any w7).mono ?_
  rintro e w8 ⟨rfl, hb8⟩
  have HB8 := Box.mk (below_trans HB7.out hb8)
  have HD8 := Box.mk (HD7.out.keep hb8)
  have HQ8 := Box.mk (show w8.heap[q]? = some (.cells #[.string m, .string t, .int .i64 z, .slice fa x.length fc, .bool fr, .slice ba bl.length bc] 29 (0, 0)) by rw [hb8.block q (Array.getElem?_eq_some_iff.1 HQ7.out).1]; exact HQ7.out)
  have HE := Box.mk (AccB.empty w8)
  have HL8 := Box.mk (show ([] : List UInt8).length + b.length ≤ 140737488355328 by rw [HBQ.out]; have := HRQ.out.len; simp; omega)
  have HBY8 := Box.mk ((HBY.out.keep hb8).keep HE.out.2)
  go_wp2_with (at_builtin; refine wpList_append_accs _ rfl _ _ rfl rfl HE.out rfl HBY8.out HL8.out ?c1)
  case c1 =>
    intro v1 w9 hacc
    have HA9 := Box.mk hacc
    have HB9 := Box.mk (below_trans (below_trans HB7.out hb8) hacc.2)
    clear hacc hb8 HE HL8 HBY8 HBY HB7 HD7 HQ7
    go_wp2_with fail
    refine (shortH_any more ma mc 30 _ (HMO.out.keep HB9.out) (by decide)).mono ?_
    rintro e w10 ⟨r, hr, hr30, rfl, hrb, rfl⟩
    have HRB := Box.mk hrb
    have HRL := Box.mk hr30
    have HL9 := Box.mk (show b.length + r.length ≤ 140737488355328 by rw [HBQ.out]; have := HRQ.out.len; omega)
    clear hr hrb
    go_wp2_with (at_builtin; refine wpList_append_accs _ rfl _ _ rfl rfl HA9.out rfl HRB.out HL9.out ?c2)
    case c2 =>
      intro v2 w11 hacc
      obtain ⟨br, hbr⟩ : ∃ br, br = b ++ r := ⟨_, rfl⟩
      rw [← hbr] at hacc
      obtain ⟨va, vc, rfl, hvb⟩ := hacc.shape
      have hb9 : Below w8.heap.size w8 w11 := hacc.2
      have HVB := Box.mk hvb
      have HB11 := Box.mk (below_trans HB8.out hb9)
      have HD11 := Box.mk (HD8.out.keep hb9)
      have HQ11 := Box.mk (show w11.heap[q]? = some (.cells #[.string m, .string t, .int .i64 z, .slice fa x.length fc, .bool fr, .slice ba bl.length bc] 29 (0, 0)) by rw [hb9.block q (Array.getElem?_eq_some_iff.1 HQ8.out).1]; exact HQ8.out)
      have hlen : br.length ≤ 1900 := by rw [hbr, List.length_append, HBQ.out]; have := HRQ.out.len; omega
      have HGB := Box.mk (show GoodB br by rw [hbr, HBQ.out]; exact HRQ.out.good r hr30)
      have HCW := Box.mk (show ∃ s, CW (begR false ⟨#[]⟩) br = .got 0 s bl b.length ∧ s.m = m ∧ s.t = t ∧ s.fr = fr by rw [hbr, HBQ.out]; exact HRQ.out.got r hr30)
      have HLEN := Box.mk hlen
      clear hacc hb9 hvb hbr hlen HA9 HB9 HB8 HD8 HQ8 HRB HRL HL9 HRQ HBQ hr30
      go_wp2_with fail
      refine (whole_any (begR false ⟨#[]⟩) br va vc none 0 0 none none none 0 0 0 mm w11 HVB.out HLEN.out (intsF_none _) ⟨Nat.zero_le _, Nat.le_refl _⟩ (begR_mem ..) (begR_good HGB.out) (begR_nm ..) (HOK.out.keep HB11.out)).mono ?_
      rintro e w12 ⟨hres, hb12⟩
      obtain ⟨s, hcw, hsm, hst, hsf⟩ := HCW.out
      rw [hcw] at hres
      obtain ⟨t2, f4, c4, g4, d4, l4, e4, hmsg, rfl⟩ : ∃ t2 f4 c4 g4 d4 l4 e4, MsgS t2 = MsgS s ∧ e = .returned (.tuple #[.agg #[.bool t2.rep, .string t2.meth, .int .i64 t2.ph, .string t2.m, .string t2.t, .int .i64 t2.z, .slice f4 (List.length t2.xs) c4, .bool t2.fr, .slice none 0 0, .int .i64 t2.st, .string t2.rs, .int .i64 t2.z2, .slice g4 (List.length t2.ys) d4, .slice none 0 0, .int .i64 t2.fk, .int .i64 t2.fl, .int .i64 t2.left, .int .i64 t2.size, .int .i64 t2.ck.ph, .int .i64 t2.ck.left, .int .i64 t2.ck.tr, .slice l4 (List.length t2.ck.line) e4], .string ⟨bl.toArray⟩, .int .i64 (b.length : Int), .int .i64 0]) := by
        rcases hres with ⟨_, h, _⟩ | ⟨er, t2, d, n, f4, c4, g4, d4, l4, e4, ⟨h1, h2, h3, h4⟩, h, _⟩
        · cases h
        · subst h1 h3 h4
          exact ⟨t2, f4, c4, g4, d4, l4, e4, h2, h⟩
      clear hres hcw
      obtain ⟨cr, hcr⟩ : ∃ cr : Array Value, cr = #[.bool t2.rep, .string t2.meth, .int .i64 t2.ph, .string t2.m, .string t2.t, .int .i64 t2.z, .slice f4 (List.length t2.xs) c4, .bool t2.fr, .slice none 0 0, .int .i64 t2.st, .string t2.rs, .int .i64 t2.z2, .slice g4 (List.length t2.ys) d4, .slice none 0 0, .int .i64 t2.fk, .int .i64 t2.fl, .int .i64 t2.left, .int .i64 t2.size, .int .i64 t2.ck.ph, .int .i64 t2.ck.left, .int .i64 t2.ck.tr, .slice l4 (List.length t2.ck.line) e4] := ⟨_, rfl⟩
      have hcr22 : cr.size = 22 := by rw [hcr]; rfl
      have hcr1 : cr.all (·.oneCell') = true := by rw [hcr]; exact oneRd ..
      have hc3 : cr[3]? = some (.string m) := by rw [hcr]; show some (Value.string t2.m) = _; rw [← hsm]; exact congrArg (fun y => some (Value.string y.1.1)) hmsg
      have hc4 : cr[4]? = some (.string t) := by rw [hcr]; show some (Value.string t2.t) = _; rw [← hst]; exact congrArg (fun y => some (Value.string y.1.2.1)) hmsg
      have hc7 : cr[7]? = some (.bool fr) := by rw [hcr]; show some (Value.bool t2.fr) = _; rw [← hsf]; exact congrArg (fun y => some (Value.bool y.1.2.2.2.2)) hmsg
      rw [← hcr]
      have HSR := Box.mk (show (Tryz.prog.info? 37).map (·.size) = some cr.size by rw [hcr22]; exact sizeRd)
      have HX8 := Box.mk (show RVr (w12.alloc (.cells #[.bool false, .string ⟨#[]⟩, .int .i64 0, .string ⟨#[]⟩, .string ⟨#[]⟩, .int .i64 0, .slice none 0 0, .bool false, .slice none 0 0, .int .i64 0, .string ⟨#[]⟩, .int .i64 0, .slice none 0 0, .slice none 0 0, .int .i64 0, .int .i64 0, .int .i64 0, .int .i64 0, .int .i64 0, .int .i64 0, .int .i64 0, .slice none 0 0] 37)) w12.heap.size #[.bool false, .string ⟨#[]⟩, .int .i64 0, .string ⟨#[]⟩, .string ⟨#[]⟩, .int .i64 0, .slice none 0 0, .bool false, .slice none 0 0, .int .i64 0, .string ⟨#[]⟩, .int .i64 0, .slice none 0 0, .slice none 0 0, .int .i64 0, .int .i64 0, .int .i64 0, .int .i64 0, .int .i64 0, .int .i64 0, .int .i64 0, .slice none 0 0] from heap_alloc_new _ _)
      obtain ⟨W9, hW9⟩ : ∃ W9, W9 = (w12.alloc (.cells #[.bool false, .string ⟨#[]⟩, .int .i64 0, .string ⟨#[]⟩, .string ⟨#[]⟩, .int .i64 0, .slice none 0 0, .bool false, .slice none 0 0, .int .i64 0, .string ⟨#[]⟩, .int .i64 0, .slice none 0 0, .slice none 0 0, .int .i64 0, .int .i64 0, .int .i64 0, .int .i64 0, .int .i64 0, .int .i64 0, .int .i64 0, .slice none 0 0] 37)).setRow w12.heap.size cr := ⟨_, rfl⟩
      have hb129 : Below w12.heap.size w12 W9 := by rw [hW9]; exact below_setRow (below_oneF _ _) (Nat.le_refl _) _
      have h119 := below_trans hb12 hb129
      have HB13 := Box.mk (below_trans HB11.out h119)
      have hrow : RVr W9 w12.heap.size cr := by rw [hW9]; exact setRow_heap _ _ _ _ _ _ HX8.out
      have hq9 : W9.heap[q]? = some (.cells #[.string m, .string t, .int .i64 z, .slice fa x.length fc, .bool fr, .slice ba bl.length bc] 29 (0, 0)) := by rw [h119.block q (Array.getElem?_eq_some_iff.1 HQ11.out).1]; exact HQ11.out
      have k3 : W9.cell? ⟨w12.heap.size, 3, none⟩ = some (.string m) := by rw [cell_of_row _ _ _ _ _ _ hrow]; exact hc3
      have k4 : W9.cell? ⟨w12.heap.size, 4, none⟩ = some (.string t) := by rw [cell_of_row _ _ _ _ _ _ hrow]; exact hc4
      have k7 : W9.cell? ⟨w12.heap.size, 7, none⟩ = some (.bool fr) := by rw [cell_of_row _ _ _ _ _ _ hrow]; exact hc7
      have r0 : W9.cell? ⟨q, 0, none⟩ = some (.string m) := by rw [cell_of_row _ _ _ _ _ _ hq9]; rfl
      have r1 : W9.cell? ⟨q, 1, none⟩ = some (.string t) := by rw [cell_of_row _ _ _ _ _ _ hq9]; rfl
      have r4 : W9.cell? ⟨q, 4, none⟩ = some (.bool fr) := by rw [cell_of_row _ _ _ _ _ _ hq9]; rfl
      have r5 : W9.cell? ⟨q, 5, none⟩ = some (.slice ba bl.length bc) := by rw [cell_of_row _ _ _ _ _ _ hq9]; rfl
      have hcv := conv_bytes (HD11.out.keep h119)
      clear hcr hc3 hc4 hc7 hmsg hsm hst hsf hrow hq9 hb12 hb129 h119 HVB HB11 HD11 HQ11 HGB HCW HLEN
      go_upto_region 5 with (refine wpList_store_row rfl 37 _ _ rfl w12.heap.size cr rfl rfl 37 _ HX8.out HSR.out hcr22.symm hcr1 ?_)
      rw [← hW9]
      clear hW9 HX8 HSR hcr22 hcr1
      have ee : ∀ y : List UInt8, (y == y) = true := fun y => by simp
      go_wp2_with fail
      refine (awakeN_any mm _ (HOK.out.keep HB13.out)).mono ?_
      rintro e w14 ⟨rfl, hb14⟩
      go_wp2_with fail
      go_ret
      exact ⟨rfl, below_trans HB13.out hb14⟩
end Go.Proofs.YtejbkbccljoldaaGreatDoor
namespace Go.Proofs.YtejbkbccljoldaaGreatDoor
open Go.RowKit

set_option linter.unusedVariables false
theorem namesF_fold : (namesF.all fun s => !foldS s clN && !foldS s teN && !foldS s hostN) = true := by decide +kernel
theorem SrcF.fold {f : Fld} (h : SrcF f) : foldS f.1 clN = false ∧ foldS f.1 teN = false ∧ foldS f.1 hostN = false := by
  obtain ⟨s, hs, v, hv, rfl⟩ := h
  have := List.all_eq_true.1 namesF_fold s hs
  simp only [Bool.and_eq_true, Bool.not_eq_true'] at this
  exact ⟨this.1.1, this.1.2, this.2⟩
theorem valuesL_appR (x y : List Fld) (n : ByteArray) : valuesL (x ++ y) n = valuesL x n ++ valuesL y n := by
  unfold valuesL; rw [List.filter_append, List.map_append]
theorem valuesL_noneR {x : List Fld} {n : ByteArray} (h : ∀ f ∈ x, foldS f.1 n = false) : valuesL x n = [] := by
  unfold valuesL
  rw [List.filter_eq_nil_iff.2 (fun f hf => by rw [h f hf]; decide)]
  rfl
theorem hasL_noneR {x : List Fld} {n : ByteArray} (h : ∀ f ∈ x, foldS f.1 n = false) : hasL x n = false := by
  unfold hasL
  rw [List.any_eq_false]
  exact fun f hf => by rw [h f hf]; decide
theorem linesB_appR (x y : List Fld) : (linesB (x ++ y)).length = (linesB x).length + (linesB y).length := by
  unfold linesB; rw [List.flatMap_append, List.length_append]
theorem cook_line {s : ByteArray} (h : IdOk s) : (linesB [cookF s]).length = 33 := by
  have h1 : (cohort ++ s).data.toList = cohort.data.toList ++ s.data.toList := ba_app_list _ _
  have h2 : s.data.toList.length = 16 := by rw [Array.length_toList]; exact h.1
  show (lineB (cookF s) ++ []).length = 33
  rw [List.append_nil]
  unfold lineB
  show (_ ++ _ ++ (cohort ++ s).data.toList ++ _).length = 33
  rw [h1]
  simp only [List.length_append, h2]
  rfl
/-- What there is to know of a made request's fields. -/
def FldOk (x : List Fld) (n : Nat) : Prop := (∀ f ∈ x, foldS f.1 clN = false ∧ foldS f.1 teN = false) ∧ (valuesL x hostN).length = 1 ∧ (linesB x).length ≤ n
theorem FldOk.add {x : List Fld} {n k : Nat} {f : Fld} (h : FldOk x n) (h1 : foldS f.1 clN = false) (h2 : foldS f.1 teN = false) (h3 : foldS f.1 hostN = false) (h4 : (linesB [f]).length = k) : FldOk (x ++ [f]) (n + k) := by
  refine ⟨fun g hg => ?_, ?_, ?_⟩
  · rcases List.mem_append.1 hg with h5 | h5
    · exact h.1 g h5
    · obtain rfl := List.mem_singleton.1 h5; exact ⟨h1, h2⟩
  · rw [valuesL_appR, List.length_append, h.2.1, valuesL_noneR (x := [f]) (fun g hg => by obtain rfl := List.mem_singleton.1 hg; exact h3)]; rfl
  · rw [linesB_appR, h4]; have := h.2.2; omega
theorem RF1.ok {x : List Fld} (h : RF1 x) : FldOk x 201 := by
  obtain ⟨y, h1, h2, rfl⟩ := h
  refine ⟨fun f hf => ?_, ?_, ?_⟩
  · rcases List.mem_append.1 hf with h | h
    · exact ⟨(h1 f h).fold.1, (h1 f h).fold.2.1⟩
    · obtain rfl := List.mem_singleton.1 h; exact ⟨by decide +kernel, by decide +kernel⟩
  · rw [valuesL_appR, List.length_append, valuesL_noneR (x := y) (fun f hf => (h1 f hf).fold.2.2)]
    have : (valuesL [hostF] hostN).length = 1 := by decide +kernel
    rw [this]; rfl
  · have h3 := linesB_tiny y (fun f hf => (h1 f hf).tiny)
    have h4 : (linesB [hostF]).length = 9 := by decide
    rw [linesB_appR, h4]; omega
theorem RF3.ok {x : List Fld} (h : RF3 x) : FldOk x 260 := by
  have h2 : ∀ {y : List Fld}, RF2 y → FldOk y 234 := fun {y} h => by
    rcases h with h | ⟨y, s, h1, h2, rfl⟩
    · exact ⟨h.ok.1, h.ok.2.1, Nat.le_trans h.ok.2.2 (by decide)⟩
    · exact h1.ok.add (f := cookF s) (by show foldS ⟨#[67, 111, 111, 107, 105, 101]⟩ clN = false; decide +kernel) (by show foldS ⟨#[67, 111, 111, 107, 105, 101]⟩ teN = false; decide +kernel) (by show foldS ⟨#[67, 111, 111, 107, 105, 101]⟩ hostN = false; decide +kernel) (cook_line h2)
  rcases h with h | ⟨y, h1, rfl⟩
  · exact ⟨(h2 h).1, (h2 h).2.1, Nat.le_trans (h2 h).2.2 (by decide)⟩
  · have h3 := (h2 h1).add (f := expF) (k := 22) (by decide +kernel) (by decide +kernel) (by decide +kernel) (by decide)
    exact ⟨h3.1, h3.2.1, Nat.le_trans h3.2.2 (by decide)⟩
theorem frame_none {x : List Fld} {n : Nat} (h : FldOk x n) (z : Int) : frameS z x 1 = (1, 0, 0) :=
  frameS_none (hasL_noneR fun f hf => (h.1 f hf).2) (valuesL_noneR fun f hf => (h.1 f hf).1)
theorem frame_len {x : List Fld} {n : Nat} (h : FldOk x n) (z : Int) (k : Nat) (hk : k ≤ 30) : frameS z (x ++ [((⟨#[67, 111, 110, 116, 101, 110, 116, 45, 76, 101, 110, 103, 116, 104]⟩ : ByteArray), fmtS 10 (k : Int))]) 1 = (2, (k : Int), 0) := by
  have hp : ∀ j : Fin 31, parseS 10 1000000000 (fmtS 10 (j.val : Int)) = ((j.val : Int), 0) := by decide +kernel
  have h1 : foldS ⟨#[67, 111, 110, 116, 101, 110, 116, 45, 76, 101, 110, 103, 116, 104]⟩ clN = true := by decide +kernel
  have h2 : foldS ⟨#[67, 111, 110, 116, 101, 110, 116, 45, 76, 101, 110, 103, 116, 104]⟩ teN = false := by decide +kernel
  have hv : valuesL (x ++ [((⟨#[67, 111, 110, 116, 101, 110, 116, 45, 76, 101, 110, 103, 116, 104]⟩ : ByteArray), fmtS 10 (k : Int))]) clN = [fmtS 10 (k : Int)] := by
    rw [valuesL_appR, valuesL_noneR fun f hf => (h.1 f hf).1]
    unfold valuesL
    simp [h1]
  rw [frameS_len (hasL_noneR fun f hf => by
    rcases List.mem_append.1 hf with h3 | h3
    · exact (h.1 f h3).2
    · obtain rfl := List.mem_singleton.1 h3; exact h2) hv, hp ⟨k, by omega⟩]
  rw [if_neg (by simp), if_pos rfl]
theorem frame_chunks {x : List Fld} {n : Nat} (h : FldOk x n) : frameS 1 (x ++ [((⟨#[84, 114, 97, 110, 115, 102, 101, 114, 45, 69, 110, 99, 111, 100, 105, 110, 103]⟩ : ByteArray), (⟨#[99, 104, 117, 110, 107, 101, 100]⟩ : ByteArray))]) 1 = (3, 0, 0) := by
  have h1 : foldS ⟨#[84, 114, 97, 110, 115, 102, 101, 114, 45, 69, 110, 99, 111, 100, 105, 110, 103]⟩ teN = true := by decide +kernel
  have h2 : foldS ⟨#[84, 114, 97, 110, 115, 102, 101, 114, 45, 69, 110, 99, 111, 100, 105, 110, 103]⟩ clN = false := by decide +kernel
  have hv : valuesL (x ++ [((⟨#[84, 114, 97, 110, 115, 102, 101, 114, 45, 69, 110, 99, 111, 100, 105, 110, 103]⟩ : ByteArray), (⟨#[99, 104, 117, 110, 107, 101, 100]⟩ : ByteArray))]) teN = [⟨#[99, 104, 117, 110, 107, 101, 100]⟩] := by
    rw [valuesL_appR, valuesL_noneR fun f hf => (h.1 f hf).2]
    unfold valuesL
    simp [h1]
  have hc : valuesL (x ++ [((⟨#[84, 114, 97, 110, 115, 102, 101, 114, 45, 69, 110, 99, 111, 100, 105, 110, 103]⟩ : ByteArray), (⟨#[99, 104, 117, 110, 107, 101, 100]⟩ : ByteArray))]) clN = [] := valuesL_noneR fun f hf => by
    rcases List.mem_append.1 hf with h3 | h3
    · exact (h.1 f h3).1
    · obtain rfl := List.mem_singleton.1 h3; exact h2
  have hb : chunkedB (listL [⟨#[99, 104, 117, 110, 107, 101, 100]⟩]) = true := by decide +kernel
  rw [frameS_te (by unfold hasL; rw [List.any_append]; simp [h1]), hv, hc, hb, if_neg (by simp)]
end Go.Proofs.YtejbkbccljoldaaGreatDoor
namespace Go.Proofs.YtejbkbccljoldaaGreatDoor
open Go.RowKit

set_option linter.unusedVariables false
theorem endGo_first : ∀ (l : List UInt8) (i q : Nat), (l.drop q).take 4 = crlf2 → endGo i l ≤ ((i + q + 4 : Nat) : Int)
  | [], i, q, h => by
    rw [List.drop_nil, List.take_nil] at h
    exact absurd h (by decide)
  | x :: r, i, q, h => by
    rw [endGo_cons]
    by_cases hc : (x :: r).take 4 = crlf2
    · rw [if_pos hc]; omega
    · rw [if_neg hc]
      cases q with
      | zero => exact absurd h hc
      | succ q =>
        have := endGo_first r (i + 1) q h
        omega
theorem goodB_front {h r : List UInt8} (h1 : endZ h = h.length) (h2 : 4 ≤ h.length) (h3 : h.length ≤ 400) (h4 : r.length ≤ 100) : GoodB (h ++ r) := fun p hp hpl hw => by
  have hE := (endS_end (endS_front (r := r) h1 h2 h3)).1
  have h5 := endGo_first (h ++ r) 0 (p - 4) hw
  have h6 : endZ (h ++ r) ≤ ((0 + (p - 4) + 4 : Nat) : Int) := h5
  rw [hE] at h6
  rw [List.length_append]
  omega
/-- What is added to a request's fields. -/
structure AddOk (T : List Fld) : Prop where
  al : allB T = true
  ho : valuesL T hostN = []
  li : (linesB T).length ≤ 28
  le : T.length ≤ 1
  sm : SmallF T
theorem addOk (fr ch : Bool) (z : Int) (l : List UInt8) (hl : l.length ≤ 30) : AddOk (reqT fr ch z l) := by
  have hp : ∀ j : Fin 31, fldB ⟨#[67, 111, 110, 116, 101, 110, 116, 45, 76, 101, 110, 103, 116, 104]⟩ (fmtS 10 (j.val : Int)) = true ∧ (fmtS 10 (j.val : Int)).size ≤ 3 := by decide +kernel
  have hk := hp ⟨l.length, by omega⟩
  unfold reqT
  split
  · split
    · exact ⟨by decide +kernel, by decide +kernel, by decide, by decide, fun f hf => by obtain rfl := List.mem_singleton.1 hf; exact ⟨by decide, by decide⟩⟩
    · refine ⟨?_, ?_, ?_, Nat.le_refl _, fun f hf => ?_⟩
      · unfold allB
        simp only [List.all_cons, List.all_nil, Bool.and_true]
        exact hk.1
      · exact valuesL_noneR fun f hf => by obtain rfl := List.mem_singleton.1 hf; show foldS ⟨#[67, 111, 110, 116, 101, 110, 116, 45, 76, 101, 110, 103, 116, 104]⟩ hostN = false; decide +kernel
      · show (lineB _ ++ []).length ≤ 28
        rw [List.append_nil]
        unfold lineB
        have h2 : (fmtS 10 (l.length : Int)).data.toList.length ≤ 3 := by rw [Array.length_toList]; exact hk.2
        simp only [List.length_append]
        have h3 : (⟨#[67, 111, 110, 116, 101, 110, 116, 45, 76, 101, 110, 103, 116, 104]⟩ : ByteArray).data.toList.length = 14 := rfl
        rw [h3]
        simp only [List.length_cons, List.length_nil]
        omega
      · obtain rfl := List.mem_singleton.1 hf
        exact ⟨by show 14 ≤ 1048576; decide, Nat.le_trans hk.2 (by decide)⟩
  · exact ⟨rfl, rfl, by decide, by decide, fun f hf => by cases hf⟩
theorem req_head {m t : ByteArray} {z : Int} {x T : List Fld} (hm : m ∈ methF) (ht : t ∈ targF) (hz : z = 0 ∨ z = 1) (hx : RF3 x) (hT : AddOk T) :
    headR (headB (fmtReq m t z) (x ++ T)) = (0, m, t, z, x ++ T) ∧ 4 ≤ (headB (fmtReq m t z) (x ++ T)).length ∧ (headB (fmtReq m t z) (x ++ T)).length ≤ 400 := by
  have hal : allB (x ++ T) = true := by
    unfold allB
    rw [List.all_append, Bool.and_eq_true]
    exact ⟨allB_yes fun f hf => (hx.made.1 f hf).1, hT.al⟩
  have hho : (valuesL (x ++ T) hostN).length = 1 := by rw [valuesL_appR, hT.ho, List.append_nil, hx.ok.2.1]
  obtain ⟨h0, h1⟩ := fmtReq_made hm ht hz
  have hb := headB_yes (s := fmtReq m t z) (x := x ++ T) (by omega) hal
  have hlen : (headB (fmtReq m t z) (x ++ T)).length = (fmtReq m t z).size + 2 + ((linesB x).length + (linesB T).length) + 2 := by
    have h3 : (fmtReq m t z).data.toList.length = (fmtReq m t z).size := by rw [Array.length_toList]; rfl
    rw [hb]
    simp only [List.length_append, List.length_cons, List.length_nil, linesB_appR, h3]
  refine ⟨?_, ?_, ?_⟩
  · rw [headR_made (meth_at hm).1 (targ_at ht).1 hz hal, if_neg (by rw [List.length_append]; have := hx.made.2; have := hT.le; omega), hho, if_neg (by omega)]
  · rw [hlen]; omega
  · rw [hlen]; have := hx.ok.2.2; have := hT.li; omega
theorem enc_short (p q : List UInt8) (hp : p.length ≤ 15) (hq : q.length ≤ 15) : (encodeS [p, q]).length ≤ 45 := by
  have hd : ∀ j : Fin 16, (digs 16 j.val).length ≤ 1 := by decide +kernel
  have h1 := hd ⟨p.length, by omega⟩
  have h2 := hd ⟨q.length, by omega⟩
  simp only at h1 h2
  rw [encodeS_eq]
  by_cases e1 : p = [] <;> by_cases e2 : q = [] <;> simp [encL, e1, e2] <;> omega
/-- A request is read: head, then body. -/
theorem req_cw {h e r : List UInt8} {m t : ByteArray} {z : Int} {xs : List Fld} {k j : Int} (hh : headR h = (0, m, t, z, xs)) (h4 : h.length ≤ 400) (hf : frameS z xs 1 = (k, j, 0)) (hj : j ≤ 100) :
    ∃ s : RS, s.m = m ∧ s.t = t ∧ s.fr = (!decide (k = 1)) ∧ s.fk = k ∧ s.left = j ∧ s.size = 0 ∧ s.ck = zeroC ∧ ¬ s.ph = 0 ∧ CW zeroR (h ++ (e ++ r)) = (bodyC s (e ++ r)).add [] h.length := by
  obtain ⟨h1, h2⟩ := headR_ends (h := h) (by rw [hh])
  have hE := endS_front (r := e ++ r) h1 h2 h4
  obtain ⟨s, hs⟩ : ∃ s : RS, s = { zeroR with m := m, t := t, z := z, xs := xs, fr := !decide (k = 1), fk := k, fl := j, left := j, size := 0, ck := zeroC, ph := 1 } := ⟨_, rfl⟩
  have hx : headX zeroR h 100 = ⟨0, s, 1, [], h.length⟩ := by
    unfold headX
    rw [if_neg (show ¬ zeroR.rep = true from by decide), hh, if_neg (by show ¬ (0 : Int) ≠ 0; decide)]
    dsimp only
    rw [hf]
    unfold finX
    rw [if_neg (by show ¬ (0 : Int) ≠ 0; decide), if_neg (by show ¬ (k = 2 ∧ (100 : Int) < j); omega), hs]
  refine ⟨s, by rw [hs], by rw [hs], by rw [hs], by rw [hs], by rw [hs], by rw [hs], by rw [hs], by rw [hs]; show ¬ (1 : Int) = 0; decide, ?_⟩
  rw [CW_head rfl hE, List.take_left, List.drop_left, hx, if_neg (fun h => h rfl)]
  rw [CW_body (by rw [hs]; show ¬ (1 : Int) = 0; decide)]
theorem reqOk_made (m t : ByteArray) (z : Int) (x : List Fld) (fr ch : Bool) (l : List UInt8) (hm : m ∈ methF) (ht : t ∈ targF) (hz : z = 0 ∨ z = 1) (hx : RF3 x) (hl : l.length ≤ 30) (hfr : fr = false → l = []) : ReqOk m t z x fr ch l := by
  have hT := addOk fr ch z l hl
  obtain ⟨hh, h4, h400⟩ := req_head hm ht hz hx hT
  obtain ⟨he1, he2⟩ := headR_ends (h := headB (fmtReq m t z) (x ++ reqT fr ch z l)) (by rw [hh])
  have hE : (reqE fr ch z l).length ≤ 45 := by
    unfold reqE
    split
    · exact enc_short _ _ (by rw [List.length_take]; omega) (by rw [List.length_drop]; omega)
    · omega
  refine ⟨?_, ?_, ?_, ?_, ?_, ?_, ?_⟩
  · unfold reqH; omega
  · unfold reqH; omega
  · unfold reqW reqH; rw [List.length_append]; omega
  · intro f hf
    rcases List.mem_append.1 hf with h | h
    · exact hx.tiny.small f h
    · exact hT.sm f h
  · have := (fmtReq_made hm ht hz).2; omega
  · intro r hr
    unfold reqW reqH
    rw [List.append_assoc]
    exact goodB_front he1 he2 h400 (by rw [List.length_append]; omega)
  · intro r hr
    unfold reqW reqH
    rw [List.append_assoc, List.length_append]
    cases fr with
    | false =>
      have hl0 := hfr rfl
      subst hl0
      have hf : frameS z (x ++ reqT false ch z []) 1 = (1, 0, 0) := by
        rw [show x ++ reqT false ch z [] = x from List.append_nil x]; exact frame_none hx.ok z
      obtain ⟨s, s1, s2, s3, s4, s5, _, _, _, hcw⟩ := req_cw (e := reqE false ch z []) (r := r) hh h400 hf (by decide)
      have hre : reqE false ch z [] = [] := if_neg (fun h => by cases h.1)
      refine ⟨s, ?_, s1, s2, by rw [s3]; rfl⟩
      rw [hcw]
      unfold bodyC
      rw [if_pos (.inl s4), s5, if_pos (show Int.toNat 0 ≤ _ from Nat.zero_le _), hre]
      rfl
    | true =>
      by_cases hc : ch = true ∧ z = 1
      · obtain ⟨rfl, rfl⟩ := hc
        obtain ⟨s, s1, s2, s3, s4, s5, _, s7, _, hcw⟩ := req_cw (e := reqE true true 1 l) (r := r) hh h400 (frame_chunks hx.ok) (by decide)
        have hfe := feed_enc r [l.take (l.length / 2), l.drop (l.length / 2)] [] 0 (fun d hd => by
          simp only [List.mem_cons, List.not_mem_nil, or_false] at hd
          rcases hd with rfl | rfl
          · rw [List.length_take]; omega
          · rw [List.length_drop]; omega)
        rw [← encodeS_eq, List.nil_append, Nat.zero_add, show [l.take (l.length / 2), l.drop (l.length / 2)].flatten = l by simp] at hfe
        refine ⟨s, ?_, s1, s2, by rw [s3]; rfl⟩
        rw [hcw]
        unfold bodyC
        rw [if_neg (by rw [s4]; decide), if_pos s4, s7, show reqE true true 1 l = encodeS [l.take (l.length / 2), l.drop (l.length / 2)] from rfl, hfe, if_pos rfl, if_pos rfl]
        rfl
      · have hT2 : reqT true ch z l = [((⟨#[67, 111, 110, 116, 101, 110, 116, 45, 76, 101, 110, 103, 116, 104]⟩ : ByteArray), fmtS 10 (l.length : Int))] := by unfold reqT; rw [if_pos rfl, if_neg hc]
        have hre : reqE true ch z l = l := if_neg (fun h => hc h.2)
        obtain ⟨s, s1, s2, s3, s4, s5, _, s7, _, hcw⟩ := req_cw (e := reqE true ch z l) (r := r) hh h400 (by rw [hT2]; exact frame_len hx.ok z l.length hl) (by omega)
        refine ⟨s, ?_, s1, s2, by rw [s3]; rfl⟩
        rw [hcw]
        unfold bodyC
        rw [if_pos (.inr s4), s5, hre, Int.toNat_natCast, if_pos (by rw [List.length_append]; omega), List.take_left]
        rfl
theorem readerRequest_any (a ma : Option Addr) (n c mc : Nat) (ch : Bool) (more : List UInt8) (mm : Int) (w : World) (hi : IntsF w a n) (hn : n ≤ maxLen) (hmo : IsBytes w ma more mc) (hk : HdOk w mm) :
    Calls Tryz.prog 5 #[.slice a n c, .bool ch, .slice ma more.length mc] w fun e w' => e = .returned (.bool true) ∧ Below w.heap.size w w' :=
  readerRequest_pre reqOk_made a ma n c mc ch more mm w hi hn hmo hk
end Go.Proofs.YtejbkbccljoldaaGreatDoor
namespace Go.Proofs.YtejbkbccljoldaaGreatDoor
open Go.ChangeShapes Go.WideShapes Go.ChangeAt Go.RowKit

theorem i64_ofF {x : Int} (h : (Lit.int .i64 x).wf = true) : -9223372036854775808 ≤ x ∧ x ≤ 9223372036854775807 := bounds_i64 h
theorem open_intsf {H : Type} {enc : TypeId × Value → H} {W : World} {a : Option Addr} {len cap : Nat} {d : DataW H} {ps : List MemPlace} {base : Nat}
    (h : DataW.Trod enc Tryz.prog W base (fun _ => true) true 22 (.slice a len cap) d ps) : IntsF W a len ∧ len ≤ maxLen := by
  obtain ⟨fuel, hf⟩ := h
  rcases open_ints Tryz.underlying22 Tryz.underlying3 (by kernel_rfl) hf with ⟨hcs, _⟩ | ⟨x, l, c, zs, hcs, _, hl, hm, hz, _, hcell, hwz⟩
  · simp [Value.cells] at hcs
    obtain ⟨rfl, rfl, rfl⟩ := hcs
    exact ⟨fun k hk => absurd hk (Nat.not_lt_zero _), Nat.zero_le _⟩
  · simp [Value.cells] at hcs
    obtain ⟨rfl, rfl, rfl⟩ := hcs
    have hz' : zs.length = cap := by simpa using hz
    refine ⟨fun k hk => ?_, Nat.le_trans hl hm⟩
    have hk' : k < zs.length := by omega
    have e : zs.getD k 0 = zs[k] := by rw [List.getD_eq_getElem?_getD, List.getElem?_eq_getElem hk']; rfl
    refine ⟨x, zs[k], rfl, by rw [hcell k hk', e], i64_ofF (hwz zs[k] (List.getElem_mem _))⟩
end Go.Proofs.YtejbkbccljoldaaGreatDoor
