/- fields, name and awake of the laws; Short. The law FieldWithout. awake of the laws on start lines; the law LineTarget. Opening the arguments of the laws on fields. Contracts of strconv.FormatInt at base 16, and of the functions of package number that write a number. SameReply and SameRequest of the reference, at equal messages; FormatRequest and FormatStatus of package startline. FormatStatus of package startline; the law LineStatus. The law LineStatus. A slice of bytes of the call's own, beside other memory: what an append leaves alone. Bytes of the source. The contracts of awake and of the laws of layer 2. The ID that the source makes. The request that the source makes: what is said of it. -/
import Derived.Test.YtbcjchbmiknjdaaDoorPk1
import Derived.Test.YtbcjchbmiknjdaaDoorPk2
import Derived.Test.YtbcjchbmiknjdaaDoorPk3
import Derived.Test.YtbcjchbmiknjdaaDoorRows
import Derived.WalkKit
import Derived.WalkSpells
import Derived.WalkLawsBesides
import Derived.BigQuiet
import Derived.Deep.QuietTactic
import Derived.Lib.Bytealg
import Derived.Lib.IndexLaws
import Derived.Lib.Hide
import Derived.Laws.IdiomStrings
import Derived.Lib.SlTrimSet
import Derived.Lib.IndexBytes
import Derived.Lib.Split
import Derived.Deep.AppendLies
import Derived.Shelf.Strings.SlTrimAscii
import Derived.Shelf.Strings.SplitShaped
import Derived.Shelf.LaysM
import Derived.Shelf.Strings.BuilderK
import Derived.Shelf.Strconv.Itoa4
import Derived.Test.YtbcjchbmiknjdaaDoorProg
import Derived.Lib.SplitLaws
import Derived.WalkSmall
import Derived.ProofKit
import Derived.OpenShut
import Derived.Lib.Strings
import Derived.SliceStrings
import Derived.Deep.Quiet
import Derived.Tactics
import Derived.KernelRfl
import Derived.Below
import Derived.Laws.Bits64
import Derived.Lib.SlBytesConst
import Derived.Maps.AppendAt
import Derived.Laws.AppendOwnNone
import Derived.Great.BuildSlice
import Derived.Laws.Rows
import Derived.Laws.BitsAllLaws
import Derived.Laws.Shifts
import Derived.Maps.OwnOps
import Derived.Maps.OwnSet
import Derived.Deep.SlicePairs
import Derived.Lib.AppendZerosOnto
import Derived.Lib.AppendStr
import Derived.Laws.CopyOwn
import Derived.OwnWalk
import Derived.Laws.Strings3
import Derived.Laws.Concat
import Derived.Lib.ItoaMem
import Derived.IntWalk
import Derived.Laws.RangeAny
import Derived.LoopTactic
import Derived.Sort.Grow
import Derived.Lib.LaidTab
import Derived.LaidSub
import Derived.Laws.Bits64b
import Derived.Deep.DeepCutAuto
namespace Go.Proofs.YtbcjchbmiknjdaaDoor
open Go.RowKit

theorem IntsF.alloc {w : World} {a : Option Addr} {n : Nat} (h : IntsF w a n) (o : Obj) : IntsF (w.alloc o) a n := h.keep (below_oneF w o)
theorem src_box {w : World} {a : Option Addr} {n c : Nat} (h : IntsF w a n) (hn : n ≤ maxLen) : Src (w.alloc (.cells #[.slice a n c, .int .i64 0] 30)) w.heap.size a n c := by
  refine ⟨⟨0, Nat.zero_le _, heap_alloc_new _ _⟩, hn, h.alloc _, fun x e h0 => ?_⟩
  obtain ⟨y, z, e2, hc, _⟩ := h 0 h0
  rw [e] at e2
  obtain rfl := Option.some.inj e2
  have := lt_cell hc
  rw [add_blockF] at this
  omega
theorem below_box {w w1 w2 : World} (h : Below w.heap.size w w1) (hg : w1.grownBy w2 (some w.heap.size)) : Below w.heap.size w w2 :=
  h.grown hg h.size fun k e => by have := Option.some.inj e; omega

end Go.Proofs.YtbcjchbmiknjdaaDoor
namespace Go.Proofs.YtbcjchbmiknjdaaDoor
open Go.RowKit

theorem strsIn_twoF (w : World) (n m : ByteArray) (t : TypeId) : StrsIn (w.alloc (.cells #[.string n, .string m] t)) (some ⟨w.heap.size, 0, none⟩) [n, m] := fun j hj => by
  have hj' : j < 2 := by simpa using hj
  match j, hj' with
  | 0, _ => exact ⟨_, rfl, by rw [Addr.add_lit, new_cellF]; rfl⟩
  | 1, _ => exact ⟨_, rfl, by rw [Addr.add_lit, new_cellF]; rfl⟩
theorem same_true (x : List Fld) (a b : Option Addr) (ca cb : Nat) (w : World) (hx : FldsIn w a x) (hy : FldsIn w b x) (h : x.length ≤ 2000000) :
    Calls Tryd.prog 39 #[.slice a x.length ca, .slice b x.length cb] w fun e w' => e = .returned (.bool true) ∧ Below w.heap.size w w' := by
  refine (sameFields_any x x a b ca cb w hx hy h h).mono ?_
  rintro e w' ⟨rfl, hb⟩
  exact ⟨by rw [sameF_self], hb⟩

end Go.Proofs.YtbcjchbmiknjdaaDoor
namespace Go.Proofs.YtbcjchbmiknjdaaDoor
open Go.RowKit

theorem ret_req {e : Ending} {o p : Option (ByteArray × ByteArray × Int) × Int} (h : e = .returned (reqV o)) (hp : o = p) : e = .returned (reqV p) := by rw [h, hp]
theorem ret_rep {e : Ending} {o p : Option (Int × ByteArray × Int)} (h : e = .returned (replyV o)) (hp : o = p) : e = .returned (replyV p) := by rw [h, hp]
def lineX : ByteArray := ⟨#[71, 69, 84, 32, 47, 97, 63, 98, 32, 72, 84, 84, 80, 47, 49, 46, 49]⟩
def lineY : ByteArray := ⟨#[71, 69, 84, 32, 47, 32, 72, 84, 84, 80, 47, 50, 46, 48]⟩
def lineZ : ByteArray := ⟨#[72, 84, 84, 80, 47, 49, 46, 49, 32, 50, 48, 52]⟩
theorem line_x : lineR (splitS 32 lineX) = (some (⟨#[71, 69, 84]⟩, ⟨#[47, 97, 63, 98]⟩, 1), 0) := by decide +kernel
theorem line_y : lineR (splitS 32 lineY) = (none, 6) := by decide +kernel
theorem line_z : parseA lineZ = some (204, ⟨#[]⟩, 1) := by decide +kernel
theorem split_x : splitQ ⟨#[47, 97, 63, 98]⟩ = (⟨#[47, 97]⟩, ⟨#[98]⟩) := by decide +kernel
set_option maxRecDepth 100000 in
set_option maxHeartbeats 2000000 in
theorem awakeL_any (w : World) (mm : Int) (hm : w.cell? ⟨0, 0, none⟩ = some (.int .i64 mm)) :
    Calls Tryd.prog 14 #[] w fun e w' => e = .returned (.bool true) ∧ Below w.heap.size w w' := by
  have HM := Box.mk hm
  clear hm
  go_enter Tryd.func14, Tryd.ntmps14
  go_wp2_with fail
  refine (projParseReq_any lineX _ mm (by decide) HM.out).mono ?_
  rintro e w1 ⟨he, hb1⟩
  have he1 := ret_req he line_x
  simp only [reqV] at he1
  subst he1
  have HB1 := Box.mk hb1
  clear he hb1
  go_wp2_with fail
  have HB2 := Box.mk (below_trans HB1.out (below_oneF w1 (.cells #[.string ⟨#[71, 69, 84]⟩, .string ⟨#[47, 97, 63, 98]⟩, .int .i64 1, .slice none 0 0, .bool false, .slice none 0 0] 27)))
  have HV := Box.mk (show RVar (w1.alloc (.cells #[.string ⟨#[71, 69, 84]⟩, .string ⟨#[47, 97, 63, 98]⟩, .int .i64 1, .slice none 0 0, .bool false, .slice none 0 0] 27)) w1.heap.size ⟨#[71, 69, 84]⟩ ⟨#[47, 97, 63, 98]⟩ 1 from heap_alloc_new _ _)
  refine (projParseReq_any lineY _ mm (by decide) (below_cell HB2.out HM.out)).mono ?_
  rintro e w2 ⟨he, hb2⟩
  have he2 := ret_req he line_y
  simp only [reqV] at he2
  subst he2
  have HB3 := Box.mk (below_trans HB2.out hb2)
  have HV2 := Box.mk (HV.out.keep hb2)
  clear he hb2 HB1 HB2 HV
  go_wp2_with fail
  have hb3 := below_oneF w2 (.cells #[.string ⟨#[]⟩, .string ⟨#[]⟩, .int .i64 0, .slice none 0 0, .bool false, .slice none 0 0] 27)
  have HB4 := Box.mk (below_trans HB3.out hb3)
  have HV3 := Box.mk (HV2.out.keep hb3)
  clear hb3
  refine (projParseRep_any lineZ _ (by decide)).mono ?_
  rintro e w3 ⟨he, hb3⟩
  have he3 := ret_rep he line_z
  simp only [replyV] at he3
  subst he3
  have HB5 := Box.mk (below_trans HB4.out hb3)
  have HV4 := Box.mk (HV3.out.keep hb3)
  clear he hb3 HB3 HV2 HB4 HV3
  have hlt : w1.heap.size < w3.heap.size := (Array.getElem?_eq_some_iff.1 HV4.out).1
  have hc1 : w3.cell? ⟨w1.heap.size, 1, none⟩ = some (.string ⟨#[47, 97, 63, 98]⟩) := by rw [cell_of_row _ _ _ _ _ _ HV4.out]; rfl
  go_wp2_with fail
  have hb4 := below_oneF w3 (.cells #[.int .i64 204, .string ⟨#[]⟩, .int .i64 1, .slice none 0 0, .slice none 0 0] 43)
  have HB6 := Box.mk (below_trans HB5.out hb4)
  have HV5 := Box.mk (HV4.out.keep hb4)
  have HA := Box.mk (show AVar (w3.alloc (.cells #[.int .i64 204, .string ⟨#[]⟩, .int .i64 1, .slice none 0 0, .slice none 0 0] 43)) w3.heap.size 204 ⟨#[]⟩ 1 from heap_alloc_new _ _)
  clear hb4 hc1
  refine (projSplitQ_any ⟨#[47, 97, 63, 98]⟩ _ (by decide)).mono ?_
  rintro e w4 ⟨he, hb4⟩
  rw [split_x] at he
  subst he
  have HB7 := Box.mk (below_trans HB6.out hb4)
  have HV6 := Box.mk (HV5.out.keep hb4)
  have HA2 := Box.mk (HA.out.keep hb4)
  clear hb4 HB5 HB6 HV4 HV5 HA
  have hc2 : w4.cell? ⟨w1.heap.size, 2, none⟩ = some (.int .i64 1) := by rw [cell_of_row _ _ _ _ _ _ HV6.out]; rfl
  have hd0 : w4.cell? ⟨w3.heap.size, 0, none⟩ = some (.int .i64 204) := by rw [cell_of_row _ _ _ _ _ _ HA2.out]; rfl
  go_wp2_with fail
  go_ret
  exact ⟨rfl, HB7.out⟩

def slashS (l : List UInt8) : ByteArray := ⟨#[47]⟩ ++ ⟨l.toArray⟩
theorem slashS_size (l : List UInt8) : (slashS l).size = 1 + l.length := by unfold slashS; rw [ByteArray.size_append]; simp [ByteArray.size]
theorem split_join (t : ByteArray) : (splitQ t).1 = t ∧ (splitQ t).2 = ⟨#[]⟩ ∨ t = (splitQ t).1 ++ ⟨#[63]⟩ ++ (splitQ t).2 := by
  rcases idxI_cases 63 t with h | ⟨k, h, hk⟩
  · rw [splitQ_no h]; exact .inl ⟨rfl, rfl⟩
  · right
    rw [splitQ_at h]
    have hs := (Lib.indexByte_some h).1
    apply ba_ext
    have hl : t.data.toList.length = t.size := by rw [Array.length_toList]; rfl
    rw [ba_app_list, ba_app_list, Lib.extract_data, Lib.extract_data, List.drop_zero, Nat.sub_zero]
    rw [List.take_of_length_le (l := t.data.toList.drop (k + 1)) (by rw [List.length_drop]; omega)]
    have e : t.data.toList[k]'(by omega) = 63 := by
      rw [List.getElem?_eq_getElem (by omega)] at hs
      exact Option.some.inj hs
    show t.data.toList = t.data.toList.take k ++ [63] ++ t.data.toList.drop (k + 1)
    rw [← e, List.append_assoc, List.singleton_append, List.getElem_cons_drop, List.take_append_drop]
theorem splitQ_size1 (t : ByteArray) : (splitQ t).1.size ≤ t.size := cutS_size1 63 t
theorem splitQ_size2 (t : ByteArray) : (splitQ t).2.size ≤ t.size := cutS_size2 63 t

set_option maxRecDepth 100000 in
set_option maxHeartbeats 4000000 in
theorem lineTarget_any (s : ByteArray) (l : List UInt8) (a : Option Addr) (cap : Nat) (mm : Int) (w : World) (hs : s.size ≤ maxLen) (h : IsBytes w a l cap) (hl : l.length ≤ 4000000000)
    (hm : w.cell? ⟨0, 0, none⟩ = some (.int .i64 mm)) :
    Calls Tryd.prog 7 #[.string s, .slice a l.length cap] w fun e w' => e = .returned (.bool true) ∧ Below w.heap.size w w' := by
  have HM := Box.mk hm
  have H0 := Box.mk hs
  have hcv := conv_bytes h
  clear hm hs h
  have hadd := fun W => run_string_add_sum (P := Tryd.prog) (w := W) ⟨#[47]⟩ ⟨l.toArray⟩ (by show 1 + l.length ≤ _; omega)
  have HTZ := Box.mk (slashS_size l)
  have HJ := Box.mk (split_join (slashS l))
  change ∀ W, _ = Result.ok (Value.string (slashS l)) W at hadd
  generalize slashS l = t at *
  have HZ1 := Box.mk (splitQ_size1 t)
  have HZ2 := Box.mk (splitQ_size2 t)
  have htl : t.size ≤ maxLen := by have := HTZ.out; unfold maxLen; omega
  have HTL := Box.mk htl
  clear htl
  go_enter Tryd.func7, Tryd.ntmps7
  go_wp2_with fail
  refine (projSplitQ_any s _ H0.out).mono ?_
  rintro e w1 ⟨rfl, hb1⟩
  have HB1 := Box.mk hb1
  clear hb1
  go_wp2_with fail
  refine (refSplitQ_any s _ H0.out).mono ?_
  rintro e w2 ⟨rfl, hb2⟩
  have HB2 := Box.mk (below_trans HB1.out hb2)
  clear hb2 HB1
  generalize (splitQ s).1 = s1 at *
  generalize (splitQ s).2 = s2 at *
  go_wp2_with fail
  refine (projSplitQ_any t _ HTL.out).mono ?_
  rintro e w3 ⟨rfl, hb3⟩
  have HB3 := Box.mk (below_trans HB2.out hb3)
  clear hb3 HB2
  generalize (splitQ t).1 = p at *
  generalize (splitQ t).2 = q at *
  rcases HJ.out with ⟨rfl, rfl⟩ | hj
  · clear HJ
    go_wp2_with fail
    refine (projTarget_any s _).mono ?_
    rintro e w4 ⟨rfl, hb4⟩
    have HB4 := Box.mk (below_trans HB3.out hb4)
    clear hb4 HB3
    go_wp2_with fail
    refine (refTarget_any s _ H0.out).mono ?_
    rintro e w5 ⟨rfl, rfl⟩
    generalize targetS s = x at *
    have hx : (x == x) = true := by simp
    go_wp2_with fail
    refine (projTarget_any _ _).mono ?_
    rintro e w5 ⟨rfl, hb5⟩
    have HB5 := Box.mk (below_trans HB4.out hb5)
    clear hb5 HB4
    go_wp2_with fail
    refine (refTarget_any _ _ HTL.out).mono ?_
    rintro e w6 ⟨rfl, rfl⟩
    generalize targetS _ = y at *
    have hy : (y == y) = true := by simp
    go_wp2_with fail
    refine (awakeL_any _ mm (below_cell HB5.out HM.out)).mono ?_
    rintro e w6 ⟨rfl, hb6⟩
    have HB6 := Box.mk (below_trans HB5.out hb6)
    clear hb6
    go_wp2_with fail
    go_ret
    exact ⟨rfl, HB6.out⟩
  · clear HJ
    have hz : t.size = p.size + 1 + q.size := by rw [hj, ByteArray.size_append, ByteArray.size_append]; rfl
    have hne : (t.toList == p.toList) = false := by
      rw [toList_eq]; simp; intro e; rw [← e] at hz; omega
    have hs1 := fun W => run_string_add_sum (P := Tryd.prog) (w := W) p ⟨#[63]⟩ (by show p.size + 1 ≤ _; have := HZ1.out; have := HTZ.out; omega)
    have hs2 := fun W => run_string_add_sum (P := Tryd.prog) (w := W) (p ++ ⟨#[63]⟩) q (by rw [ByteArray.size_append]; show p.size + 1 + _ ≤ _; have := HTZ.out; omega)
    rw [← hj] at hs2
    clear hz hj
    go_wp2_with fail
    refine (projTarget_any s _).mono ?_
    rintro e w4 ⟨rfl, hb4⟩
    have HB4 := Box.mk (below_trans HB3.out hb4)
    clear hb4 HB3
    go_wp2_with fail
    refine (refTarget_any s _ H0.out).mono ?_
    rintro e w5 ⟨rfl, rfl⟩
    generalize targetS s = x at *
    have hx : (x == x) = true := by simp
    go_wp2_with fail
    refine (projTarget_any t _).mono ?_
    rintro e w5 ⟨rfl, hb5⟩
    have HB5 := Box.mk (below_trans HB4.out hb5)
    clear hb5 HB4
    go_wp2_with fail
    refine (refTarget_any t _ HTL.out).mono ?_
    rintro e w6 ⟨rfl, rfl⟩
    generalize targetS t = y at *
    have hy : (y == y) = true := by simp
    go_wp2_with fail
    refine (awakeL_any _ mm (below_cell HB5.out HM.out)).mono ?_
    rintro e w6 ⟨rfl, hb6⟩
    have HB6 := Box.mk (below_trans HB5.out hb6)
    clear hb6
    go_wp2_with fail
    go_ret
    exact ⟨rfl, HB6.out⟩
end Go.Proofs.YtbcjchbmiknjdaaDoor
namespace Go.Proofs.YtbcjchbmiknjdaaDoor
open Go.ChangeShapes Go.WideShapes Go.ChangeAt Go.RowKit

theorem fields_none {H : Type} {enc : TypeId × Value → H} {W : World} {a : Option Addr} {len cap : Nat} {d : DataW H} {ps : List MemPlace} {base : Nat}
    (h : DataW.Trod enc Tryd.prog W base (fun _ => true) true 24 (.slice a len cap) d ps) : a = none → len = 0 ∧ cap = 0 := by
  obtain ⟨fuel, hf⟩ := h
  rcases Go.Deep.open_slice_pairs Tryd.underlying24 Tryd.underlying60 (by kernel_rfl) (by kernel_rfl) (by kernel_rfl) (by kernel_rfl) (by kernel_rfl) hf with ⟨hcs, _⟩ | ⟨x, n, c, m, k, V0, V1, D0, D1, P0, P1, hcs, _⟩
  · simp [Value.cells] at hcs
    obtain ⟨rfl, rfl, rfl⟩ := hcs
    exact fun _ => ⟨rfl, rfl⟩
  · simp [Value.cells] at hcs
    obtain ⟨rfl, rfl, rfl⟩ := hcs
    intro e; cases e
theorem open_fieldsC {H : Type} {enc : TypeId × Value → H} {W : World} {a : Option Addr} {len cap : Nat} {d : DataW H} {ps : List MemPlace} {base : Nat}
    (h : DataW.Trod enc Tryd.prog W base (fun _ => true) true 24 (.slice a len cap) d ps) :
    ∃ l : List Fld, len = l.length ∧ FldsC W a l cap ∧ l.length ≤ cap ∧ cap ≤ maxLen ∧ ShortF l ∧ (Rows.uptoBulk d ≤ 1048576 → SmallF l) := by
  obtain ⟨l, rfl, h1, h2, h3, h4, h5⟩ := open_fields h
  refine ⟨l, rfl, ⟨h1, fun e => ?_⟩, h2, h3, h4, fun hb f hf => ⟨Nat.le_trans (h5 f hf).1 hb, Nat.le_trans (h5 f hf).2 hb⟩⟩
  obtain ⟨e1, e2⟩ := fields_none h e
  exact ⟨List.eq_nil_of_length_eq_zero e1, e2⟩
theorem i64_ofF {x : Int} (h : (Lit.int .i64 x).wf = true) : -9223372036854775808 ≤ x ∧ x ≤ 9223372036854775807 := bounds_i64 h
theorem open_intsf {H : Type} {enc : TypeId × Value → H} {W : World} {a : Option Addr} {len cap : Nat} {d : DataW H} {ps : List MemPlace} {base : Nat}
    (h : DataW.Trod enc Tryd.prog W base (fun _ => true) true 22 (.slice a len cap) d ps) : IntsF W a len ∧ len ≤ maxLen := by
  obtain ⟨fuel, hf⟩ := h
  rcases open_ints Tryd.underlying22 Tryd.underlying3 (by kernel_rfl) hf with ⟨hcs, _⟩ | ⟨x, l, c, zs, hcs, _, hl, hm, hz, _, hcell, hwz⟩
  · simp [Value.cells] at hcs
    obtain ⟨rfl, rfl, rfl⟩ := hcs
    exact ⟨fun k hk => absurd hk (Nat.not_lt_zero _), Nat.zero_le _⟩
  · simp [Value.cells] at hcs
    obtain ⟨rfl, rfl, rfl⟩ := hcs
    have hz' : zs.length = cap := by simpa using hz
    refine ⟨fun k hk => ?_, Nat.le_trans hl hm⟩
    have hk' : k < zs.length := by omega
    have e : zs.getD k 0 = zs[k] := by rw [List.getD_eq_getElem?_getD, List.getElem?_eq_getElem hk']; rfl
    refine ⟨x, zs[k], rfl, by rw [hcell k hk', e], i64_ofF (hwz zs[k] (List.getElem_mem _))⟩
end Go.Proofs.YtbcjchbmiknjdaaDoor
namespace Go.Proofs.YtbcjchbmiknjdaaDoor
open Go.RowKit

/-- What the tables of the library hold, as far as it is read here. -/
def Tabs (w : World) : Prop := Lib.TabIs Tryd.prog w "internal/strconv.uint64pow10" .u64 Lib.pow10Tab ∧ w.cell? ⟨5, 15, none⟩ = some (.int .u8 4) ∧ 3 < w.heap.size

set_option maxHeartbeats 400000 in
theorem tz64_16 (w : World) (h : w.cell? ⟨5, 15, none⟩ = some (.int .u8 4)) :
    Calls Tryd.prog 102 #[.int .u64 16] w fun e w' => e = .returned (.int .i64 4) ∧ w = w' := by
  go_enter Tryd.func102, Tryd.ntmps102
  have b1 : bits BinOp.and IntKind.u64 16 (IntKind.u64.wrap (-16)) = 16 := by kernel_rfl
  have b2 : IntKind.u64.wrap (16 * 285870213051353865) = 4573923408821661840 := by kernel_rfl
  go_wp2
  go_ret
  exact ⟨rfl, rfl⟩

set_option maxHeartbeats 400000 in
theorem tz16_any (w : World) (h : w.cell? ⟨5, 15, none⟩ = some (.int .u8 4)) :
    Calls Tryd.prog 100 #[.int .u64 16] w fun e w' => e = .returned (.int .i64 4) ∧ w = w' := by
  go_enter Tryd.func100, Tryd.ntmps100
  go_wp2_with (go_at_call 102; refine (tz64_16 _ h).mono ?_; rintro e w' ⟨rfl, rfl⟩)
  go_ret
  exact ⟨rfl, rfl⟩

set_option maxHeartbeats 400000 in
theorem pow2_16 (w : World) :
    Calls Tryd.prog 99 #[.int .i64 16] w fun e w' => e = .returned (.bool true) ∧ w = w' := by
  go_enter Tryd.func99, Tryd.ntmps99
  go_wp2
  go_ret
  exact ⟨rfl, rfl⟩

theorem ret_sl_str {a b : ByteArray} {v : Value} (h : a = b) : Ending.returned (.tuple #[v, .string a]) = .returned (.tuple #[v, .string b]) := by rw [h]

def zs65 : Array Value := Array.replicate 65 (.int .u8 0)
theorem zs65_at (j : Nat) (h : j < 65) : zs65[j]? = some (.int .u8 0) := by unfold zs65; rw [Array.getElem?_replicate, if_pos h]
theorem zs65_ne : ¬ zs65 = #[] := by intro h; have := congrArg Array.size h; simp [zs65] at this
theorem zs65_zero (w : World) : (zeroValue 110).run Tryd.prog w = .ok (.agg zs65) w := by kernel_rfl
theorem pow_bd {k n u : Nat} (h : k * 16 ^ n ≤ u) (hu : u < 9223372036854775808) (hk : 1 ≤ k) : n ≤ 15 := by
  rcases Nat.lt_or_ge 15 n with hn | hn
  · have h1 : 16 ^ 16 ≤ 16 ^ n := Nat.pow_le_pow_right (by omega) hn
    have h2 : 16 ^ n ≤ k * 16 ^ n := Nat.le_mul_of_pos_left _ hk
    have h3 : (16 : Nat) ^ 16 = 18446744073709551616 := by decide
    omega
  · exact hn

/-- The block holds 65 bytes, the last of which are t. -/
def Tail (w0 w : World) (i : Nat) (t : List UInt8) : Prop := ∃ l : List UInt8, l.length = 65 ∧ BytesAt w w0.heap.size l ∧ l.drop i = t ∧ Below w0.heap.size w0 w

def dig36 : ByteArray := ⟨#[48, 49, 50, 51, 52, 53, 54, 55, 56, 57, 97, 98, 99, 100, 101, 102, 103, 104, 105, 106, 107, 108, 109, 110, 111, 112, 113, 114, 115, 116, 117, 118, 119, 120, 121, 122]⟩
theorem dig36_fin : ∀ d : Fin 16, dig36.data.toList[d.val]? = some (dgc d.val) := by decide +kernel
theorem dig36_at {d : Nat} (h : d < 16) (hd : d < dig36.size) : dig36[d]'hd = dgc d := by
  have h1 := dig36_fin ⟨d, h⟩
  have h2 : dig36.data.toList[d]? = some (dig36[d]'hd) := by
    have hs : d < dig36.data.toList.length := by simpa using hd
    rw [List.getElem?_eq_getElem hs]; rfl
  rw [h2] at h1; exact Option.some.inj h1
theorem Tail.cell {w0 w : World} {i : Nat} {t : List UInt8} (h : Tail w0 w i t) {j : Nat} (hj : j < 65) : ∃ v, w.cell? ⟨w0.heap.size, j, none⟩ = some v ∧ w.frozen? ⟨w0.heap.size, j, none⟩ = false := by
  obtain ⟨l, h1, h2, _⟩ := h
  obtain ⟨a, b⟩ := h2 j (by omega)
  exact ⟨_, a, b⟩
theorem Tail.put {w0 w : World} {i : Nat} {t : List UInt8} (h : Tail w0 w i t) (hi : 1 ≤ i) (hi2 : i ≤ 65) (c : UInt8) :
    Tail w0 (w.setCell ⟨w0.heap.size, i - 1, none⟩ (.int .u8 (c.toNat : Int))) (i - 1) (c :: t) := by
  obtain ⟨l, h1, h2, h3, h4⟩ := h
  refine ⟨l.set (i - 1) c, by simp [h1], h2.set (by omega) c, ?_, h4.setCell (Nat.le_refl _) _⟩
  rw [List.drop_eq_getElem_cons (by rw [List.length_set]; omega), List.getElem_set_self, show i - 1 + 1 = i by omega, List.drop_set_of_lt (by omega), h3]

theorem Tail.read {w0 w : World} {i : Nat} {t : List UInt8} (h : Tail w0 w i t) {j : Nat} (hj : j < t.length) : w.cell? ⟨w0.heap.size, i + j, none⟩ = some (.int .u8 (t[j].toNat : Int)) := by
  obtain ⟨l, h1, h2, h3, h4⟩ := h
  subst h3
  have hj' : i + j < l.length := by simp at hj; omega
  rw [(h2 (i + j) hj').1, List.getElem_drop]

set_option maxRecDepth 100000 in
set_option maxHeartbeats 1000000 in
theorem formatBits16 (u : Nat) (w : World) (hu : u < 9223372036854775808) (h : w.cell? ⟨5, 15, none⟩ = some (.int .u8 4)) :
    Calls Tryd.prog 95 #[.slice none 0 0, .int .u64 u, .int .i64 16, .bool false, .bool false] w fun e w' => e = .returned (.tuple #[.slice none 0 0, .string (numeral 16 u)]) ∧ Below w.heap.size w w' := by
  have hlt := lt_cell h
  have hz := zs65_zero
  have hne := zs65_ne
  have HT : Hid (Tail w (w.alloc (.cells zs65 110)) 65 []) := by
    refine Lib.hid ⟨List.replicate 65 0, by simp, ?_, by simp, (Below.refl _ _).alloc (Nat.le_refl _) _⟩
    intro j hj
    have hj' : j < 65 := by simpa using hj
    refine ⟨?_, World.frozen?_alloc_new _ _ _ _⟩
    rw [World.cell?_alloc_new, zs65_at j hj', List.getElem_replicate]; rfl
  have hc : (w.alloc (.cells zs65 110)).cell? ⟨5, 15, none⟩ = some (.int .u8 4) := by rw [World.cell?_alloc_past _ _ _ hlt]; exact h
  have HC := Lib.hid hc
  clear hc h
  go_enter Tryd.func95, Tryd.ntmps95
  go_wp2_with (first | (go_at_call 99; refine (pow2_16 _).mono ?_; rintro e w' ⟨rfl, rfl⟩) | (go_at_call 100; refine (tz16_any _ HC.out).mono ?_; rintro e w' ⟨rfl, rfl⟩))
  go_loopw [1, 13] (fun x y wr => ∃ (k i : Nat) (t : List UInt8), x = .int .u64 k ∧ y = .int .i64 i ∧ t.length + i = 65 ∧ k ≤ u ∧ Hid (k * 16 ^ t.length ≤ u ∧ (t = [] ∨ 1 ≤ k) ∧ digs 16 u = digs 16 k ++ t ∧ Tail w wr i t)) (fun x _ _ => (intOf x).toNat)
  case atStart => exact ⟨u, 65, [], rfl, rfl, by simp, Nat.le_refl _, Lib.hid ⟨by simp, .inl rfl, by simp, HT.out⟩⟩
  case round =>
    obtain ⟨k, i, t, rfl, rfl, hi, hk, HH⟩ := hrel
    have h1 := HH.out.1
    have h15 : t.length ≤ 15 := by
      rcases HH.out.2.1 with e | e
      · rw [e]; simp
      · exact pow_bd h1 hu e
    clear h1
    obtain ⟨v, hcell, hfz⟩ := HH.out.2.2.2.cell (j := i - 1) (by omega)
    have hx : ∀ d (hd16 : d < 16) hd, (⟨#[48, 49, 50, 51, 52, 53, 54, 55, 56, 57, 97, 98, 99, 100, 101, 102, 103, 104, 105, 106, 107, 108, 109, 110, 111, 112, 113, 114, 115, 116, 117, 118, 119, 120, 121, 122]⟩ : ByteArray)[d]'hd = dgc d := fun d hd16 hd => dig36_at hd16 hd
    by_cases h16 : 16 ≤ k
    · obtain ⟨d, hd⟩ : ∃ d : Nat, k % 16 = d := ⟨_, rfl⟩
      have hd9 : d < 16 := by omega
      have hb : bits BinOp.and IntKind.u64 (k : Int) 15 = (d : Int) := by
        rw [show (15 : Int) = ((15 : Nat) : Int) from rfl, bits_and_u64_nat _ _ (by omega) (by omega), ← hd]
        congr 1
        exact Nat.and_two_pow_sub_one_eq_mod k 4
      have HD := Lib.hid hd
      have hxd := hx d hd9
      clear hd hx
      go_wp2
      all_goals go_roundw
      case rel =>
        obtain ⟨a1, a2, a3, a4⟩ := HH.out
        have hd := HD.out
        refine ⟨k / 16, i - 1, dgc d :: t, congrArg (Value.int .u64) (by omega), congrArg (Value.int .i64) (by omega), by simp; omega, by omega, Lib.hid ⟨?_, .inr (by omega), ?_, a4.put (by omega) (by omega) _⟩⟩
        · rw [List.length_cons, Nat.pow_succ, ← Nat.mul_assoc, Nat.mul_right_comm]
          exact Nat.le_trans (Nat.mul_le_mul_right _ (by omega)) a1
        · rw [a3, digs_big (by omega) (show ¬ k < 16 by omega), hd]; simp
      case measure => simp [intOf]; omega
    · have hk16 : k < 16 := by omega
      have hxd := hx k hk16
      clear hx
      have hal : Tryd.prog.arrayLen 110 = 65 := by simp [Program.arrayLen, Tryd.underlying110]
      have hsl : ∀ W, (Instr.sliceAt 110 (.pointer (some ⟨w.heap.size, 0, none⟩)) (some (.int .i64 ((i : Int) - 1))) none none).run Tryd.prog W = .ok (.slice (some ⟨w.heap.size, i - 1, none⟩) (t.length + 1) (t.length + 1)) W := fun W => by
        rw [run_sliceAt_array_l W 110 ⟨w.heap.size, 0, none⟩ (by simp [Program.arrayLen, Program.elem, Tryd.underlying110]) .i64 _ (by omega) (by rw [hal]; omega)]
        go_simp
        omega
      have hT := HH.out.2.2.2.put (by omega) (by omega) (dgc k)
      have hcv : (convert 25 9 (.slice (some ⟨w.heap.size, i - 1, none⟩) (t.length + 1) (t.length + 1))).run Tryd.prog (wr.setCell ⟨w.heap.size, i - 1, none⟩ (.int .u8 ((dgc k).toNat : Int))) = .ok (.string ⟨(dgc k :: t).toArray⟩) (wr.setCell ⟨w.heap.size, i - 1, none⟩ (.int .u8 ((dgc k).toNat : Int))) :=
        run_convert_bytes_back (P := Tryd.prog) _ 25 9 5 ⟨w.heap.size, i - 1, none⟩ (t.length + 1) (dgc k :: t) Tryd.underlying25 Tryd.underlying5 Tryd.underlying9 (fun j hj => by rw [Lib.add_plain]; exact hT.read hj)
      have HT := Lib.hid hT
      clear hT hal
      go_wp2
      go_ret2
      obtain ⟨a1, a2, a3, a4⟩ := HH.out
      obtain ⟨_, _, _, _, hb⟩ := HT.out
      refine ⟨ret_sl_str ?_, hb⟩
      unfold numeral
      rw [a3, digs_small hk16]; rfl

theorem grow_below (w : World) (os : Array Obj) : Below w.heap.size w (Sort.grow w os) :=
  ⟨rfl, rfl, rfl, by simp [Sort.grow], fun k hk => by simp [Sort.grow, Array.getElem?_append_left hk]⟩

set_option maxHeartbeats 1000000 in
theorem formatInt16 (u : Nat) (w : World) (hu : u < 9223372036854775808) (h : w.cell? ⟨5, 15, none⟩ = some (.int .u8 4)) :
    Calls Tryd.prog 74 #[.int .i64 u, .int .i64 16] w fun e w' => e = .returned (.string (numeral 16 u)) ∧ Below w.heap.size w w' := by
  have HC := Lib.hid h
  clear h
  have h1 : Calls Tryd.prog 88 #[.int .i64 u, .int .i64 16] w fun e w' => e = .returned (.string (numeral 16 u)) ∧ Below w.heap.size w w' := by
    have hwr : IntKind.u64.wrap (u : Int) = (u : Int) := by rw [IntKind.wrap_u64]; omega
    go_enter Tryd.func88, Tryd.ntmps88
    go_wp2_with (go_at_call 95; refine (formatBits16 u _ hu HC.out).mono ?_; rintro e w' ⟨rfl, hb⟩)
    go_ret
    exact ⟨rfl, hb⟩
  go_enter Tryd.func74, Tryd.ntmps74
  go_wp2_with (go_at_call 88; refine h1.mono ?_; rintro e w' ⟨rfl, hb⟩)
  go_ret
  exact ⟨rfl, hb⟩

theorem formatInt10 (u : Nat) (w : World) (hu : u < 9223372036854775808) (h : Lib.TabIs Tryd.prog w "internal/strconv.uint64pow10" .u64 Lib.pow10Tab) :
    Calls Tryd.prog 74 #[.int .i64 u, .int .i64 10] w fun e w' => e = .returned (.string (numeral 10 u)) ∧ Below w.heap.size w w' := by
  refine (Any.strconv_FormatInt_10 Tryd.laysM173 (u : Int) (by omega) (by omega) w h).mono ?_
  rintro e w' ⟨rfl, k, os, rfl⟩
  refine ⟨ret_str ?_, (below_drewN0 w k).trans (show Below w.heap.size (w.drewN k) _ from grow_below (w.drewN k) os)⟩
  unfold numeral
  rw [digs_dec, Lib.itoa_nonneg]

theorem format_any (n : Int) (b : Int) (w : World) (hb : b = 10 ∨ b = 16) (h0 : -9223372036854775808 ≤ n) (h1 : n ≤ 9223372036854775807) (ht : Tabs w) :
    Calls Tryd.prog 59 #[.int .i64 n, .int .i64 b] w fun e w' => e = .returned (.string (fmtS b.toNat n)) ∧ Below w.heap.size w w' := by
  by_cases hn : n < 0
  · go_enter Tryd.func59, Tryd.ntmps59
    go_wp2
    go_ret
    exact ⟨ret_str (by unfold fmtS; rw [if_pos hn]), Below.refl _ _⟩
  · obtain ⟨u, rfl⟩ : ∃ u : Nat, n = u := ⟨n.toNat, by omega⟩
    obtain ⟨t1, t2, t3⟩ := ht
    have T1 := Lib.hid t1
    have T2 := Lib.hid t2
    clear t1 t2
    rcases hb with rfl | rfl
    · go_enter Tryd.func59, Tryd.ntmps59
      go_wp2_with (go_at_call 74; refine (formatInt10 u _ (by omega) T1.out).mono ?_; rintro e w' ⟨rfl, hb⟩)
      go_ret
      exact ⟨ret_str (by unfold fmtS; rw [if_neg (by omega)]; rfl), hb⟩
    · go_enter Tryd.func59, Tryd.ntmps59
      go_wp2_with (go_at_call 74; refine (formatInt16 u _ (by omega) T2.out).mono ?_; rintro e w' ⟨rfl, hb⟩)
      go_ret
      exact ⟨ret_str (by unfold fmtS; rw [if_neg (by omega)]; rfl), hb⟩

theorem decimal_any (n : Int) (w : World) (h0 : -9223372036854775808 ≤ n) (h1 : n ≤ 9223372036854775807) (ht : Tabs w) :
    Calls Tryd.prog 47 #[.int .i64 n] w fun e w' => e = .returned (.string (fmtS 10 n)) ∧ Below w.heap.size w w' := by
  have HT := Lib.hid ht
  clear ht
  go_enter Tryd.func47, Tryd.ntmps47
  go_wp2_with (go_at_call 59; refine (format_any _ _ _ (.inl rfl) h0 h1 HT.out).mono ?_; rintro e w' ⟨rfl, hb⟩)
  go_ret
  exact ⟨rfl, hb⟩
theorem tabs_below {w w' : World} (h : Tabs w) (hb : Below w.heap.size w w') : Tabs w' := by
  obtain ⟨h1, h2, h3⟩ := h
  refine ⟨?_, below_cell hb h2, Nat.lt_of_lt_of_le h3 hb.size⟩
  have hg : Tryd.prog.globalNamed "internal/strconv.uint64pow10" = some 3 := by kernel_rfl
  unfold Lib.TabIs World.var? at *
  rw [hg] at h1 ⊢
  simp only [Option.bind_some] at h1 ⊢
  rw [hb.block _ h3]; exact h1
end Go.Proofs.YtbcjchbmiknjdaaDoor
namespace Go.Proofs.YtbcjchbmiknjdaaDoor
open Go.RowKit

theorem cellTwo0 (w : World) (cs ds : Array Value) (t s : TypeId) (j : Nat) : ((w.alloc (.cells cs t (0, 0))).alloc (.cells ds s (0, 0))).cell? ⟨w.heap.size, j, none⟩ = cs[j]? := by
  have h1 : (w.alloc (.cells cs t (0, 0))).heap[w.heap.size]? = some (.cells cs t (0, 0)) := heap_alloc_new _ _
  have h2 := (below_oneF (w.alloc (.cells cs t (0, 0))) (.cells ds s (0, 0))).block w.heap.size (by rw [World.size_alloc]; omega)
  exact cell_of_row _ _ _ _ _ _ (h2.trans h1)

set_option maxRecDepth 100000 in
set_option maxHeartbeats 2000000 in
theorem sameRep_any (st z : Int) (r : ByteArray) (x : List Fld) (l : List UInt8) (a b p q : Option Addr) (ca cb cp cq : Nat) (w : World) (h1 : FldsIn w a x) (h2 : FldsIn w b x) (h3 : IsBytes w p l cp) (h4 : IsBytes w q l cq) (hx : x.length ≤ 2000000) :
    Calls Tryd.prog 19 #[.agg #[.int .i64 st, .string r, .int .i64 z, .slice a x.length ca, .slice p l.length cp], .agg #[.int .i64 st, .string r, .int .i64 z, .slice b x.length cb, .slice q l.length cq]] w fun e w' => e = .returned (.bool true) ∧ Below w.heap.size w w' := by
  have HBW := Box.mk (below_twoF (below_oneF w (.cells #[.int .i64 st, .string r, .int .i64 z, .slice a x.length ca, .slice p l.length cp] 43)) (.cells #[.int .i64 st, .string r, .int .i64 z, .slice b x.length cb, .slice q l.length cq] 43))
  have hd4 := cellTwo0 w #[.int .i64 st, .string r, .int .i64 z, .slice a x.length ca, .slice p l.length cp] #[.int .i64 st, .string r, .int .i64 z, .slice b x.length cb, .slice q l.length cq] 43 43 4
  have he4 := new_cellF2 w (.cells #[.int .i64 st, .string r, .int .i64 z, .slice a x.length ca, .slice p l.length cp] 43) #[.int .i64 st, .string r, .int .i64 z, .slice b x.length cb, .slice q l.length cq] 43 4
  have HC := Box.mk (And.intro hd4 he4)
  have H := Box.mk (And.intro (h1.keep HBW.out) (And.intro (h2.keep HBW.out) (And.intro (h3.keep HBW.out) (h4.keep HBW.out))))
  clear h1 h2 h3 h4 hd4 he4
  go_enter Tryd.func19, Tryd.ntmps19
  go_wp2_with fail
  refine (same_true x a b ca cb _ H.out.1 H.out.2.1 hx).mono ?_
  rintro e w1 ⟨rfl, hb1⟩
  have hc4 := below_cell hb1 (show _ = some (Value.slice p l.length cp) from HC.out.1)
  have he4 := below_cell hb1 (show _ = some (Value.slice q l.length cq) from HC.out.2)
  have hcv1 := conv_bytes (H.out.2.2.1.keep hb1)
  have hcv2 := conv_bytes (H.out.2.2.2.keep hb1)
  have HB := Box.mk (below_trans HBW.out hb1)
  clear hb1 H HC HBW
  generalize (⟨l.toArray⟩ : ByteArray) = bs at *
  have hself : (bs.toList == bs.toList) = true := by simp
  go_wp2_with fail
  go_ret
  exact ⟨rfl, HB.out⟩

set_option maxRecDepth 100000 in
set_option maxHeartbeats 2000000 in
theorem sameReq_any (m t : ByteArray) (z : Int) (fr : Bool) (x : List Fld) (l : List UInt8) (a b p q : Option Addr) (ca cb cp cq : Nat) (w : World) (h1 : FldsIn w a x) (h2 : FldsIn w b x) (h3 : IsBytes w p l cp) (h4 : IsBytes w q l cq) (hx : x.length ≤ 2000000) :
    Calls Tryd.prog 13 #[.agg #[.string m, .string t, .int .i64 z, .slice a x.length ca, .bool fr, .slice p l.length cp], .agg #[.string m, .string t, .int .i64 z, .slice b x.length cb, .bool fr, .slice q l.length cq]] w fun e w' => e = .returned (.bool true) ∧ Below w.heap.size w w' := by
  have HBW := Box.mk (below_twoF (below_oneF w (.cells #[.string m, .string t, .int .i64 z, .slice a x.length ca, .bool fr, .slice p l.length cp] 27)) (.cells #[.string m, .string t, .int .i64 z, .slice b x.length cb, .bool fr, .slice q l.length cq] 27))
  have hd5 := cellTwo0 w #[.string m, .string t, .int .i64 z, .slice a x.length ca, .bool fr, .slice p l.length cp] #[.string m, .string t, .int .i64 z, .slice b x.length cb, .bool fr, .slice q l.length cq] 27 27 5
  have he5 := new_cellF2 w (.cells #[.string m, .string t, .int .i64 z, .slice a x.length ca, .bool fr, .slice p l.length cp] 27) #[.string m, .string t, .int .i64 z, .slice b x.length cb, .bool fr, .slice q l.length cq] 27 5
  have HC := Box.mk (And.intro hd5 he5)
  have H := Box.mk (And.intro (h1.keep HBW.out) (And.intro (h2.keep HBW.out) (And.intro (h3.keep HBW.out) (h4.keep HBW.out))))
  clear h1 h2 h3 h4 hd5 he5
  have hfr : (fr == fr) = true := by simp
  go_enter Tryd.func13, Tryd.ntmps13
  go_wp2_with fail
  refine (same_true x a b ca cb _ H.out.1 H.out.2.1 hx).mono ?_
  rintro e w1 ⟨rfl, hb1⟩
  have hc5 := below_cell hb1 (show _ = some (Value.slice p l.length cp) from HC.out.1)
  have he5 := below_cell hb1 (show _ = some (Value.slice q l.length cq) from HC.out.2)
  have hcv1 := conv_bytes (H.out.2.2.1.keep hb1)
  have hcv2 := conv_bytes (H.out.2.2.2.keep hb1)
  have HB := Box.mk (below_trans HBW.out hb1)
  clear hb1 H HC HBW
  generalize (⟨l.toArray⟩ : ByteArray) = bs at *
  have hself : (bs.toList == bs.toList) = true := by simp
  go_wp2_with fail
  go_ret
  exact ⟨rfl, HB.out⟩

theorem versionS_dec {z : Int} (h0 : 0 ≤ z) (h1 : z ≤ 1) : ⟨#[32]⟩ ++ versionS z = http1 ++ fmtS 10 z ∧ versionS z = http0 ++ fmtS 10 z := by
  have : z = 0 ∨ z = 1 := by omega
  rcases this with rfl | rfl
  · decide +kernel
  · decide +kernel
theorem versionS_size {z : Int} (h0 : 0 ≤ z) (h1 : z ≤ 1) : (versionS z).size = 8 := by
  have : z = 0 ∨ z = 1 := by omega
  rcases this with rfl | rfl <;> rfl
theorem versionS_no {z : Int} (h : ¬ (0 ≤ z ∧ z ≤ 1)) : versionS z = ⟨#[]⟩ := by
  unfold versionS; rw [if_neg (by omega), if_neg (by omega)]
theorem isEmpty_no {s : ByteArray} (h : 0 < s.size) : s.toList.isEmpty = false := by
  rw [toList_isEmpty]
  cases hq : s.data with
  | mk l => cases l with
    | nil => have : s.size = 0 := by show s.data.size = 0; rw [hq]; rfl
             omega
    | cons _ _ => rfl
set_option maxRecDepth 100000 in
set_option maxHeartbeats 2000000 in
theorem projFormatReq_any (m t : ByteArray) (z : Int) (fa ba : Option Addr) (fn fc bn bc : Nat) (fr : Bool) (w : World) (hm : m.size ≤ 1000000000) (ht : t.size ≤ 1000000000) :
    Calls Tryd.prog 20 #[.agg #[.string m, .string t, .int .i64 z, .slice fa fn fc, .bool fr, .slice ba bn bc]] w fun e w' => e = .returned (.string (fmtReq m t z)) ∧ Below w.heap.size w w' := by
  have HB0 := Box.mk (below_oneF w (.cells #[.string m, .string t, .int .i64 z, .slice fa fn fc, .bool fr, .slice ba bn bc] 27))
  have HRow := Box.mk (show (w.alloc (.cells #[.string m, .string t, .int .i64 z, .slice fa fn fc, .bool fr, .slice ba bn bc] 27)).heap[w.heap.size]? = some (.cells #[.string m, .string t, .int .i64 z, .slice fa fn fc, .bool fr, .slice ba bn bc] 27 (0, 0)) from heap_alloc_new _ _)
  have hml : m.size ≤ maxLen := by unfold maxLen; omega
  by_cases h1 : tokS m = true
  · by_cases h2 : targetS t = true
    · by_cases h3 : 0 ≤ z ∧ z ≤ 1
      · have HR := Box.mk (show fmtReq m t z = m ++ ⟨#[32]⟩ ++ t ++ ⟨#[32]⟩ ++ versionS z by
          unfold fmtReq; rw [if_pos ⟨h1, h2, h3⟩]
          have h := (versionS_dec h3.1 h3.2).1
          rw [ByteArray.append_assoc, ← h, ← ByteArray.append_assoc])
        have hz8 := versionS_size h3.1 h3.2
        have hne := isEmpty_no (s := versionS z) (by omega)
        have H1 := Box.mk h1
        have H2 := Box.mk h2
        clear h1 h2 h3
        have s1 : (m ++ ⟨#[32]⟩).size = m.size + 1 := by rw [ByteArray.size_append]; rfl
        have s2 : (m ++ ⟨#[32]⟩ ++ t).size = m.size + 1 + t.size := by rw [ByteArray.size_append, s1]
        have s3 : (m ++ ⟨#[32]⟩ ++ t ++ ⟨#[32]⟩).size = m.size + 1 + t.size + 1 := by rw [ByteArray.size_append, s2]; rfl
        have a1 := fun W => run_string_add_sum (P := Tryd.prog) (w := W) m ⟨#[32]⟩ (by show m.size + 1 ≤ _; omega)
        have a2 := fun W => run_string_add_sum (P := Tryd.prog) (w := W) (m ++ ⟨#[32]⟩) t (by rw [s1]; omega)
        have a3 := fun W => run_string_add_sum (P := Tryd.prog) (w := W) (m ++ ⟨#[32]⟩ ++ t) ⟨#[32]⟩ (by rw [s2]; show _ + 1 ≤ _; omega)
        have a4 := fun W => run_string_add_sum (P := Tryd.prog) (w := W) (m ++ ⟨#[32]⟩ ++ t ++ ⟨#[32]⟩) (versionS z) (by rw [s3]; omega)
        clear s1 s2 s3 hz8
        generalize hv : versionS z = v at *
        have HV := Box.mk hv
        clear hv
        generalize m ++ ⟨#[32]⟩ = x1 at *
        generalize x1 ++ t = x2 at *
        generalize x2 ++ ⟨#[32]⟩ = x3 at *
        generalize x3 ++ v = x4 at *
        go_enter Tryd.func20, Tryd.ntmps20
        go_wp2_with fail
        refine (fmtVersion_any z _).mono ?_
        rintro e w1 ⟨he, rfl⟩
        rw [HV.out] at he
        subst he
        go_wp2_with fail
        refine (token_any m _ hml).mono ?_
        rintro e w1 ⟨he, rfl⟩
        rw [H1.out] at he
        subst he
        go_wp2_with fail
        refine (projTarget_any t _).mono ?_
        rintro e w2 ⟨he, hb2⟩
        rw [H2.out] at he
        subst he
        have HB2 := Box.mk (below_trans HB0.out hb2)
        have hc0 : w2.cell? ⟨w.heap.size, 0, none⟩ = some (.string m) := below_cell hb2 (by rw [cell_of_row _ _ _ _ _ _ HRow.out]; rfl)
        have hc1 : w2.cell? ⟨w.heap.size, 1, none⟩ = some (.string t) := below_cell hb2 (by rw [cell_of_row _ _ _ _ _ _ HRow.out]; rfl)
        clear hb2 HB0 HRow
        go_wp2_with fail
        go_ret
        exact ⟨ret_str HR.out.symm, HB2.out⟩
      · have HR := Box.mk (show fmtReq m t z = ⟨#[]⟩ by unfold fmtReq; rw [if_neg (fun h => h3 h.2.2)])
        have HV := Box.mk (versionS_no h3)
        have H1 := Box.mk h1
        have H2 := Box.mk h2
        clear h1 h2 h3
        go_enter Tryd.func20, Tryd.ntmps20
        go_wp2_with fail
        refine (fmtVersion_any z _).mono ?_
        rintro e w1 ⟨he, rfl⟩
        rw [HV.out] at he
        subst he
        go_wp2_with fail
        refine (token_any m _ hml).mono ?_
        rintro e w1 ⟨he, rfl⟩
        rw [H1.out] at he
        subst he
        go_wp2_with fail
        refine (projTarget_any t _).mono ?_
        rintro e w2 ⟨he, hb2⟩
        rw [H2.out] at he
        subst he
        have HB2 := Box.mk (below_trans HB0.out hb2)
        clear hb2 HB0 HRow
        go_wp2_with fail
        go_ret
        exact ⟨ret_str HR.out.symm, HB2.out⟩
    · have HR := Box.mk (show fmtReq m t z = ⟨#[]⟩ by unfold fmtReq; rw [if_neg (fun h => h2 h.2.1)])
      have H1 := Box.mk h1
      have H2 := Box.mk (show targetS t = false by simpa using h2)
      clear h1 h2
      go_enter Tryd.func20, Tryd.ntmps20
      go_wp2_with fail
      refine (fmtVersion_any z _).mono ?_
      rintro e w1 ⟨rfl, rfl⟩
      generalize versionS z = v at *
      go_wp2_with fail
      refine (token_any m _ hml).mono ?_
      rintro e w1 ⟨he, rfl⟩
      rw [H1.out] at he
      subst he
      go_wp2_with fail
      refine (projTarget_any t _).mono ?_
      rintro e w2 ⟨he, hb2⟩
      rw [H2.out] at he
      subst he
      have HB2 := Box.mk (below_trans HB0.out hb2)
      clear hb2 HB0 HRow
      go_wp2_with fail
      go_ret
      exact ⟨ret_str HR.out.symm, HB2.out⟩
  · have HR := Box.mk (show fmtReq m t z = ⟨#[]⟩ by unfold fmtReq; rw [if_neg (fun h => h1 h.1)])
    have H1 := Box.mk (show tokS m = false by simpa using h1)
    clear h1
    go_enter Tryd.func20, Tryd.ntmps20
    go_wp2_with fail
    refine (fmtVersion_any z _).mono ?_
    rintro e w1 ⟨rfl, rfl⟩
    generalize versionS z = v at *
    go_wp2_with fail
    refine (token_any m _ hml).mono ?_
    rintro e w1 ⟨he, rfl⟩
    rw [H1.out] at he
    subst he
    go_wp2_with fail
    go_ret
    exact ⟨ret_str HR.out.symm, HB0.out⟩
end Go.Proofs.YtbcjchbmiknjdaaDoor
namespace Go.Proofs.YtbcjchbmiknjdaaDoor
open Go.RowKit

set_option maxRecDepth 100000 in
set_option maxHeartbeats 2000000 in
theorem projFormatRep_any (st : Int) (r : ByteArray) (z : Int) (fa ba : Option Addr) (fn fc bn bc : Nat) (w : World) (hr : r.size ≤ 1000000000) (ht : Tabs w) :
    Calls Tryd.prog 21 #[.agg #[.int .i64 st, .string r, .int .i64 z, .slice fa fn fc, .slice ba bn bc]] w fun e w' => e = .returned (.string (fmtRep st r z)) ∧ Below w.heap.size w w' := by
  have HB0 := Box.mk (below_oneF w (.cells #[.int .i64 st, .string r, .int .i64 z, .slice fa fn fc, .slice ba bn bc] 43))
  have HRow := Box.mk (show (w.alloc (.cells #[.int .i64 st, .string r, .int .i64 z, .slice fa fn fc, .slice ba bn bc] 43)).heap[w.heap.size]? = some (.cells #[.int .i64 st, .string r, .int .i64 z, .slice fa fn fc, .slice ba bn bc] 43 (0, 0)) from heap_alloc_new _ _)
  have HT := Box.mk ht
  clear ht
  by_cases h3 : 0 ≤ z ∧ z ≤ 1
  · have hz8 := versionS_size h3.1 h3.2
    have hne := isEmpty_no (s := versionS z) (by omega)
    by_cases h1 : statB st = true
    · have h100 : 100 ≤ st ∧ st ≤ 599 := by unfold statB at h1; simpa using h1
      by_cases h2 : visS r = true
      · have HR := Box.mk (show fmtRep st r z = versionS z ++ ⟨#[32]⟩ ++ fmtS 10 st ++ ⟨#[32]⟩ ++ r by
          unfold fmtRep; rw [if_pos ⟨h100.1, h100.2, h3.1, h3.2, h2⟩, (versionS_dec h3.1 h3.2).2])
        have HD := Box.mk (fmtS_code (by omega) h100.2)
        have H1 := Box.mk h1
        have H2 := Box.mk h2
        obtain ⟨t0, t1⟩ := h100
        clear h1 h2 h3
        have s1 : (versionS z ++ ⟨#[32]⟩).size = 9 := by rw [ByteArray.size_append, hz8]; rfl
        have s2 : (versionS z ++ ⟨#[32]⟩ ++ fmtS 10 st).size ≤ 1009 := by rw [ByteArray.size_append, s1]; have := HD.out; omega
        have s3 : (versionS z ++ ⟨#[32]⟩ ++ fmtS 10 st ++ ⟨#[32]⟩).size ≤ 1010 := by rw [ByteArray.size_append]; show _ + 1 ≤ _; omega
        generalize hv : versionS z = v at *
        have HV := Box.mk hv
        clear hv
        go_enter Tryd.func21, Tryd.ntmps21
        go_wp2_with fail
        refine (fmtVersion_any z _).mono ?_
        rintro e w1 ⟨he, rfl⟩
        rw [HV.out] at he
        subst he
        go_wp2_with fail
        refine (isStatus_any st _).mono ?_
        rintro e w1 ⟨he, rfl⟩
        rw [H1.out] at he
        subst he
        go_wp2_with fail
        refine (isReason_any r _).mono ?_
        rintro e w2 ⟨he, hb2⟩
        rw [H2.out] at he
        subst he
        have HB2 := Box.mk (below_trans HB0.out hb2)
        have HRW := Box.mk ((hb2.block w.heap.size (by rw [World.size_alloc]; omega)).trans HRow.out)
        clear hb2 HB0 HRow
        go_wp2_with fail
        generalize hg : w.heap.size = g at *
        have HG := Box.mk hg
        clear hg
        rename_i K hK
        refine wp_region_local (S := [.val (.string v), .val (.string (v ++ ⟨#[32]⟩)), .val (.pointer (some ⟨g, 0, none⟩)), .val (.int .i64 st), .val (.string (fmtS 10 st)), .val (.string (v ++ ⟨#[32]⟩ ++ fmtS 10 st)), .val (.string (v ++ ⟨#[32]⟩ ++ fmtS 10 st ++ ⟨#[32]⟩)),
          .val (.pointer (some ⟨g, 1, none⟩)), .val (.string r), .val (.string (v ++ ⟨#[32]⟩ ++ fmtS 10 st ++ ⟨#[32]⟩ ++ r)), .val (.string (v ++ ⟨#[32]⟩ ++ fmtS 10 st ++ ⟨#[32]⟩ ++ r))])
          (by kernel_rfl) (by kernel_rfl) (by kernel_rfl) ?_ ?_
        · have cell : ∀ w' i u, Below w2.heap.size w2 w' → (#[.int .i64 st, .string r, .int .i64 z, .slice fa fn fc, .slice ba bn bc] : Array Value)[i]? = some u → w'.cell? ⟨g, i, none⟩ = some u := fun w' i u hb hu => below_cell hb (by rw [cell_of_row _ _ _ _ _ _ HRW.out]; exact hu)
          refine ⟨?_, ?_, ?_, ?_, ?_, ?_, ?_, ?_, ?_, ?_, ?_, trivial⟩ <;> intro a w3 hb hf hd
          · exact ⟨wanted_none rfl, loc_move rfl (hf.base 3 rfl)⟩
          · exact ⟨wanted_none rfl, loc_addS rfl (hd 0 rfl) rfl (by rw [hz8]; decide) rfl⟩
          · exact ⟨wanted_none rfl, loc_fieldA rfl (hf.base 1 rfl) (by decide) rfl⟩
          · exact ⟨wanted_none rfl, loc_cell rfl (hd 2 rfl) (cell w3 0 _ hb rfl) (agg_int _) rfl⟩
          · refine ⟨wanted_none rfl, loc_call rfl (by kernel_rfl) ?_⟩
            show Calls _ _ #[a.eval (.tmp 24)] w3 _
            rw [show a.eval (.tmp 24) = .int .i64 st from hd 3 rfl]
            have hbw : Below w.heap.size w w3 := by
              have h9 := HB2.out
              rw [← HG.out] at h9
              exact below_trans h9 hb
            refine (decimal_any st w3 (by omega) (by omega) (tabs_below HT.out hbw)).mono ?_
            rintro e w' ⟨rfl, hb'⟩
            exact ⟨_, rfl, hb', rfl⟩
          · exact ⟨wanted_none rfl, loc_addS rfl (hd 1 rfl) (hd 4 rfl) (by rw [s1]; have := HD.out; omega) rfl⟩
          · exact ⟨wanted_none rfl, loc_addS rfl (hd 5 rfl) rfl (by show _ + 1 ≤ _; omega) rfl⟩
          · exact ⟨wanted_none rfl, loc_fieldA rfl (hf.base 1 rfl) (by decide) rfl⟩
          · exact ⟨wanted_none rfl, loc_cell rfl (hd 7 rfl) (cell w3 1 _ hb rfl) (agg_string _) rfl⟩
          · exact ⟨wanted_none rfl, loc_addS rfl (hd 6 rfl) (hd 8 rfl) (by omega) rfl⟩
          · exact ⟨wanted_none rfl, loc_assign rfl (hd 9 rfl)⟩
        · intro a w3 hb hf hh
          refine hK a w3 ?_
          go_wp2_with fail
          exact local_ret rfl hf.defers (show a.eval (.tmp 2) = .string (v ++ ⟨#[32]⟩ ++ fmtS 10 st ++ ⟨#[32]⟩ ++ r) from hh 10 (by decide)) ⟨ret_str HR.out.symm, by have h9 := HB2.out; rw [← HG.out] at h9; exact below_trans h9 hb⟩
      · have HR := Box.mk (show fmtRep st r z = ⟨#[]⟩ by unfold fmtRep; rw [if_neg (fun h => h2 h.2.2.2.2)])
        have H1 := Box.mk h1
        have H2 := Box.mk (show visS r = false by simpa using h2)
        clear h1 h2 h3 h100
        generalize hv : versionS z = v at *
        have HV := Box.mk hv
        clear hv
        go_enter Tryd.func21, Tryd.ntmps21
        go_wp2_with fail
        refine (fmtVersion_any z _).mono ?_
        rintro e w1 ⟨he, rfl⟩
        rw [HV.out] at he
        subst he
        go_wp2_with fail
        refine (isStatus_any st _).mono ?_
        rintro e w1 ⟨he, rfl⟩
        rw [H1.out] at he
        subst he
        go_wp2_with fail
        refine (isReason_any r _).mono ?_
        rintro e w2 ⟨he, hb2⟩
        rw [H2.out] at he
        subst he
        have HB2 := Box.mk (below_trans HB0.out hb2)
        clear hb2 HB0 HRow
        go_wp2_with fail
        go_ret
        exact ⟨ret_str HR.out.symm, HB2.out⟩
    · have HR := Box.mk (show fmtRep st r z = ⟨#[]⟩ by unfold fmtRep; rw [if_neg (fun h => h1 (by unfold statB; simp; exact ⟨h.1, h.2.1⟩))])
      have H1 := Box.mk (show statB st = false by simpa using h1)
      clear h1 h3
      generalize hv : versionS z = v at *
      have HV := Box.mk hv
      clear hv
      go_enter Tryd.func21, Tryd.ntmps21
      go_wp2_with fail
      refine (fmtVersion_any z _).mono ?_
      rintro e w1 ⟨he, rfl⟩
      rw [HV.out] at he
      subst he
      go_wp2_with fail
      refine (isStatus_any st _).mono ?_
      rintro e w1 ⟨he, rfl⟩
      rw [H1.out] at he
      subst he
      go_wp2_with fail
      go_ret
      exact ⟨ret_str HR.out.symm, HB0.out⟩
  · have HR := Box.mk (show fmtRep st r z = ⟨#[]⟩ by unfold fmtRep; rw [if_neg (fun h => h3 ⟨h.2.2.1, h.2.2.2.1⟩)])
    have HV := Box.mk (versionS_no h3)
    clear h3
    go_enter Tryd.func21, Tryd.ntmps21
    go_wp2_with fail
    refine (fmtVersion_any z _).mono ?_
    rintro e w1 ⟨he, rfl⟩
    rw [HV.out] at he
    subst he
    go_wp2_with fail
    go_ret
    exact ⟨ret_str HR.out.symm, HB0.out⟩

/-- What is parsed of one line by the project and the reference is the same; the law goes on from there. -/
def repOf (o : Option (Int × ByteArray × Int)) : Int × ByteArray × Int × Int := match o with | some f => (f.1, f.2.1, f.2.2, 0) | none => (0, ⟨#[]⟩, 0, 2)
theorem replyV_of (o : Option (Int × ByteArray × Int)) : replyV o = .tuple #[.agg #[.int .i64 (repOf o).1, .string (repOf o).2.1, .int .i64 (repOf o).2.2.1, .slice none 0 0, .slice none 0 0], .int .i64 (repOf o).2.2.2] := by
  cases o <;> rfl
def reqOf (o : Option (ByteArray × ByteArray × Int) × Int) : ByteArray × ByteArray × Int × Int := match o with | (some f, _) => (f.1, f.2.1, f.2.2, 0) | (none, e) => (⟨#[]⟩, ⟨#[]⟩, 0, e)
theorem reqV_of (o : Option (ByteArray × ByteArray × Int) × Int) : reqV o = .tuple #[.agg #[.string (reqOf o).1, .string (reqOf o).2.1, .int .i64 (reqOf o).2.2.1, .slice none 0 0, .bool false, .slice none 0 0], .int .i64 (reqOf o).2.2.2] := by
  obtain ⟨o, e⟩ := o
  cases o <;> rfl
theorem sameRep_nil (st z : Int) (r : ByteArray) (w : World) :
    Calls Tryd.prog 19 #[.agg #[.int .i64 st, .string r, .int .i64 z, .slice none 0 0, .slice none 0 0], .agg #[.int .i64 st, .string r, .int .i64 z, .slice none 0 0, .slice none 0 0]] w fun e w' => e = .returned (.bool true) ∧ Below w.heap.size w w' :=
  sameRep_any st z r [] [] none none none none 0 0 0 0 w (FldsIn.nil _ _) (FldsIn.nil _ _) (.inl ⟨rfl, rfl, rfl⟩) (.inl ⟨rfl, rfl, rfl⟩) (by decide)
theorem sameReq_nil (m t : ByteArray) (z : Int) (w : World) :
    Calls Tryd.prog 13 #[.agg #[.string m, .string t, .int .i64 z, .slice none 0 0, .bool false, .slice none 0 0], .agg #[.string m, .string t, .int .i64 z, .slice none 0 0, .bool false, .slice none 0 0]] w fun e w' => e = .returned (.bool true) ∧ Below w.heap.size w w' :=
  sameReq_any m t z false [] [] none none none none 0 0 0 0 w (FldsIn.nil _ _) (FldsIn.nil _ _) (.inl ⟨rfl, rfl, rfl⟩) (.inl ⟨rfl, rfl, rfl⟩) (by decide)
end Go.Proofs.YtbcjchbmiknjdaaDoor
namespace Go.Proofs.YtbcjchbmiknjdaaDoor
open Go.RowKit

theorem fmtRep_size (st : Int) (r : ByteArray) (z : Int) (hr : r.size ≤ 100000000) : (fmtRep st r z).size ≤ 1000000000 := by
  unfold fmtRep
  split
  · rename_i h
    have h1 := fmtS_small h.2.2.1 h.2.2.2.1
    have h2 := fmtS_code (z := st) (by omega) h.2.1
    simp only [ByteArray.size_append]
    have e1 : http0.size = 7 := rfl
    have e2 : (⟨#[32]⟩ : ByteArray).size = 1 := rfl
    omega
  · exact Nat.zero_le _
theorem AVar.cells {w : World} {g : Nat} {st : Int} {r : ByteArray} {z : Int} (h : AVar w g st r z) : g < w.heap.size ∧ w.cell? ⟨g, 0, none⟩ = some (.int .i64 st) ∧ w.cell? ⟨g, 1, none⟩ = some (.string r) ∧ w.cell? ⟨g, 2, none⟩ = some (.int .i64 z) ∧ w.cell? ⟨g, 3, none⟩ = some (.slice none 0 0) ∧ w.cell? ⟨g, 4, none⟩ = some (.slice none 0 0) := by
  refine ⟨(Array.getElem?_eq_some_iff.1 h).1, ?_, ?_, ?_, ?_, ?_⟩ <;> rw [cell_of_row _ _ _ _ _ _ h] <;> rfl
theorem RVar.cells {w : World} {g : Nat} {m t : ByteArray} {z : Int} (h : RVar w g m t z) : g < w.heap.size ∧ w.cell? ⟨g, 0, none⟩ = some (.string m) ∧ w.cell? ⟨g, 1, none⟩ = some (.string t) ∧ w.cell? ⟨g, 2, none⟩ = some (.int .i64 z) ∧ w.cell? ⟨g, 3, none⟩ = some (.slice none 0 0) ∧ w.cell? ⟨g, 4, none⟩ = some (.bool false) ∧ w.cell? ⟨g, 5, none⟩ = some (.slice none 0 0) := by
  refine ⟨(Array.getElem?_eq_some_iff.1 h).1, ?_, ?_, ?_, ?_, ?_, ?_⟩ <;> rw [cell_of_row _ _ _ _ _ _ h] <;> rfl

section
variable (line reason : ByteArray) (status at_ : Int) (c : UInt8) (wild : Int) (mm : Int) (w : World)
set_option maxRecDepth 100000 in
set_option maxHeartbeats 4000000 in
theorem lineStatus_raw (hw : (bits .and .i64 wild 1 == 0) = false) (hs : line.size ≤ 100000000) (hm : w.cell? ⟨0, 0, none⟩ = some (.int .i64 mm)) :
    Calls Tryd.prog 4 #[.string line, .string reason, .int .i64 status, .int .i64 at_, .int .u8 c.toNat, .int .i64 wild] w fun e w' => e = .returned (.bool true) ∧ Below w.heap.size w w' := by
  have HM := Box.mk hm
  have HSZ := Box.mk (show line.size ≤ maxLen by unfold maxLen; omega)
  have HB := Box.mk (Below.refl w.heap.size w)
  clear hm
  go_enter Tryd.func4, Tryd.ntmps4
  go_wp2_with fail
  refine (projParseRep_any line _ HSZ.out).mono ?_
  rintro e w1 ⟨he, hb1⟩
  rw [replyV_of] at he
  generalize hq : repOf (parseA line) = q at he
  obtain ⟨st, r, z, er⟩ := q
  have HQ := Box.mk hq
  simp only [] at he
  clear hq
  subst he
  have HB1 := Box.mk (below_trans HB.out hb1)
  have HV1 := Box.mk (show AVar (w1.alloc (.cells #[.int .i64 st, .string r, .int .i64 z, .slice none 0 0, .slice none 0 0] 43)) w1.heap.size st r z from heap_alloc_new _ _)
  have HB2 := Box.mk (below_trans HB1.out (below_oneF w1 (.cells #[.int .i64 st, .string r, .int .i64 z, .slice none 0 0, .slice none 0 0] 43)))
  clear hb1 HB1
  go_wp2_with fail
  refine (refParseRep_any line _ HSZ.out).mono ?_
  rintro e w2 ⟨he, hb2⟩
  rw [replyV_of, HQ.out] at he
  simp only [] at he
  subst he
  obtain ⟨hlt, hc0, hc1, hc2, hc3, hc4⟩ := (HV1.out.keep hb2).cells
  have HB3 := Box.mk (below_trans (below_trans HB2.out hb2) (below_oneF w2 (.cells #[.int .i64 st, .string r, .int .i64 z, .slice none 0 0, .slice none 0 0] 43)))
  clear hb2 HB2 HV1
  go_wp2_with fail
  refine (sameRep_nil st z r _).mono ?_
  rintro e w3 ⟨rfl, hb3⟩
  have HB4 := Box.mk (below_trans HB3.out hb3)
  clear hb3 HB3 hc0 hc1 hc2 hc3 hc4
  go_wp2_with fail
  refine (awakeL_any _ mm (below_cell HB4.out HM.out)).mono ?_
  rintro e w4 ⟨rfl, hb4⟩
  have HB5 := Box.mk (below_trans HB4.out hb4)
  clear hb4 HB4
  go_wp2_with fail
  go_ret
  exact ⟨rfl, HB5.out⟩
set_option maxRecDepth 100000 in
set_option maxHeartbeats 4000000 in
theorem lineStatus_fmt (hw : (bits .and .i64 wild 1 == 0) = true) (hw2 : (bits .and .i64 wild 2 == 2) = false) (hs : reason.size ≤ 100000000) (hm : w.cell? ⟨0, 0, none⟩ = some (.int .i64 mm)) :
    Calls Tryd.prog 4 #[.string line, .string reason, .int .i64 status, .int .i64 at_, .int .u8 c.toNat, .int .i64 wild] w fun e w' => e = .returned (.bool true) ∧ Below w.heap.size w w' := by
  have HM := Box.mk hm
  clear hm
  obtain ⟨k, hk, hwk⟩ := withI_range status 520 (by decide) (by decide)
  have HWK := Box.mk hwk
  clear hwk
  go_enter Tryd.func4, Tryd.ntmps4
  go_wp2_with fail
  refine (withinF status 520 _ (by decide) (by decide)).mono ?_
  rintro e w5 ⟨he, hww⟩
  rw [HWK.out] at he
  subst he hww
  go_wp2_with fail
  refine (refFormatRep_any _ reason _ none none 0 0 0 0 _ (by omega)).mono ?_
  rintro e w5 ⟨he, hb5⟩
  generalize hL : fmtRep _ reason _ = L at he
  have HLS := Box.mk (show L.size ≤ 1000000000 by rw [← hL]; exact fmtRep_size _ _ _ hs)
  have HSZ := Box.mk (show L.size ≤ maxLen by have := HLS.out; unfold maxLen; omega)
  have HB := Box.mk hb5
  clear hL hb5
  subst he
  go_wp2_with fail
  refine (projParseRep_any L _ HSZ.out).mono ?_
  rintro e w1 ⟨he, hb1⟩
  rw [replyV_of] at he
  generalize hq : repOf (parseA L) = q at he
  obtain ⟨st, r, z, er⟩ := q
  have HQ := Box.mk hq
  simp only [] at he
  clear hq
  subst he
  have HB1 := Box.mk (below_trans HB.out hb1)
  have HV1 := Box.mk (show AVar (w1.alloc (.cells #[.int .i64 st, .string r, .int .i64 z, .slice none 0 0, .slice none 0 0] 43)) w1.heap.size st r z from heap_alloc_new _ _)
  have HB2 := Box.mk (below_trans HB1.out (below_oneF w1 (.cells #[.int .i64 st, .string r, .int .i64 z, .slice none 0 0, .slice none 0 0] 43)))
  clear hb1 HB1
  go_wp2_with fail
  refine (refParseRep_any L _ HSZ.out).mono ?_
  rintro e w2 ⟨he, hb2⟩
  rw [replyV_of, HQ.out] at he
  simp only [] at he
  subst he
  obtain ⟨hlt, hc0, hc1, hc2, hc3, hc4⟩ := (HV1.out.keep hb2).cells
  have HB3 := Box.mk (below_trans (below_trans HB2.out hb2) (below_oneF w2 (.cells #[.int .i64 st, .string r, .int .i64 z, .slice none 0 0, .slice none 0 0] 43)))
  clear hb2 HB2 HV1
  go_wp2_with fail
  refine (sameRep_nil st z r _).mono ?_
  rintro e w3 ⟨rfl, hb3⟩
  have HB4 := Box.mk (below_trans HB3.out hb3)
  clear hb3 HB3 hc0 hc1 hc2 hc3 hc4
  go_wp2_with fail
  refine (awakeL_any _ mm (below_cell HB4.out HM.out)).mono ?_
  rintro e w4 ⟨rfl, hb4⟩
  have HB5 := Box.mk (below_trans HB4.out hb4)
  clear hb4 HB4
  go_wp2_with fail
  go_ret
  exact ⟨rfl, HB5.out⟩
set_option maxRecDepth 100000 in
set_option maxHeartbeats 4000000 in
theorem lineStatus_spoil (hw : (bits .and .i64 wild 1 == 0) = true) (hw2 : (bits .and .i64 wild 2 == 2) = true) (hs : reason.size ≤ 100000000) (hm : w.cell? ⟨0, 0, none⟩ = some (.int .i64 mm)) :
    Calls Tryd.prog 4 #[.string line, .string reason, .int .i64 status, .int .i64 at_, .int .u8 c.toNat, .int .i64 wild] w fun e w' => e = .returned (.bool true) ∧ Below w.heap.size w w' := by
  have HM := Box.mk hm
  clear hm
  obtain ⟨k, hk, hwk⟩ := withI_range status 520 (by decide) (by decide)
  have HWK := Box.mk hwk
  clear hwk
  go_enter Tryd.func4, Tryd.ntmps4
  go_wp2_with fail
  refine (withinF status 520 _ (by decide) (by decide)).mono ?_
  rintro e w5 ⟨he, hww⟩
  rw [HWK.out] at he
  subst he hww
  go_wp2_with fail
  refine (refFormatRep_any _ reason _ none none 0 0 0 0 _ (by omega)).mono ?_
  rintro e w5 ⟨he, hb5⟩
  generalize hL : fmtRep _ reason _ = L at he
  have HLS := Box.mk (show L.size ≤ 1000000000 by rw [← hL]; exact fmtRep_size _ _ _ hs)
  have HSZ := Box.mk (show L.size ≤ maxLen by have := HLS.out; unfold maxLen; omega)
  have HB := Box.mk hb5
  clear hL hb5
  subst he
  go_wp2_with fail
  refine (spoil_any L at_ c _ HLS.out).mono ?_
  rintro e w6 ⟨t, htz, rfl, hb6⟩
  have HB6 := Box.mk (below_trans HB.out hb6)
  have HSZ6 := Box.mk (show t.size ≤ maxLen by have := HLS.out; unfold maxLen; omega)
  clear htz hb6 HB
  go_wp2_with fail
  refine (projParseRep_any t _ HSZ6.out).mono ?_
  rintro e w1 ⟨he, hb1⟩
  rw [replyV_of] at he
  generalize hq : repOf (parseA t) = q at he
  obtain ⟨st, r, z, er⟩ := q
  have HQ := Box.mk hq
  simp only [] at he
  clear hq
  subst he
  have HB1 := Box.mk (below_trans HB6.out hb1)
  have HV1 := Box.mk (show AVar (w1.alloc (.cells #[.int .i64 st, .string r, .int .i64 z, .slice none 0 0, .slice none 0 0] 43)) w1.heap.size st r z from heap_alloc_new _ _)
  have HB2 := Box.mk (below_trans HB1.out (below_oneF w1 (.cells #[.int .i64 st, .string r, .int .i64 z, .slice none 0 0, .slice none 0 0] 43)))
  clear hb1 HB1
  go_wp2_with fail
  refine (refParseRep_any t _ HSZ6.out).mono ?_
  rintro e w2 ⟨he, hb2⟩
  rw [replyV_of, HQ.out] at he
  simp only [] at he
  subst he
  obtain ⟨hlt, hc0, hc1, hc2, hc3, hc4⟩ := (HV1.out.keep hb2).cells
  have HB3 := Box.mk (below_trans (below_trans HB2.out hb2) (below_oneF w2 (.cells #[.int .i64 st, .string r, .int .i64 z, .slice none 0 0, .slice none 0 0] 43)))
  clear hb2 HB2 HV1
  go_wp2_with fail
  refine (sameRep_nil st z r _).mono ?_
  rintro e w3 ⟨rfl, hb3⟩
  have HB4 := Box.mk (below_trans HB3.out hb3)
  clear hb3 HB3 hc0 hc1 hc2 hc3 hc4
  go_wp2_with fail
  refine (awakeL_any _ mm (below_cell HB4.out HM.out)).mono ?_
  rintro e w4 ⟨rfl, hb4⟩
  have HB5 := Box.mk (below_trans HB4.out hb4)
  clear hb4 HB4
  go_wp2_with fail
  go_ret
  exact ⟨rfl, HB5.out⟩
theorem lineStatus_any (hs : line.size ≤ 100000000) (hr : reason.size ≤ 100000000) (hm : w.cell? ⟨0, 0, none⟩ = some (.int .i64 mm)) :
    Calls Tryd.prog 4 #[.string line, .string reason, .int .i64 status, .int .i64 at_, .int .u8 c.toNat, .int .i64 wild] w fun e w' => e = .returned (.bool true) ∧ Below w.heap.size w w' := by
  by_cases h1 : (bits .and .i64 wild 1 == 0) = true
  · by_cases h2 : (bits .and .i64 wild 2 == 2) = true
    · exact lineStatus_spoil line reason status at_ c wild mm w h1 h2 hr hm
    · exact lineStatus_fmt line reason status at_ c wild mm w h1 (by simpa using h2) hr hm
  · exact lineStatus_raw line reason status at_ c wild mm w (by simpa using h1) hs hm
end
end Go.Proofs.YtbcjchbmiknjdaaDoor
namespace Go.Proofs.YtbcjchbmiknjdaaDoor
open Go.RowKit

/-- v is a slice with the bytes l in a block of its own, at B or beyond. -/
def Own (B : Nat) (w : World) (v : Value) (l : List UInt8) : Prop := w.ownsRow B 5 1 v l.length (bytesV l)
theorem Own.start (B : Nat) (w : World) : Own B w (.slice none 0 0) [] := World.ownsRow_nil _ _ _ _
theorem Own.same {B : Nat} {w w' : World} {v : Value} {l : List UInt8} (h : Own B w v l) (hs : ∀ k, v.ownBlock = some k → w'.heap[k]? = w.heap[k]?) : Own B w' v l := by
  obtain ⟨h1, h2⟩ := h
  refine ⟨h1, ?_⟩
  rcases h2 with h2 | ⟨g, cap, cur, hv, hg, hc, r⟩
  · exact .inl h2
  · exact .inr ⟨g, cap, cur, hv, hg, by rw [hs g (by rw [hv]; rfl)]; exact hc, r⟩
theorem Own.lt {B : Nat} {w : World} {v : Value} {l : List UInt8} (h : Own B w v l) {k : Nat} (hk : v.ownBlock = some k) : B ≤ k ∧ k < w.heap.size := World.ownsRow.lt h k hk
theorem Own.keep {B : Nat} {w w' : World} {v : Value} {l : List UInt8} (h : Own B w v l) (hb : Below w.heap.size w w') : Own B w' v l :=
  h.same fun k hk => hb.block k (h.lt hk).2
theorem Own.val {B : Nat} {w : World} {v : Value} {l : List UInt8} (h : Own B w v l) : BytesV w v l := by
  obtain ⟨h1, h2⟩ := h
  rcases h2 with ⟨rfl, h2⟩ | ⟨g, cap, cur, rfl, hg, hc, hcap, hm, hsz, ht⟩
  · have : l = [] := List.eq_nil_of_length_eq_zero h2
    subst this
    exact ⟨none, 0, rfl, .inl ⟨rfl, rfl, rfl⟩⟩
  · refine ⟨_, cap, rfl, .inr ⟨_, rfl, hcap, hm, fun j hj => ?_⟩⟩
    have e : cur.toList[j]? = some (Value.int .u8 (l[j].toNat : Int)) := by
      have := congrArg (fun x => x[j]?) ht
      simp only [Nat.mul_one, bytesV] at this
      rw [List.getElem?_take_of_lt hj, List.getElem?_map, List.getElem?_eq_getElem hj] at this
      exact this
    rw [Addr.add_lit]
    simp only [World.cell?, hc, Nat.zero_add]
    simpa using e
theorem cell_same {w w' : World} {p : Addr} (h : w'.heap[p.block]? = w.heap[p.block]?) : w'.cell? p = w.cell? p := by
  unfold World.cell?
  rw [h]
theorem add_block (x : Addr) (j : Nat) : (x.add j).block = x.block := by unfold Addr.add; split <;> rfl
theorem IsBytes.same {w w' : World} {a : Option Addr} {l : List UInt8} {c : Nat} (h : IsBytes w a l c) (hs : ∀ x, a = some x → l ≠ [] → w'.heap[x.block]? = w.heap[x.block]?) : IsBytes w' a l c := by
  rcases h with h | ⟨x, h1, h2, h3, h4⟩
  · exact .inl h
  · refine .inr ⟨x, h1, h2, h3, fun j hj => ?_⟩
    have e : w'.heap[(x.add j).block]? = w.heap[(x.add j).block]? := by
      rw [add_block]
      exact hs x h1 (fun e => by rw [e] at hj; exact absurd hj (Nat.not_lt_zero _))
    rw [cell_same e]
    exact h4 j hj
theorem IsBytes.lt {w : World} {x : Addr} {l : List UInt8} {c : Nat} (h : IsBytes w (some x) l c) (hl : l ≠ []) : x.block < w.heap.size := by
  rcases h with ⟨h, _⟩ | ⟨y, h1, h2, h3, h4⟩
  · cases h
  · obtain rfl := Option.some.inj h1
    have h0 : 0 < l.length := List.length_pos_iff.2 hl
    have := h4 0 h0
    have h5 := World.block_lt_of_cell? w _ this
    rw [add_block] at h5; exact h5
section
variable {ops : Array Oper} {rest : List Oper} {o : Oper} {act : Act} {Q : Exit → Act → World → Prop}
/-- APPEND of a slice of bytes that is read; all other blocks stay as they are. -/
theorem wpList_append_ownb (w : World) (hgd : o.guard = none) (s x : Operand) (ho : o.op = .call { callee := .builtin .append, args := #[s, x], argTypes := #[25, 25] })
    {B : Nat} {v : Value} {l : List UInt8} (hs : act.eval s = v) (h : Own B w v l) {a : Option Addr} {r : List UInt8} {c : Nat} (hx : act.eval x = .slice a r.length c) (hr : IsBytes w a r c)
    (hn : l.length + r.length ≤ 140737488355328) (hB : B ≤ w.heap.size)
    (K : ∀ v' w', Own B w' v' (l ++ r) → w.grownBy w' v.ownBlock → (v'.ownBlock = v.ownBlock ∨ v'.ownBlock = some w.heap.size) → wpList Tryd.prog ops Q rest (act.put o.dst v') w') : wpList Tryd.prog ops Q (o :: rest) act w := by
  obtain ⟨i0, hi, hz0, hz1, hz2⟩ := info_parts Tryd.info5
  rcases hr with ⟨rfl, rfl, rfl⟩ | ⟨ad, rfl, hr1, hr2, hr3⟩
  · refine wpList_append_own_none hgd s x 25 ho B 5 i0 1 Tryd.underlying25 hi v l.length (bytesV l) hs h hx (K _ _ ?_ (World.grownBy.refl _ _) (.inl rfl))
    rw [List.append_nil]; exact h
  · refine wpList_append_own_at w hgd s x 25 ho B 5 i0 (.int .u8 0) 1 1 Tryd.underlying25 hi hz0 hz1 hz2 rfl (by decide) v l.length (bytesV l) hs h ad r.length c (bytesV r) hx (by rw [bytesV_len, Nat.mul_one]) ?_ ?_ (by unfold maxLen; omega) (by omega) hB ?_
    · intro j u hj
      unfold bytesV at hj
      rw [List.getElem?_map] at hj
      obtain ⟨c', hc', rfl⟩ := Option.map_eq_some_iff.1 hj
      obtain ⟨hlt, rfl⟩ := List.getElem?_eq_some_iff.1 hc'
      exact hr3 j hlt
    · intro u hu
      unfold bytesV at hu
      obtain ⟨c', _, rfl⟩ := List.mem_map.1 hu
      rfl
    · intro v' w' hown hgrow _ h5
      refine K v' w' ?_ hgrow h5
      unfold Own
      rw [List.length_append]
      have e : bytesV (l ++ r) = bytesV l ++ bytesV r := by unfold bytesV; rw [List.map_append]
      rw [e]; exact hown
end
end Go.Proofs.YtbcjchbmiknjdaaDoor
namespace Go.Proofs.YtbcjchbmiknjdaaDoor
open Go.RowKit

theorem Own.grown {B : Nat} {w w' : World} {v : Value} {l : List UInt8} {row : Option Nat} (h : Own B w v l) (hg : w.grownBy w' row) (hne : ∀ k, v.ownBlock = some k → some k ≠ row) : Own B w' v l :=
  h.same fun k hk => hg.block k (h.lt hk).2 (hne k hk)
theorem isBytes_oneF (w : World) (c : UInt8) : IsBytes (w.alloc (.cells #[.int .u8 (c.toNat : Int)] 5)) (some ⟨w.heap.size, 0, none⟩) [c] 1 := by
  refine .inr ⟨_, rfl, Nat.le_refl _, by decide, fun j hj => ?_⟩
  obtain rfl : j = 0 := by simpa using hj
  rw [Addr.add_lit, new_cellF]; rfl
set_option maxRecDepth 100000 in
set_option maxHeartbeats 2000000 in
theorem srcBytes_any (g m : Nat) (a : Option Addr) (n c : Nat) (w : World) (h : Src w g a n c) (hm : m ≤ 1000) :
    Calls Tryd.prog 32 #[.pointer (some ⟨g, 0, none⟩), .int .i64 m] w fun e w' => ∃ v l, e = .returned v ∧ Own w.heap.size w' v l ∧ l.length ≤ m ∧ Src w' g a n c ∧ w.grownBy w' (some g) := by
  have H0 := Box.mk h
  have HLOW := Box.mk h.low
  have hlt := h.lt
  clear h
  go_enter Tryd.func32, Tryd.ntmps32
  go_wp2_with fail
  refine (next_any g (m + 1) a n c w H0.out (by omega) (by omega)).mono ?_
  rintro e w1 ⟨k, hk, rfl, hsrc, hg1⟩
  have HS1 := Box.mk hsrc
  have HG1 := Box.mk hg1
  clear hsrc hg1 H0
  go_wp2_with fail
  go_loopw [5, 6] (fun v iv wr => ∃ j : Nat, j ≤ m ∧ iv = .int .i64 j ∧ ∃ l : List UInt8, l.length + j ≤ m ∧ Box (Own w.heap.size wr v l ∧ Src wr g a n c ∧ w.grownBy wr (some g))) (fun _ iv _ => (intOf iv).toNat)
  case atStart => exact ⟨k, by omega, rfl, [], by simp; omega, ⟨Own.start _ _, HS1.out, HG1.out⟩⟩
  case round =>
    clear HS1 HG1
    obtain ⟨j, hj, rfl, l, hl, HM⟩ := hrel
    by_cases hpos : 0 < j
    · go_wp2_with fail
      refine (next_any g 7 a n c wr HM.out.2.1 (by decide) (by decide)).mono ?_
      rintro e w2 ⟨i, hi, rfl, hsrc, hg2⟩
      have HO2 := Box.mk (HM.out.1.grown hg2 (fun q e e2 => by have := (HM.out.1.lt e).1; have := Option.some.inj e2; omega))
      have HS2 := Box.mk hsrc
      have HG2 := Box.mk (grownBy_trans HM.out.2.2 hg2)
      have hsz := HG2.out.size
      clear hsrc hg2 HM
      obtain ⟨y, hy⟩ : ∃ y : UInt8, ∀ hd, (⟨#[97, 98, 13, 10, 48, 59, 32]⟩ : ByteArray)[i]'hd = y := ⟨(⟨#[97, 98, 13, 10, 48, 59, 32]⟩ : ByteArray)[i]'(by show i < 7; exact hi), fun _ => rfl⟩
      have hy1 : (y.toNat : Int) ≤ 255 := by have := y.toNat_lt; omega
      go_wp2_with (at_builtin; refine wpList_append_ownb _ rfl _ _ rfl rfl (HO2.out.keep (below_oneF w2 (.cells #[.int .u8 (y.toNat : Int)] 5))) (r := [y]) rfl (isBytes_oneF w2 y) (by simp; omega) (by simp; omega) ?c3)
      case c3 =>
        intro v' w3 hown hgrow _
        have HO3 := Box.mk hown
        have hgrow2 : w2.grownBy w3 u5.ownBlock := ⟨hgrow.os, hgrow.tape, hgrow.output, Nat.le_trans (by simp) hgrow.size, fun k hk hne => by
          rw [hgrow.block k (by simp; omega) hne]
          exact (below_oneF w2 _).block k hk⟩
        have HS3 := Box.mk (HS2.out.grown hgrow2 (fun e => by have := (HO2.out.lt e.symm).1; omega) (fun x e h0 e2 => by have := (HO2.out.lt e2.symm).1; have := HLOW.out x e h0; omega))
        have HG3 := Box.mk (grownBy_new HG2.out hgrow2 (fun i e => (HO2.out.lt e).1))
        clear hown hgrow hgrow2 HO2 HS2 HG2 hy
        go_wp2_with fail
        go_roundw
        case rel => exact ⟨j - 1, by omega, by go_num, l ++ [y], by simp; omega, ⟨HO3.out, HS3.out, HG3.out⟩⟩
        case measure => simp [intOf]; omega
    · obtain rfl : j = 0 := by omega
      go_wp2_with fail
      go_ret
      exact ⟨_, l, rfl, HM.out.1, by omega, HM.out.2.1, HM.out.2.2⟩
end Go.Proofs.YtbcjchbmiknjdaaDoor
namespace Go.Proofs.YtbcjchbmiknjdaaDoor
open Go.RowKit

theorem digs_len {b : Nat} (hb : 2 ≤ b) : ∀ (k n : Nat), n < 2 ^ k → 1 ≤ k → (digs b n).length ≤ k
  | 0, n, _, h => absurd h (by omega)
  | k + 1, n, hn, _ => by
    by_cases h : n < b
    · rw [digs_small h]; simp
    · rw [digs_big hb h, List.length_append]
      have h1 : n / b ≤ n / 2 := Nat.div_le_div_left hb (by omega)
      have h2 : n / 2 < 2 ^ k := by rw [Nat.pow_succ] at hn; omega
      have h3 : 1 ≤ n / b := by
        have : b / b ≤ n / b := Nat.div_le_div_right (by omega)
        rw [Nat.div_self (by omega)] at this; exact this
      have hk : 1 ≤ k := by
        match k, h2 with
        | 0, h2 => simp at h2; omega
        | k + 1, _ => omega
      have := digs_len hb k (n / b) (by omega) hk
      simp; omega
theorem fmtS_size {b : Nat} (hb : 2 ≤ b) (n : Int) (h1 : n ≤ 9223372036854775807) : (fmtS b n).size ≤ 64 := by
  unfold fmtS; split
  · decide
  · show (digs b n.toNat).toArray.size ≤ 64
    simpa using digs_len hb 64 n.toNat (by have : (2 : Nat) ^ 64 = 18446744073709551616 := by decide
                                           omega) (by omega)
theorem fmtS_max {b : Nat} (hb : 2 ≤ b) (n : Int) (h1 : n ≤ 9223372036854775807) : (fmtS b n).size ≤ maxLen := Nat.le_trans (fmtS_size hb n h1) (by decide)
end Go.Proofs.YtbcjchbmiknjdaaDoor
namespace Go.Proofs.YtbcjchbmiknjdaaDoor
open Go.RowKit

theorem fmtS_len (a : Nat) (h : a ≤ 1000000000) : (fmtS 10 (a : Int)).size ≤ maxLen := fmtS_max (by decide) _ (by omega)
theorem refSum_two (s1 s2 : ByteArray) (a : Addr) (c : Nat) (w : World) (h1 : s1.size ≤ maxLen) (h2 : s2.size ≤ maxLen) (h : StrsIn w (some a) [s1, s2]) :
    Calls Tryd.prog 62 #[.slice (some a) 2 c] w fun e w' => ∃ h : Nat, e = .returned (.int .u64 h) ∧ h < 18446744073709551616 ∧ Below w.heap.size w w' := by
  refine (refSum_any [s1, s2] (some a) c w (by show 2 ≤ maxLen; decide) (fun x hx => ?_) h).mono ?_
  · simp at hx
    rcases hx with rfl | rfl
    · exact h1
    · exact h2
  · rintro e w' ⟨rfl, hb⟩
    exact ⟨_, rfl, (by unfold sumL; rw [List.foldl_cons, List.foldl_cons, List.foldl_nil]; exact sumN_lt _ _), hb⟩
/-- A digit of an ID. -/
def hexOk (c : UInt8) : Bool := decide (48 ≤ c.toNat ∧ c.toNat ≤ 57 ∨ 97 ≤ c.toNat ∧ c.toNat ≤ 102)
theorem hex_digit {z : Int} (h0 : 0 ≤ z) (h1 : z ≤ 15) : (fmtS 16 z).size = 1 ∧ (fmtS 16 z).data.toList.all hexOk = true := by
  obtain ⟨k, rfl⟩ : ∃ k : Nat, z = k := ⟨z.toNat, by omega⟩
  have hk : k < 16 := by omega
  have h : ∀ m : Fin 16, (fmtS 16 (m.val : Int)).size = 1 ∧ (fmtS 16 (m.val : Int)).data.toList.all hexOk = true := by decide +kernel
  exact h ⟨k, hk⟩

set_option maxRecDepth 100000 in
set_option maxHeartbeats 2000000 in
theorem refNewID_any (a b : Nat) (w : World) (ha : a ≤ 1000000000) (hb : b ≤ 1000000000) :
    Calls Tryd.prog 52 #[.int .i64 a, .int .i64 b] w fun e w' => ∃ s : ByteArray, e = .returned (.string s) ∧ s.size = 16 ∧ s.data.toList.all hexOk = true ∧ Below w.heap.size w w' := by
  go_enter Tryd.func52, Tryd.ntmps52
  go_wp2_with fail
  refine (refDecimal_any a _ (by omega) (by omega)).mono ?_
  rintro e w1 ⟨rfl, hb1⟩
  have HB1 := Box.mk hb1
  clear hb1
  go_wp2_with fail
  refine (refDecimal_any b _ (by omega) (by omega)).mono ?_
  rintro e w2 ⟨rfl, hb2⟩
  have HB2 := Box.mk (below_trans HB1.out hb2)
  have HZ := Box.mk (And.intro (fmtS_len a ha) (fmtS_len b hb))
  clear hb2 HB1
  generalize fmtS 10 a = s1 at *
  generalize fmtS 10 b = s2 at *
  go_wp2_with fail
  refine (refSum_two s1 s2 _ _ _ HZ.out.1 HZ.out.2 (strsIn_twoF w2 s1 s2 _)).mono ?_
  rintro e w3 ⟨h, rfl, hh, hb3⟩
  have HB3 := Box.mk (below_trans (below_twoF HB2.out (.cells #[.string s1, .string s2] 9)) hb3)
  clear hb3 HB2 HZ
  go_wp2_with fail
  go_loopw [6, 7] (fun v iv wr => ∃ k : Nat, k ≤ 16 ∧ iv = .int .i64 k ∧ ∃ s : ByteArray, v = .string s ∧ s.size ≤ 1000 ∧ Box (s.size = k ∧ s.data.toList.all hexOk = true ∧ Below w.heap.size w wr)) (fun _ iv _ => 16 - (intOf iv).toNat)
  case atStart => exact ⟨0, Nat.zero_le _, rfl, ⟨#[]⟩, rfl, by decide, ⟨rfl, rfl, HB3.out⟩⟩
  case round =>
    clear HB3
    obtain ⟨k, hk, rfl, s, rfl, hs, HM⟩ := hrel
    by_cases hlt : k < 16
    · go_wp2_with fail
      obtain ⟨d, hd, hd15⟩ : ∃ d : Nat, wrap64 (bits .and .u64 ((h : Int) / 2 ^ (60 - 4 * k)) 15) = d ∧ d ≤ 15 := by
        have e1 : ((h : Int) / 2 ^ (60 - 4 * k)) = ((h / 2 ^ (60 - 4 * k) : Nat) : Int) := by push_cast; rfl
        have h2 : h / 2 ^ (60 - 4 * k) < 18446744073709551616 := Nat.lt_of_le_of_lt (Nat.div_le_self _ _) hh
        have h3 := bits_and_u64_nat (h / 2 ^ (60 - 4 * k)) 15 h2 (by decide)
        refine ⟨h / 2 ^ (60 - 4 * k) &&& 15, ?_, Nat.and_le_right⟩
        rw [e1, show (15 : Int) = ((15 : Nat) : Int) from rfl, h3]
        have h4 : h / 2 ^ (60 - 4 * k) &&& 15 ≤ 15 := Nat.and_le_right
        generalize h / 2 ^ (60 - 4 * k) &&& 15 = x at *
        simp only [wrap64]; omega
      rw [hd]
      have HD := Box.mk (hex_digit (z := (d : Int)) (by omega) (by omega))
      refine (refHex_any (d : Int) wr (by omega) (by omega)).mono ?_
      rintro e w4 ⟨rfl, hb4⟩
      generalize fmtS 16 (d : Int) = t at *
      have hts : t.size ≤ 10 := by have := HD.out.1; omega
      have HM2 := Box.mk (show (s ++ t).size = k + 1 ∧ (s ++ t).data.toList.all hexOk = true ∧ Below w.heap.size w w4 from ⟨by rw [ByteArray.size_append, HM.out.1, HD.out.1], by rw [ba_app_list, List.all_append, HM.out.2.1, HD.out.2]; rfl, below_trans HM.out.2.2 hb4⟩)
      clear hb4 HM HD hd
      go_wp2_with fail
      go_roundw
      case rel => exact ⟨k + 1, by omega, by go_num, s ++ t, rfl, by have := HM2.out.1; omega, HM2⟩
      case measure => simp [intOf]; omega
    · obtain rfl : k = 16 := by omega
      go_wp2_with fail
      go_ret
      exact ⟨s, rfl, HM.out.1, HM.out.2.1, HM.out.2.2⟩

set_option maxHeartbeats 1000000 in
theorem srcID_any (g : Nat) (a : Option Addr) (n c : Nat) (w : World) (h : Src w g a n c) :
    Calls Tryd.prog 31 #[.pointer (some ⟨g, 0, none⟩)] w fun e w' => ∃ s : ByteArray, e = .returned (.string s) ∧ s.size = 16 ∧ s.data.toList.all hexOk = true ∧ Src w' g a n c ∧ w.grownBy w' (some g) := by
  have H0 := Box.mk h
  clear h
  go_enter Tryd.func31, Tryd.ntmps31
  go_wp2_with fail
  refine (next_any g 8 a n c w H0.out (by decide) (by decide)).mono ?_
  rintro e w1 ⟨k, hk, rfl, hsrc, hg1⟩
  have HS := Box.mk hsrc
  have HG := Box.mk hg1
  clear hsrc hg1 H0
  go_wp2_with fail
  refine (refNewID_any k 7 w1 (by omega) (by decide)).mono ?_
  rintro e w2 ⟨s, rfl, hz, hx, hb⟩
  have HF := Box.mk (And.intro hz (And.intro hx (And.intro (HS.out.keep hb) (grownBy_trans HG.out (grownBy_below hb)))))
  clear hz hx hb
  go_wp2_with fail
  go_ret
  exact ⟨s, rfl, HF.out.1, HF.out.2.1, HF.out.2.2.1, HF.out.2.2.2⟩
end Go.Proofs.YtbcjchbmiknjdaaDoor
namespace Go.Proofs.YtbcjchbmiknjdaaDoor
open Go.RowKit

theorem trimL_none : ∀ l : List UInt8, l.all (fun c => !blankB c) = true → trimL l = l := fun l h => by
  have hd : ∀ k : List UInt8, k.all (fun c => !blankB c) = true → k.dropWhile blankB = k := fun k hk => by
    cases k with
    | nil => rfl
    | cons a t =>
      rw [List.all_cons, Bool.and_eq_true] at hk
      have : blankB a = false := by simpa using hk.1
      rw [List.dropWhile_cons, this]; rfl
  have hr : rdrop blankB l = l := by
    unfold rdrop
    rw [hd l.reverse (by rw [List.all_reverse]; exact h), List.reverse_reverse]
  unfold trimL
  rw [hr, hd l h]
def hostF : Fld := (⟨#[72, 111, 115, 116]⟩, ⟨#[104]⟩)
def cohort : ByteArray := ⟨#[99, 111, 104, 111, 114, 116, 61]⟩
def cookF (s : ByteArray) : Fld := (⟨#[67, 111, 111, 107, 105, 101]⟩, cohort ++ s)
def expF : Fld := (⟨#[69, 120, 112, 101, 99, 116]⟩, ⟨#[49, 48, 48, 45, 99, 111, 110, 116, 105, 110, 117, 101]⟩)
def IdOk (s : ByteArray) : Prop := s.size = 16 ∧ s.data.toList.all hexOk = true
def RF1 (x : List Fld) : Prop := ∃ y, (∀ f ∈ y, SrcF f) ∧ y.length ≤ 3 ∧ x = y ++ [hostF]
def RF2 (x : List Fld) : Prop := RF1 x ∨ ∃ y s, RF1 y ∧ IdOk s ∧ x = y ++ [cookF s]
def RF3 (x : List Fld) : Prop := RF2 x ∨ ∃ y, RF2 y ∧ x = y ++ [expF]
theorem host_made : MadeF hostF := ⟨by decide +kernel, by decide, by decide⟩
theorem exp_made : MadeF expF := ⟨by decide +kernel, by decide, by decide⟩
theorem hex_byte {c : UInt8} (h : hexOk c = true) : valB c = true ∧ blankB c = false := by
  have hk : ∀ k : Fin 256, hexOk (UInt8.ofNat k.val) = true → valB (UInt8.ofNat k.val) = true ∧ blankB (UInt8.ofNat k.val) = false := by decide +kernel
  have := hk ⟨c.toNat, c.toNat_lt⟩
  simp only [UInt8.ofNat_toNat] at this
  exact this h
theorem cook_made {s : ByteArray} (h : IdOk s) : MadeF (cookF s) := by
  have hl : (cohort ++ s).data.toList = cohort.data.toList ++ s.data.toList := ba_app_list _ _
  have hv : valS (cohort ++ s) = true := by
    unfold valS visS
    have h1 : trimL (cohort ++ s).data.toList = (cohort ++ s).data.toList := trimL_none _ (by
      rw [hl, List.all_append]
      have : cohort.data.toList.all (fun c => !blankB c) = true := by decide
      rw [this, Bool.true_and, List.all_eq_true]
      intro c hc
      rw [(hex_byte (List.all_eq_true.1 h.2 c hc)).2]; rfl)
    have h2 : trimBA (cohort ++ s) = cohort ++ s := ba_ext (by rw [trimBA_list, h1])
    rw [h2]
    simp only [beq_self_eq_true, Bool.and_true]
    rw [hl, List.all_append]
    have : cohort.data.toList.all valB = true := by decide +kernel
    rw [this, Bool.true_and, List.all_eq_true]
    intro c hc
    exact (hex_byte (List.all_eq_true.1 h.2 c hc)).1
  refine ⟨?_, by show 6 ≤ 1000; decide, ?_⟩
  · show fldB _ _ = true
    unfold fldB
    rw [show valS (cookF s).2 = true from hv]
    show (tokS ⟨#[67, 111, 111, 107, 105, 101]⟩ && true) = true
    decide +kernel
  · show (cohort ++ s).size ≤ 1000
    rw [ByteArray.size_append, h.1]; decide
theorem RF1.made {x : List Fld} (h : RF1 x) : (∀ f ∈ x, MadeF f) ∧ x.length ≤ 4 := by
  obtain ⟨y, h1, h2, rfl⟩ := h
  refine ⟨fun f hf => ?_, by rw [List.length_append]; show _ + 1 ≤ 4; omega⟩
  rcases List.mem_append.1 hf with h | h
  · exact (h1 f h).made
  · obtain rfl := List.mem_singleton.1 h; exact host_made
theorem RF2.made {x : List Fld} (h : RF2 x) : (∀ f ∈ x, MadeF f) ∧ x.length ≤ 5 := by
  rcases h with h | ⟨y, s, h1, h2, rfl⟩
  · exact ⟨h.made.1, by have := h.made.2; omega⟩
  · refine ⟨fun f hf => ?_, by have := h1.made.2; rw [List.length_append]; show _ + 1 ≤ 5; omega⟩
    rcases List.mem_append.1 hf with h | h
    · exact h1.made.1 f h
    · obtain rfl := List.mem_singleton.1 h; exact cook_made h2
theorem RF3.made {x : List Fld} (h : RF3 x) : (∀ f ∈ x, MadeF f) ∧ x.length ≤ 6 := by
  rcases h with h | ⟨y, h1, rfl⟩
  · exact ⟨h.made.1, by have := h.made.2; omega⟩
  · refine ⟨fun f hf => ?_, by have := h1.made.2; rw [List.length_append]; show _ + 1 ≤ 6; omega⟩
    rcases List.mem_append.1 hf with h | h
    · exact h1.made.1 f h
    · obtain rfl := List.mem_singleton.1 h; exact exp_made

def methF : List ByteArray := [⟨#[71, 69, 84]⟩, ⟨#[71, 69, 84]⟩, ⟨#[80, 79, 83, 84]⟩, ⟨#[72, 69, 65, 68]⟩, ⟨#[80, 85, 84]⟩]
def targF : List ByteArray := [⟨#[47]⟩, ⟨#[47, 97, 63, 98]⟩, ⟨#[47, 114, 111, 108, 108, 111, 117, 116]⟩, ⟨#[47, 114, 101, 112, 111, 114, 116, 115]⟩]
theorem methF_ok : (methF.all fun s => tokS s && decide (s.size ≤ 1000)) = true := by decide +kernel
theorem targF_ok : (targF.all fun s => targetS s && decide (s.size ≤ 1000)) = true := by decide +kernel
theorem meth_at {s : ByteArray} (h : s ∈ methF) : tokS s = true ∧ s.size ≤ 1000 := by
  have := List.all_eq_true.1 methF_ok s h
  simpa using this
theorem targ_at {s : ByteArray} (h : s ∈ targF) : targetS s = true ∧ s.size ≤ 1000 := by
  have := List.all_eq_true.1 targF_ok s h
  simpa using this

/-- The request on the way: its variable at gr, the result's at q. -/
def RqSt (R : List Fld → Prop) (B g : Nat) (a : Option Addr) (n c : Nat) (w0 : World) (gr q : Nat) (m t : ByteArray) (w : World) : Prop :=
  ∃ z vF x, (z = 0 ∨ z = 1) ∧ w.heap[gr]? = some (.cells #[.string m, .string t, .int .i64 z, vF, .bool false, .slice none 0 0] 27 (0, 0)) ∧ OwnF B w vF x ∧ R x ∧
    Src w g a n c ∧ w0.grownBy w (some g) ∧ RVar w q ⟨#[]⟩ ⟨#[]⟩ 0
theorem RqSt.keep {R : List Fld → Prop} {B g : Nat} {a : Option Addr} {n c : Nat} {w0 : World} {gr q : Nat} {m t : ByteArray} {w w' : World} (h : RqSt R B g a n c w0 gr q m t w) (hb : Below w.heap.size w w') : RqSt R B g a n c w0 gr q m t w' := by
  obtain ⟨z, vF, x, h1, h2, h3, h5, h8, h9, h10⟩ := h
  exact ⟨z, vF, x, h1, by rw [hb.block gr (Array.getElem?_eq_some_iff.1 h2).1]; exact h2, h3.keep hb, h5, h8.keep hb, grownBy_trans h9 (grownBy_below hb), h10.keep hb⟩
theorem OwnF.mono {B B' : Nat} {w : World} {v : Value} {l : List Fld} (h : OwnF B w v l) (hb : B' ≤ B) : OwnF B' w v l := by
  obtain ⟨h1, h2⟩ := h
  refine ⟨h1, ?_⟩
  rcases h2 with h2 | ⟨g, cap, cur, hv, hg, hc, r⟩
  · exact .inl h2
  · exact .inr ⟨g, cap, cur, hv, Nat.le_trans hb hg, hc, r⟩
theorem Own.mono {B B' : Nat} {w : World} {v : Value} {l : List UInt8} (h : Own B w v l) (hb : B' ≤ B) : Own B' w v l := by
  obtain ⟨h1, h2⟩ := h
  refine ⟨h1, ?_⟩
  rcases h2 with h2 | ⟨g, cap, cur, hv, hg, hc, r⟩
  · exact .inl h2
  · exact .inr ⟨g, cap, cur, hv, Nat.le_trans hb hg, hc, r⟩
/-- What the blocks' numbers are to each other. -/
structure RqN (B g : Nat) (a : Option Addr) (n : Nat) (w0 : World) (gr q : Nat) : Prop where
  lo : g < w0.heap.size
  src : ∀ x, a = some x → 0 < n → x.block < w0.heap.size
  hq : q = w0.heap.size
  hgr : q < gr
  top : gr < B
theorem RqSt.next {R : List Fld → Prop} {B g : Nat} {a : Option Addr} {n c : Nat} {w0 : World} {gr q : Nat} {m t : ByteArray} {w w' : World} (h : RqSt R B g a n c w0 gr q m t w) (N : RqN B g a n w0 gr q) (hg : w.grownBy w' (some g)) (hs : Src w' g a n c) :
    RqSt R B g a n c w0 gr q m t w' := by
  obtain ⟨z, vF, x, h1, h2, h3, h5, h8, h9, h10⟩ := h
  have n1 := N.lo
  have n2 := N.hq
  have n3 := N.hgr
  have n4 := N.top
  refine ⟨z, vF, x, h1, ?_, h3.grown hg (fun k hk e => ?_), h5, hs, grownBy_trans h9 hg, ?_⟩
  · rw [hg.block gr (Array.getElem?_eq_some_iff.1 h2).1 (fun e => by have := Option.some.inj e; omega)]; exact h2
  · have := (h3.lt hk).1; have := Option.some.inj e; omega
  · exact (hg.block q (Array.getElem?_eq_some_iff.1 h10).1 (fun e => by have := Option.some.inj e; omega)).trans h10
theorem grownBy_setCell {w : World} {gr i : Nat} {v : Value} : w.grownBy (w.setCell ⟨gr, i, none⟩ v) (some gr) :=
  ⟨rfl, rfl, rfl, by simp [World.setCell], fun k _ hne => heap_setCell_other w ⟨gr, i, none⟩ k _ (fun e => hne (by rw [e]))⟩
theorem RqSt.put {R' : List Fld → Prop} {B g : Nat} {a : Option Addr} {n c : Nat} {w0 : World} {gr q : Nat} {m t : ByteArray} {w : World} (N : RqN B g a n w0 gr q) {z : Int} {vF : Value} {x : List Fld} {cs : Array Value} {i : Nat} {v : Value}
    (hz : z = 0 ∨ z = 1) (hrow : w.heap[gr]? = some (.cells cs 27 (0, 0))) (hcs : cs.setIfInBounds i v = #[.string m, .string t, .int .i64 z, vF, .bool false, .slice none 0 0]) (hF : OwnF B w vF x) (hR : R' x)
    (hS : Src w g a n c) (hG : w0.grownBy w (some g)) (hq : RVar w q ⟨#[]⟩ ⟨#[]⟩ 0) : RqSt R' B g a n c w0 gr q m t (w.setCell ⟨gr, i, none⟩ v) := by
  have n1 := N.lo
  have n2 := N.hq
  have n3 := N.hgr
  have n4 := N.top
  have hg : w.grownBy (w.setCell ⟨gr, i, none⟩ v) (some gr) := grownBy_setCell
  refine ⟨z, vF, x, hz, ?_, hF.grown hg (fun k hk e => ?_), hR, hS.other hg (by omega) (fun y e h0 => by have := N.src y e h0; omega), grownBy_new hG hg (fun j e => by have := Option.some.inj e; omega), ?_⟩
  · rw [← hcs]; exact heap_setCell_same w gr i cs 27 v hrow
  · have := (hF.lt hk).1; have := Option.some.inj e; omega
  · exact (heap_setCell_other w ⟨gr, i, none⟩ q _ (by show q ≠ gr; omega)).trans hq
/-- One field more: the variable, the source and the rest are as they were. -/
theorem RqSt.app {R' : List Fld → Prop} {B g : Nat} {a : Option Addr} {n c : Nat} {w0 : World} {gr q : Nat} {m t : ByteArray} {w w' : World} (N : RqN B g a n w0 gr q) {z : Int} {cs : Array Value} {v' : Value} {x' : List Fld} {row : Option Nat}
    (hz : z = 0 ∨ z = 1) (hrow : w.heap[gr]? = some (.cells cs 27 (0, 0))) (hcs : cs.setIfInBounds 3 v' = #[.string m, .string t, .int .i64 z, v', .bool false, .slice none 0 0]) (hr : ∀ k, row = some k → B ≤ k) (hg : w.grownBy w' row) (hF : OwnF B w' v' x') (hR : R' x')
    (hS : Src w g a n c) (hG : w0.grownBy w (some g)) (hq : RVar w q ⟨#[]⟩ ⟨#[]⟩ 0) : RqSt R' B g a n c w0 gr q m t (w'.setCell ⟨gr, 3, none⟩ v') := by
  have n1 := N.lo
  have n2 := N.hq
  have n3 := N.hgr
  have n4 := N.top
  refine RqSt.put N hz ?_ hcs hF hR (hS.grown hg (fun e => by have := hr g e.symm; omega) (fun y e h0 e2 => by have := hr _ e2.symm; have := N.src y e h0; omega)) (grownBy_new hG hg (fun j e => by have := hr j e; omega)) ?_
  · rw [hg.block gr (Array.getElem?_eq_some_iff.1 hrow).1 (fun e => by have := hr gr e.symm; omega)]; exact hrow
  · exact (hg.block q (Array.getElem?_eq_some_iff.1 hq).1 (fun e => by have := hr q e.symm; omega)).trans hq

/-- What Request makes. -/
def ReqMade (w : World) (g : Nat) (a : Option Addr) (n c : Nat) (e : Ending) (w' : World) : Prop :=
  ∃ m t z vF x fr vB l, e = .returned (.agg #[.string m, .string t, .int .i64 z, vF, .bool fr, vB]) ∧ m ∈ methF ∧ t ∈ targF ∧ (z = 0 ∨ z = 1) ∧ OwnF w.heap.size w' vF x ∧ Own w.heap.size w' vB l ∧
    RF3 x ∧ l.length ≤ 30 ∧ (fr = false → l = []) ∧ Src w' g a n c ∧ w.grownBy w' (some g)

end Go.Proofs.YtbcjchbmiknjdaaDoor
