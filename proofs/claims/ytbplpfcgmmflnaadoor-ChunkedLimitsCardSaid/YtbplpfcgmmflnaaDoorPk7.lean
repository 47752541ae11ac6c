/- The law ChunkedLimits, walked. -/
import Derived.Test.YtbplpfcgmmflnaaDoorPk1
import Derived.Test.YtbplpfcgmmflnaaDoorPk2
import Derived.Test.YtbplpfcgmmflnaaDoorPk3
import Derived.Test.YtbplpfcgmmflnaaDoorPk4
import Derived.Test.YtbplpfcgmmflnaaDoorPk5
import Derived.Test.YtbplpfcgmmflnaaDoorPk6
import Derived.Test.YtbplpfcgmmflnaaDoorRows
import Derived.WalkKit
import Derived.WalkSpells
import Derived.WalkLawsBesides
import Derived.BigQuiet
import Derived.Deep.QuietTactic
import Derived.Lib.Bytealg
import Derived.Lib.IndexLaws
import Derived.Lib.Hide
import Derived.Laws.IdiomStrings
import Derived.Lib.SlTrimSet
import Derived.Lib.IndexBytes
import Derived.Lib.Split
import Derived.Deep.AppendLies
import Derived.Shelf.Strings.SlTrimAscii
import Derived.Shelf.Strings.SplitShaped
import Derived.Shelf.LaysM
import Derived.Shelf.Strings.BuilderK
import Derived.Shelf.Strconv.Itoa4
import Derived.Test.YtbplpfcgmmflnaaDoorProg
import Derived.Lib.SplitLaws
import Derived.WalkSmall
import Derived.ProofKit
import Derived.OpenShut
import Derived.Lib.Strings
import Derived.SliceStrings
import Derived.Deep.Quiet
import Derived.Tactics
import Derived.KernelRfl
import Derived.Below
import Derived.Laws.Bits64
import Derived.Lib.SlBytesConst
import Derived.Maps.AppendAt
import Derived.Laws.AppendOwnNone
import Derived.Great.BuildSlice
import Derived.Laws.Rows
import Derived.Laws.BitsAllLaws
import Derived.Laws.Shifts
import Derived.Maps.OwnOps
import Derived.Maps.OwnSet
import Derived.Deep.SlicePairs
import Derived.Lib.AppendZerosOnto
import Derived.Lib.AppendStr
import Derived.Laws.CopyOwn
import Derived.OwnWalk
import Derived.Laws.Strings3
import Derived.Lib.ItoaMem
import Derived.Laws.Concat
import Derived.Deep.Matrix
import Derived.IntWalk
import Derived.Sort.Grow
import Derived.Lib.LaidTab
import Derived.LaidSub
import Derived.Lib.ConvBytes
import Derived.Laws.RangeAny
import Derived.Laws.Tables
namespace Go.Proofs.YtbplpfcgmmflnaaDoor
open Go.RowKit

def zL : List UInt8 := [48, 13, 10]
set_option maxRecDepth 100000 in
set_option maxHeartbeats 8000000 in
theorem chunkedLimits_any (n m : Int) (w : World) (ht : Tabs w) :
    Calls Tryd.prog 8 #[.int .i64 n, .int .i64 m] w fun e w' => e = .returned (.bool true) ∧ Below w.heap.size w w' := by
  have HT := Box.mk ht
  clear ht
  obtain ⟨q1, hq1, hqe1⟩ := withI_range n 200 (by decide) (by decide)
  obtain ⟨q2, hq2, hqe2⟩ := withI_range m 1200 (by decide) (by decide)
  have HQ1 := Box.mk hqe1
  have HQ2 := Box.mk hqe2
  clear hqe1 hqe2
  obtain ⟨i0, hi, hz0, hz1, hz2⟩ := info_parts Tryd.info5
  have HI := Box.mk (show i0.bytes * q1 ≤ 281474976710656 by rw [hz2]; omega)
  have HL := Box.mk (show q1 ≤ maxLen by unfold maxLen; omega)
  have HZ := Box.mk (And.intro hi (And.intro hz0 hz1))
  clear hi hz0 hz1 hz2
  go_enter Tryd.func8, Tryd.ntmps8
  go_wp2_with fail
  refine (withinF n 200 _ (by decide) (by decide)).mono ?_
  rintro e w1 ⟨he, rfl⟩
  rw [HQ1.out] at he
  subst he
  go_wp2_with fail
  refine (withinF m 1200 _ (by decide) (by decide)).mono ?_
  rintro e w1 ⟨he, rfl⟩
  rw [HQ2.out] at he
  subst he
  go_wp2_with (at_make; refine wpList_make_full _ rfl _ _ 23 rfl w1.heap.size 5 i0 (.int .u8 0) 1 Tryd.underlying23 HZ.out.1 HZ.out.2.1 HZ.out.2.2 .i64 .i64 _ _ q1 rfl rfl rfl rfl HI.out HL.out (Nat.le_refl _) ?c1)
  case c1 =>
    intro w2 hown hgrow
    have HO2 := Box.mk (show Own w1.heap.size w2 (.slice (some ⟨w1.heap.size, 0, none⟩) q1 q1) (List.replicate 0 120 ++ List.replicate (q1 - 0) 0) by
      unfold Own
      have e : bytesV (List.replicate 0 120 ++ List.replicate (q1 - 0) 0) = (madeCells #[.int .u8 0] q1).toList := by
        rw [toList_madeCells_one, List.replicate_zero, List.nil_append, Nat.sub_zero]
        unfold bytesV
        rw [List.map_replicate]; rfl
      have e3 : (List.replicate 0 (120 : UInt8) ++ List.replicate (q1 - 0) 0).length = q1 := by simp
      rw [e, e3]
      exact hown)
    have HB2 := Box.mk ((Below.refl w1.heap.size w1).grown hgrow (Nat.le_refl _) fun k hk => by cases hk)
    have hg2 := (HO2.out.lt (k := w1.heap.size) rfl).2
    clear hown hgrow HI HL HZ
    go_wp2_with fail
    go_loopw [6] (fun iv wr => ∃ i : Nat, i ≤ q1 ∧ iv = .int .i64 i ∧ Box (Own w1.heap.size wr (.slice (some ⟨w1.heap.size, 0, none⟩) q1 q1) (List.replicate i 120 ++ List.replicate (q1 - i) 0) ∧ Below w1.heap.size w1 wr)) (fun iv _ => q1 - (intOf iv).toNat)
    case atStart => exact ⟨0, Nat.zero_le _, rfl, ⟨HO2.out, HB2.out⟩⟩
    case round =>
      clear HO2 HB2
      obtain ⟨i, hiq, rfl, HM⟩ := hrel
      by_cases hlt : i < q1
      · have HLE := Box.mk (show (List.replicate i (120 : UInt8) ++ List.replicate (q1 - i) 0).length = q1 by simp; omega)
        have hcell := HM.out.1.bytes.cellAt (k := i) (by rw [HLE.out]; exact hlt)
        have hfz := HM.out.1.thawed i
        have HST := Box.mk (HM.out.1.put8 i 120)
        have HNX := Box.mk (set_line i q1 hlt)
        generalize (List.replicate i (120 : UInt8) ++ List.replicate (q1 - i) 0) = la at *
        go_wp2_with fail
        go_roundw
        case rel => exact ⟨i + 1, by omega, by go_num, ⟨by rw [← HNX.out]; exact HST.out.1, HM.out.2.grown HST.out.2 HM.out.2.size (fun q e => by have h9 : w1.heap.size = q := Option.some.inj e; omega)⟩⟩
        case measure => simp [intOf]; omega
      · obtain rfl : i = q1 := by omega
        obtain ⟨la, hla⟩ : ∃ la, la = List.replicate i (120 : UInt8) := ⟨_, rfl⟩
        have hll : la.length = i := by rw [hla]; simp
        have hby := HM.out.1.bytes
        rw [Nat.sub_self, List.replicate_zero, List.append_nil, ← hla] at hby
        have hcv := conv_bytes hby
        rw [hll] at hcv
        have HB3 := Box.mk HM.out.2
        obtain ⟨x1, hx1⟩ : ∃ x : ByteArray, x = ⟨la.toArray⟩ := ⟨_, rfl⟩
        have hx1z : x1.size = i := by rw [hx1]; show la.toArray.size = i; rw [List.size_toArray, hll]
        rw [← hx1] at hcv
        have hadd1 := fun W => run_string_add_sum (P := Tryd.prog) (w := W) ⟨#[49, 59]⟩ x1 (by show 2 + x1.size ≤ _; omega)
        obtain ⟨s1, hs1⟩ : ∃ s, s = (⟨#[49, 59]⟩ : ByteArray) ++ x1 := ⟨_, rfl⟩
        rw [← hs1] at hadd1
        have hs1z : s1.size = i + 2 := by rw [hs1, ByteArray.size_append, hx1z]; show 2 + i = _; omega
        have hadd2 := fun W => run_string_add_sum (P := Tryd.prog) (w := W) s1 ⟨#[13, 10, 97, 13, 10, 48, 13, 10, 13, 10]⟩ (by show s1.size + 10 ≤ _; omega)
        obtain ⟨s2, hs2⟩ : ∃ s, s = s1 ++ (⟨#[13, 10, 97, 13, 10, 48, 13, 10, 13, 10]⟩ : ByteArray) := ⟨_, rfl⟩
        rw [← hs2] at hadd2
        have hs2z : s2.size = i + 12 := by rw [hs2, ByteArray.size_append, hs1z]; show i + 2 + 10 = _; omega
        obtain ⟨b, hb⟩ : ∃ b, b = bodyX i := ⟨_, rfl⟩
        have hbs : s2.data.toList = b := by
          rw [hb, hs2, hs1, hx1, hla]
          unfold bodyX lineX
          simp
        have hbl : b.length = s2.size := by rw [← hbs, Array.length_toList]; rfl
        have hcvb := fun W => Lib.run_convert_string_bytes (P := Tryd.prog) W 9 23 5 s2 Tryd.underlying9 Tryd.underlying23 Tryd.underlying5
        have HBY := Box.mk (show IsBytes (Lib.bytesWorld wr 5 s2) (some ⟨wr.heap.size, 0, none⟩) b (grownCap wr s2.size 0 5) by
          rw [← hbs]; exact isBytes_bytesWorld wr s2 (by omega))
        have HB4 := Box.mk (below_trans HB3.out (below_bytesWorld wr 5 s2))
        have HBB := Box.mk hb
        have HBL := Box.mk hbl
        have hbz : b.length ≤ 220 := by rw [hbl]; omega
        have HS2Z := Box.mk hs2z
        clear HM hby hx1 hx1z hs1 hs1z hs2 hs2z hbs hbl hb hla hll hlt hiq
        generalize hW4 : Lib.bytesWorld wr 5 s2 = W4 at *
        have hcall := projDecode_any b (some ⟨wr.heap.size, 0, none⟩) (grownCap wr s2.size 0 5) 0 W4 HBY.out (by omega) (tabs_below HT.out HB4.out)
        rw [HBL.out] at hcall
        have HCALL := Box.mk hcall
        clear hcall
        go_wp2_with fail
        refine HCALL.out.mono ?_
        rintro e w5 ⟨oa, oc, he, _, hb5⟩
        have hD1 : (decodeS b).1 = 0 ∧ i + 2 ≤ 128 ∨ (decodeS b).1 = 3 ∧ ¬ i + 2 ≤ 128 := by
          rw [HBB.out]
          by_cases h : i + 2 ≤ 128
          · exact .inl ⟨limX_ok h, h⟩
          · exact .inr ⟨limX_bad h, h⟩
        generalize decodeS b = R at *
        obtain ⟨er, out, kk⟩ := R
        simp only [] at he hD1
        subst he
        have HD1 := Box.mk hD1
        have HB5 := Box.mk (below_trans HB4.out hb5)
        clear hD1 hb5 hcvb hadd1 hadd2 hcv hW4 HCALL HBY HB4 HB3
        have kc := fun (w : World) (C : Array Value) (n c : Nat) => Lib.run_convert_bytes_const (P := Tryd.prog) w 23 5 C n c Tryd.underlying23 Tryd.underlying5
        have HT0 := Box.mk (show OwnT w1 (w5.alloc (.cells (bytesV zL).toArray 5 (3, 4))) (.slice (some ⟨w5.heap.size, 0, none⟩) 3 3) (trlP 0) from
          .inr ⟨_, rfl, row_bytesC (l := zL) (heap_alloc_new w5 (.cells (bytesV zL).toArray 5 (3, 4))) (by decide)⟩)
        have HB6 := Box.mk (below_trans HB5.out (below_oneF w5 (.cells (bytesV zL).toArray 5 (3, 4))))
        go_wp2_with fail
        clear kc
        go_loopw [11, 12] (fun tv sv wx => ∃ sz k : Nat, sv = .int .i64 sz ∧ sz ≤ 1200 ∧ Box (sz = 12 * k ∧ OwnT w1 wx tv (trlP k) ∧ Below w1.heap.size w1 wx)) (fun _ sv _ => q2 - (intOf sv).toNat)
        case atStart => exact ⟨0, 0, rfl, Nat.zero_le _, ⟨rfl, HT0.out, HB6.out⟩⟩
        case round =>
          clear HT0 HB6
          obtain ⟨sz, k, rfl, hsz, HM⟩ := hrel
          have HTL := Box.mk (trlP_length k)
          have htl : (trlP k).length ≤ 1203 := by have := HM.out.1; rw [HTL.out]; omega
          by_cases hlt : sz + 12 ≤ q2
          · have hlt2 : (sz : Int) + 12 ≤ (q2 : Int) := by omega
            go_wp2_with (at_builtin; refine wpList_append_ownt w1 _ rfl _ _ rfl rfl HM.out.2.1 HM.out.2.2 rfl (t := ⟨#[65, 58, 32, 51, 52, 53, 54, 55, 56, 57, 13, 10]⟩) (by decide) (by show _ + 12 ≤ _; omega) ?_)
            intro v7 w7 ho7 hb7
            have HN := Box.mk (show sz + 12 = 12 * (k + 1) ∧ OwnT w1 w7 v7 (trlP (k + 1)) ∧ Below w1.heap.size w1 w7 from ⟨by have := HM.out.1; omega, .inl (by rw [← trlP_next]; exact ho7), hb7⟩)
            clear ho7 hb7 HM
            go_wp2_with fail
            go_roundw
            case rel => exact ⟨sz + 12, k + 1, by go_num, by omega, HN⟩
            case measure => simp [intOf]; omega
          · have hlt2 : ¬ (sz : Int) + 12 ≤ (q2 : Int) := by omega
            go_wp2_with (at_builtin; refine wpList_append_ownt w1 _ rfl _ _ rfl rfl HM.out.2.1 HM.out.2.2 rfl (t := crlfB) (by decide) (by show _ + 2 ≤ _; omega) ?_)
            intro v7 w7 ho7 hb7
            obtain ⟨t7, ht7⟩ : ∃ t7, t7 = trlX k := ⟨_, rfl⟩
            have ho7 : Own w1.heap.size w7 v7 t7 := by rw [ht7]; exact ho7
            have ht7l : t7.length ≤ 1205 := by rw [ht7]; unfold trlX; rw [List.length_append]; show _ + 2 ≤ _; omega
            have hD2 : (decodeS t7).1 = 0 ∧ sz + 2 ≤ 1024 ∨ (decodeS t7).1 = 3 ∧ ¬ sz + 2 ≤ 1024 := by
              have hk := HM.out.1
              rw [ht7]
              by_cases h : 12 * k + 2 ≤ 1024
              · exact .inl ⟨limT_ok h, by omega⟩
              · exact .inr ⟨limT_bad h, by omega⟩
            obtain ⟨fa, fc, rfl, hfb⟩ := ho7.val
            have HFB := Box.mk hfb
            have HB7 := Box.mk hb7
            have HD2 := Box.mk hD2
            clear ho7 hb7 hfb ht7 hD2 HM HTL htl hlt hlt2
            go_wp2_with fail
            refine (projDecode_any t7 fa fc 0 _ HFB.out (by omega) (tabs_below HT.out HB7.out)).mono ?_
            rintro e w8 ⟨oa8, oc8, he, _, hb8⟩
            have hD3 := HD2.out
            clear HD2
            generalize decodeS t7 = R8 at *
            obtain ⟨er8, out8, k8⟩ := R8
            simp only [] at he hD3
            subst he
            have HB8 := Box.mk (below_trans HB7.out hb8)
            clear hb8 HFB
            have hD4 := HD1.out
            clear HD1
            rcases hD4 with ⟨rfl, hi1⟩ | ⟨rfl, hi1⟩ <;> rcases hD3 with ⟨rfl, hi2⟩ | ⟨rfl, hi2⟩
            all_goals
              have hi3 : ((i : Int) + 2 ≤ 128) = ((i + 2 ≤ 128) : Prop) := propext ⟨fun h => by omega, fun h => by omega⟩
              have hi4 : ((sz : Int) + 2 ≤ 1024) = ((sz + 2 ≤ 1024) : Prop) := propext ⟨fun h => by omega, fun h => by omega⟩
              go_wp2_with fail
              refine (awakeC_any 0 _ (tabs_below HT.out HB8.out)).mono ?_
              rintro e w9 ⟨rfl, hb9⟩
              have HB9 := Box.mk (below_trans HB8.out hb9)
              clear hb9
              go_wp2_with fail
              go_ret
              exact ⟨rfl, HB9.out⟩
end Go.Proofs.YtbplpfcgmmflnaaDoor
