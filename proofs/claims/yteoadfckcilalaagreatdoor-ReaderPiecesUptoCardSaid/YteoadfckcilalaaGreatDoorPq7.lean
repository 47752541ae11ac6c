/- Package chunked: readLine. Package chunked: Feed. The project's reader: readChunks: errors. Queues: single operations on a queue's variable; Peek and SameQueue. Queues: Take. Queues: the reference's Take. -/
import Derived.Test.YteoadfckcilalaaGreatDoorPq1
import Derived.Test.YteoadfckcilalaaGreatDoorPq2
import Derived.Test.YteoadfckcilalaaGreatDoorPq3
import Derived.Test.YteoadfckcilalaaGreatDoorPq4
import Derived.Test.YteoadfckcilalaaGreatDoorPq5
import Derived.Test.YteoadfckcilalaaGreatDoorPq6
import Derived.Test.YteoadfckcilalaaGreatDoorRows
import Derived.WalkKit
import Derived.WalkSpells
import Derived.WalkLawsBesides
import Derived.BigQuiet
import Derived.Deep.QuietTactic
import Derived.Lib.Bytealg
import Derived.Lib.IndexLaws
import Derived.Lib.Hide
import Derived.Laws.IdiomStrings
import Derived.Lib.SlTrimSet
import Derived.Lib.IndexBytes
import Derived.Lib.Split
import Derived.Deep.AppendLies
import Derived.Shelf.Strings.SlTrimAscii
import Derived.Shelf.Strings.SplitShaped
import Derived.Shelf.LaysM
import Derived.Shelf.Strings.BuilderK
import Derived.Shelf.Strconv.Itoa4
import Derived.Shelf.Strings.Prefix
import Derived.Shelf.Bytes.SlIndexWhole
import Derived.Test.YteoadfckcilalaaGreatDoorProg
import Derived.Lib.SplitLaws
import Derived.WalkSmall
import Derived.ProofKit
import Derived.OpenShut
import Derived.Lib.Strings
import Derived.SliceStrings
import Derived.Deep.Quiet
import Derived.Tactics
import Derived.KernelRfl
import Derived.Below
import Derived.Laws.Bits64
import Derived.Lib.SlBytesConst
import Derived.Maps.AppendAt
import Derived.Laws.AppendOwnNone
import Derived.Great.BuildSlice
import Derived.Laws.Rows
import Derived.Laws.BitsAllLaws
import Derived.Laws.Shifts
import Derived.Maps.OwnOps
import Derived.Maps.OwnSet
import Derived.Deep.SlicePairs
import Derived.Lib.AppendZerosOnto
import Derived.Lib.AppendStr
import Derived.Laws.CopyOwn
import Derived.OwnWalk
import Derived.Laws.Strings3
import Derived.Lib.ItoaMem
import Derived.Laws.Concat
import Derived.Deep.Matrix
import Derived.IntWalk
import Derived.Sort.Grow
import Derived.Lib.LaidTab
import Derived.LaidSub
import Derived.Lib.ConvBytes
import Derived.Laws.RangeAny
import Derived.Deep.RegionHeld3
import Derived.LoopTactic
import Derived.Deep.DeepCutAuto
import Derived.Deep.MidRow
import Derived.Laws.Tables
import Derived.Deep.WholeRow
import Derived.StillTailTactics
import Derived.Deep.CutBlock
import Derived.Laws.Bits64b
import Derived.Lib.FrozenHead2
import Derived.Lib.LazyBuf
import Derived.ArgAppend
namespace Go.Proofs.YteoadfckcilalaaGreatDoor
open Go.RowKit

def RetLine (w : World) (g B : Nat) (v : Value) (r : Int × Chk) (e : Ending) (w' : World) : Prop :=
 e = .returned (.int .i64 r.1) ∧ (r.1 = 0 → ∃ v', CVar w' g r.2.ph r.2.left r.2.tr v' ∧ Own B w' v' r.2.line ∧ (v'.ownBlock = v.ownBlock ∨ v'.ownBlock = none ∨ ∃ k, v'.ownBlock = some k ∧ w.heap.size ≤ k)) ∧ Touch w w' g v.ownBlock
theorem RetLine.err {w w' : World} {g B : Nat} {v : Value} {r : Int × Chk} {e : Ending} {er : Int} (hr : r = (er, zeroC)) (he : e = .returned (.int .i64 er)) (h0 : ¬ er = 0) (ht : Touch w w' g v.ownBlock) : RetLine w g B v r e w' := by
 subst hr; exact ⟨he, fun h => absurd h h0, ht⟩
theorem RetLine.ok {w w' : World} {g B : Nat} {v v' : Value} {r : Int × Chk} {e : Ending} {p l t : Int} {ln : List UInt8} (hr : r = (0, ⟨p, l, t, ln⟩)) (he : e = .returned (.int .i64 0)) (hc : CVar w' g p l t v') (ho : Own B w' v' ln)
  (hb : v'.ownBlock = v.ownBlock ∨ v'.ownBlock = none ∨ ∃ k, v'.ownBlock = some k ∧ w.heap.size ≤ k) (ht : Touch w w' g v.ownBlock) : RetLine w g B v r e w' := by
 subst hr; exact ⟨he, fun _ => ⟨v', hc, ho, hb⟩, ht⟩
theorem own_cap {w : World} {a : Option Addr} {m : List UInt8} {z : UInt8} {c : Nat} (h : IsBytes w a (m ++ [z]) c) : m.length + 1 ≤ c := by
 rcases h with ⟨_, e, _⟩ | ⟨y, _, h1, _, _⟩
 · simp at e
 · simpa using h1
theorem own_lastC {w : World} {ad : Addr} {m : List UInt8} {z : UInt8} {c : Nat} (h : IsBytes w (some ad) (m ++ [z]) c) : w.cell? (ad.add m.length) = some (.int .u8 (z.toNat : Int)) := by
 rcases h with ⟨e, _⟩ | ⟨y, e, _, _, hc⟩
 · cases e
 · obtain rfl := Option.some.inj e
   have := hc m.length (by simp)
   simpa using this
set_option maxRecDepth 100000 in
set_option maxHeartbeats 2000000 in
theorem readLine_full (l t : Int) (x : UInt8) (g : Nat) (v : Value) (w : World) (hc : CVar w g 3 l t v) (ht0 : 0 ≤ t ∧ t ≤ 1024) (ht : 1024 < t + 1) :
  Calls Tryz.prog 154 #[.pointer (some ⟨g, 0, none⟩), .int .u8 x.toNat] w fun e w' => e = .returned (.int .i64 3) ∧ Touch w w' g v.ownBlock := by
 obtain ⟨ha0, ha1, ha2, ha3⟩ := hc.cells
 have hf2 := hc.frozen (i := 2)
 obtain ⟨hd0, hd1, hd2, hd3⟩ := (hc.setT (z := t + 1)).cells
 clear hc
 go_enter Tryz.func154, Tryz.ntmps154
 go_wp2_with fail
 go_ret
 exact ⟨rfl, Touch.ofVar (grownBy_setC _ _ _ _) _⟩
theorem Own.bytes2 {B : Nat} {w : World} {a : Option Addr} {l : List UInt8} {n c : Nat} (h : Own B w (.slice a n c) l) (_ : l ≠ []) : IsBytes w a l c := h.bytes
set_option maxRecDepth 100000 in
set_option maxHeartbeats 4000000 in
theorem readLine_n (p l t : Int) (line : List UInt8) (x : UInt8) (g B : Nat) (v : Value) (w : World) (hc : CVar w g p l t v) (ho : Own B w v line) (hB : B ≤ w.heap.size) (hg : g < B) (hp : p = 0 ∧ l = 0 ∧ t = 0 ∨ p = 2) (hl : line.length ≤ 129) :
  Calls Tryz.prog 154 #[.pointer (some ⟨g, 0, none⟩), .int .u8 x.toNat] w (RetLine w g B v (byteS ⟨p, l, t, line⟩ t x)) := by
 have HPP := Box.mk hp
 have ep : (p == 3) = false := by rw [beq_eq_false_iff_ne]; rcases hp with h | h <;> omega
 clear hp
 obtain ⟨va, vc, rfl, hvb⟩ := ho.val
 rcases last_cases line with rfl | ⟨m, z, rfl⟩
 · have hcr : crB [] = false := rfl
   obtain ⟨n, hn⟩ : ∃ n : Nat, n = ([] : List UInt8).length := ⟨_, rfl⟩
   rw [← hn] at hc ho ⊢
   have HN := Box.mk (show n = 0 from hn)
   have hni : (n : Int) ≤ 0 := by rw [hn]; decide
   clear hn
   obtain ⟨ha0, ha1, ha2, ha3⟩ := hc.cells
   have HC := Box.mk (show CVar w g p l t (.slice va n vc) from hc)
   have HO := Box.mk (show Own B w (.slice va n vc) [] from ho)
   have HT := Box.mk (show Touch w w g (Value.slice va n vc).ownBlock from Touch.refl _ _ _)
   have hsz : B ≤ w.heap.size := by exact hB
   obtain ⟨hd0, hd1, hd2, hd3⟩ := HC.out.cells
   have hf3 := HC.out.frozen (i := 3)
   clear hc ho hvb
   by_cases hx : x = 10
   · subst hx
     have HP := Box.mk (byteS_ten (s := ⟨p, l, t, []⟩) (t := t) hcr)
     clear hcr
     rw [show (10 : UInt8).toNat = 10 from rfl]
     go_enter Tryz.func154, Tryz.ntmps154
     go_wp2_with fail
     go_ret
     exact RetLine.err HP.out rfl (by decide) HT.out
   · have e10 : ((x.toNat : Int) == 10) = false := by
      rw [beq_eq_false_iff_ne]; intro e; exact hx (UInt8.toNat_inj.1 (by rw [show (10 : UInt8).toNat = 10 from rfl]; omega))
     go_enter Tryz.func154, Tryz.ntmps154
     go_wp2_with (at_builtin; refine wpList_append_ownb _ rfl _ _ rfl rfl (HO.out.keep (below_oneF w (.cells #[.int .u8 (x.toNat : Int)] 5))) rfl (r := [x]) (isBytes_oneC w x) (by simp) (by simp; omega) ?_)
     intro v5 w5 hown hgr hbl
     have HBL := Box.mk (show v5.ownBlock = (Value.slice va n vc).ownBlock ∨ v5.ownBlock = none ∨ ∃ k, v5.ownBlock = some k ∧ w.heap.size ≤ k by
      rcases hbl with h | h
      · exact .inl h
      · exact .inr (.inr ⟨_, h, by have h9 := HT.out.size; (try simp only [World.size_setCell] at h9); (try simp only [World.size_alloc, World.size_setCell]); omega⟩))
     obtain ⟨ln, hln⟩ : ∃ ln : List UInt8, ln = [] ++ [x] := ⟨_, rfl⟩
     have hown : Own B w5 v5 ln := by rw [hln]; simpa using hown
     obtain ⟨na, nc, rfl, hnb⟩ := hown.val
     have hgr := grownBy_afterC (below_oneF w (.cells #[.int .u8 (x.toNat : Int)] 5)) hgr
     have HC5 := Box.mk (HC.out.grownC hgr (fun e => by have := (HO.out.lt e.symm).1; omega))
     have HT5 := Box.mk (HT.out.trans (Touch.ofRow hgr g) (.inl rfl))
     have HO5 := Box.mk (hown.setC (g := g) (i := 3) (u := .slice na ln.length nc) hg)
     have HLN := Box.mk (show ln.length = n + 1 by rw [hln]; rw [HN.out]; rfl)
     have HLE := Box.mk hln
     have hl130 : ln.length ≤ 130 := by have := HLN.out; have := HN.out; omega
     clear hown hgr hbl hnb hln
     have hf5 := HC5.out.frozen (i := 3)
     obtain ⟨hb0, hb1, hb2, hb3⟩ := HC5.out.cells
     have HC6 := Box.mk (HC5.out.setV (u := .slice na ln.length nc))
     obtain ⟨hc0, hc1, hc2, hc3⟩ := HC6.out.cells
     have HT6 := Box.mk (HT5.out.trans (Touch.ofVar (grownBy_setC w5 g 3 (.slice na ln.length nc)) none) (.inr (.inl rfl)))
     by_cases hlong : 128 < ln.length ∧ ¬ x = 13
     · have h128 := hlong.1
       have HP := Box.mk (byteS_long (s := ⟨p, l, t, []⟩) (t := t) hcr hx (by have h8 := hlong.1; rw [HLN.out, HN.out] at h8; exact h8) hlong.2)
       have e13 : ((x.toNat : Int) != 13) = true := by
        rw [bne_iff_ne]; intro e; exact hlong.2 (UInt8.toNat_inj.1 (by rw [show (13 : UInt8).toNat = 13 from rfl]; omega))
       clear hlong hx hcr
       go_wp2_with fail
       go_ret
       exact RetLine.err HP.out rfl (by decide) HT6.out
     · have HP := Box.mk (show byteS ⟨p, l, t, []⟩ t x = (0, ⟨p, l, t, ln⟩) by
        rw [HLE.out]
        exact byteS_more hcr hx (fun h => hlong ⟨by rw [HLN.out, HN.out]; exact h.1, h.2⟩))
       by_cases h128 : 128 < ln.length
       · have e13 : ((x.toNat : Int) != 13) = false := by
          have hx13 : x = 13 := Decidable.byContradiction fun h => hlong ⟨h128, h⟩
          rw [hx13]; rfl
         clear hlong hx hcr
         go_wp2_with fail
         go_ret
         exact RetLine.ok HP.out rfl HC6.out HO5.out HBL.out HT6.out
       · clear hlong hx hcr
         go_wp2_with fail
         go_ret
         exact RetLine.ok HP.out rfl HC6.out HO5.out HBL.out HT6.out
 · have hnl : (m ++ [z]).length = m.length + 1 := by simp
   rw [hnl] at hc ho hl ⊢
   obtain ⟨ad, hva⟩ := isBytes_some hvb
   have hcap := own_cap hvb
   obtain ⟨ha0, ha1, ha2, ha3⟩ := hc.cells
   have HC := Box.mk (show CVar w g p l t (.slice va (m.length + 1) vc) from hc)
   have HO := Box.mk (show Own B w (.slice va (m.length + 1) vc) (m ++ [z]) from ho)
   have HT := Box.mk (show Touch w w g (Value.slice va (m.length + 1) vc).ownBlock from Touch.refl _ _ _)
   have hsz : B ≤ w.heap.size := by exact hB
   obtain ⟨hd0, hd1, hd2, hd3⟩ := HC.out.cells
   have hf3 := HC.out.frozen (i := 3)
   clear hc ho hvb
   have hcell := own_lastC (ad := ad) (z := z) (m := m) (c := vc) (w := w) (by rw [← hva]; have h := HO.out.bytes2 (by simp); exact h)
   by_cases hz : z = 13
   · subst hz
     have hcell : (w).cell? (ad.add m.length) = some (.int .u8 13) := hcell
     subst hva
     by_cases hx : x = 10
     · subst hx
       have HP0 := Box.mk (byteS_line (m := m) (p := p) (l := l) (t0 := t) (t := t))
       have hcv := conv_bytes (isBytes_front (HO.out.bytes2 (by simp)))
       have HY := Box.mk (show (⟨m.toArray⟩ : ByteArray).size ≤ 1000 by show m.toArray.size ≤ 1000; rw [List.size_toArray]; omega)
       generalize (⟨m.toArray⟩ : ByteArray) = y at *
       have HC2 := Box.mk (HC.out.setV (u := .slice none 0 0))
       generalize hR : lineS ⟨p, l, t, []⟩ y = R
       have HR := Box.mk hR
       clear hR
       rw [show (10 : UInt8).toNat = 10 from rfl]
       go_enter Tryz.func154, Tryz.ntmps154
       go_wp2_with fail
       refine (finishLine_any p l t g y _ HC2.out (by rcases HPP.out with h | h; exact .inl h; exact .inr (.inl h)) HY.out).mono ?_
       rintro e w3 ⟨he, h1, h2⟩
       rw [HR.out] at he h1
       subst he
       have H1 := Box.mk h1
       have HT3 := Box.mk ((HT.out.trans (Touch.ofVar (grownBy_setC w g 3 (.slice none 0 0)) none) (.inr (.inl rfl))).trans (Touch.ofVar h2 none) (.inr (.inl rfl)))
       clear h1 h2 hcv
       go_wp2_with fail
       go_ret
       refine ⟨by rw [HP0.out, HR.out]; rfl, fun h0 => ?_, HT3.out⟩
       rw [HP0.out, HR.out] at h0 ⊢
       obtain ⟨h3, h4⟩ := H1.out h0
       exact ⟨.slice none 0 0, h3, by rw [h4]; exact Own.start _ _, .inr (.inl rfl)⟩
     · have HP := Box.mk (byteS_bad (s := ⟨p, l, t, m ++ [13]⟩) (t := t) (by show crB (m ++ [13]) = true; rw [crB_app]; rfl) hx)
       have e10 : ((x.toNat : Int) == 10) = false := by
        rw [beq_eq_false_iff_ne]; intro e; exact hx (UInt8.toNat_inj.1 (by rw [show (10 : UInt8).toNat = 10 from rfl]; omega))
       clear hx
       go_enter Tryz.func154, Tryz.ntmps154
       go_wp2_with fail
       go_ret
       exact RetLine.err HP.out rfl (by decide) HT.out
   · have hcr : crB (m ++ [z]) = false := by rw [crB_app]; simpa using hz
     have ez : ((z.toNat : Int) == 13) = false := by
      rw [beq_eq_false_iff_ne]; intro e; exact hz (UInt8.toNat_inj.1 (by rw [show (13 : UInt8).toNat = 13 from rfl]; omega))
     clear hz
     by_cases hx : x = 10
     · subst hx
       subst hva
       have HP := Box.mk (byteS_ten (s := ⟨p, l, t, m ++ [z]⟩) (t := t) hcr)
       clear hcr
       rw [show (10 : UInt8).toNat = 10 from rfl]
       go_enter Tryz.func154, Tryz.ntmps154
       go_wp2_with fail
       go_ret
       exact RetLine.err HP.out rfl (by decide) HT.out
     · subst hva
       have e10 : ((x.toNat : Int) == 10) = false := by
        rw [beq_eq_false_iff_ne]; intro e; exact hx (UInt8.toNat_inj.1 (by rw [show (10 : UInt8).toNat = 10 from rfl]; omega))
       go_enter Tryz.func154, Tryz.ntmps154
       go_wp2_with (at_builtin; refine wpList_append_ownb _ rfl _ _ rfl rfl (HO.out.keep (below_oneF w (.cells #[.int .u8 (x.toNat : Int)] 5))) rfl (r := [x]) (isBytes_oneC w x) (by simp; omega) (by simp; omega) ?_)
       intro v5 w5 hown hgr hbl
       have HBL := Box.mk (show v5.ownBlock = (Value.slice (some ad) (m.length + 1) vc).ownBlock ∨ v5.ownBlock = none ∨ ∃ k, v5.ownBlock = some k ∧ w.heap.size ≤ k by
        rcases hbl with h | h
        · exact .inl h
        · exact .inr (.inr ⟨_, h, by have h9 := HT.out.size; (try simp only [World.size_setCell] at h9); (try simp only [World.size_alloc, World.size_setCell]); omega⟩))
       obtain ⟨ln, hln⟩ : ∃ ln : List UInt8, ln = (m ++ [z]) ++ [x] := ⟨_, rfl⟩
       have hown : Own B w5 v5 ln := by rw [hln]; simpa using hown
       obtain ⟨na, nc, rfl, hnb⟩ := hown.val
       have hgr := grownBy_afterC (below_oneF w (.cells #[.int .u8 (x.toNat : Int)] 5)) hgr
       have HC5 := Box.mk (HC.out.grownC hgr (fun e => by have := (HO.out.lt e.symm).1; omega))
       have HT5 := Box.mk (HT.out.trans (Touch.ofRow hgr g) (.inl rfl))
       have HO5 := Box.mk (hown.setC (g := g) (i := 3) (u := .slice na ln.length nc) hg)
       have HLN := Box.mk (show ln.length = (m.length + 1) + 1 by rw [hln]; simp)
       have HLE := Box.mk hln
       have hl130 : ln.length ≤ 130 := by have := HLN.out; omega
       clear hown hgr hbl hnb hln
       have hf5 := HC5.out.frozen (i := 3)
       obtain ⟨hb0, hb1, hb2, hb3⟩ := HC5.out.cells
       have HC6 := Box.mk (HC5.out.setV (u := .slice na ln.length nc))
       obtain ⟨hc0, hc1, hc2, hc3⟩ := HC6.out.cells
       have HT6 := Box.mk (HT5.out.trans (Touch.ofVar (grownBy_setC w5 g 3 (.slice na ln.length nc)) none) (.inr (.inl rfl)))
       by_cases hlong : 128 < ln.length ∧ ¬ x = 13
       · have h128 := hlong.1
         have HP := Box.mk (byteS_long (s := ⟨p, l, t, (m ++ [z])⟩) (t := t) hcr hx (by have h8 := hlong.1; rw [HLN.out] at h8; simpa using h8) hlong.2)
         have e13 : ((x.toNat : Int) != 13) = true := by
          rw [bne_iff_ne]; intro e; exact hlong.2 (UInt8.toNat_inj.1 (by rw [show (13 : UInt8).toNat = 13 from rfl]; omega))
         clear hlong hx hcr
         go_wp2_with fail
         go_ret
         exact RetLine.err HP.out rfl (by decide) HT6.out
       · have HP := Box.mk (show byteS ⟨p, l, t, (m ++ [z])⟩ t x = (0, ⟨p, l, t, ln⟩) by
          rw [HLE.out]
          exact byteS_more hcr hx (fun h => hlong ⟨by rw [HLN.out]; simpa using h.1, h.2⟩))
         by_cases h128 : 128 < ln.length
         · have e13 : ((x.toNat : Int) != 13) = false := by
            have hx13 : x = 13 := Decidable.byContradiction fun h => hlong ⟨h128, h⟩
            rw [hx13]; rfl
           clear hlong hx hcr
           go_wp2_with fail
           go_ret
           exact RetLine.ok HP.out rfl HC6.out HO5.out HBL.out HT6.out
         · clear hlong hx hcr
           go_wp2_with fail
           go_ret
           exact RetLine.ok HP.out rfl HC6.out HO5.out HBL.out HT6.out
set_option maxRecDepth 100000 in
set_option maxHeartbeats 4000000 in
theorem readLine_3 (l t : Int) (line : List UInt8) (x : UInt8) (g B : Nat) (v : Value) (w : World) (hc : CVar w g 3 l t v) (ho : Own B w v line) (hB : B ≤ w.heap.size) (hg : g < B) (ht0 : 0 ≤ t) (ht : t + 1 ≤ 1024) (hl : line.length ≤ 129) :
  Calls Tryz.prog 154 #[.pointer (some ⟨g, 0, none⟩), .int .u8 x.toNat] w (RetLine w g B v (byteS ⟨3, l, t, line⟩ (t + 1) x)) := by
 obtain ⟨va, vc, rfl, hvb⟩ := ho.val
 rcases last_cases line with rfl | ⟨m, z, rfl⟩
 · have hcr : crB [] = false := rfl
   obtain ⟨n, hn⟩ : ∃ n : Nat, n = ([] : List UInt8).length := ⟨_, rfl⟩
   rw [← hn] at hc ho ⊢
   have HN := Box.mk (show n = 0 from hn)
   have hni : (n : Int) ≤ 0 := by rw [hn]; decide
   clear hn
   obtain ⟨ha0, ha1, ha2, ha3⟩ := hc.cells
   have hf2 := hc.frozen (i := 2)
   have HC := Box.mk (show CVar (w.setCell ⟨g, 2, none⟩ (.int .i64 (t + 1))) g 3 l (t + 1) (.slice va n vc) from hc.setT)
   have HO := Box.mk (show Own B (w.setCell ⟨g, 2, none⟩ (.int .i64 (t + 1))) (.slice va n vc) [] from ho.setC hg)
   have HT := Box.mk (show Touch w (w.setCell ⟨g, 2, none⟩ (.int .i64 (t + 1))) g (Value.slice va n vc).ownBlock from Touch.ofVar (grownBy_setC _ _ _ _) _)
   have hsz : B ≤ (w.setCell ⟨g, 2, none⟩ (.int .i64 (t + 1))).heap.size := by rw [World.size_setCell]; exact hB
   obtain ⟨hd0, hd1, hd2, hd3⟩ := HC.out.cells
   have hf3 := HC.out.frozen (i := 3)
   clear hc ho hvb
   by_cases hx : x = 10
   · subst hx
     have HP := Box.mk (byteS_ten (s := ⟨3, l, t, []⟩) (t := (t + 1)) hcr)
     clear hcr
     rw [show (10 : UInt8).toNat = 10 from rfl]
     go_enter Tryz.func154, Tryz.ntmps154
     go_wp2_with fail
     go_ret
     exact RetLine.err HP.out rfl (by decide) HT.out
   · have e10 : ((x.toNat : Int) == 10) = false := by
      rw [beq_eq_false_iff_ne]; intro e; exact hx (UInt8.toNat_inj.1 (by rw [show (10 : UInt8).toNat = 10 from rfl]; omega))
     go_enter Tryz.func154, Tryz.ntmps154
     go_wp2_with (at_builtin; refine wpList_append_ownb _ rfl _ _ rfl rfl (HO.out.keep (below_oneF (w.setCell ⟨g, 2, none⟩ (.int .i64 (t + 1))) (.cells #[.int .u8 (x.toNat : Int)] 5))) rfl (r := [x]) (by have h := isBytes_oneC (w.setCell ⟨g, 2, none⟩ (.int .i64 (t + 1))) x; rw [World.size_setCell] at h; exact h) (by simp) (by simp; omega) ?_)
     intro v5 w5 hown hgr hbl
     have HBL := Box.mk (show v5.ownBlock = (Value.slice va n vc).ownBlock ∨ v5.ownBlock = none ∨ ∃ k, v5.ownBlock = some k ∧ w.heap.size ≤ k by
      rcases hbl with h | h
      · exact .inl h
      · exact .inr (.inr ⟨_, h, by have h9 := HT.out.size; (try simp only [World.size_setCell] at h9); (try simp only [World.size_alloc, World.size_setCell]); omega⟩))
     obtain ⟨ln, hln⟩ : ∃ ln : List UInt8, ln = [] ++ [x] := ⟨_, rfl⟩
     have hown : Own B w5 v5 ln := by rw [hln]; simpa using hown
     obtain ⟨na, nc, rfl, hnb⟩ := hown.val
     have hgr := grownBy_afterC (below_oneF (w.setCell ⟨g, 2, none⟩ (.int .i64 (t + 1))) (.cells #[.int .u8 (x.toNat : Int)] 5)) hgr
     have HC5 := Box.mk (HC.out.grownC hgr (fun e => by have := (HO.out.lt e.symm).1; omega))
     have HT5 := Box.mk (HT.out.trans (Touch.ofRow hgr g) (.inl rfl))
     have HO5 := Box.mk (hown.setC (g := g) (i := 3) (u := .slice na ln.length nc) hg)
     have HLN := Box.mk (show ln.length = n + 1 by rw [hln]; rw [HN.out]; rfl)
     have HLE := Box.mk hln
     have hl130 : ln.length ≤ 130 := by have := HLN.out; have := HN.out; omega
     clear hown hgr hbl hnb hln
     have hf5 := HC5.out.frozen (i := 3)
     obtain ⟨hb0, hb1, hb2, hb3⟩ := HC5.out.cells
     have HC6 := Box.mk (HC5.out.setV (u := .slice na ln.length nc))
     obtain ⟨hc0, hc1, hc2, hc3⟩ := HC6.out.cells
     have HT6 := Box.mk (HT5.out.trans (Touch.ofVar (grownBy_setC w5 g 3 (.slice na ln.length nc)) none) (.inr (.inl rfl)))
     by_cases hlong : 128 < ln.length ∧ ¬ x = 13
     · have h128 := hlong.1
       have HP := Box.mk (byteS_long (s := ⟨3, l, t, []⟩) (t := (t + 1)) hcr hx (by have h8 := hlong.1; rw [HLN.out, HN.out] at h8; exact h8) hlong.2)
       have e13 : ((x.toNat : Int) != 13) = true := by
        rw [bne_iff_ne]; intro e; exact hlong.2 (UInt8.toNat_inj.1 (by rw [show (13 : UInt8).toNat = 13 from rfl]; omega))
       clear hlong hx hcr
       go_wp2_with fail
       go_ret
       exact RetLine.err HP.out rfl (by decide) HT6.out
     · have HP := Box.mk (show byteS ⟨3, l, t, []⟩ (t + 1) x = (0, ⟨3, l, (t + 1), ln⟩) by
        rw [HLE.out]
        exact byteS_more hcr hx (fun h => hlong ⟨by rw [HLN.out, HN.out]; exact h.1, h.2⟩))
       by_cases h128 : 128 < ln.length
       · have e13 : ((x.toNat : Int) != 13) = false := by
          have hx13 : x = 13 := Decidable.byContradiction fun h => hlong ⟨h128, h⟩
          rw [hx13]; rfl
         clear hlong hx hcr
         go_wp2_with fail
         go_ret
         exact RetLine.ok HP.out rfl HC6.out HO5.out HBL.out HT6.out
       · clear hlong hx hcr
         go_wp2_with fail
         go_ret
         exact RetLine.ok HP.out rfl HC6.out HO5.out HBL.out HT6.out
 · have hnl : (m ++ [z]).length = m.length + 1 := by simp
   rw [hnl] at hc ho hl ⊢
   obtain ⟨ad, hva⟩ := isBytes_some hvb
   have hcap := own_cap hvb
   obtain ⟨ha0, ha1, ha2, ha3⟩ := hc.cells
   have hf2 := hc.frozen (i := 2)
   have HC := Box.mk (show CVar (w.setCell ⟨g, 2, none⟩ (.int .i64 (t + 1))) g 3 l (t + 1) (.slice va (m.length + 1) vc) from hc.setT)
   have HO := Box.mk (show Own B (w.setCell ⟨g, 2, none⟩ (.int .i64 (t + 1))) (.slice va (m.length + 1) vc) (m ++ [z]) from ho.setC hg)
   have HT := Box.mk (show Touch w (w.setCell ⟨g, 2, none⟩ (.int .i64 (t + 1))) g (Value.slice va (m.length + 1) vc).ownBlock from Touch.ofVar (grownBy_setC _ _ _ _) _)
   have hsz : B ≤ (w.setCell ⟨g, 2, none⟩ (.int .i64 (t + 1))).heap.size := by rw [World.size_setCell]; exact hB
   obtain ⟨hd0, hd1, hd2, hd3⟩ := HC.out.cells
   have hf3 := HC.out.frozen (i := 3)
   clear hc ho hvb
   have hcell := own_lastC (ad := ad) (z := z) (m := m) (c := vc) (w := (w.setCell ⟨g, 2, none⟩ (.int .i64 (t + 1)))) (by rw [← hva]; have h := HO.out.bytes2 (by simp); exact h)
   by_cases hz : z = 13
   · subst hz
     have hcell : ((w.setCell ⟨g, 2, none⟩ (.int .i64 (t + 1)))).cell? (ad.add m.length) = some (.int .u8 13) := hcell
     subst hva
     by_cases hx : x = 10
     · subst hx
       have HP0 := Box.mk (byteS_line (m := m) (p := 3) (l := l) (t0 := t) (t := (t + 1)))
       have hcv := conv_bytes (isBytes_front (HO.out.bytes2 (by simp)))
       have HY := Box.mk (show (⟨m.toArray⟩ : ByteArray).size ≤ 1000 by show m.toArray.size ≤ 1000; rw [List.size_toArray]; omega)
       generalize (⟨m.toArray⟩ : ByteArray) = y at *
       have HC2 := Box.mk (HC.out.setV (u := .slice none 0 0))
       generalize hR : lineS ⟨3, l, (t + 1), []⟩ y = R
       have HR := Box.mk hR
       clear hR
       rw [show (10 : UInt8).toNat = 10 from rfl]
       go_enter Tryz.func154, Tryz.ntmps154
       go_wp2_with fail
       refine (finishLine_any 3 l (t + 1) g y _ HC2.out (.inr (.inr rfl)) HY.out).mono ?_
       rintro e w3 ⟨he, h1, h2⟩
       rw [HR.out] at he h1
       subst he
       have H1 := Box.mk h1
       have HT3 := Box.mk ((HT.out.trans (Touch.ofVar (grownBy_setC (w.setCell ⟨g, 2, none⟩ (.int .i64 (t + 1))) g 3 (.slice none 0 0)) none) (.inr (.inl rfl))).trans (Touch.ofVar h2 none) (.inr (.inl rfl)))
       clear h1 h2 hcv
       go_wp2_with fail
       go_ret
       refine ⟨by rw [HP0.out, HR.out]; rfl, fun h0 => ?_, HT3.out⟩
       rw [HP0.out, HR.out] at h0 ⊢
       obtain ⟨h3, h4⟩ := H1.out h0
       exact ⟨.slice none 0 0, h3, by rw [h4]; exact Own.start _ _, .inr (.inl rfl)⟩
     · have HP := Box.mk (byteS_bad (s := ⟨3, l, t, m ++ [13]⟩) (t := (t + 1)) (by show crB (m ++ [13]) = true; rw [crB_app]; rfl) hx)
       have e10 : ((x.toNat : Int) == 10) = false := by
        rw [beq_eq_false_iff_ne]; intro e; exact hx (UInt8.toNat_inj.1 (by rw [show (10 : UInt8).toNat = 10 from rfl]; omega))
       clear hx
       go_enter Tryz.func154, Tryz.ntmps154
       go_wp2_with fail
       go_ret
       exact RetLine.err HP.out rfl (by decide) HT.out
   · have hcr : crB (m ++ [z]) = false := by rw [crB_app]; simpa using hz
     have ez : ((z.toNat : Int) == 13) = false := by
      rw [beq_eq_false_iff_ne]; intro e; exact hz (UInt8.toNat_inj.1 (by rw [show (13 : UInt8).toNat = 13 from rfl]; omega))
     clear hz
     by_cases hx : x = 10
     · subst hx
       subst hva
       have HP := Box.mk (byteS_ten (s := ⟨3, l, t, m ++ [z]⟩) (t := (t + 1)) hcr)
       clear hcr
       rw [show (10 : UInt8).toNat = 10 from rfl]
       go_enter Tryz.func154, Tryz.ntmps154
       go_wp2_with fail
       go_ret
       exact RetLine.err HP.out rfl (by decide) HT.out
     · subst hva
       have e10 : ((x.toNat : Int) == 10) = false := by
        rw [beq_eq_false_iff_ne]; intro e; exact hx (UInt8.toNat_inj.1 (by rw [show (10 : UInt8).toNat = 10 from rfl]; omega))
       go_enter Tryz.func154, Tryz.ntmps154
       go_wp2_with (at_builtin; refine wpList_append_ownb _ rfl _ _ rfl rfl (HO.out.keep (below_oneF (w.setCell ⟨g, 2, none⟩ (.int .i64 (t + 1))) (.cells #[.int .u8 (x.toNat : Int)] 5))) rfl (r := [x]) (by have h := isBytes_oneC (w.setCell ⟨g, 2, none⟩ (.int .i64 (t + 1))) x; rw [World.size_setCell] at h; exact h) (by simp; omega) (by simp; omega) ?_)
       intro v5 w5 hown hgr hbl
       have HBL := Box.mk (show v5.ownBlock = (Value.slice (some ad) (m.length + 1) vc).ownBlock ∨ v5.ownBlock = none ∨ ∃ k, v5.ownBlock = some k ∧ w.heap.size ≤ k by
        rcases hbl with h | h
        · exact .inl h
        · exact .inr (.inr ⟨_, h, by have h9 := HT.out.size; (try simp only [World.size_setCell] at h9); (try simp only [World.size_alloc, World.size_setCell]); omega⟩))
       obtain ⟨ln, hln⟩ : ∃ ln : List UInt8, ln = (m ++ [z]) ++ [x] := ⟨_, rfl⟩
       have hown : Own B w5 v5 ln := by rw [hln]; simpa using hown
       obtain ⟨na, nc, rfl, hnb⟩ := hown.val
       have hgr := grownBy_afterC (below_oneF (w.setCell ⟨g, 2, none⟩ (.int .i64 (t + 1))) (.cells #[.int .u8 (x.toNat : Int)] 5)) hgr
       have HC5 := Box.mk (HC.out.grownC hgr (fun e => by have := (HO.out.lt e.symm).1; omega))
       have HT5 := Box.mk (HT.out.trans (Touch.ofRow hgr g) (.inl rfl))
       have HO5 := Box.mk (hown.setC (g := g) (i := 3) (u := .slice na ln.length nc) hg)
       have HLN := Box.mk (show ln.length = (m.length + 1) + 1 by rw [hln]; simp)
       have HLE := Box.mk hln
       have hl130 : ln.length ≤ 130 := by have := HLN.out; omega
       clear hown hgr hbl hnb hln
       have hf5 := HC5.out.frozen (i := 3)
       obtain ⟨hb0, hb1, hb2, hb3⟩ := HC5.out.cells
       have HC6 := Box.mk (HC5.out.setV (u := .slice na ln.length nc))
       obtain ⟨hc0, hc1, hc2, hc3⟩ := HC6.out.cells
       have HT6 := Box.mk (HT5.out.trans (Touch.ofVar (grownBy_setC w5 g 3 (.slice na ln.length nc)) none) (.inr (.inl rfl)))
       by_cases hlong : 128 < ln.length ∧ ¬ x = 13
       · have h128 := hlong.1
         have HP := Box.mk (byteS_long (s := ⟨3, l, t, (m ++ [z])⟩) (t := (t + 1)) hcr hx (by have h8 := hlong.1; rw [HLN.out] at h8; simpa using h8) hlong.2)
         have e13 : ((x.toNat : Int) != 13) = true := by
          rw [bne_iff_ne]; intro e; exact hlong.2 (UInt8.toNat_inj.1 (by rw [show (13 : UInt8).toNat = 13 from rfl]; omega))
         clear hlong hx hcr
         go_wp2_with fail
         go_ret
         exact RetLine.err HP.out rfl (by decide) HT6.out
       · have HP := Box.mk (show byteS ⟨3, l, t, (m ++ [z])⟩ (t + 1) x = (0, ⟨3, l, (t + 1), ln⟩) by
          rw [HLE.out]
          exact byteS_more hcr hx (fun h => hlong ⟨by rw [HLN.out]; simpa using h.1, h.2⟩))
         by_cases h128 : 128 < ln.length
         · have e13 : ((x.toNat : Int) != 13) = false := by
            have hx13 : x = 13 := Decidable.byContradiction fun h => hlong ⟨h128, h⟩
            rw [hx13]; rfl
           clear hlong hx hcr
           go_wp2_with fail
           go_ret
           exact RetLine.ok HP.out rfl HC6.out HO5.out HBL.out HT6.out
         · clear hlong hx hcr
           go_wp2_with fail
           go_ret
           exact RetLine.ok HP.out rfl HC6.out HO5.out HBL.out HT6.out
theorem readLine_any (s : Chk) (x : UInt8) (g B : Nat) (v : Value) (w : World) (hc : CVar w g s.ph s.left s.tr v) (ho : Own B w v s.line) (hB : B ≤ w.heap.size) (hg : g < B) (hs : OkC s) (h1 : ¬ s.ph = 1) (h4 : ¬ s.ph = 4) :
  Calls Tryz.prog 154 #[.pointer (some ⟨g, 0, none⟩), .int .u8 x.toNat] w (RetLine w g B v (stepS s x)) := by
 have hl := hs.len
 have hph := hs.ph
 have hlf := hs.left h1
 have htr := hs.tr
 have ht0 := hs.tr0
 obtain ⟨p, l, t, ln⟩ := s
 simp only [] at hl hph hlf htr ht0 h1 h4 hc ho
 by_cases h3 : p = 3
 · subst h3
   by_cases ht : 1024 < t + 1
   · have e : stepS ⟨3, l, t, ln⟩ x = (3, zeroC) := by unfold stepS; simp [ht]
     rw [e]
     refine (readLine_full l t x g v w hc htr ht).mono ?_
     rintro e w' ⟨he, h⟩
     exact RetLine.err rfl he (by decide) h
   · have e : stepS ⟨3, l, t, ln⟩ x = byteS ⟨3, l, t, ln⟩ (t + 1) x := by unfold stepS; simp [ht]
     rw [e]
     exact readLine_3 l t ln x g B v w hc ho hB hg htr.1 (by omega) hl
 · have e : stepS ⟨p, l, t, ln⟩ x = byteS ⟨p, l, t, ln⟩ t x := by unfold stepS; simp [h3]
   rw [e]
   exact readLine_n p l t ln x g B v w hc ho hB hg (by
    have : p = 0 ∨ p = 2 := by omega
    rcases this with h | h
    · exact .inl ⟨h, hlf, ht0 (by omega)⟩
    · exact .inr h) hl
end Go.Proofs.YteoadfckcilalaaGreatDoor
namespace Go.Proofs.YteoadfckcilalaaGreatDoor
open Go.RowKit

theorem isBytes_piece {w : World} {ad : Addr} {l : List UInt8} {c k q : Nat} (h : IsBytes w (some ad) l c) (_hk : k < l.length) (hq : k + q ≤ l.length) : IsBytes w (some (ad.add k)) ((l.drop k).take q) (c - k) := by
 rcases h with ⟨e, _⟩ | ⟨y, e, h1, h2, h3⟩
 · cases e
 · obtain rfl := Option.some.inj e
   refine .inr ⟨_, rfl, by rw [List.length_take, List.length_drop]; omega, by omega, fun j hj => ?_⟩
   rw [List.length_take, List.length_drop] at hj
   have h4 := h3 (k + j) (by omega)
   rw [List.getElem_take, List.getElem_drop, Addr.add_add]
   exact h4
structure FeedP (w : World) (room : Int) (s1 : Chk) (v bv : Value) (out : List UInt8) (k : Nat) (W : World) : Prop where
 ok : OkC s1
 var : CVar W w.heap.size s1.ph s1.left s1.tr v
 line : Own (w.heap.size + 2) W v s1.line
 res : CVar W (w.heap.size + 1) 0 0 0 (.slice none 0 0)
 own : Own (w.heap.size + 2) W bv out
 apart : ∀ q q', v.ownBlock = some q → bv.ownBlock = some q' → q ≠ q'
 below : Below w.heap.size w W
 size : w.heap.size + 2 ≤ W.heap.size
 len : out.length ≤ k
 room : out.length = 0 ∨ (out.length : Int) ≤ room
theorem FeedP.read {w : World} {room : Int} {s1 s2 : Chk} {v v' bv : Value} {out : List UInt8} {k : Nat} {W W' : World} (h : FeedP w room s1 v bv out k W) (ho : OkC s2) (hc : CVar W' w.heap.size s2.ph s2.left s2.tr v') (hl : Own (w.heap.size + 2) W' v' s2.line)
  (hb : v'.ownBlock = v.ownBlock ∨ v'.ownBlock = none ∨ ∃ q, v'.ownBlock = some q ∧ W.heap.size ≤ q) (ht : Touch W W' w.heap.size v.ownBlock) : FeedP w room s2 v' bv out (k + 1) W' := by
 refine ⟨ho, hc, hl, h.res.touch ht (by omega) (fun e => by have := (h.line.lt e.symm).1; omega), h.own.touch ht (by omega) (fun q e e2 => h.apart q q e2.symm e rfl), fun q q' e1 e2 => ?_,
  Below.touch h.below ht (by have := h.size; omega) (Nat.le_refl _) (fun q e => by have := (h.line.lt e).1; omega), Nat.le_trans h.size ht.size, by have := h.len; omega, h.room⟩
 rcases hb with hb | hb | ⟨r, hb, hr⟩
 · exact h.apart q q' (hb ▸ e1) e2
 · rw [hb] at e1; cases e1
 · have h1 : q = r := (Option.some.inj (hb.symm.trans e1)).symm
   have h2 := (h.own.lt e2).2
   omega
theorem FeedP.data {w : World} {room : Int} {s1 : Chk} {v bv bv' : Value} {out d : List UInt8} {k : Nat} {W W1 W2 : World} (h : FeedP w room s1 v bv out k W) (h1 : s1.ph = 1) (hd : 0 < d.length) (hdl : (d.length : Int) ≤ s1.left) (hdr : (out.length : Int) + d.length ≤ room)
  (ho : Own (w.heap.size + 2) W1 bv' (out ++ d)) (hgr : W.grownBy W1 bv.ownBlock) (hbl : bv'.ownBlock = bv.ownBlock ∨ bv'.ownBlock = some W.heap.size)
  (hc : CVar W2 w.heap.size (if s1.left - d.length = 0 then 2 else 1) (s1.left - d.length) s1.tr v) (hg2 : W1.grownBy W2 (some w.heap.size)) :
  FeedP w room ⟨if s1.left - d.length = 0 then 2 else 1, s1.left - d.length, s1.tr, s1.line⟩ v bv' (out ++ d) (k + d.length) W2 := by
 have hw := h.size
 have hok : OkC ⟨if s1.left - d.length = 0 then 2 else 1, s1.left - d.length, s1.tr, s1.line⟩ := by
  have hd2 := h.ok.data h1
  have ht := h.ok.tr0 (by omega)
  by_cases e : s1.left - d.length = 0
  · simp only [if_pos e]
    exact okC_mk (by decide) h.ok.line h.ok.tr (fun _ => ht) (fun h => absurd h (by decide)) (fun _ => e) (fun _ => h.ok.empty (.inl h1))
  · simp only [if_neg e]
    exact okC_mk (by decide) h.ok.line h.ok.tr (fun _ => ht) (fun _ => by omega) (fun h => absurd rfl h) (fun _ => h.ok.empty (.inl h1))
 have hl1 := h.line.grown hgr (fun q e e2 => h.apart q q e e2.symm rfl)
 refine ⟨hok, hc, hl1.grown hg2 (fun q e e2 => by have := (hl1.lt e).1; have := Option.some.inj e2; omega), ?_, ho.grown hg2 (fun q e e2 => by have := (ho.lt e).1; have := Option.some.inj e2; omega), fun q q' e1 e2 => ?_,
  (h.below.grown hgr h.below.size (fun q e => by have := (h.own.lt e).1; omega)).grown hg2 (by have := hgr.size; omega) (fun q e => by have := Option.some.inj e; omega), by have := hgr.size; have := hg2.size; omega, by have := h.len; rw [List.length_append]; omega, .inr (by rw [List.length_append]; omega)⟩
 · exact (h.res.grownC hgr (fun e => by have := (h.own.lt e.symm).1; omega)).grownC hg2 (fun e => by have := Option.some.inj e; omega)
 · rcases hbl with hb | hb
   · exact h.apart q q' e1 (hb ▸ e2)
   · have h3 : q' = W.heap.size := (Option.some.inj (hb.symm.trans e2)).symm
     have h4 := (h.line.lt e1).2
     omega
theorem Own.freshA {B : Nat} {w : World} {a : Option Addr} {n c : Nat} {l : List UInt8} (h : Own B w (.slice a n c) l) (x : Addr) (hx : a = some x) (hl : l ≠ []) : B ≤ x.block := by
 obtain ⟨_, h2⟩ := h
 rcases h2 with ⟨_, h3⟩ | ⟨g, cap, cur, hv, hg, _⟩
 · exact absurd (List.eq_nil_of_length_eq_zero h3) hl
 · injection hv with e1 _ _
   rw [hx] at e1
   injection e1 with e1
   rw [e1]; exact hg
def RetFeedF (w : World) (r : Int × Chk × List UInt8 × Nat) (e : Ending) (w' : World) : Prop :=
 ∃ a c oa oc, e = .returned (.tuple #[.agg #[.int .i64 r.2.1.ph, .int .i64 r.2.1.left, .int .i64 r.2.1.tr, .slice a r.2.1.line.length c], .slice oa r.2.2.1.length oc, .int .i64 r.2.2.2, .int .i64 r.1]) ∧ IsBytes w' a r.2.1.line c ∧ IsBytes w' oa r.2.2.1 oc ∧ Below w.heap.size w w' ∧ ∀ x, a = some x → r.2.1.line ≠ [] → w.heap.size ≤ x.block
set_option maxRecDepth 100000 in
set_option maxHeartbeats 4000000 in
theorem projFeedF_any (s : Chk) (l : List UInt8) (room : Int) (la ba : Option Addr) (lc bc : Nat) (w : World) (h : IsBytes w la s.line lc) (hb : IsBytes w ba l bc) (hs : OkC s) (hl : l.length ≤ 4000000000) (hr0 : -9223372036854775808 ≤ room) (hr1 : room ≤ 9223372036854775807) :
  Calls Tryz.prog 117 #[.agg #[.int .i64 s.ph, .int .i64 s.left, .int .i64 s.tr, .slice la s.line.length lc], .slice ba l.length bc, .int .i64 room] w (RetFeedF w (feedS room s [] 0 l)) := by
 obtain ⟨W2, hW2⟩ : ∃ W2, W2 = (w.alloc (.cells #[.int .i64 s.ph, .int .i64 s.left, .int .i64 s.tr, .slice la s.line.length lc] 35)).alloc (.cells #[.int .i64 0, .int .i64 0, .int .i64 0, .slice none 0 0] 35) := ⟨_, rfl⟩
 have hb0 : Below w.heap.size w W2 := by rw [hW2]; exact below_twoF (below_oneF w _) _
 have hz2 : W2.heap.size = w.heap.size + 2 := by rw [hW2, World.size_alloc, World.size_alloc]
 have HC0 := Box.mk (show CVar W2 w.heap.size s.ph s.left s.tr (.slice la s.line.length lc) by rw [hW2]; exact CVar.keep (heap_alloc_new _ _) (below_oneF _ _))
 have HR0 := Box.mk (show CVar W2 (w.heap.size + 1) 0 0 0 (.slice none 0 0) by
   have h := heap_alloc_new (w.alloc (.cells #[.int .i64 s.ph, .int .i64 s.left, .int .i64 s.tr, .slice la s.line.length lc] 35)) (.cells #[.int .i64 0, .int .i64 0, .int .i64 0, .slice none 0 0] 35)
   rw [World.size_alloc] at h; rw [hW2]; exact h)
 have HB0 := Box.mk hb0
 have HLB := Box.mk (h.keep hb0)
 have HZ2 := Box.mk hz2
 have hlz : s.line.length ≤ 129 := hs.len
 have HBB := Box.mk hb
 have hcapb : l.length ≤ bc := by
  rcases hb with ⟨_, e, e2⟩ | ⟨_, _, h1, _, _⟩
  · subst e; simp
  · exact h1
 have HOK0 := Box.mk hs
 obtain ⟨R, hR⟩ : ∃ R, R = feedS room s [] 0 l := ⟨_, rfl⟩
 rw [← hR]
 have HEQ := Box.mk (show R = feedS room s [] 0 (l.drop 0) from hR)
 clear hR
 clear h hb hs hb0 hz2
 have HW2 := Box.mk hW2
 clear hW2
 go_enter Tryz.func117, Tryz.ntmps117
 go_wp2_with fail
 go_step3
 go_wp2_with (at_builtin; refine wpList_append_ownb _ rfl _ _ rfl rfl (Own.start (w.heap.size + 2) _) rfl (r := s.line) (by rw [← HW2.out]; exact HLB.out) (by simp; omega) (by rw [← HW2.out, HZ2.out]; exact Nat.le_refl _) ?_)
 intro v3 w3 hown hgr _
 have hown : Own (w.heap.size + 2) w3 v3 s.line := by simpa using hown
 have hgr : W2.grownBy w3 none := by rw [HW2.out]; exact hgr
 obtain ⟨na, nc, rfl, _⟩ := hown.val
 have HC3 := Box.mk (HC0.out.grownC hgr (by simp))
 have HR3 := Box.mk (HR0.out.grownC hgr (by simp))
 have HJ := Box.mk (show FeedP w room s (.slice na s.line.length nc) (.slice none 0 0) [] 0 (w3.setCell ⟨w.heap.size, 3, none⟩ (.slice na s.line.length nc)) from
  ⟨HOK0.out, HC3.out.setV, hown.setC (by omega), HR3.out.other (by show w.heap.size + 1 ≠ w.heap.size; omega), Own.start _ _, fun _ _ _ e => (by cases e),
   (HB0.out.grown hgr (by rw [HZ2.out]; omega) (fun q e => by cases e)).setCell (p := ⟨w.heap.size, 3, none⟩) (Nat.le_refl _) _, by rw [World.size_setCell]; have := hgr.size; rw [HZ2.out] at this; exact this, Nat.le_refl _, .inl rfl⟩)
 obtain ⟨hd0, hd1, hd2, hd3⟩ := HC3.out.cells
 have hf3 := HC3.out.frozen (i := 3)
 clear hown hgr HC0 HR0 HB0 HLB
 go_wp2_with fail
 clear hd0 hd1 hd2 hd3 hf3 HC3 HR3
 go_step3
 go_wp2_with fail
 go_loopw [10, 11] (fun v iv wr => ∃ k : Nat, k ≤ l.length ∧ iv = .int .i64 k ∧ ∃ (s1 : Chk) (va : Value) (out : List UInt8), Box (FeedP w room s1 va v out k wr ∧ R = feedS room s1 out k (l.drop k))) (fun _ iv _ => l.length - (intOf iv).toNat)
 case atStart => exact ⟨0, Nat.zero_le _, rfl, s, _, [], ⟨HJ.out, HEQ.out⟩⟩
 case round =>
  clear HJ HEQ HW2
  obtain ⟨k, hk, rfl, s1, va, out, HM⟩ := hrel
  obtain ⟨oa, oc, rfl, hob⟩ := HM.out.1.own.val
  obtain ⟨la2, lc2, rfl, hlb⟩ := HM.out.1.line.val
  have HFP := Box.mk HM.out.1
  have HEQM := Box.mk HM.out.2
  have HOB := Box.mk hob
  have HLB := Box.mk hlb
  obtain ⟨hd0, hd1, hd2, hd3⟩ := HFP.out.var.cells
  have hol : out.length ≤ k := HFP.out.len
  have hszr := HFP.out.below.size
  have hsz2 := HFP.out.size
  have HRM := Box.mk HFP.out.room
  clear hob hlb HM
  obtain ⟨hr0, hr1, hr2, hr3⟩ := HFP.out.res.cells
  have hz0 := HFP.out.res.frozen (i := 0)
  have hz1 := HFP.out.res.frozen (i := 1)
  have hz2 := HFP.out.res.frozen (i := 2)
  have hz3 := HFP.out.res.frozen (i := 3)
  by_cases hlt : k < l.length
  · obtain ⟨bad, rfl, hbc⟩ := isBytes_at (HBB.out.keep HFP.out.below) hlt
    have HEQ2 := Box.mk (show R = feedS room s1 out k (l[k] :: l.drop (k + 1)) by rw [← List.drop_eq_getElem_cons hlt]; exact HEQM.out)
    generalize l[k] = x at *
    by_cases h4 : s1.ph = 4
    · have e4 : (s1.ph == 4) = true := by rw [h4]; rfl
      have HP := Box.mk (show R = (0, s1, out, k) by rw [HEQ2.out, feedS_stop (.inl h4)])
      clear HEQ2 h4 HEQM
      go_wp2_with fail
      (try rw [Exit.noGoto_ret])
      refine bodyPost_ret (results_row_tmp3C rfl _ _ (w.heap.size + 1) _ _ _ _ rfl HFP.out.res.set4 Tryz.underlying35 rfl sizeC) rfl ?_
      exact ⟨la2, lc2, oa, oc, by rw [HP.out]; rfl, by rw [HP.out]; exact HFP.out.res.set4B HLB.out, by rw [HP.out]; exact HFP.out.res.set4B HOB.out, below_set4 HFP.out.below (by omega), by rw [HP.out]; exact fun x e hne => by have := HFP.out.line.freshA x e hne; omega⟩
    · have e4 : (s1.ph == 4) = false := by rw [beq_eq_false_iff_ne]; exact h4
      by_cases h1 : s1.ph = 1
      · have e1 : (s1.ph == 1) = true := by rw [h1]; rfl
        have hlf := HFP.out.ok.data h1
        have hbr : -9223372036854775808 ≤ room - (out.length : Int) ∧ room - (out.length : Int) ≤ 9223372036854775807 := by
         rcases HRM.out with h | h <;> omega
        have hbr1 := hbr.1
        have hbr2 := hbr.2
        clear hbr
        by_cases hr : room ≤ out.length
        · have HP := Box.mk (show R = (0, s1, out, k) by rw [HEQ2.out, feedS_stop (.inr ⟨h1, hr⟩)])
          have hmin : ∀ (ts : Array TypeId) (t : TypeId) (W : World), (Builtin.min_ ts t #[.int .i64 s1.left, .int .i64 (room - (out.length : Int)), .int .i64 ((l.length : Int) - (k : Int))]).run Tryz.prog W = .ok (.int .i64 (room - (out.length : Int))) W := fun ts t W => by
           rw [run_min_int3, if_pos (show room - (out.length : Int) < s1.left by omega), if_neg (by omega)]
          clear HEQ2 h4 h1 HEQM
          go_wp2_with fail
          (try rw [Exit.noGoto_ret])
          refine bodyPost_ret (results_row_tmp3C rfl _ _ (w.heap.size + 1) _ _ _ _ rfl HFP.out.res.set4 Tryz.underlying35 rfl sizeC) rfl ?_
          exact ⟨la2, lc2, oa, oc, by rw [HP.out]; rfl, by rw [HP.out]; exact HFP.out.res.set4B HLB.out, by rw [HP.out]; exact HFP.out.res.set4B HOB.out, below_set4 HFP.out.below (by omega), by rw [HP.out]; exact fun x e hne => by have := HFP.out.line.freshA x e hne; omega⟩
        · have hmq : ∃ q : Nat, (∀ (ts : Array TypeId) (t : TypeId) (W : World), (Builtin.min_ ts t #[.int .i64 s1.left, .int .i64 (room - (out.length : Int)), .int .i64 ((l.length : Int) - (k : Int))]).run Tryz.prog W = .ok (.int .i64 (q : Int)) W) ∧ 1 ≤ q ∧ (q : Int) ≤ s1.left ∧ (out.length : Int) + q ≤ room ∧ k + q ≤ l.length := by
           refine ⟨(if (l.length : Int) - (k : Int) < (if room - (out.length : Int) < s1.left then room - (out.length : Int) else s1.left) then (l.length : Int) - (k : Int) else (if room - (out.length : Int) < s1.left then room - (out.length : Int) else s1.left)).toNat, fun ts t W => ?_, ?_, ?_, ?_, ?_⟩
           · rw [run_min_int3, Int.toNat_of_nonneg]
             (repeat' split) <;> omega
           all_goals ((repeat' split) <;> omega)
          obtain ⟨q, hmin, hq1, hq2, hq3, hq4⟩ := hmq
          obtain ⟨d, hd⟩ : ∃ d, d = (l.drop k).take q := ⟨_, rfl⟩
          have hdl : d.length = q := by rw [hd, List.length_take, List.length_drop]; omega
          have HDL := Box.mk hdl
          have HD := Box.mk hd
          have HDB := Box.mk (show IsBytes wr (some (bad.add k)) d (bc - k) by rw [hd]; exact isBytes_piece (HBB.out.keep HFP.out.below) hlt hq4)
          have H1 := Box.mk h1
          clear hd hdl HEQ2 h4 h1
          go_wp2_with (at_builtin; refine wpList_append_ownb _ rfl _ _ rfl rfl HFP.out.own (r := d) (by show Value.slice (some (bad.add k)) (k + q - k) (bc - k) = _; rw [HDL.out, Nat.add_sub_cancel_left]) HDB.out (by have := HDL.out; omega) (by omega) ?_)
          intro v5 w5 hown hgr hbl
          obtain ⟨np, hnp⟩ : ∃ np : Int, (if s1.left - (q : Int) = 0 then 2 else 1) = np := ⟨_, rfl⟩
          have HNP := Box.mk hnp
          have HOWN := Box.mk hown
          have HGR := Box.mk hgr
          have HBL := Box.mk hbl
          obtain ⟨o2, ho2⟩ : ∃ o2, o2 = out ++ d := ⟨_, rfl⟩
          have HO2 := Box.mk ho2
          have HC5 := Box.mk (HFP.out.var.grownC hgr (fun e => by have := (HFP.out.own.lt e.symm).1; omega))
          obtain ⟨he0, he1, he2, he3⟩ := HC5.out.cells
          obtain ⟨nb, ncp, rfl, _⟩ := hown.val
          clear hown hgr hbl hnp ho2 hd0 hd1 hd2 hd3 hr0 hr1 hr2 hr3 hz0 hz1 hz2 hz3
          go_wp2_with fail
          refine (leave_any w.heap.size s1.ph s1.left s1.tr (s1.left - q) np _ _ HC5.out (by rw [← HNP.out, H1.out])).mono ?_
          rintro e w6 ⟨rfl, hc6, hg6⟩
          have HC6 := Box.mk hc6
          have HG6 := Box.mk hg6
          clear hc6 hg6
          have HN := Box.mk (show FeedP w room ⟨np, s1.left - q, s1.tr, s1.line⟩ (.slice la2 s1.line.length lc2) (.slice nb (out.length + d.length) ncp) o2 (k + q) w6 by
           have hq := HDL.out
           have h9 := HFP.out.data (d := d) (W2 := w6) H1.out (by omega) (by omega) (by omega) HOWN.out HGR.out HBL.out (by rw [hq, HNP.out]; exact HC6.out) HG6.out
           rw [HO2.out, ← List.length_append]
           rw [hq, HNP.out] at h9
           exact h9)
          go_wp2_with fail
          go_roundw
          case rel =>
           refine ⟨k + q, by omega, by go_num, ⟨np, s1.left - q, s1.tr, s1.line⟩, _, o2, ⟨HN.out, ?_⟩⟩
           rw [HEQM.out]
           obtain ⟨q0, hq0⟩ : ∃ q0, q = q0 + 1 := ⟨q - 1, by omega⟩
           have h9 := feedS_block room q0 s1 out k (l.drop k) H1.out (by rw [List.length_drop]; omega) (by omega) (by omega)
           rw [← hq0, HNP.out, List.drop_drop] at h9
           rw [h9, HO2.out, HD.out]
          case measure => simp [intOf]; omega
      · have e1 : (s1.ph == 1) = false := by rw [beq_eq_false_iff_ne]; exact h1
        have HST := Box.mk (And.intro h4 h1)
        obtain ⟨r, hr⟩ : ∃ r, r = stepS s1 x := ⟨_, rfl⟩
        have HREQ := Box.mk hr
        clear hr HEQM h4 h1 hr0 hr1 hr2 hr3 hz0 hz1 hz2 hz3
        go_wp2_with fail
        refine (readLine_any s1 x w.heap.size (w.heap.size + 2) _ _ HFP.out.var HFP.out.line HFP.out.size (by omega) HFP.out.ok HST.out.2 HST.out.1).mono ?_
        rintro e w6 ⟨he, hok, ht⟩
        rw [← HREQ.out] at he hok
        subst he
        have HT := Box.mk ht
        have HOK := Box.mk hok
        clear ht hok hd0 hd1 hd2 hd3
        by_cases h0 : r.1 = 0
        · have er : (r.1 != 0) = false := by rw [h0]; rfl
          obtain ⟨v', hc, ho, hb⟩ := HOK.out h0
          have HN := Box.mk (HFP.out.read (by rw [HREQ.out]; exact okC_step HFP.out.ok HST.out.2 HST.out.1 (by rw [← HREQ.out]; exact h0)) hc ho hb HT.out)
          have HZ := Box.mk h0
          clear hc ho hb h0
          go_wp2_with fail
          go_roundw
          case rel =>
           refine ⟨k + 1, by omega, by go_num, r.2, v', out, ⟨HN.out, ?_⟩⟩
           rw [HEQ2.out, feedS_ok HST.out.1 HST.out.2 (by rw [← HREQ.out]; exact HZ.out), ← HREQ.out]
          case measure => simp [intOf]; omega
        · have er : (r.1 != 0) = true := by rw [bne_iff_ne]; exact h0
          have HP := Box.mk (show R = (r.1, zeroC, [], 0) by rw [HEQ2.out, feedS_err HST.out.1 HST.out.2 (by rw [← HREQ.out]; exact h0), ← HREQ.out])
          have HR7 := Box.mk (HFP.out.res.touch HT.out (by omega) (fun e => by have := (HFP.out.line.lt e.symm).1; omega))
          have HB7 := Box.mk (Below.touch HFP.out.below HT.out (by omega) (Nat.le_refl _) (fun q e => by have := (HFP.out.line.lt e).1; omega))
          obtain ⟨hr0, hr1, hr2, hr3⟩ := HR7.out.cells
          have hz0 := HR7.out.frozen (i := 0)
          have hz1 := HR7.out.frozen (i := 1)
          have hz2 := HR7.out.frozen (i := 2)
          have hz3 := HR7.out.frozen (i := 3)
          clear h0 HEQ2 HREQ HOK
          go_wp2_with fail
          (try rw [Exit.noGoto_ret])
          refine bodyPost_ret (results_row_tmp3C rfl _ _ (w.heap.size + 1) _ _ _ _ rfl HR7.out.set4 Tryz.underlying35 rfl sizeC) rfl ?_
          exact ⟨none, 0, none, 0, by rw [HP.out]; rfl, by rw [HP.out]; exact .inl ⟨rfl, rfl, rfl⟩, by rw [HP.out]; exact .inl ⟨rfl, rfl, rfl⟩, below_set4 HB7.out (by omega), fun x e => by cases e⟩
  · have HP := Box.mk (show R = (0, s1, out, k) by rw [HEQM.out, List.drop_of_length_le (by omega)]; rfl)
    obtain rfl : k = l.length := by omega
    clear HEQM
    go_wp2_with fail
    (try rw [Exit.noGoto_ret])
    refine bodyPost_ret (results_row_tmp3C rfl _ _ (w.heap.size + 1) _ _ _ _ rfl HFP.out.res.set4 Tryz.underlying35 rfl sizeC) rfl ?_
    exact ⟨la2, lc2, oa, oc, by rw [HP.out]; rfl, by rw [HP.out]; exact HFP.out.res.set4B HLB.out, by rw [HP.out]; exact HFP.out.res.set4B HOB.out, below_set4 HFP.out.below (by omega), by rw [HP.out]; exact fun x e hne => by have := HFP.out.line.freshA x e hne; omega⟩
end Go.Proofs.YteoadfckcilalaaGreatDoor
namespace Go.Proofs.YteoadfckcilalaaGreatDoor
open Go.RowKit

set_option linter.unusedVariables false
def FedR (N : Nat) (er : Int) (c : Chk) (out : List UInt8) (n : Nat) (w : World) (v : Value) : Prop := ∃ a cc oa oc, v = .tuple #[.agg #[.int .i64 c.ph, .int .i64 c.left, .int .i64 c.tr, .slice a c.line.length cc], .slice oa out.length oc, .int .i64 n, .int .i64 er] ∧ IsBytes w a c.line cc ∧ IsBytes w oa out oc ∧ ∀ y, a = some y → c.line ≠ [] → N ≤ y.block
def Spec.fedR (N : Nat) (er : Int) (c : Chk) (out : List UInt8) (n : Nat) : Spec := ⟨fun v w => FedR N er c out n w v, fun _ _ _ h hb => by
 obtain ⟨a, cc, oa, oc, h1, h2, h3, h4⟩ := h
 exact ⟨a, cc, oa, oc, h1, h2.keep hb, h3.keep hb, h4⟩⟩
def AgR (N : Nat) (c : Chk) (w : World) (v : Value) : Prop := ∃ a cc, v = .agg #[.int .i64 c.ph, .int .i64 c.left, .int .i64 c.tr, .slice a c.line.length cc] ∧ IsBytes w a c.line cc ∧ ∀ y, a = some y → c.line ≠ [] → N ≤ y.block
def Spec.agR (N : Nat) (c : Chk) : Spec := ⟨fun v w => AgR N c w v, fun _ _ _ h hb => by
 obtain ⟨a, cc, h1, h2, h3⟩ := h
 exact ⟨a, cc, h1, h2.keep hb, h3⟩⟩
def CNewR (B : Nat) (w : World) (v : Value) : Prop := ∃ g, v = .pointer (some ⟨g, 0, none⟩) ∧ B ≤ g ∧ CVar w g 0 0 0 (.slice none 0 0)
def Spec.cnewR (B : Nat) : Spec := ⟨fun v w => CNewR B w v, fun _ _ _ h hb => by
 obtain ⟨g, h1, h2, h3⟩ := h
 exact ⟨g, h1, h2, h3.keep hb⟩⟩
def CStR (B : Nat) (c : Chk) (w : World) (v : Value) : Prop := ∃ g a cc, v = .pointer (some ⟨g, 0, none⟩) ∧ B ≤ g ∧ CVar w g c.ph c.left c.tr (.slice a c.line.length cc) ∧ IsBytes w a c.line cc ∧ ∀ y, a = some y → c.line ≠ [] → B ≤ y.block
def Spec.cstR (B : Nat) (c : Chk) : Spec := ⟨fun v w => CStR B c w v, fun _ _ _ h hb => by
 obtain ⟨g, a, cc, h1, h2, h3, h4, h5⟩ := h
 exact ⟨g, a, cc, h1, h2, h3.keep hb, h4.keep hb, h5⟩⟩
theorem fedR_row {w : World} {g : Nat} {cs : Array Value} {T : TypeId} {fz : Nat × Nat} {ds : Array Value} {N : Nat} {er : Int} {c : Chk} {out : List UInt8} {n : Nat} {v : Value} (h : w.heap[g]? = some (.cells cs T fz)) (hn : NoU8 cs) (f : FedR N er c out n w v) : FedR N er c out n (w.setRow g ds) v := by
 obtain ⟨a, cc, oa, oc, h1, h2, h3, h4⟩ := f
 exact ⟨a, cc, oa, oc, h1, h2.same fun x e hl => setRow_other _ _ _ _ (row_awayR h hn h2 x e hl), h3.same fun x e hl => setRow_other _ _ _ _ (row_awayR h hn h3 x e hl), h4⟩
theorem isBytes_rowR {w : World} {g : Nat} {cs : Array Value} {T : TypeId} {fz : Nat × Nat} {ds : Array Value} {a : Option Addr} {l : List UInt8} {c : Nat} (h : w.heap[g]? = some (.cells cs T fz)) (hn : NoU8 cs) (f : IsBytes w a l c) : IsBytes (w.setRow g ds) a l c := f.same fun x e hl => setRow_other _ _ _ _ (row_awayR h hn f x e hl)
theorem grownR_row {w w' : World} {g : Nat} {cs : Array Value} {a : Option Addr} {l : List UInt8} {c : Nat} (hm : MVr w g cs) (hn : NoU8 cs) (h : IsBytes w a l c) (hg : w.grownBy w' (some g)) : IsBytes w' a l c := h.grownR hg (row_awayR hm hn h)
theorem bytesV_rowR {w : World} {g : Nat} {cs : Array Value} {T : TypeId} {fz : Nat × Nat} {ds : Array Value} {out : List UInt8} {v : Value} (h : w.heap[g]? = some (.cells cs T fz)) (hn : NoU8 cs) (f : BytesV w v out) : BytesV (w.setRow g ds) v out := by
 obtain ⟨a, c, h1, h2⟩ := f
 exact ⟨a, c, h1, h2.same fun x e hl => setRow_other _ _ _ _ (row_awayR h hn h2 x e hl)⟩
section
variable {Q : Exit → Act → World → Prop} {act : Act} {w : World} {o : Oper} {s : Spec}
theorem loc_allocCR (ho : o.op = .alloc 35) {B : Nat} (hB : B ≤ w.heap.size) (hs : ∀ v w', CNewR B w' v → s.p v w') :
  o.wp Tryz.prog act w (fun a' w' => ∃ v, a' = act.put o.dst v ∧ Below w.heap.size w w' ∧ s.p v w') Q := by
 have hz : (Tryz.prog.info? 35).bind (·.zero) = some (.agg #[.int .i64 0, .int .i64 0, .int .i64 0, .slice none 0 0]) := by kernel_rfl
 refine loc_run (v := .pointer (some ⟨w.heap.size, 0, none⟩)) (w' := w.alloc (.cells #[.int .i64 0, .int .i64 0, .int .i64 0, .slice none 0 0] 35)) ?_ (below_oneF _ _) (hs _ _ ⟨_, rfl, hB, heap_alloc_new _ _⟩)
 cases hq : Tryz.prog.info? 35 with
 | none => rw [hq] at hz; cases hz
 | some i =>
  rw [hq] at hz
  simp only [Option.bind_some] at hz
  unfold execOp
  simp [ho, Instr.alloc, zeroValue, typeInfo, hq, hz, newRow, newVar, Value.cells]
theorem loc_extractR0 {x : Operand} (ho : o.op = .extract x 0) {v0 v1 v2 v3 : Value} (hx : act.eval x = .tuple #[v0, v1, v2, v3]) (hs : s.p v0 w) :
  o.wp Tryz.prog act w (fun a' w' => ∃ v, a' = act.put o.dst v ∧ Below w.heap.size w w' ∧ s.p v w') Q :=
 loc_run (v := v0) (by unfold execOp; simp [ho, hx, Instr.extract]) (Below.refl _ _) hs
theorem loc_extractR1 {x : Operand} (ho : o.op = .extract x 1) {v0 v1 v2 v3 : Value} (hx : act.eval x = .tuple #[v0, v1, v2, v3]) (hs : s.p v1 w) :
  o.wp Tryz.prog act w (fun a' w' => ∃ v, a' = act.put o.dst v ∧ Below w.heap.size w w' ∧ s.p v w') Q :=
 loc_run (v := v1) (by unfold execOp; simp [ho, hx, Instr.extract]) (Below.refl _ _) hs
theorem loc_extractR2 {x : Operand} (ho : o.op = .extract x 2) {v0 v1 v2 v3 : Value} (hx : act.eval x = .tuple #[v0, v1, v2, v3]) (hs : s.p v2 w) :
  o.wp Tryz.prog act w (fun a' w' => ∃ v, a' = act.put o.dst v ∧ Below w.heap.size w w' ∧ s.p v w') Q :=
 loc_run (v := v2) (by unfold execOp; simp [ho, hx, Instr.extract]) (Below.refl _ _) hs
theorem loc_extractR3 {x : Operand} (ho : o.op = .extract x 3) {v0 v1 v2 v3 : Value} (hx : act.eval x = .tuple #[v0, v1, v2, v3]) (hs : s.p v3 w) :
  o.wp Tryz.prog act w (fun a' w' => ∃ v, a' = act.put o.dst v ∧ Below w.heap.size w w' ∧ s.p v w') Q :=
 loc_run (v := v3) (by unfold execOp; simp [ho, hx, Instr.extract]) (Below.refl _ _) hs
end
theorem run_loadLm (w : World) (g : Nat) (x y z : Int) (h : LVr w g x y z) : (Instr.loadAt 81 (.pointer (some ⟨g, 0, none⟩))).run Tryz.prog w = .ok (.agg #[.int .i64 x, .int .i64 y, .int .i64 z]) w := by
 unfold LVr at h
 simp [Instr.loadAt, Instr.sureAddr, run_loadVar_row w g _ 81 _ _ _ h Tryz.underlying81 rfl sizeLm]
set_option maxRecDepth 100000 in
set_option maxHeartbeats 2000000 in
theorem mChunk_err (s : RS) (b : List UInt8) (most body room : Int) (ba : Option Addr) (bc : Nat) (fa ga la : Option Addr) (fc gc lc : Nat) (g : Nat) (w : World) (hb : IsBytes w ba b bc) (hl : b.length ≤ 1000000) (hm : MVr w g #[.bool s.rep, .string s.meth, .int .i64 s.ph, .string s.m, .string s.t, .int .i64 s.z, .slice fa (List.length s.xs) fc, .bool s.fr, .slice none 0 0, .int .i64 s.st, .string s.rs, .int .i64 s.z2, .slice ga (List.length s.ys) gc, .slice none 0 0, .int .i64 s.fk, .int .i64 s.fl, .int .i64 s.left, .int .i64 s.size, .int .i64 s.ck.ph, .int .i64 s.ck.left, .int .i64 s.ck.tr, .slice la (List.length s.ck.line) lc]) (hln : IsBytes w la s.ck.line lc) (hck : OkC s.ck) (hsz : 0 ≤ s.size ∧ s.size ≤ 1000000000) (hy : 0 ≤ body ∧ body ≤ 1000000000) (hr0 : 0 ≤ room ∧ room ≤ 1000000000) (er : Int) (c : Chk) (out : List UInt8) (n : Nat) (hF : feedS (minI room (body + 1 - s.size)) s.ck [] 0 b = (er, c, out, n)) (hol : out.length ≤ 1000000) (h0 : ¬ er = 0) :
  Calls Tryz.prog 84 #[.pointer (some ⟨g, 0, none⟩), .slice ba b.length bc, .agg #[.int .i64 most, .int .i64 body, .int .i64 room]] w fun e w' => e = .returned (.tuple #[.agg #[.int .i64 0, .slice none 0 0], .int .i64 0, .int .i64 er]) ∧ w.grownBy w' (some g) := by
 obtain ⟨cs, hcs⟩ : ∃ cs : Array Value, cs = #[.bool s.rep, .string s.meth, .int .i64 s.ph, .string s.m, .string s.t, .int .i64 s.z, .slice fa (List.length s.xs) fc, .bool s.fr, .slice none 0 0, .int .i64 s.st, .string s.rs, .int .i64 s.z2, .slice ga (List.length s.ys) gc, .slice none 0 0, .int .i64 s.fk, .int .i64 s.fl, .int .i64 s.left, .int .i64 s.size, .int .i64 s.ck.ph, .int .i64 s.ck.left, .int .i64 s.ck.tr, .slice la (List.length s.ck.line) lc] := ⟨_, rfl⟩
 have HCS := Box.mk hcs
 rw [← hcs] at hm
 have hcs22 : cs.size = 22 := by rw [hcs]; rfl
 clear hcs
 obtain ⟨W1, hW1⟩ : ∃ W1, W1 = (w.alloc (.cells #[.int .i64 most, .int .i64 body, .int .i64 room] 81)).alloc (.cells #[.int .i64 0, .slice none 0 0] 41) := ⟨_, rfl⟩
 have HB1 := Box.mk (show Below w.heap.size w W1 by rw [hW1]; exact below_twoF (below_oneF _ _) _)
 have HL1 := Box.mk (show LVr W1 w.heap.size most body room by rw [hW1]; exact LVr.keep (heap_alloc_new w (.cells #[.int .i64 most, .int .i64 body, .int .i64 room] 81)) (below_oneF _ _))
 have HO := Box.mk (show PVr W1 (w.heap.size + 1) #[.int .i64 0, .slice none 0 0] by
  have h := heap_alloc_new (w.alloc (.cells #[.int .i64 most, .int .i64 body, .int .i64 room] 81)) (.cells #[.int .i64 0, .slice none 0 0] 41)
  rw [World.size_alloc] at h
  rw [hW1]; exact h)
 have HW1 := Box.mk hW1
 have HM1 := Box.mk (hm.keep HB1.out)
 have hlt := hm.lt
 have hlw : w.heap.size + 1 < W1.heap.size := (Array.getElem?_eq_some_iff.1 HO.out).1
 clear hW1 hm
 have HN := Box.mk (show NoU8 cs by rw [HCS.out]; exact noU8_22 rfl)
 have HBB := Box.mk (hb.keep HB1.out)
 have HLN := Box.mk (hln.keep HB1.out)
 have H17 := Box.mk (show cs[17]? = some (.int .i64 s.size) by rw [HCS.out]; rfl)
 have HCK := Box.mk hck
 obtain ⟨rk, hrk⟩ : ∃ rk : Int, rk = minI room (body + 1 - s.size) := ⟨_, rfl⟩
 have hrkb : -9223372036854775808 ≤ rk ∧ rk ≤ 9223372036854775807 := by have := minI_le room (body + 1 - s.size); rw [hrk]; omega
 have HRK := Box.mk hrk
 have HSZ := Box.mk hsz
 have HY := Box.mk hy
 have HFE := Box.mk (show feedS rk s.ck [] 0 b = (er, c, out, n) by rw [hrk]; exact hF)
 obtain ⟨hsz0, hsz1⟩ := hsz
 clear hb hln hck hF hrk hy
 go_enter Tryz.func84, Tryz.ntmps84
 go_upto_region 1 with fail
 rw [← HW1.out]
 clear HW1
 go_wp2_with fail
 rename_i KK hKK
 refine wp_region_phases [15] (fun p => match p with | 0 => [0, 1, 2, 3, 4, 5, 6, 7, 8, 9, 10, 11, 12, 13, 14] | _ => [11, 12, 13, 16, 17, 18])
  (fun p => match p with | 0 => [.val (.pointer (some ⟨g, 0, none⟩)), .val (.pointer (some ⟨g, 0, none⟩)), .val (.pointer (some ⟨g, 18, none⟩)), .val (.agg #[.int .i64 s.ck.ph, .int .i64 s.ck.left, .int .i64 s.ck.tr, .slice la (List.length s.ck.line) lc]), .val (.slice ba b.length bc), .val (.pointer (some ⟨g, 0, none⟩)), .val (.agg #[.int .i64 most, .int .i64 body, .int .i64 room]), .val (.int .i64 rk), .fedR W1.heap.size er c out n, .fedR W1.heap.size er c out n, .agR W1.heap.size c, .bytes out, .val (.int .i64 n), .val (.int .i64 er), .cnewR W1.heap.size, .any, .nope, .nope, .nope] | _ => [.any, .any, .any, .any, .any, .any, .any, .any, .any, .fedR W1.heap.size er c out n, .any, .bytes out, .val (.int .i64 n), .val (.int .i64 er), .cstR W1.heap.size c, .any, .bytes out, .val (.int .i64 n), .val (.int .i64 er)])
  (fun _ => fun wx => Below W1.heap.size W1 wx)
  (by kernel_rfl) (by kernel_rfl) (by kernel_rfl) (by kernel_rfl) (by kernel_rfl) (by kernel_rfl) ?_ (Below.refl _ _) ?_ ?_ ?_
 · intro p wa wb h hb
   exact below_trans h hb
 · intro p hp
   match p, hp with
   | 0, _ =>
    refine ⟨?_, ?_, ?_, ?_, ?_, ?_, ?_, ?_, ?_, ?_, ?_, ?_, ?_, ?_, ?_, trivial⟩ <;> intro a1 wx hv hf hd
    · exact ⟨wanted_none rfl, loc_move rfl (hf.base 0 rfl)⟩
    · exact ⟨wanted_none rfl, loc_nilCheck rfl (hd 0 rfl) rfl⟩
    · exact ⟨wanted_none rfl, loc_fieldMs rfl (hd 1 rfl) (by decide) rfl rfl⟩
    · have hra : wx.rangeAt g 18 [.int .i64 s.ck.ph, .int .i64 s.ck.left, .int .i64 s.ck.tr, .slice la (List.length s.ck.line) lc] := fun j v hj => by
       rw [(HM1.out.keep hv).cell, HCS.out]
       match j, hj with
       | 0, hj => exact hj
       | 1, hj => exact hj
       | 2, hj => exact hj
       | 3, hj => exact hj
       | (j + 4), hj => simp at hj
      exact ⟨wanted_none rfl, loc_load rfl (by rw [show a1.eval (.tmp 16) = .pointer (some ⟨g, 18, none⟩) from hd 2 rfl]; exact run_loadAt_mid wx g 18 35 _ _ hra Tryz.underlying35 rfl sizeC) rfl⟩
    · exact ⟨wanted_none rfl, loc_move rfl (hf.base 1 rfl)⟩
    · exact ⟨wanted_none rfl, loc_move rfl (hf.base 0 rfl)⟩
    · exact ⟨wanted_none rfl, loc_load rfl (by rw [show a1.eval (.tmp 5) = .pointer (some ⟨w.heap.size, 0, none⟩) from hf.base 5 rfl]; exact run_loadLm _ _ _ _ _ (HL1.out.keep hv)) rfl⟩
    · refine ⟨wanted_none rfl, loc_call rfl (by kernel_rfl) ?_⟩
      show Calls _ _ #[a1.eval (.tmp 19), a1.eval (.tmp 20)] _ _
      rw [show a1.eval (.tmp 19) = .pointer (some ⟨g, 0, none⟩) from hd 5 rfl, show a1.eval (.tmp 20) = .agg #[.int .i64 most, .int .i64 body, .int .i64 room] from hd 6 rfl]
      refine (mRoom_any g cs most body room s.size wx (HM1.out.keep hv) H17.out HY.out HSZ.out).mono ?_
      rintro e w' ⟨he, hbb⟩
      exact ⟨_, he, hbb, by rw [HRK.out]; rfl⟩
    · refine ⟨wanted_none rfl, loc_call rfl (by kernel_rfl) ?_⟩
      show Calls _ _ #[a1.eval (.tmp 17), a1.eval (.tmp 18), a1.eval (.tmp 21)] _ _
      rw [show a1.eval (.tmp 17) = .agg #[.int .i64 s.ck.ph, .int .i64 s.ck.left, .int .i64 s.ck.tr, .slice la (List.length s.ck.line) lc] from hd 3 rfl, show a1.eval (.tmp 18) = .slice ba b.length bc from hd 4 rfl, show a1.eval (.tmp 21) = .int .i64 rk from hd 7 rfl]
      refine (projFeedF_any s.ck b rk la ba lc bc wx (HLN.out.keep hv) (HBB.out.keep hv) HCK.out (by omega) hrkb.1 hrkb.2).mono ?_
      rintro e w' ⟨a, cc, oa, oc, he, hln, hout, hbb, hlf⟩
      rw [HFE.out] at he hln hout hlf
      exact ⟨_, he, hbb, a, cc, oa, oc, rfl, hln, hout, fun y e hx => Nat.le_trans hv.size (hlf y e hx)⟩
    · exact ⟨wanted_none rfl, loc_move rfl (hd 8 rfl)⟩
    · obtain ⟨a, cc, oa, oc, e1, e2, e3, e4⟩ := hd 9 rfl
      exact ⟨wanted_none rfl, loc_extractR0 rfl e1 ⟨a, cc, rfl, e2, e4⟩⟩
    · obtain ⟨a, cc, oa, oc, e1, e2, e3, e4⟩ := hd 9 rfl
      exact ⟨wanted_none rfl, loc_extractR1 rfl e1 ⟨oa, oc, rfl, e3⟩⟩
    · obtain ⟨a, cc, oa, oc, e1, e2, e3, e4⟩ := hd 9 rfl
      exact ⟨wanted_none rfl, loc_extractR2 rfl e1 rfl⟩
    · obtain ⟨a, cc, oa, oc, e1, e2, e3, e4⟩ := hd 9 rfl
      exact ⟨wanted_none rfl, loc_extractR3 rfl e1 rfl⟩
    · exact ⟨wanted_none rfl, loc_allocCR rfl hv.size fun v w' h => h⟩
   | 1, _ =>
    refine ⟨?_, ?_, ?_, ?_, ?_, ?_, trivial⟩ <;> intro a1 wx hv hf hd
    · obtain ⟨a, cc, oa, oc, e1, e2, e3, e4⟩ := hd 9 rfl
      exact ⟨wanted_none rfl, loc_extractR1 rfl e1 ⟨oa, oc, rfl, e3⟩⟩
    · obtain ⟨a, cc, oa, oc, e1, e2, e3, e4⟩ := hd 9 rfl
      exact ⟨wanted_none rfl, loc_extractR2 rfl e1 rfl⟩
    · obtain ⟨a, cc, oa, oc, e1, e2, e3, e4⟩ := hd 9 rfl
      exact ⟨wanted_none rfl, loc_extractR3 rfl e1 rfl⟩
    · exact ⟨wanted_none rfl, loc_assign rfl (hd 11 rfl)⟩
    · exact ⟨wanted_none rfl, loc_assign rfl (hd 12 rfl)⟩
    · exact ⟨wanted_none rfl, loc_assign rfl (hd 13 rfl)⟩
 · intro p hp
   match p, hp with
   | 0, _ =>
    intro a2 wx hv hf hd
    obtain ⟨g9, e9, hB9, hk9⟩ := hd 14 rfl
    obtain ⟨a, cc, e10, hln, hlf⟩ := hd 10 rfl
    refine ⟨wanted_none rfl, wp_store_row 35 _ _ rfl g9 #[.int .i64 c.ph, .int .i64 c.left, .int .i64 c.tr, .slice a (List.length c.line) cc] e9 e10 35 _ hk9 sizeC rfl (oneC ..) ?_⟩
    exact ⟨undef, rfl, below_setRow hv hB9 _, trivial, ⟨.inr fun _ _ _ => trivial, .inr fun _ _ _ => trivial, .inr fun _ _ _ => trivial, .inr fun _ _ _ => trivial, .inr fun _ _ _ => trivial, .inr fun _ _ _ => trivial, .inr fun _ _ _ => trivial, .inr fun _ _ _ => trivial, .inr fun _ _ _ => trivial, .inr fun _ _ h => fedR_row hk9 (noU8_22 rfl) h, .inr fun _ _ _ => trivial, .inr fun _ _ h => bytesV_rowR hk9 (noU8_22 rfl) h, .inr fun _ _ h => h, .inr fun _ _ h => h, .inr fun v hv0 _ => by have h9 := hv0 _ 9 rfl rfl; rw [h9, e9]; exact ⟨g9, a, cc, rfl, hB9, setRow_heap _ _ _ _ _ _ hk9, hln.same fun x e hl => setRow_other _ _ _ _ (row_awayR hk9 (noU8_22 rfl) hln x e hl), hlf⟩, .inl rfl, .inr fun _ _ h => h.elim, .inr fun _ _ h => h.elim, .inr fun _ _ h => h.elim, trivial⟩⟩
 · intro a2 w3 hv hf hh
   obtain ⟨oa, oc, e10a, hout⟩ := hh 16 (by decide)
   have e10 : a2.eval (.tmp 10) = .slice oa (List.length out) oc := e10a
   have e11 : a2.eval (.tmp 11) = .int .i64 n := hh 17 (by decide)
   have e12 : a2.eval (.tmp 12) = .int .i64 er := hh 18 (by decide)
   obtain ⟨gk, a, cc, e9a, hgk, hk3, hln3, hlf3⟩ := hh 14 (by decide)
   have HLF := Box.mk (show ∀ y, a = some y → c.line ≠ [] → w.heap.size ≤ y.block from fun y e hx => by have := hlf3 y e hx; have := HB1.out.size; omega)
   clear hlf3
   have e9 : a2.eval (.tmp 9) = .pointer (some ⟨gk, 0, none⟩) := e9a
   clear hh e9a e10a
   rw [fr_putAll hf]
   clear hf
   simp only [putAll, e9, e10, e11, e12]
   generalize a2.eval (.tmp 14) = u14
   generalize a2.eval (.tmp 15) = u15
   generalize a2.eval (.tmp 16) = u16
   generalize a2.eval (.tmp 17) = u17
   generalize a2.eval (.tmp 18) = u18
   generalize a2.eval (.tmp 19) = u19
   generalize a2.eval (.tmp 20) = u20
   generalize a2.eval (.tmp 21) = u21
   generalize a2.eval (.tmp 22) = u22
   generalize a2.eval (.tmp 13) = u13
   generalize a2.eval (.tmp 23) = u23
   generalize a2.eval (.tmp 24) = u24
   generalize a2.eval (.tmp 25) = u25
   generalize a2.eval (.tmp 26) = u26
   clear e9 e10 e11 e12 a2
   simp only [Act.put, List.setIfInBounds_toArray, List.set_cons_succ, List.set_cons_zero]
   refine hKK _ _ ?_
   clear hKK
   have HM3 := Box.mk (HM1.out.keep hv)
   have HP3 := Box.mk (HO.out.keep hv)
   have HL3 := Box.mk (HL1.out.keep hv)
   have HK3 := Box.mk hk3
   have HLN3 := Box.mk hln3
   have HOUT3 := Box.mk hout
   have HG3 := Box.mk (grownBy_of (below_trans HB1.out hv) (some g))
   have hlw3 : w.heap.size + 1 < w3.heap.size := Nat.lt_of_lt_of_le hlw hv.size
   have hgk2 : w.heap.size + 1 < gk := Nat.lt_of_lt_of_le hlw hgk
   clear hv hk3 hln3 hout HM1 HO HL1 HB1 HBB HLN hlw hgk HFE HRK HCK HSZ HY hrkb
   have e0 : (er != 0) = true := by rw [bne_iff_ne]; exact h0
   clear h0
   go_wp2_with (refine wpList_store_row rfl 41 _ _ rfl (w.heap.size + 1) #[.int .i64 0, .slice none 0 0] rfl rfl 41 _ HP3.out sizePt rfl (onePt ..) ?_)
   (try simp only [Exit.inBlock, Exit.then])
   refine bodyPost_ret (results_rtt rfl _ _ (w.heap.size + 1) 41 #[.int .i64 0, .slice none 0 0] (0, 0) _ rfl (setRow_heap _ _ _ _ _ _ HP3.out) Tryz.underlying41 rfl sizePt) rfl ?_
   exact ⟨rfl, grownBy_own HG3.out (by omega) _⟩
set_option maxRecDepth 100000 in
set_option maxHeartbeats 2000000 in
theorem mChunk_full (s : RS) (b : List UInt8) (most body room : Int) (ba : Option Addr) (bc : Nat) (fa ga la : Option Addr) (fc gc lc : Nat) (g : Nat) (w : World) (hb : IsBytes w ba b bc) (hl : b.length ≤ 1000000) (hm : MVr w g #[.bool s.rep, .string s.meth, .int .i64 s.ph, .string s.m, .string s.t, .int .i64 s.z, .slice fa (List.length s.xs) fc, .bool s.fr, .slice none 0 0, .int .i64 s.st, .string s.rs, .int .i64 s.z2, .slice ga (List.length s.ys) gc, .slice none 0 0, .int .i64 s.fk, .int .i64 s.fl, .int .i64 s.left, .int .i64 s.size, .int .i64 s.ck.ph, .int .i64 s.ck.left, .int .i64 s.ck.tr, .slice la (List.length s.ck.line) lc]) (hln : IsBytes w la s.ck.line lc) (hck : OkC s.ck) (hsz : 0 ≤ s.size ∧ s.size ≤ 1000000000) (hy : 0 ≤ body ∧ body ≤ 1000000000) (hr0 : 0 ≤ room ∧ room ≤ 1000000000) (er : Int) (c : Chk) (out : List UInt8) (n : Nat) (hF : feedS (minI room (body + 1 - s.size)) s.ck [] 0 b = (er, c, out, n)) (hol : out.length ≤ 1000000) (h0 : er = 0) (hbs : body < s.size + ((List.length out : Nat) : Int)) :
  Calls Tryz.prog 84 #[.pointer (some ⟨g, 0, none⟩), .slice ba b.length bc, .agg #[.int .i64 most, .int .i64 body, .int .i64 room]] w fun e w' => e = .returned (.tuple #[.agg #[.int .i64 0, .slice none 0 0], .int .i64 0, .int .i64 9]) ∧ w.grownBy w' (some g) := by
 obtain ⟨cs, hcs⟩ : ∃ cs : Array Value, cs = #[.bool s.rep, .string s.meth, .int .i64 s.ph, .string s.m, .string s.t, .int .i64 s.z, .slice fa (List.length s.xs) fc, .bool s.fr, .slice none 0 0, .int .i64 s.st, .string s.rs, .int .i64 s.z2, .slice ga (List.length s.ys) gc, .slice none 0 0, .int .i64 s.fk, .int .i64 s.fl, .int .i64 s.left, .int .i64 s.size, .int .i64 s.ck.ph, .int .i64 s.ck.left, .int .i64 s.ck.tr, .slice la (List.length s.ck.line) lc] := ⟨_, rfl⟩
 have HCS := Box.mk hcs
 rw [← hcs] at hm
 have hcs22 : cs.size = 22 := by rw [hcs]; rfl
 clear hcs
 obtain ⟨W1, hW1⟩ : ∃ W1, W1 = (w.alloc (.cells #[.int .i64 most, .int .i64 body, .int .i64 room] 81)).alloc (.cells #[.int .i64 0, .slice none 0 0] 41) := ⟨_, rfl⟩
 have HB1 := Box.mk (show Below w.heap.size w W1 by rw [hW1]; exact below_twoF (below_oneF _ _) _)
 have HL1 := Box.mk (show LVr W1 w.heap.size most body room by rw [hW1]; exact LVr.keep (heap_alloc_new w (.cells #[.int .i64 most, .int .i64 body, .int .i64 room] 81)) (below_oneF _ _))
 have HO := Box.mk (show PVr W1 (w.heap.size + 1) #[.int .i64 0, .slice none 0 0] by
  have h := heap_alloc_new (w.alloc (.cells #[.int .i64 most, .int .i64 body, .int .i64 room] 81)) (.cells #[.int .i64 0, .slice none 0 0] 41)
  rw [World.size_alloc] at h
  rw [hW1]; exact h)
 have HW1 := Box.mk hW1
 have HM1 := Box.mk (hm.keep HB1.out)
 have hlt := hm.lt
 have hlw : w.heap.size + 1 < W1.heap.size := (Array.getElem?_eq_some_iff.1 HO.out).1
 clear hW1 hm
 have HN := Box.mk (show NoU8 cs by rw [HCS.out]; exact noU8_22 rfl)
 have HBB := Box.mk (hb.keep HB1.out)
 have HLN := Box.mk (hln.keep HB1.out)
 have H17 := Box.mk (show cs[17]? = some (.int .i64 s.size) by rw [HCS.out]; rfl)
 have HCK := Box.mk hck
 obtain ⟨rk, hrk⟩ : ∃ rk : Int, rk = minI room (body + 1 - s.size) := ⟨_, rfl⟩
 have hrkb : -9223372036854775808 ≤ rk ∧ rk ≤ 9223372036854775807 := by have := minI_le room (body + 1 - s.size); rw [hrk]; omega
 have HRK := Box.mk hrk
 have HSZ := Box.mk hsz
 have HY := Box.mk hy
 have HFE := Box.mk (show feedS rk s.ck [] 0 b = (er, c, out, n) by rw [hrk]; exact hF)
 obtain ⟨hsz0, hsz1⟩ := hsz
 clear hb hln hck hF hrk hy
 have Bh0 := Box.mk h0
 clear h0
 go_enter Tryz.func84, Tryz.ntmps84
 go_upto_region 1 with fail
 rw [← HW1.out]
 clear HW1
 go_wp2_with fail
 rename_i KK hKK
 refine wp_region_phases [15] (fun p => match p with | 0 => [0, 1, 2, 3, 4, 5, 6, 7, 8, 9, 10, 11, 12, 13, 14] | _ => [11, 12, 13, 16, 17, 18])
  (fun p => match p with | 0 => [.val (.pointer (some ⟨g, 0, none⟩)), .val (.pointer (some ⟨g, 0, none⟩)), .val (.pointer (some ⟨g, 18, none⟩)), .val (.agg #[.int .i64 s.ck.ph, .int .i64 s.ck.left, .int .i64 s.ck.tr, .slice la (List.length s.ck.line) lc]), .val (.slice ba b.length bc), .val (.pointer (some ⟨g, 0, none⟩)), .val (.agg #[.int .i64 most, .int .i64 body, .int .i64 room]), .val (.int .i64 rk), .fedR W1.heap.size er c out n, .fedR W1.heap.size er c out n, .agR W1.heap.size c, .bytes out, .val (.int .i64 n), .val (.int .i64 er), .cnewR W1.heap.size, .any, .nope, .nope, .nope] | _ => [.any, .any, .any, .any, .any, .any, .any, .any, .any, .fedR W1.heap.size er c out n, .any, .bytes out, .val (.int .i64 n), .val (.int .i64 er), .cstR W1.heap.size c, .any, .bytes out, .val (.int .i64 n), .val (.int .i64 er)])
  (fun _ => fun wx => Below W1.heap.size W1 wx)
  (by kernel_rfl) (by kernel_rfl) (by kernel_rfl) (by kernel_rfl) (by kernel_rfl) (by kernel_rfl) ?_ (Below.refl _ _) ?_ ?_ ?_
 · intro p wa wb h hb
   exact below_trans h hb
 · intro p hp
   match p, hp with
   | 0, _ =>
    refine ⟨?_, ?_, ?_, ?_, ?_, ?_, ?_, ?_, ?_, ?_, ?_, ?_, ?_, ?_, ?_, trivial⟩ <;> intro a1 wx hv hf hd
    · exact ⟨wanted_none rfl, loc_move rfl (hf.base 0 rfl)⟩
    · exact ⟨wanted_none rfl, loc_nilCheck rfl (hd 0 rfl) rfl⟩
    · exact ⟨wanted_none rfl, loc_fieldMs rfl (hd 1 rfl) (by decide) rfl rfl⟩
    · have hra : wx.rangeAt g 18 [.int .i64 s.ck.ph, .int .i64 s.ck.left, .int .i64 s.ck.tr, .slice la (List.length s.ck.line) lc] := fun j v hj => by
       rw [(HM1.out.keep hv).cell, HCS.out]
       match j, hj with
       | 0, hj => exact hj
       | 1, hj => exact hj
       | 2, hj => exact hj
       | 3, hj => exact hj
       | (j + 4), hj => simp at hj
      exact ⟨wanted_none rfl, loc_load rfl (by rw [show a1.eval (.tmp 16) = .pointer (some ⟨g, 18, none⟩) from hd 2 rfl]; exact run_loadAt_mid wx g 18 35 _ _ hra Tryz.underlying35 rfl sizeC) rfl⟩
    · exact ⟨wanted_none rfl, loc_move rfl (hf.base 1 rfl)⟩
    · exact ⟨wanted_none rfl, loc_move rfl (hf.base 0 rfl)⟩
    · exact ⟨wanted_none rfl, loc_load rfl (by rw [show a1.eval (.tmp 5) = .pointer (some ⟨w.heap.size, 0, none⟩) from hf.base 5 rfl]; exact run_loadLm _ _ _ _ _ (HL1.out.keep hv)) rfl⟩
    · refine ⟨wanted_none rfl, loc_call rfl (by kernel_rfl) ?_⟩
      show Calls _ _ #[a1.eval (.tmp 19), a1.eval (.tmp 20)] _ _
      rw [show a1.eval (.tmp 19) = .pointer (some ⟨g, 0, none⟩) from hd 5 rfl, show a1.eval (.tmp 20) = .agg #[.int .i64 most, .int .i64 body, .int .i64 room] from hd 6 rfl]
      refine (mRoom_any g cs most body room s.size wx (HM1.out.keep hv) H17.out HY.out HSZ.out).mono ?_
      rintro e w' ⟨he, hbb⟩
      exact ⟨_, he, hbb, by rw [HRK.out]; rfl⟩
    · refine ⟨wanted_none rfl, loc_call rfl (by kernel_rfl) ?_⟩
      show Calls _ _ #[a1.eval (.tmp 17), a1.eval (.tmp 18), a1.eval (.tmp 21)] _ _
      rw [show a1.eval (.tmp 17) = .agg #[.int .i64 s.ck.ph, .int .i64 s.ck.left, .int .i64 s.ck.tr, .slice la (List.length s.ck.line) lc] from hd 3 rfl, show a1.eval (.tmp 18) = .slice ba b.length bc from hd 4 rfl, show a1.eval (.tmp 21) = .int .i64 rk from hd 7 rfl]
      refine (projFeedF_any s.ck b rk la ba lc bc wx (HLN.out.keep hv) (HBB.out.keep hv) HCK.out (by omega) hrkb.1 hrkb.2).mono ?_
      rintro e w' ⟨a, cc, oa, oc, he, hln, hout, hbb, hlf⟩
      rw [HFE.out] at he hln hout hlf
      exact ⟨_, he, hbb, a, cc, oa, oc, rfl, hln, hout, fun y e hx => Nat.le_trans hv.size (hlf y e hx)⟩
    · exact ⟨wanted_none rfl, loc_move rfl (hd 8 rfl)⟩
    · obtain ⟨a, cc, oa, oc, e1, e2, e3, e4⟩ := hd 9 rfl
      exact ⟨wanted_none rfl, loc_extractR0 rfl e1 ⟨a, cc, rfl, e2, e4⟩⟩
    · obtain ⟨a, cc, oa, oc, e1, e2, e3, e4⟩ := hd 9 rfl
      exact ⟨wanted_none rfl, loc_extractR1 rfl e1 ⟨oa, oc, rfl, e3⟩⟩
    · obtain ⟨a, cc, oa, oc, e1, e2, e3, e4⟩ := hd 9 rfl
      exact ⟨wanted_none rfl, loc_extractR2 rfl e1 rfl⟩
    · obtain ⟨a, cc, oa, oc, e1, e2, e3, e4⟩ := hd 9 rfl
      exact ⟨wanted_none rfl, loc_extractR3 rfl e1 rfl⟩
    · exact ⟨wanted_none rfl, loc_allocCR rfl hv.size fun v w' h => h⟩
   | 1, _ =>
    refine ⟨?_, ?_, ?_, ?_, ?_, ?_, trivial⟩ <;> intro a1 wx hv hf hd
    · obtain ⟨a, cc, oa, oc, e1, e2, e3, e4⟩ := hd 9 rfl
      exact ⟨wanted_none rfl, loc_extractR1 rfl e1 ⟨oa, oc, rfl, e3⟩⟩
    · obtain ⟨a, cc, oa, oc, e1, e2, e3, e4⟩ := hd 9 rfl
      exact ⟨wanted_none rfl, loc_extractR2 rfl e1 rfl⟩
    · obtain ⟨a, cc, oa, oc, e1, e2, e3, e4⟩ := hd 9 rfl
      exact ⟨wanted_none rfl, loc_extractR3 rfl e1 rfl⟩
    · exact ⟨wanted_none rfl, loc_assign rfl (hd 11 rfl)⟩
    · exact ⟨wanted_none rfl, loc_assign rfl (hd 12 rfl)⟩
    · exact ⟨wanted_none rfl, loc_assign rfl (hd 13 rfl)⟩
 · intro p hp
   match p, hp with
   | 0, _ =>
    intro a2 wx hv hf hd
    obtain ⟨g9, e9, hB9, hk9⟩ := hd 14 rfl
    obtain ⟨a, cc, e10, hln, hlf⟩ := hd 10 rfl
    refine ⟨wanted_none rfl, wp_store_row 35 _ _ rfl g9 #[.int .i64 c.ph, .int .i64 c.left, .int .i64 c.tr, .slice a (List.length c.line) cc] e9 e10 35 _ hk9 sizeC rfl (oneC ..) ?_⟩
    exact ⟨undef, rfl, below_setRow hv hB9 _, trivial, ⟨.inr fun _ _ _ => trivial, .inr fun _ _ _ => trivial, .inr fun _ _ _ => trivial, .inr fun _ _ _ => trivial, .inr fun _ _ _ => trivial, .inr fun _ _ _ => trivial, .inr fun _ _ _ => trivial, .inr fun _ _ _ => trivial, .inr fun _ _ _ => trivial, .inr fun _ _ h => fedR_row hk9 (noU8_22 rfl) h, .inr fun _ _ _ => trivial, .inr fun _ _ h => bytesV_rowR hk9 (noU8_22 rfl) h, .inr fun _ _ h => h, .inr fun _ _ h => h, .inr fun v hv0 _ => by have h9 := hv0 _ 9 rfl rfl; rw [h9, e9]; exact ⟨g9, a, cc, rfl, hB9, setRow_heap _ _ _ _ _ _ hk9, hln.same fun x e hl => setRow_other _ _ _ _ (row_awayR hk9 (noU8_22 rfl) hln x e hl), hlf⟩, .inl rfl, .inr fun _ _ h => h.elim, .inr fun _ _ h => h.elim, .inr fun _ _ h => h.elim, trivial⟩⟩
 · intro a2 w3 hv hf hh
   obtain ⟨oa, oc, e10a, hout⟩ := hh 16 (by decide)
   have e10 : a2.eval (.tmp 10) = .slice oa (List.length out) oc := e10a
   have e11 : a2.eval (.tmp 11) = .int .i64 n := hh 17 (by decide)
   have e12 : a2.eval (.tmp 12) = .int .i64 er := hh 18 (by decide)
   obtain ⟨gk, a, cc, e9a, hgk, hk3, hln3, hlf3⟩ := hh 14 (by decide)
   have HLF := Box.mk (show ∀ y, a = some y → c.line ≠ [] → w.heap.size ≤ y.block from fun y e hx => by have := hlf3 y e hx; have := HB1.out.size; omega)
   clear hlf3
   have e9 : a2.eval (.tmp 9) = .pointer (some ⟨gk, 0, none⟩) := e9a
   clear hh e9a e10a
   rw [fr_putAll hf]
   clear hf
   simp only [putAll, e9, e10, e11, e12]
   generalize a2.eval (.tmp 14) = u14
   generalize a2.eval (.tmp 15) = u15
   generalize a2.eval (.tmp 16) = u16
   generalize a2.eval (.tmp 17) = u17
   generalize a2.eval (.tmp 18) = u18
   generalize a2.eval (.tmp 19) = u19
   generalize a2.eval (.tmp 20) = u20
   generalize a2.eval (.tmp 21) = u21
   generalize a2.eval (.tmp 22) = u22
   generalize a2.eval (.tmp 13) = u13
   generalize a2.eval (.tmp 23) = u23
   generalize a2.eval (.tmp 24) = u24
   generalize a2.eval (.tmp 25) = u25
   generalize a2.eval (.tmp 26) = u26
   clear e9 e10 e11 e12 a2
   simp only [Act.put, List.setIfInBounds_toArray, List.set_cons_succ, List.set_cons_zero]
   refine hKK _ _ ?_
   clear hKK
   have HM3 := Box.mk (HM1.out.keep hv)
   have HP3 := Box.mk (HO.out.keep hv)
   have HL3 := Box.mk (HL1.out.keep hv)
   have HK3 := Box.mk hk3
   have HLN3 := Box.mk hln3
   have HOUT3 := Box.mk hout
   have HG3 := Box.mk (grownBy_of (below_trans HB1.out hv) (some g))
   have hlw3 : w.heap.size + 1 < w3.heap.size := Nat.lt_of_lt_of_le hlw hv.size
   have hgk2 : w.heap.size + 1 < gk := Nat.lt_of_lt_of_le hlw hgk
   clear hv hk3 hln3 hout HM1 HO HL1 HB1 HBB HLN hlw hgk HFE HRK HCK HSZ HY hrkb
   have h0 := Bh0.out
   clear Bh0
   subst h0
   obtain ⟨c1, hc1⟩ : ∃ y0 : Array Value, y0 = #[.bool s.rep, .string s.meth, .int .i64 s.ph, .string s.m, .string s.t, .int .i64 s.z, .slice fa (List.length s.xs) fc, .bool s.fr, .slice none 0 0, .int .i64 s.st, .string s.rs, .int .i64 s.z2, .slice ga (List.length s.ys) gc, .slice none 0 0, .int .i64 s.fk, .int .i64 s.fl, .int .i64 s.left, .int .i64 s.size, .int .i64 c.ph, .int .i64 c.left, .int .i64 c.tr, .slice a (List.length c.line) cc] := ⟨_, rfl⟩
   have HC1 := Box.mk hc1
   obtain ⟨c2, hc2⟩ : ∃ y0 : Array Value, y0 = #[.bool s.rep, .string s.meth, .int .i64 s.ph, .string s.m, .string s.t, .int .i64 s.z, .slice fa (List.length s.xs) fc, .bool s.fr, .slice none 0 0, .int .i64 s.st, .string s.rs, .int .i64 s.z2, .slice ga (List.length s.ys) gc, .slice none 0 0, .int .i64 s.fk, .int .i64 s.fl, .int .i64 s.left, .int .i64 (s.size + ((List.length out : Nat) : Int)), .int .i64 c.ph, .int .i64 c.left, .int .i64 c.tr, .slice a (List.length c.line) cc] := ⟨_, rfl⟩
   have HC2 := Box.mk hc2
   clear hc1 hc2
   go_upto_region 5 with (first | refine wpList_load_row rfl 35 _ rfl gk rfl 35 #[.int .i64 c.ph, .int .i64 c.left, .int .i64 c.tr, .slice a (List.length c.line) cc] (0, 0) _ HK3.out Tryz.underlying35 rfl sizeC ?_ | refine wpList_store_sub rfl 35 _ _ rfl g 18 #[.int .i64 c.ph, .int .i64 c.left, .int .i64 c.tr, .slice a (List.length c.line) cc] rfl rfl 73 _ c1 HM3.out sizeC (by rw [hcs22]; show 18 + 4 ≤ 22; decide) (oneC ..) (by rw [HCS.out, HC1.out]; rfl) ?_)
   obtain ⟨W4, hW4⟩ : ∃ W4, W4 = w3.setRow g c1 := ⟨_, rfl⟩
   have HM4 := Box.mk (show MVr W4 g c1 by rw [hW4]; exact setRow_heap _ _ _ _ _ _ HM3.out)
   have HG34 := Box.mk (show w3.grownBy W4 (some g) by rw [hW4]; exact grownBy_setRowM _ _ _)
   have hc17 : W4.cell? ⟨g, 17, none⟩ = some (.int .i64 s.size) := by rw [HM4.out.cell, HC1.out]; rfl
   have hz17 : W4.frozen? ⟨g, 17, none⟩ = false := HM4.out.frozen 17
   rw [← hW4]
   clear hW4
   go_upto_region 6 with fail
   obtain ⟨W5, hW5⟩ : ∃ W5, W5 = W4.setCell ⟨g, 17, none⟩ (.int .i64 (s.size + ((List.length out : Nat) : Int))) := ⟨_, rfl⟩
   have HM5 := Box.mk (show MVr W5 g c2 by rw [hW5]; have h := HM4.out.put (i := 17) (v := .int .i64 (s.size + ((List.length out : Nat) : Int))); rw [show c1.setIfInBounds 17 (.int .i64 (s.size + ((List.length out : Nat) : Int))) = c2 by rw [HC1.out, HC2.out]; rfl] at h; exact h)
   have hg35 : w3.grownBy W5 (some g) := by rw [hW5]; exact grownBy_trans HG34.out (grownBy_setC _ _ _ _)
   have hP5 : PVr W5 (w.heap.size + 1) #[.int .i64 0, .slice none 0 0] := (hg35.block _ hlw3 (fun e => by injection e with e; omega)).trans HP3.out
   have hL5 : LVr W5 w.heap.size most body room := (hg35.block _ (by omega) (fun e => by injection e with e; omega)).trans HL3.out
   have hK5 : CVar W5 gk c.ph c.left c.tr (.slice a (List.length c.line) cc) := (hg35.block _ HK3.out.lt (fun e => by injection e with e; omega)).trans HK3.out
   have hLN5 := HLN3.out.grownR hg35 (row_awayR HM3.out HN.out HLN3.out)
   have hOUT5 := HOUT3.out.grownR hg35 (row_awayR HM3.out HN.out HOUT3.out)
   have hG5 := grownBy_trans HG3.out hg35
   have hlw5 : w.heap.size + 1 < W5.heap.size := Nat.lt_of_lt_of_le hlw3 hg35.size
   have hm17 : W5.cell? ⟨g, 17, none⟩ = some (.int .i64 (s.size + ((List.length out : Nat) : Int))) := by rw [HM5.out.cell, HC2.out]; rfl
   have hl1 : W5.cell? ⟨w.heap.size, 1, none⟩ = some (.int .i64 body) := by rw [cell_of_row _ _ _ _ _ _ hL5]; rfl
   rw [← hW5]
   have HDR : ∀ k, Below W5.heap.size W5 (W5.drewN k) := fun k => below_drewN (Below.refl _ _) k
   have HM6 := Box.mk (fun k => HM5.out.keep (HDR k))
   have HP6 := Box.mk (fun k => hP5.keep (HDR k))
   have HK6 := Box.mk (fun k => hK5.keep (HDR k))
   have HLN6 := Box.mk (fun k => hLN5.keep (HDR k))
   have HOUT6 := Box.mk (fun k => hOUT5.keep (HDR k))
   have HG6 := Box.mk (fun k => grownBy_trans hG5 (grownBy_of (HDR k) (some g)))
   have HLW := Box.mk (fun k => Nat.lt_of_lt_of_le hlw5 (HDR k).size)
   clear hW5 hc17 hz17 HM3 HM4 HM5 HG34 hg35 hP5 hL5 hK5 hLN5 hOUT5 hG5 hlw5 HDR HP3 HL3 HK3 HLN3 HOUT3 HG3 hlw3 HC1 HCS hcs22 HN H17
   have hgt : s.size + ((List.length out : Nat) : Int) > body := by omega
   clear hbs
   go_wp2_with fail
   go_quiet (fail)
   go_wp2_with (refine wpList_store_row rfl 41 _ _ rfl (w.heap.size + 1) #[.int .i64 0, .slice none 0 0] rfl rfl 41 _ (HP6.out _) sizePt rfl (onePt ..) ?_)
   (try simp only [Exit.inBlock, Exit.then])
   refine bodyPost_ret (results_rtt rfl _ _ (w.heap.size + 1) 41 #[.int .i64 0, .slice none 0 0] (0, 0) _ rfl (setRow_heap _ _ _ _ _ _ (HP6.out _)) Tryz.underlying41 rfl sizePt) rfl ?_
   exact ⟨rfl, grownBy_own (HG6.out _) (by omega) _⟩
end Go.Proofs.YteoadfckcilalaaGreatDoor
namespace Go.Proofs.YteoadfckcilalaaGreatDoor
open Go.RowKit

theorem IsBytes.takeQ {w : World} {a : Option Addr} {l : List UInt8} {c : Nat} (h : IsBytes w a l c) (k : Nat) : IsBytes w a (l.take k) c := by
 rcases h with ⟨h1, rfl, h3⟩ | ⟨x, h1, h2, h3, h4⟩
 · exact .inl ⟨h1, by simp, h3⟩
 · refine .inr ⟨x, h1, by rw [List.length_take]; omega, h3, fun j hj => ?_⟩
   rw [List.getElem_take]; exact h4 j (by rw [List.length_take] at hj; omega)
end Go.Proofs.YteoadfckcilalaaGreatDoor
namespace Go.Proofs.YteoadfckcilalaaGreatDoor
open Go.RowKit

theorem sizeOf_u8Q (W : World) : (sizeOf 5).run Tryz.prog W = .ok 1 W := by
 have h : (Tryz.prog.info? 5).map (·.size) = some 1 := by kernel_rfl
 cases hq : Tryz.prog.info? 5 with
 | none => rw [hq] at h; cases h
 | some i => rw [hq] at h; simp at h; simp [sizeOf, typeInfo, hq, h]

section
variable {Q : Exit → Act → World → Prop} {a : Act} {w : World} {o : Oper} {s : Spec}
theorem run_part_q (W : World) (x : Addr) (len cap n : Nat) (hn : n ≤ len) :
  (Instr.sliceAt 23 (.slice (some x) len cap) (some (.int .i64 (n : Int))) none none).run Tryz.prog W = .ok (.slice (some (if cap = n then x else x.add n)) (len - n) (cap - n)) W := by
 have es : (sizeOf (Tryz.prog.elem 23)).run Tryz.prog W = .ok 1 W := by rw [show Tryz.prog.elem 23 = 5 by kernel_rfl]; exact sizeOf_u8Q W
 rw [run_sliceAt_slice W 23 _ _ _ _ (by kernel_rfl), run_slice_l W 23 _ _ _ (by kernel_rfl) .i64 (n : Int) (by omega) (by omega), es]
 simp only [Result.andThen, sliced, Int.toNat_natCast, Nat.mul_one]
 split <;> rfl
theorem part_bytes_q {w : World} {x : Addr} {l : List UInt8} {cap n : Nat} (h : IsBytes w (some x) l cap) (hn : n ≤ l.length) : IsBytes w (some (if cap = n then x else x.add n)) (l.drop n) (cap - n) := by
 rcases h with ⟨h, _⟩ | ⟨y, hy, h1, h2, h3⟩
 · cases h
 · obtain rfl := Option.some.inj hy
   refine .inr ⟨_, rfl, by simp; omega, by omega, fun j hj => ?_⟩
   have hj' : j < l.length - n := by simpa using hj
   rw [if_neg (by omega), List.getElem_drop, ← h3 (n + j) (by omega)]
   congr 1
   unfold Addr.add
   by_cases h0 : n = 0
   · subst h0; simp
   · by_cases hj0 : j = 0
     · subst hj0; simp [h0]
     · simp [h0, hj0, Nat.add_assoc]
theorem part_q {w : World} {a : Option Addr} {l : List UInt8} {cap i : Nat} (h : IsBytes w a l cap) (hi : i ≤ l.length) :
  ∃ a' c', (∀ W, (Instr.sliceAt 23 (.slice a l.length cap) (some (.int .i64 (i : Int))) none none).run Tryz.prog W = .ok (.slice a' (l.length - i) c') W) ∧ IsBytes w a' (l.drop i) c' := by
 cases a with
 | some x => exact ⟨_, _, fun W => run_part_q W x l.length cap i hi, part_bytes_q h hi⟩
 | none =>
  rcases h with ⟨_, rfl, rfl⟩ | ⟨x, h, _⟩
  · have h0 : i = 0 := by simpa using hi
    subst h0
    refine ⟨none, 0, fun W => ?_, .inl ⟨rfl, rfl, rfl⟩⟩
    have es : (sizeOf (Tryz.prog.elem 23)).run Tryz.prog W = .ok 1 W := by rw [show Tryz.prog.elem 23 = 5 by kernel_rfl]; exact sizeOf_u8Q W
    rw [run_sliceAt_slice W 23 _ _ _ _ (by kernel_rfl), run_slice_l W 23 _ _ _ (by kernel_rfl) .i64 ((0 : Nat) : Int) (by omega) (by simp), es]
    rfl
  · cases h
theorem loc_from {x y : Operand} (ho : o.op = .slice 23 x (some y) none none) {l : List UInt8} {i : Nat} (hx : BytesV w (a.eval x) l) (hy : a.eval y = .int .i64 i) (hi : i ≤ l.length) (hs : ∀ v, BytesV w v (l.drop i) → s.p v w) :
  o.wp Tryz.prog a w (fun a' w' => ∃ v, a' = a.put o.dst v ∧ Below w.heap.size w w' ∧ s.p v w') Q := by
 obtain ⟨ad, c, h1, h2⟩ := hx
 obtain ⟨a', c', h3, h4⟩ := part_q h2 hi
 refine loc_run (v := .slice a' (l.length - i) c') ?_ (Below.refl _ _) (hs _ ⟨a', c', by rw [List.length_drop], h4⟩)
 unfold execOp
 simp only [ho, h1, hy, Option.map_some, Option.map_none, Sem.run_bind, h3, Result.andThen_ok, Sem.run_pure]
end
end Go.Proofs.YteoadfckcilalaaGreatDoor
namespace Go.Proofs.YteoadfckcilalaaGreatDoor
open Go.RowKit

section
variable {Q : Exit → Act → World → Prop} {a : Act} {w : World} {o : Oper} {s : Spec}
theorem loc_upto {x y : Operand} (ho : o.op = .slice 23 x none (some y) none) {l : List UInt8} {k : Nat} (hx : BytesV w (a.eval x) l) (hy : a.eval y = .int .i64 k) (hk : k ≤ l.length) (hs : ∀ v, BytesV w v (l.take k) → s.p v w) :
  o.wp Tryz.prog a w (fun a' w' => ∃ v, a' = a.put o.dst v ∧ Below w.heap.size w w' ∧ s.p v w') Q := by
 obtain ⟨ad, c, h1, h2⟩ := hx
 have hcap : l.length ≤ c := by
  rcases h2 with ⟨_, h, h'⟩ | ⟨_, _, h, _⟩
  · rw [h, h']; exact Nat.le_refl _
  · exact h
 have es : (sizeOf (Tryz.prog.elem 23)).run Tryz.prog w = .ok 1 w := by rw [show Tryz.prog.elem 23 = 5 by kernel_rfl]; exact sizeOf_u8Q w
 have hl : (l.take k).length = k := by rw [List.length_take]; omega
 refine loc_run (v := .slice ad k c) ?_ (Below.refl _ _) (hs _ ⟨ad, c, by rw [hl], h2.takeQ k⟩)
 have hrun : (Instr.sliceAt 23 (.slice ad l.length c) none (some (.int .i64 (k : Int))) none).run Tryz.prog w = .ok (.slice ad k c) w := by
  rw [run_sliceAt_slice w 23 _ _ _ _ (by kernel_rfl), run_slice_h w 23 _ _ _ (by kernel_rfl) .i64 (k : Int) (by omega) (by omega), es]
  have ha : Option.map (fun x : Addr => x.add 0) ad = ad := by cases ad <;> simp [Addr.add]
  simp [Result.andThen, sliced, ha]
 unfold execOp
 simp only [ho, h1, hy, Option.map_some, Option.map_none, Sem.run_bind, hrun, Result.andThen_ok, Sem.run_pure]
end
end Go.Proofs.YteoadfckcilalaaGreatDoor
