/- The reply that the source makes: its first statement. stream of the laws on readers: a message's bytes, what follows it, one byte set. What whole returns, by functions of what there is to return; laws for the regions of ReaderPieces. The law ReaderPieces. Opening the arguments of the laws on fields. A slice of numbers holds no more of them than its bulk says. -/
import Derived.Test.YteoadfckcilalaaGreatDoorPq1
import Derived.Test.YteoadfckcilalaaGreatDoorPq2
import Derived.Test.YteoadfckcilalaaGreatDoorPq3
import Derived.Test.YteoadfckcilalaaGreatDoorPq4
import Derived.Test.YteoadfckcilalaaGreatDoorPq5
import Derived.Test.YteoadfckcilalaaGreatDoorPq6
import Derived.Test.YteoadfckcilalaaGreatDoorPq7
import Derived.Test.YteoadfckcilalaaGreatDoorPq8
import Derived.Test.YteoadfckcilalaaGreatDoorPq9
import Derived.Test.YteoadfckcilalaaGreatDoorPq10
import Derived.Test.YteoadfckcilalaaGreatDoorPq11
import Derived.Test.YteoadfckcilalaaGreatDoorPq12
import Derived.Test.YteoadfckcilalaaGreatDoorPq13
import Derived.Test.YteoadfckcilalaaGreatDoorRows
import Derived.WalkKit
import Derived.WalkSpells
import Derived.WalkLawsBesides
import Derived.BigQuiet
import Derived.Deep.QuietTactic
import Derived.Lib.Bytealg
import Derived.Lib.IndexLaws
import Derived.Lib.Hide
import Derived.Laws.IdiomStrings
import Derived.Lib.SlTrimSet
import Derived.Lib.IndexBytes
import Derived.Lib.Split
import Derived.Deep.AppendLies
import Derived.Shelf.Strings.SlTrimAscii
import Derived.Shelf.Strings.SplitShaped
import Derived.Shelf.LaysM
import Derived.Shelf.Strings.BuilderK
import Derived.Shelf.Strconv.Itoa4
import Derived.Shelf.Strings.Prefix
import Derived.Shelf.Bytes.SlIndexWhole
import Derived.Test.YteoadfckcilalaaGreatDoorProg
import Derived.Lib.SplitLaws
import Derived.WalkSmall
import Derived.ProofKit
import Derived.OpenShut
import Derived.Lib.Strings
import Derived.SliceStrings
import Derived.Deep.Quiet
import Derived.Tactics
import Derived.KernelRfl
import Derived.Below
import Derived.Laws.Bits64
import Derived.Lib.SlBytesConst
import Derived.Maps.AppendAt
import Derived.Laws.AppendOwnNone
import Derived.Great.BuildSlice
import Derived.Laws.Rows
import Derived.Laws.BitsAllLaws
import Derived.Laws.Shifts
import Derived.Maps.OwnOps
import Derived.Maps.OwnSet
import Derived.Deep.SlicePairs
import Derived.Lib.AppendZerosOnto
import Derived.Lib.AppendStr
import Derived.Laws.CopyOwn
import Derived.OwnWalk
import Derived.Laws.Strings3
import Derived.Laws.Concat
import Derived.Lib.ItoaMem
import Derived.Deep.RegionHeld3
import Derived.IntWalk
import Derived.Laws.RangeAny
import Derived.LoopTactic
import Derived.Sort.Grow
import Derived.Lib.ConvBytes
import Derived.Deep.DeepCutAuto
import Derived.Deep.MidRow
import Derived.Laws.Tables
import Derived.Deep.WholeRow
import Derived.StillTailTactics
import Derived.Deep.CutBlock
import Derived.Lib.LaidTab
import Derived.LaidSub
import Derived.Laws.Bits64b
import Derived.Lib.FrozenHead2
import Derived.Deep.Matrix
import Derived.Lib.LazyBuf
import Derived.ArgAppend
import Derived.MakeChecks
namespace Go.Proofs.YteoadfckcilalaaGreatDoor
open Go.RowKit

set_option linter.unusedVariables false
theorem strsNew_grow {B : Nat} {l : List ByteArray} {w w' : World} {v : Value} {row : Option Nat} (h : (Spec.strsNew B l).p v w) (hg : w.grownBy w' row) (hr : ∀ k, row = some k → k < B) : (Spec.strsNew B l).p v w' := by
 obtain ⟨b, h1, h2, h3⟩ := h
 exact ⟨b, h1, h2, h3.growR h2 hg hr⟩
theorem OwnF.lowR {B B' : Nat} {w : World} {v : Value} {l : List Fld} (h : OwnF B w v l) (hB : B' ≤ B) : OwnF B' w v l := by
 rcases h with ⟨h0, h1 | ⟨g', cap, cur, e, hg, hc⟩⟩
 · exact ⟨h0, .inl h1⟩
 · exact ⟨h0, .inr ⟨g', cap, cur, e, Nat.le_trans hB hg, hc⟩⟩
theorem RpS0.keep {B g : Nat} {a : Option Addr} {n c : Nat} {w0 : World} {q : Nat} {w w' : World} (h : RpS0 B g a n c w0 q w) (hb : Below w.heap.size w w') : RpS0 B g a n c w0 q w' := by
 obtain ⟨st, r, y, fa, fc, h1, h2, h3, h4, h5⟩ := h
 exact ⟨st, r, y, fa, fc, h1, h2, h3, h4, h5.keep hb⟩
def Spec.rps (g : Nat) (a : Option Addr) (n c : Nat) (w0 : World) : Spec := ⟨fun v w => ∃ q, v = .pointer (some ⟨q, 0, none⟩) ∧ w0.heap.size ≤ q ∧ RpS0 w0.heap.size g a n c w0 q w, fun _ _ _ h hb => by
 obtain ⟨q, h1, h2, h3⟩ := h
 exact ⟨q, h1, h2, h3.keep hb⟩⟩
def RpS1 (B g : Nat) (a : Option Addr) (n c : Nat) (w0 : World) (q : Nat) (w : World) : Prop := ∃ st z r y vF, st ∈ stF ∧ r ∈ reas3 ∧ (z = 0 ∨ z = 1) ∧ List.length y ≤ 2 ∧ (∀ f ∈ y, SrcF f) ∧ RpK B g a n c w0 q vF y #[.int .i64 st, .string r, .int .i64 z, vF, .slice none 0 0] w
def RpFin (B g : Nat) (a : Option Addr) (n c : Nat) (w0 : World) (q : Nat) (w : World) (vB vP : Value) : Prop := ∃ st z r x vF e, RepP st z r x ∧ RpK B g a n c w0 q vF x #[.int .i64 st, .string r, .int .i64 z, vF, .slice none 0 0] w ∧
 (∃ bA bc, vB = .slice bA (List.length e) bc ∧ IsBytes w bA e bc ∧ ∀ y, bA = some y → e ≠ [] → vP.ownBlock ≠ some y.block) ∧ e.length ≤ 60 ∧ (vP = .slice none 0 0 ∨ OwnM B w vP interF)
def RepMade (w : World) (g : Nat) (a : Option Addr) (n c : Nat) (e : Ending) (w' : World) : Prop := ∃ v b, e = .returned v ∧ OwnM w.heap.size w' v b ∧ RepF b ∧ Src w' g a n c ∧ w.grownBy w' (some g)
theorem own_ne_F {B C : Nat} {w : World} {v u : Value} {l : List UInt8} {x : List Fld} (h : Own B w v l) (k : OwnF C w u x) {j : Nat} (hj : v.ownBlock = some j) : u.ownBlock ≠ some j := fun e => by
 rcases h.2 with ⟨h1, _⟩ | ⟨g', cap, cur, h1, h2, h3, _⟩
 · rw [h1] at hj; cases hj
 · rw [h1] at hj
   obtain rfl : g' = j := Option.some.inj hj
   rcases k.2 with ⟨h4, _⟩ | ⟨g2, cap2, cur2, h4, h5, h6, _⟩
   · rw [h4] at e; cases e
   · rw [h4] at e
     obtain rfl : g2 = g' := Option.some.inj e
     rw [h6] at h3
     have := Option.some.inj h3
     injection this with _ h7
     exact absurd h7 (by decide)
theorem own_ne_R {B : Nat} {w : World} {v : Value} {l : List UInt8} {q : Nat} {cs : Array Value} {fz : Nat × Nat} (h : Own B w v l) (hr : w.heap[q]? = some (.cells cs 31 fz)) : v.ownBlock ≠ some q := fun e => by
 rcases h.2 with ⟨h1, _⟩ | ⟨g', cap, cur, h1, h2, h3, _⟩
 · rw [h1] at e; cases e
 · rw [h1] at e
   obtain rfl : g' = q := Option.some.inj e
   rw [hr] at h3
   have := Option.some.inj h3
   injection this with _ h4
   exact absurd h4 (by decide)
theorem isBytes_grownS {w w' : World} {a : Option Addr} {l : List UInt8} {c : Nat} {row : Option Nat} (h : IsBytes w a l c) (hg : w.grownBy w' row) (hne : ∀ y, a = some y → l ≠ [] → row ≠ some y.block) : IsBytes w' a l c := by
 refine h.same fun y e hl => ?_
 rcases h with ⟨rfl, _, _⟩ | ⟨x, h1, _, _, hc⟩
 · cases e
 · obtain rfl := Option.some.inj (e.symm.trans h1)
   have h0 : 0 < l.length := List.length_pos_iff.2 hl
   have hlt := lt_cell (hc 0 h0)
   rw [add_blockF] at hlt
   exact hg.block _ hlt fun e2 => hne y e hl e2.symm
def Spec.rpa (B g : Nat) (a : Option Addr) (n c : Nat) (w0 : World) (q : Nat) (x : List Fld) (cs : Array Value) (vB : Value) (d : List UInt8) : Spec := ⟨fun v wx => RpK B g a n c w0 q v x cs wx ∧ Own B wx vB d, fun _ _ _ h hb => ⟨h.1.keep hb, h.2.keep hb⟩⟩
theorem RpK.added {B g : Nat} {a : Option Addr} {n c : Nat} {w0 : World} {q : Nat} {vF vG : Value} {x x2 : List Fld} {st z : Int} {r : ByteArray} {w w' : World} (h : RpK B g a n c w0 q vF x #[.int .i64 st, .string r, .int .i64 z, vF, .slice none 0 0] w) (N : RpN B g a n w0 q) (ho : OwnF B w' vG x2) (hg : w.grownBy w' vF.ownBlock) :
  RpK B g a n c w0 q vG x2 #[.int .i64 st, .string r, .int .i64 z, vG, .slice none 0 0] (w'.setCell ⟨q, 3, none⟩ vG) := (h.app N ho hg).set N 3 vG
theorem Own.added {B : Nat} {g : Nat} {a : Option Addr} {n c : Nat} {w0 : World} {q : Nat} {vF vG vB : Value} {x x2 : List Fld} {d : List UInt8} {cs : Array Value} {w w' : World} (h : Own B w vB d) (k : RpK B g a n c w0 q vF x cs w) (k2 : RpK B g a n c w0 q vG x2 cs w') (hg : w.grownBy w' vF.ownBlock) (v : Value) : Own B (w'.setCell ⟨q, 3, none⟩ v) vB d := by
 have h1 : Own B w' vB d := h.grown hg fun j hj e => own_ne_F h k.own hj e.symm
 exact h1.grown grownBy_setCell fun j hj e => own_ne_R h1 k2.row (hj.trans e)
set_option maxRecDepth 100000 in
set_option maxHeartbeats 4000000 in
theorem srcRep_any (g : Nat) (a : Option Addr) (n c : Nat) (w : World) (h : Src w g a n c) :
  Calls Tryz.prog 31 #[.pointer (some ⟨g, 0, none⟩)] w (RepMade w g a n c) := by
 have H0 := Box.mk h
 have HLOW := Box.mk h.low
 have HB0 := Box.mk h.lt
 clear h
 go_enter Tryz.func31, Tryz.ntmps31
 go_wp2_with fail
 rename_i K hK
 refine wp_region_phasesW [2, 7, 9, 12] (fun p => match p with | 0 => [0, 1, 5, 6, 8, 11] | 1 => [0, 3, 4, 5, 6, 8, 11] | 2 => [0, 3, 4, 8, 11] | 3 => [0, 3, 4, 10, 11] | _ => [])
  (fun p => match p with
   | 0 => [.stI w.heap.size, .val (.pointer (some ⟨g, 0, none⟩)), .nope, .nope, .nope, .val (.pointer (some ⟨g, 0, none⟩)), .strsNew w.heap.size reas3, .nope, .val (.pointer (some ⟨g, 0, none⟩)), .nope, .nope, .arowS w.heap.size, .any]
   | 1 => [.stI w.heap.size, .any, .natB 8, .stP w.heap.size, .stV, .val (.pointer (some ⟨g, 0, none⟩)), .strsNew w.heap.size reas3, .nope, .val (.pointer (some ⟨g, 0, none⟩)), .nope, .nope, .arowS w.heap.size, .any]
   | 2 => [.stI w.heap.size, .any, .natB 8, .stP w.heap.size, .stV, .any, .any, .strOf reas3, .val (.pointer (some ⟨g, 0, none⟩)), .nope, .nope, .arowS w.heap.size, .any]
   | 3 => [.stI w.heap.size, .any, .natB 8, .stP w.heap.size, .stV, .any, .any, .strOf reas3, .any, .fldS w.heap.size, .aggA w.heap.size, .arowS w.heap.size, .any]
   | _ => [.any, .any, .any, .any, .any, .any, .any, .any, .any, .any, .any, .rps g a n c w, .any])
  (fun p => match p with | 4 => fun wx => True | _ => fun wx => Src wx g a n c ∧ w.grownBy wx (some g))
  (by kernel_rfl) (by kernel_rfl) (by kernel_rfl) (by kernel_rfl) (by kernel_rfl) (by kernel_rfl) ?_ ⟨H0.out, grownBy_refl _ _⟩ ?_ ?_ ?_
 · intro ph w1' w2' h hb
   match ph, h with
   | 0, h => exact ⟨h.1.keep hb, grownBy_trans h.2 (grownBy_below hb)⟩
   | 1, h => exact ⟨h.1.keep hb, grownBy_trans h.2 (grownBy_below hb)⟩
   | 2, h => exact ⟨h.1.keep hb, grownBy_trans h.2 (grownBy_below hb)⟩
   | 3, h => exact ⟨h.1.keep hb, grownBy_trans h.2 (grownBy_below hb)⟩
   | 4, _ => exact trivial
   | (_ + 5), h => exact ⟨h.1.keep hb, grownBy_trans h.2 (grownBy_below hb)⟩
 · intro ph hph
   match ph, hph with
   | 0, _ =>
    refine ⟨?_, ?_, ?_, ?_, ?_, ?_, trivial⟩ <;> intro a1 w1' hv hf hd
    · exact ⟨wanted_none rfl, loc_ints8 rfl (by have := hv.2.size; omega) fun v w' h => h⟩
    · exact ⟨wanted_none rfl, loc_move rfl (hf.base 0 rfl)⟩
    · exact ⟨wanted_none rfl, loc_move rfl (hf.base 0 rfl)⟩
    · exact ⟨wanted_none rfl, loc_strsH reas3 rfl rfl (by simp only [List.map_toArray, List.map_cons, List.map_nil]; rfl) (by decide) (by decide) (by kernel_rfl) fun h => ⟨_, rfl, hv.2.size, h⟩⟩
    · exact ⟨wanted_none rfl, loc_move rfl (hf.base 0 rfl)⟩
    · exact ⟨wanted_none rfl, loc_allocAr rfl hv.2.size fun v w' h => h⟩
   | 1, _ =>
    refine ⟨?_, ?_, ?_, ?_, ?_, ?_, ?_, trivial⟩ <;> intro a1 w1' hv hf hd
    · exact ⟨wanted_none rfl, loc_ints8 rfl (by have := hv.2.size; omega) fun v w' h => h⟩
    · obtain ⟨b, e6, hb1, hb2⟩ := hd 0 rfl
      obtain ⟨k, hk, e8⟩ := hd 2 rfl
      exact ⟨wanted_none rfl, loc_index_i rfl e6 e8 hk ⟨b, k, by rw [Addr.add_lit, Nat.zero_add], hb1, hk, hb2⟩⟩
    · obtain ⟨b, k, e9, hb1, hk, hb2⟩ := hd 3 rfl
      obtain ⟨st, hst, hc⟩ := cells8_at ⟨k, hk⟩
      exact ⟨wanted_none rfl, loc_cell rfl e9 (by rw [cell_of_row _ _ _ _ _ _ hb2]; exact hc) (agg_int _) ⟨st, hst, rfl⟩⟩
    · exact ⟨wanted_none rfl, loc_move rfl (hf.base 0 rfl)⟩
    · exact ⟨wanted_none rfl, loc_strsH reas3 rfl rfl (by simp only [List.map_toArray, List.map_cons, List.map_nil]; rfl) (by decide) (by decide) (by kernel_rfl) fun h => ⟨_, rfl, hv.2.size, h⟩⟩
    · exact ⟨wanted_none rfl, loc_move rfl (hf.base 0 rfl)⟩
    · exact ⟨wanted_none rfl, loc_allocAr rfl hv.2.size fun v w' h => h⟩
   | 2, _ =>
    refine ⟨?_, ?_, ?_, ?_, ?_, trivial⟩ <;> intro a1 w1' hv hf hd
    · exact ⟨wanted_none rfl, loc_ints8 rfl (by have := hv.2.size; omega) fun v w' h => h⟩
    · obtain ⟨b, e6, hb1, hb2⟩ := hd 0 rfl
      obtain ⟨k, hk, e8⟩ := hd 2 rfl
      exact ⟨wanted_none rfl, loc_index_i rfl e6 e8 hk ⟨b, k, by rw [Addr.add_lit, Nat.zero_add], hb1, hk, hb2⟩⟩
    · obtain ⟨b, k, e9, hb1, hk, hb2⟩ := hd 3 rfl
      obtain ⟨st, hst, hc⟩ := cells8_at ⟨k, hk⟩
      exact ⟨wanted_none rfl, loc_cell rfl e9 (by rw [cell_of_row _ _ _ _ _ _ hb2]; exact hc) (agg_int _) ⟨st, hst, rfl⟩⟩
    · exact ⟨wanted_none rfl, loc_move rfl (hf.base 0 rfl)⟩
    · exact ⟨wanted_none rfl, loc_allocAr rfl hv.2.size fun v w' h => h⟩
   | 3, _ =>
    refine ⟨?_, ?_, ?_, ?_, ?_, trivial⟩ <;> intro a1 w1' hv hf hd
    · exact ⟨wanted_none rfl, loc_ints8 rfl (by have := hv.2.size; omega) fun v w' h => h⟩
    · obtain ⟨b, e6, hb1, hb2⟩ := hd 0 rfl
      obtain ⟨k, hk, e8⟩ := hd 2 rfl
      exact ⟨wanted_none rfl, loc_index_i rfl e6 e8 hk ⟨b, k, by rw [Addr.add_lit, Nat.zero_add], hb1, hk, hb2⟩⟩
    · obtain ⟨b, k, e9, hb1, hk, hb2⟩ := hd 3 rfl
      obtain ⟨st, hst, hc⟩ := cells8_at ⟨k, hk⟩
      exact ⟨wanted_none rfl, loc_cell rfl e9 (by rw [cell_of_row _ _ _ _ _ _ hb2]; exact hc) (agg_int _) ⟨st, hst, rfl⟩⟩
    · obtain ⟨st, hst, e10⟩ := hd 4 rfl
      obtain ⟨r, hr, e13⟩ := hd 7 rfl
      obtain ⟨y, ho, hl, hs⟩ := hd 9 rfl
      obtain ⟨fa, fc, e15, _⟩ := OwnF.shape ho
      rw [e15] at ho
      exact ⟨wanted_none rfl, loc_buildA4 rfl e10 e13 e15 ⟨st, r, y, fa, fc, rfl, hst, hr, ho, hl, hs⟩⟩
    · exact ⟨wanted_none rfl, loc_allocAr rfl hv.2.size fun v w' h => h⟩
   | 4, _ => exact trivial
 · intro ph hph
   match ph, hph with
   | 0, _ =>
    intro a2 w2 hv hf hd
    refine ⟨wanted_none rfl, chain_call rfl (by kernel_rfl) ?_⟩
    show Calls _ _ #[a2.eval (.tmp 7), .int .i64 8] w2 _
    rw [show a2.eval (.tmp 7) = _ from hd 1 rfl]
    refine (next_any g 8 a n c w2 hv.1 (by decide) (by decide)).mono ?_
    rintro e w' ⟨k, hk, rfl, hs, hg⟩
    exact ⟨_, rfl, _, rfl, ⟨hs, grownBy_trans hv.2 hg⟩, ⟨k, hk, rfl⟩, ⟨.inr fun _ _ h => StI.grow h hg (fun k e => by have := Option.some.inj e; have := HB0.out; omega), .inr fun _ _ _ => trivial, .inl rfl, .inr fun _ _ h => h.elim, .inr fun _ _ h => h.elim, .inr fun _ _ h => h, .inr fun _ _ h => strsNew_grow h hg (fun k e => by have := Option.some.inj e; have := HB0.out; omega), .inr fun _ _ h => h.elim, .inr fun _ _ h => h, .inr fun _ _ h => h.elim, .inr fun _ _ h => h.elim, .inr fun _ _ h => ARowR.grow h hg (fun k e => by have := Option.some.inj e; have := HB0.out; omega), .inr fun _ _ _ => trivial, trivial⟩⟩
   | 1, _ =>
    intro a2 w2 hv hf hd
    obtain ⟨b, e12, hb1, hb2⟩ := hd 6 rfl
    refine ⟨wanted_none rfl, chain_call rfl (by kernel_rfl) ?_⟩
    show Calls _ _ #[a2.eval (.tmp 11), a2.eval (.tmp 12)] w2 _
    rw [show a2.eval (.tmp 11) = _ from hd 5 rfl, show a2.eval (.tmp 12) = _ from e12]
    refine (of_n g b 3 reas3 3 a n c w2 hv.1 hb2 (by have := HB0.out; omega) rfl (by decide) (by decide)).mono ?_
    rintro e w' ⟨r, hr, rfl, hs, hg⟩
    exact ⟨_, rfl, _, rfl, ⟨hs, grownBy_trans hv.2 hg⟩, ⟨r, hr, rfl⟩, ⟨.inr fun _ _ h => StI.grow h hg (fun k e => by have := Option.some.inj e; have := HB0.out; omega), .inr fun _ _ _ => trivial, .inr fun _ _ h => h, .inr fun _ _ h => StP.grow h hg (fun k e => by have := Option.some.inj e; have := HB0.out; omega), .inr fun _ _ h => h, .inr fun _ _ _ => trivial, .inr fun _ _ _ => trivial, .inl rfl, .inr fun _ _ h => h, .inr fun _ _ h => h.elim, .inr fun _ _ h => h.elim, .inr fun _ _ h => ARowR.grow h hg (fun k e => by have := Option.some.inj e; have := HB0.out; omega), .inr fun _ _ _ => trivial, trivial⟩⟩
   | 2, _ =>
    intro a2 w2 hv hf hd
    refine ⟨wanted_none rfl, chain_call rfl (by kernel_rfl) ?_⟩
    show Calls _ _ #[a2.eval (.tmp 14), .int .i64 2] w2 _
    rw [show a2.eval (.tmp 14) = _ from hd 8 rfl]
    refine (srcFieldsS_any g 2 a n c w2 hv.1 (by decide)).mono ?_
    rintro e w' ⟨v, y, rfl, ho, hl, hsf, hs, hg⟩
    exact ⟨_, rfl, _, rfl, ⟨hs, grownBy_trans hv.2 hg⟩, ⟨y, ho.lowR hv.2.size, hl, hsf⟩, ⟨.inr fun _ _ h => StI.grow h hg (fun k e => by have := Option.some.inj e; have := HB0.out; omega), .inr fun _ _ _ => trivial, .inr fun _ _ h => h, .inr fun _ _ h => StP.grow h hg (fun k e => by have := Option.some.inj e; have := HB0.out; omega), .inr fun _ _ h => h, .inr fun _ _ _ => trivial, .inr fun _ _ _ => trivial, .inr fun _ _ h => h, .inr fun _ _ _ => trivial, .inl rfl, .inr fun _ _ h => h.elim, .inr fun _ _ h => ARowR.grow h hg (fun k e => by have := Option.some.inj e; have := HB0.out; omega), .inr fun _ _ _ => trivial, trivial⟩⟩
   | 3, _ =>
    intro a2 w2 hv hf hd
    obtain ⟨q, e3, hq, hrow⟩ := hd 11 rfl
    obtain ⟨st, r, y, fa, fc, e16, hst, hr, ho, hl, hsf⟩ := hd 10 rfl
    refine ⟨wanted_none rfl, wp_store_row 31 _ _ rfl q #[.int .i64 st, .string r, .int .i64 1, .slice fa (List.length y) fc, .slice none 0 0] e3 e16 31 _ hrow sizeA rfl (by simp [Value.oneCell']) ?_⟩
    refine ⟨undef, rfl, trivial, trivial, ⟨.inr fun _ _ _ => trivial, .inr fun _ _ _ => trivial, .inr fun _ _ _ => trivial, .inr fun _ _ _ => trivial, .inr fun _ _ _ => trivial, .inr fun _ _ _ => trivial, .inr fun _ _ _ => trivial, .inr fun _ _ _ => trivial, .inr fun _ _ _ => trivial, .inr fun _ _ _ => trivial, .inr fun _ _ _ => trivial, .inr fun v hq2 _ => ⟨q, (hq2 _ _ rfl rfl).trans e3, hq, ⟨st, r, y, fa, fc, hst, hr, hl, hsf,
      ⟨setRow_heap _ _ _ _ _ _ hrow, OwnF.same ho fun k hk => setRow_other _ _ _ _ (fun e => ownF_ne ho hrow (by rw [hk, e])), hv.1.other (grownBy_setRowM w2 q _) (by have := HB0.out; omega) (fun y e h0 => by have := HLOW.out y e h0; omega), grownBy_own hv.2 hq _⟩⟩⟩, .inl rfl, trivial⟩⟩
 · intro a2 w2 hv hf hh
   obtain ⟨q, e3, hq, hst⟩ : ∃ q, a2.eval (.tmp 3) = .pointer (some ⟨q, 0, none⟩) ∧ w.heap.size ≤ q ∧ RpS0 w.heap.size g a n c w q w2 := hh 11 (by decide)
   clear hh hv
   rw [fr_putAll hf]
   clear hf
   simp only [putAll, e3]
   generalize a2.eval (.tmp 6) = u6
   generalize a2.eval (.tmp 7) = u7
   generalize a2.eval (.tmp 8) = u8
   generalize a2.eval (.tmp 9) = u9
   generalize a2.eval (.tmp 10) = u10
   generalize a2.eval (.tmp 11) = u11
   generalize a2.eval (.tmp 12) = u12
   generalize a2.eval (.tmp 13) = u13
   generalize a2.eval (.tmp 14) = u14
   generalize a2.eval (.tmp 15) = u15
   generalize a2.eval (.tmp 16) = u16
   clear e3 a2
   simp only [Act.put, List.setIfInBounds_toArray, List.set_cons_succ, List.set_cons_zero]
   have HN := Box.mk (show RpN w.heap.size g a n w q from ⟨HB0.out, HLOW.out, rfl, hq⟩)
   obtain ⟨st, r, y, fa, fc, hst, hr, hl, hsf, hk⟩ := hst
   have HA := Box.mk (And.intro hst (And.intro hr (And.intro hl hsf)))
   have HK := Box.mk hk
   clear hst hr hl hsf hk hq H0
   refine hK _ _ ?_
   clear hK
   go_wp2_with fail
   refine (next_any g 8 a n c w2 HK.out.src (by decide) (by decide)).mono ?_
   rintro e w3 ⟨k, hk, rfl, hs3, hg3⟩
   have HK3 := Box.mk (HK.out.next HN.out hg3 hs3)
   clear hs3 hg3 HK hk
   go_upto_if 19 with fail
   go_cut [] (fun wx => Box (RpS1 w.heap.size g a n c w q wx))
   case first =>
    have hfz := frozen_of_row w3 q 2 _ _ HK3.out.row
    have hc2 : w3.cell? ⟨q, 2, none⟩ = some (.int .i64 1) := by rw [cell_of_row _ _ _ _ _ _ HK3.out.row]; rfl
    by_cases hk0 : k = 0
    · have e0 : (((k : Nat) : Int) == 0) = true := by rw [hk0]; rfl
      clear hk0
      go_wp2_with fail
      go_meet
      exact ⟨⟨st, 0, r, y, _, HA.out.1, HA.out.2.1, .inl rfl, HA.out.2.2.1, HA.out.2.2.2, HK3.out.set HN.out 2 _⟩⟩
    · have e0 : (((k : Nat) : Int) == 0) = false := by rw [beq_eq_false_iff_ne]; omega
      clear hk0
      go_wp2_with fail
      go_meet
      exact ⟨⟨st, 1, r, y, _, HA.out.1, HA.out.2.1, .inr rfl, HA.out.2.2.1, HA.out.2.2.2, HK3.out⟩⟩
   case rest =>
    obtain ⟨st, z, r, y, vF, h1, h2, h3, h4, h5, h6⟩ := hcut.out
    have HA2 := Box.mk (And.intro h1 (And.intro h2 (And.intro h3 (And.intro h4 h5))))
    have HKC := Box.mk h6
    clear h1 h2 h3 h4 h5 h6 hcut HK3 HA
    go_wp2_with fail
    refine (srcBytes_any g 40 a n c wc HKC.out.src (by decide)).mono ?_
    rintro e w4 ⟨vB, d, rfl, hB, hdl, hs4, hg4⟩
    have HK4 := Box.mk (HKC.out.next HN.out hg4 hs4)
    have HB4 := Box.mk (And.intro (hB.mono (show w.heap.size ≤ wc.heap.size from HKC.out.grown.size)) hdl)
    clear hB hdl hs4 hg4 HKC
    obtain ⟨bA, bC, rfl, _⟩ := HB4.out.1.bytesL
    go_wp2_with fail
    refine (next_any g 12 a n c w4 HK4.out.src (by decide) (by decide)).mono ?_
    rintro e w5 ⟨k, hk, rfl, hs5, hg5⟩
    have HK5 := Box.mk (HK4.out.next HN.out hg5 hs5)
    have HB5 := Box.mk (And.intro (HB4.out.1.grown hg5 (fun k2 hk2 e => by have := (HB4.out.1.lt hk2).1; have := Option.some.inj e; have := HN.out.lo; omega)) HB4.out.2)
    have HKL := Box.mk hk
    clear hs5 hg5 HK4 HB4 hk
    by_cases hk0 : k = 0
    · have kc := fun (w : World) (C : Array Value) (n c : Nat) => Lib.run_convert_bytes_const (P := Tryz.prog) w 23 5 C n c Tryz.underlying23 Tryz.underlying5
      subst hk0
      go_wp2_with fail
      go_ret
      have hrow := heap_alloc_new w5 (.cells (bytesV garbF).toArray 5 (19, 20))
      exact ⟨_, garbF, rfl, ⟨w5.heap.size, 19, _, (19, 20), rfl, HK5.out.grown.size, hrow, .inr (by decide), by decide, by decide, rfl, rfl⟩, .inl rfl, HK5.out.src.keep (below_oneF _ _), grownBy_trans HK5.out.grown (grownBy_below (below_oneF _ _))⟩
    · have b0 : (((k : Nat) : Int) == 0) = false := by rw [beq_eq_false_iff_ne]; omega
      have hfz := frozen_of_row w5 q 3 _ _ HK5.out.row
      have hc3 : w5.cell? ⟨q, 3, none⟩ = some vF := by rw [cell_of_row _ _ _ _ _ _ HK5.out.row]; rfl
      go_upto_block 0 with fail
      go_cut [4, 5] (fun s4 s5 wx => Box (RpFin w.heap.size g a n c w q wx s4 s5))
      case first =>
       have hle : w.heap.size ≤ w5.heap.size := HK5.out.grown.size
       have HBY := Box.mk (show ∃ bA2 bC2, Value.slice bA d.length bC = .slice bA2 (List.length d) bC2 ∧ IsBytes w5 bA2 d bC2 from HB5.out.1.bytesL)
       by_cases hk1 : k = 1
       · have kc := fun (w : World) (C : Array Value) (n c : Nat) => Lib.run_convert_bytes_const (P := Tryz.prog) w 23 5 C n c Tryz.underlying23 Tryz.underlying5
         subst hk1
         clear b0
         go_wp2_with fail
         go_meet
         obtain ⟨bA2, bC2, e2, hib⟩ := HBY.out
         obtain ⟨rfl, _, rfl⟩ := Value.slice.inj e2
         have hp := repP_made (T := []) HA2.out.1 HA2.out.2.1 HA2.out.2.2.1 HA2.out.2.2.2.2 HA2.out.2.2.2.1 addR_nil
         rw [List.append_nil] at hp
         exact ⟨st, z, r, y, vF, d, hp, HK5.out.keep (below_oneF _ _), ⟨_, _, rfl, hib.keep (below_oneF _ _), fun y2 e3 _ e4 => by
           have h5 := (HB5.out.1.lt (k := y2.block) (by rw [e3]; rfl)).2
           have h6 : w5.heap.size = y2.block := Option.some.inj e4
           omega⟩, by have := HB5.out.2; omega,
          .inr ⟨w5.heap.size, 25, _, (25, 26), rfl, hle, heap_alloc_new w5 (.cells (bytesV interF).toArray 5 (25, 26)), .inr (by decide), by decide, by decide, rfl, rfl⟩⟩
       · have b1 : (((k : Nat) : Int) == 1) = false := by rw [beq_eq_false_iff_ne]; omega
         by_cases hk2 : k = 2
         · subst hk2
           clear b0 b1
           have HO6 := Box.mk (HK5.out.own.keep (below_oneF w5 (.cells #[.string ⟨#[67, 111, 110, 116, 101, 110, 116, 45, 76, 101, 110, 103, 116, 104]⟩, .string ⟨#[49]⟩, .string ⟨#[67, 111, 110, 116, 101, 110, 116, 45, 76, 101, 110, 103, 116, 104]⟩, .string ⟨#[50]⟩] 88)))
           have HF6 := Box.mk (show FldsC (w5.alloc (.cells #[.string ⟨#[67, 111, 110, 116, 101, 110, 116, 45, 76, 101, 110, 103, 116, 104]⟩, .string ⟨#[49]⟩, .string ⟨#[67, 111, 110, 116, 101, 110, 116, 45, 76, 101, 110, 103, 116, 104]⟩, .string ⟨#[50]⟩] 88)) (some ⟨w5.heap.size, 0, none⟩) twoCL 2 from ⟨fldsIn_twoW w5 _ _ _ _, fun e => by cases e⟩)
           have HL6 := Box.mk (show y.length + twoCL.length ≤ 4398046511104 by have := HA2.out.2.2.2.1; show _ + 2 ≤ _; omega)
           have HS6 := Box.mk (show w.heap.size ≤ (w5.alloc (.cells #[.string ⟨#[67, 111, 110, 116, 101, 110, 116, 45, 76, 101, 110, 103, 116, 104]⟩, .string ⟨#[49]⟩, .string ⟨#[67, 111, 110, 116, 101, 110, 116, 45, 76, 101, 110, 103, 116, 104]⟩, .string ⟨#[50]⟩] 88)).heap.size by rw [World.size_alloc]; omega)
           have HK6 := Box.mk (HK5.out.keep (below_oneF w5 (.cells #[.string ⟨#[67, 111, 110, 116, 101, 110, 116, 45, 76, 101, 110, 103, 116, 104]⟩, .string ⟨#[49]⟩, .string ⟨#[67, 111, 110, 116, 101, 110, 116, 45, 76, 101, 110, 103, 116, 104]⟩, .string ⟨#[50]⟩] 88)))
           have HB6 := Box.mk (HB5.out.1.keep (below_oneF w5 (.cells #[.string ⟨#[67, 111, 110, 116, 101, 110, 116, 45, 76, 101, 110, 103, 116, 104]⟩, .string ⟨#[49]⟩, .string ⟨#[67, 111, 110, 116, 101, 110, 116, 45, 76, 101, 110, 103, 116, 104]⟩, .string ⟨#[50]⟩] 88)))
           go_wp2_with (at_builtin; refine wpList_append_ownfs _ rfl _ _ rfl rfl HO6.out rfl HF6.out HL6.out HS6.out ?c1)
           case c1 =>
            intro v7 w7 ho7 hg7
            have hk7 := HK6.out.app HN.out ho7 hg7
            have HK8 := Box.mk (HK6.out.added HN.out ho7 hg7)
            have HB8 := Box.mk (HB6.out.added HK6.out hk7 hg7 v7)
            obtain ⟨sa, sc, e7, _⟩ := OwnF.shape ho7
            obtain ⟨N7, hN7⟩ : ∃ N7, N7 = List.length (y ++ twoCL) := ⟨_, rfl⟩
            rw [← hN7] at e7
            have hfz7 := frozen_of_row w7 q 3 _ _ hk7.row
            have hc7 : w7.cell? ⟨q, 3, none⟩ = some vF := by rw [cell_of_row _ _ _ _ _ _ hk7.row]; rfl
            subst e7
            clear ho7 hg7 hk7 HK6 HB6 HO6 HF6 HL6 HS6 hc3 hfz hN7
            go_wp2_with fail
            go_meet
            obtain ⟨bA2, bC2, e2, hib⟩ := HB8.out.bytesL
            obtain ⟨rfl, _, rfl⟩ := Value.slice.inj e2
            exact ⟨st, z, r, y ++ twoCL, _, d, repP_made HA2.out.1 HA2.out.2.1 HA2.out.2.2.1 HA2.out.2.2.2.2 HA2.out.2.2.2.1 addR_two, HK8.out, ⟨_, _, rfl, hib, fun y2 e3 _ e4 => by cases e4⟩, by have := HB5.out.2; omega, .inl rfl⟩
         · have b2 : (((k : Nat) : Int) == 2) = false := by rw [beq_eq_false_iff_ne]; omega
           by_cases hk3 : k = 3 ∨ k = 4 ∨ k = 5
           · clear b0 b1 b2
             have HO6 := Box.mk (HK5.out.own.keep (below_oneF w5 (.cells #[.string ⟨#[84, 114, 97, 110, 115, 102, 101, 114, 45, 69, 110, 99, 111, 100, 105, 110, 103]⟩, .string ⟨#[99, 104, 117, 110, 107, 101, 100]⟩] 88)))
             have HF6 := Box.mk (show FldsC (w5.alloc (.cells #[.string ⟨#[84, 114, 97, 110, 115, 102, 101, 114, 45, 69, 110, 99, 111, 100, 105, 110, 103]⟩, .string ⟨#[99, 104, 117, 110, 107, 101, 100]⟩] 88)) (some ⟨w5.heap.size, 0, none⟩) teF 1 from ⟨fldsIn_one w5 _ _, fun e => by cases e⟩)
             have HL6 := Box.mk (show y.length + teF.length ≤ 4398046511104 by have := HA2.out.2.2.2.1; show _ + 1 ≤ _; omega)
             have HS6 := Box.mk (show w.heap.size ≤ (w5.alloc (.cells #[.string ⟨#[84, 114, 97, 110, 115, 102, 101, 114, 45, 69, 110, 99, 111, 100, 105, 110, 103]⟩, .string ⟨#[99, 104, 117, 110, 107, 101, 100]⟩] 88)).heap.size by rw [World.size_alloc]; omega)
             have HK6 := Box.mk (HK5.out.keep (below_oneF w5 (.cells #[.string ⟨#[84, 114, 97, 110, 115, 102, 101, 114, 45, 69, 110, 99, 111, 100, 105, 110, 103]⟩, .string ⟨#[99, 104, 117, 110, 107, 101, 100]⟩] 88)))
             have HB6 := Box.mk (HB5.out.1.keep (below_oneF w5 (.cells #[.string ⟨#[84, 114, 97, 110, 115, 102, 101, 114, 45, 69, 110, 99, 111, 100, 105, 110, 103]⟩, .string ⟨#[99, 104, 117, 110, 107, 101, 100]⟩] 88)))
             rcases hk3 with rfl | rfl | rfl
             all_goals
              go_wp2_with (at_builtin; refine wpList_append_ownfs _ rfl _ _ rfl rfl HO6.out rfl HF6.out HL6.out HS6.out ?c1)
              case c1 =>
               intro v7 w7 ho7 hg7
               have hk7 := HK6.out.app HN.out ho7 hg7
               have hk8 := HK6.out.added HN.out ho7 hg7
               have hb8 := HB6.out.added HK6.out hk7 hg7 v7
               obtain ⟨sa, sc, e7, _⟩ := OwnF.shape ho7
               obtain ⟨N7, hN7⟩ : ∃ N7, N7 = List.length (y ++ teF) := ⟨_, rfl⟩
               rw [← hN7] at e7
               have hfz7 := frozen_of_row w7 q 3 _ _ hk7.row
               have hc7 : w7.cell? ⟨q, 3, none⟩ = some vF := by rw [cell_of_row _ _ _ _ _ _ hk7.row]; rfl
               subst e7
               have HK8 := Box.mk hk8
               have HB8 := Box.mk hb8
               clear ho7 hg7 hk7 hk8 hb8 HK6 HB6 HO6 HF6 HL6 HS6 hc3 hfz hN7
               go_upto_region 18 with fail
               generalize w7.setCell ⟨q, 3, none⟩ (.slice sa N7 sc) = w8 at *
               have HI8 := Box.mk (show IsBytes w8 bA d bC by
                obtain ⟨bA2, bC2, e2, hib⟩ := HB8.out.bytesL
                obtain ⟨rfl, _, rfl⟩ := Value.slice.inj e2
                exact hib)
               clear hc7 hfz7
               go_wp2_with fail
               refine (refEncode_any [d] (some ⟨w8.heap.size, 0, none⟩) 1 _ (slcIn_build1 HI8.out _ _) (by show 1 ≤ _; decide) (fun l hl => by obtain rfl := List.mem_singleton.1 hl; have := HB5.out.2; omega)).mono ?_
               rintro e w9 ⟨ra, rl, rc, hrl, rfl, hib9, hb9⟩
               have HR9 := Box.mk (And.intro hrl (And.intro hib9 (below_trans (below_oneF w8 _) hb9)))
               clear hrl hib9 hb9
               go_wp2_with fail
               go_meet
               exact ⟨st, z, r, y ++ teF, _, rl, repP_made HA2.out.1 HA2.out.2.1 HA2.out.2.2.1 HA2.out.2.2.2.2 HA2.out.2.2.2.1 addR_te, HK8.out.keep HR9.out.2.2, ⟨_, _, rfl, HR9.out.2.1, fun y2 e3 _ e4 => by cases e4⟩, by rw [HR9.out.1]; exact enc_one d HB5.out.2, .inl rfl⟩
           · have b3 : (((k : Nat) : Int) == 3) = false := by rw [beq_eq_false_iff_ne]; omega
             have b4 : (((k : Nat) : Int) == 4) = false := by rw [beq_eq_false_iff_ne]; omega
             have b5 : (((k : Nat) : Int) == 5) = false := by rw [beq_eq_false_iff_ne]; omega
             by_cases hk6 : k = 6
             · have b6 : (((k : Nat) : Int) == 6) = true := by rw [hk6]; rfl
               clear hk0 hk1 hk2 hk3 hk6
               go_wp2_with fail
               go_meet
               have hp := repP_made (T := []) HA2.out.1 HA2.out.2.1 HA2.out.2.2.1 HA2.out.2.2.2.2 HA2.out.2.2.2.1 addR_nil
               rw [List.append_nil] at hp
               obtain ⟨bA2, bC2, e2, hib⟩ := HBY.out
               obtain ⟨rfl, _, rfl⟩ := Value.slice.inj e2
               exact ⟨st, z, r, y, vF, d, hp, HK5.out, ⟨_, _, rfl, hib, fun y2 e3 _ e4 => by cases e4⟩, by have := HB5.out.2; omega, .inl rfl⟩
             · have b6 : (((k : Nat) : Int) == 6) = false := by rw [beq_eq_false_iff_ne]; omega
               clear hk0 hk1 hk2 hk3 hk6
               go_upto_region 7 with fail
               clear b0 b1 b2 b3 b4 b5 b6 hc3 hfz
               have HCLF := Box.mk (show clF d.length = [((⟨#[67, 111, 110, 116, 101, 110, 116, 45, 76, 101, 110, 103, 116, 104]⟩ : ByteArray), fmtS 10 (d.length : Int))] from rfl)
               have HDL := Box.mk HB5.out.2
               refine wp_region_phasesW [7, 9] (fun p => match p with | 0 => [0, 1, 2, 3, 4, 5, 6] | 1 => [8] | _ => [])
                (fun p => match p with
                 | 0 => [.val (.pointer (some ⟨q, 3, none⟩)), .val vF, .val (.slice bA d.length bC), .val (.int .i64 (d.length : Int)), .val (.string (fmtS 10 (d.length : Int))), .val (.agg #[.string ⟨#[67, 111, 110, 116, 101, 110, 116, 45, 76, 101, 110, 103, 116, 104]⟩, .string (fmtS 10 (d.length : Int))]), .oneF (⟨#[67, 111, 110, 116, 101, 110, 116, 45, 76, 101, 110, 103, 116, 104]⟩, fmtS 10 (d.length : Int)), .nope, .nope, .any]
                 | 1 => [.any, .any, .any, .any, .any, .any, .any, .rpa w.heap.size g a n c w q (y ++ clF d.length) #[.int .i64 st, .string r, .int .i64 z, vF, .slice none 0 0] (.slice bA d.length bC) d, .val (.pointer (some ⟨q, 3, none⟩)), .any]
                 | _ => [.any, .any, .any, .any, .any, .any, .any, .any, .any, .any])
                (fun p => match p with
                 | 0 => fun wx => Below w5.heap.size w5 wx
                 | 1 => fun wx => True
                 | _ => fun wx => ∃ vG, RpK w.heap.size g a n c w q vG (y ++ clF d.length) #[.int .i64 st, .string r, .int .i64 z, vG, .slice none 0 0] wx ∧ Own w.heap.size wx (.slice bA d.length bC) d)
                (by kernel_rfl) (by kernel_rfl) (by kernel_rfl) (by kernel_rfl) (by kernel_rfl) (by kernel_rfl) ?_ (Below.refl _ _) ?_ ?_ ?_
               · intro ph w1' w2' h hb
                 match ph, h with
                 | 0, h => exact below_trans h hb
                 | 1, h => exact trivial
                 | (_ + 2), h =>
                  obtain ⟨vG, h1, h2⟩ := h
                  exact ⟨vG, h1.keep hb, h2.keep hb⟩
               · intro ph hph
                 match ph, hph with
                 | 0, _ =>
                  refine ⟨?_, ?_, ?_, ?_, ?_, ?_, ?_, trivial⟩ <;> intro a1 w1' hv hf hd
                  · exact ⟨wanted_none rfl, loc_fieldA rfl (hf.base 3 rfl) (by decide) rfl⟩
                  · exact ⟨wanted_none rfl, loc_cell rfl (hd 0 rfl) (by rw [cell_of_row _ _ _ _ _ _ (HK5.out.keep hv).row]; rfl) (agg_fields _) rfl⟩
                  · exact ⟨wanted_none rfl, loc_move rfl (hf.base 4 rfl)⟩
                  · exact ⟨wanted_none rfl, loc_len rfl (hd 2 rfl) rfl⟩
                  · refine ⟨wanted_none rfl, loc_call rfl (by kernel_rfl) ?_⟩
                    show Calls _ _ #[a1.eval (.tmp 28)] w1' _
                    rw [show a1.eval (.tmp 28) = _ from hd 3 rfl]
                    refine (refDecimal_any (d.length : Int) w1' (by omega) (by have := HDL.out; omega)).mono ?_
                    rintro e w' ⟨rfl, hb'⟩
                    exact ⟨_, rfl, hb', rfl⟩
                  · exact ⟨wanted_none rfl, loc_buildF rfl rfl (hd 4 rfl) rfl⟩
                  · exact ⟨wanted_none rfl, loc_sliceOneF rfl (f := (⟨#[67, 111, 110, 116, 101, 110, 116, 45, 76, 101, 110, 103, 116, 104]⟩, fmtS 10 (d.length : Int))) (hd 5 rfl) fun w' h0 h1 => ⟨_, rfl, ⟨fun j hj => by
                     match j, hj with
                     | 0, _ => exact ⟨_, rfl, by rw [Addr.add_lit]; exact h0, by rw [Addr.add_lit]; exact h1⟩, fun e => by cases e⟩⟩⟩
                 | 1, _ =>
                  refine ⟨?_, trivial⟩
                  intro a1 w1' hv hf hd
                  exact ⟨wanted_none rfl, loc_fieldA rfl (hf.base 3 rfl) (by decide) rfl⟩
                 | 2, _ => exact trivial
               · intro ph hph
                 match ph, hph with
                 | 0, _ =>
                  intro a2 w2' hv hf hd
                  obtain ⟨b, e1, h1⟩ := hd 6 rfl
                  have e26 : a2.eval (.tmp 26) = vF := hd 1 rfl
                  have hk := HK5.out.keep hv
                  have hb := HB5.out.1.keep hv
                  refine ⟨wanted_none rfl, wp_append_ownFs rfl (B := w.heap.size) (l := y) (by show OwnF _ _ (a2.eval (.tmp 26)) _; rw [e26]; exact hk.own) (r := [(⟨#[67, 111, 110, 116, 101, 110, 116, 45, 76, 101, 110, 103, 116, 104]⟩, fmtS 10 (d.length : Int))]) e1 h1 (by have := HA2.out.2.2.2.1; simp; omega) (Nat.le_trans hle hv.size) fun v' w' h2 h3 => ?_⟩
                  rw [show a2.eval (.tmp 26) = vF from e26] at h3
                  exact ⟨v', rfl, trivial, ⟨hk.app HN.out h2 h3, hb.grown h3 fun j hj e => own_ne_F hb hk.own hj e.symm⟩, ⟨.inr fun _ _ _ => trivial, .inr fun _ _ _ => trivial, .inr fun _ _ _ => trivial, .inr fun _ _ _ => trivial, .inr fun _ _ _ => trivial, .inr fun _ _ _ => trivial, .inr fun _ _ _ => trivial, .inl rfl, .inr fun _ _ h => h.elim, .inr fun _ _ _ => trivial, trivial⟩⟩
                 | 1, _ =>
                  intro a2 w2' hv hf hd
                  obtain ⟨hk, hb⟩ := hd 7 rfl
                  have e33 : a2.eval (.tmp 33) = .pointer (some ⟨q, 3, none⟩) := hd 8 rfl
                  obtain ⟨sa, sc, e32, _⟩ := OwnF.shape hk.own
                  refine ⟨wanted_none rfl, wp_store_slice (u := vF) rfl e33 e32 (by kernel_rfl) (by rw [cell_of_row _ _ _ _ _ _ hk.row]; rfl) (frozen_of_row w2' q 3 _ _ hk.row) ?_⟩
                  rw [e32] at hk
                  exact ⟨undef, rfl, ⟨_, hk.set HN.out 3 _, hb.grown grownBy_setCell fun j hj e => own_ne_R hb hk.row (hj.trans e)⟩, trivial, ⟨.inr fun _ _ _ => trivial, .inr fun _ _ _ => trivial, .inr fun _ _ _ => trivial, .inr fun _ _ _ => trivial, .inr fun _ _ _ => trivial, .inr fun _ _ _ => trivial, .inr fun _ _ _ => trivial, .inr fun _ _ _ => trivial, .inr fun _ _ _ => trivial, .inl rfl, trivial⟩⟩
               · intro a2 w8 hv hf hh
                 have HV8 := Box.mk hv
                 clear hh hv
                 rw [fr_putAll hf]
                 clear hf
                 simp only [putAll]
                 generalize a2.eval (.tmp 25) = u25
                 generalize a2.eval (.tmp 26) = u26
                 generalize a2.eval (.tmp 27) = u27
                 generalize a2.eval (.tmp 28) = u28
                 generalize a2.eval (.tmp 29) = u29
                 generalize a2.eval (.tmp 30) = u30
                 generalize a2.eval (.tmp 31) = u31
                 generalize a2.eval (.tmp 32) = u32
                 generalize a2.eval (.tmp 33) = u33
                 clear a2
                 simp only [Act.put, List.setIfInBounds_toArray, List.set_cons_succ, List.set_cons_zero]
                 rename (∀ (a' : Act) (w' : World), Met _ a' w' → _) => hM
                 refine hM _ _ ?_
                 go_meet
                 obtain ⟨vG, hk, hb⟩ := HV8.out
                 obtain ⟨bA2, bC2, e2, hib⟩ := hb.bytesL
                 obtain ⟨rfl, _, rfl⟩ := Value.slice.inj e2
                 exact ⟨st, z, r, y ++ clF d.length, vG, d, repP_made HA2.out.1 HA2.out.2.1 HA2.out.2.2.1 HA2.out.2.2.2.2 HA2.out.2.2.2.1 (addR_cl HB5.out.2), hk, ⟨_, _, rfl, hib, fun y2 e3 _ e4 => by cases e4⟩, by have := HB5.out.2; omega, .inl rfl⟩
      case rest =>
       obtain ⟨st, z, r, x, vF, e, hp, hk, ⟨bA, bC, rfl, hib, hne⟩, hel, hP⟩ := hcut.out
       obtain ⟨fa, fc, rfl, hfx, _⟩ := OwnF.shape hk.own
       have HP := Box.mk hp
       have HKC := Box.mk hk
       have HI := Box.mk (And.intro hib (And.intro hne hel))
       have HPP := Box.mk hP
       have hpl := hp.len
       have HLEN := Box.mk hpl
       have HCALL := Box.mk (refFmtRep_any st r z x fa none fc 0 0 wc (by
        have h1 := hp.sz
        unfold fmtRep at h1
        rw [if_pos ⟨hp.lo, hp.hi, by have := hp.zz; omega, by have := hp.zz; omega, hp.vi⟩] at h1
        simp only [ByteArray.size_append] at h1
        omega) hfx.1 hp.sm (by have := hp.xl; omega) (by have := hp.sz; omega))
       clear hp hk hib hne hel hP hfx hpl hcut HK5 HB5 HKL
       go_wp2_with (refine wpList_load_row rfl 31 _ rfl q rfl 31 #[.int .i64 st, .string r, .int .i64 z, .slice fa (List.length x) fc, .slice none 0 0] (0, 0) _ HKC.out.row Tryz.underlying31 rfl sizeA ?_)
       refine HCALL.out.mono ?_
       rintro e6 w6 hret
       obtain ⟨v6, rfl, ho6, hb6⟩ := hret.own (by have := HLEN.out.1; omega) (by have := HLEN.out.2; omega)
       obtain ⟨g6, c6, rfl, _, hib6⟩ := ho6.form
       have HI6 := Box.mk hib6
       have HK6 := Box.mk (HKC.out.keep hb6)
       have HE6 := Box.mk (HI.out.1.keep hb6)
       have HPP6 := Box.mk (HPP.out.imp id fun h => h.keep hb6)
       have HB6 := Box.mk (show w.heap.size ≤ w6.heap.size from HK6.out.grown.size)
       have HLE := Box.mk (And.intro HLEN.out.2 HI.out.2.2)
       clear hret ho6 hb6 hib6 HCALL HKC
       generalize hhd : headB (fmtRep st r z) x = hd at *
       have HHD := Box.mk hhd
       have HSRC : ∀ {w1 w2 : World} {row : Option Nat}, Src w1 g a n c → w.grownBy w1 (some g) → w1.grownBy w2 row → (∀ k, row = some k → w.heap.size ≤ k) → Src w2 g a n c ∧ w.grownBy w2 (some g) := fun h1 h2 h3 h4 =>
        ⟨h1.grown h3 (fun e => by have := h4 g e.symm; have := HN.out.lo; omega) (fun y e h0 e2 => by have := h4 _ e2.symm; have := HN.out.src y e h0; omega), grownBy_new h2 h3 h4⟩
       have HSR := Box.mk @HSRC
       clear hhd HSRC
       rcases HPP6.out with hnil | hpo
       · subst hnil
         have HL7 := Box.mk (show ([] : List UInt8).length + hd.length ≤ 140737488355328 by have := HLE.out.1; rw [List.length_nil]; omega)
         have HST := Box.mk (Own.start w.heap.size w6)
         go_wp2_with (at_builtin; refine wpList_append_ownb _ rfl _ _ rfl rfl HST.out rfl HI6.out HL7.out HB6.out ?c7)
         case c7 =>
          intro v7 w7 ho7 hg7 hn7

          have HO7 := Box.mk (OwnM.of_own ho7 (by have := HLEN.out.1; omega))
          have HS7 := Box.mk (HSR.out HK6.out.src HK6.out.grown hg7 (fun k e => by cases e))
          have HE7 := Box.mk (isBytes_grownS HE6.out hg7 (fun y e1 h1 e2 => by cases e2))
          have HL8 := Box.mk (show hd.length + e.length ≤ 1000000000 by have := HLE.out.1; have := HLE.out.2; omega)
          have HB7 := Box.mk (show w.heap.size ≤ w7.heap.size from HS7.out.2.size)
          clear ho7 hg7 hn7 HL7 HST HI6
          go_wp2_with (at_builtin; refine wpList_append_mb _ rfl _ _ rfl rfl HO7.out rfl HE7.out HL8.out HB7.out ?c8)
          case c8 =>
           intro v8 w8 ho8 hg8 hn8
           have HO8 := Box.mk ho8
           have HS8 := Box.mk (HSR.out HS7.out.1 HS7.out.2 hg8 (fun k e => (HO7.out.lt e).1))
           clear ho8 hg8 hn8
           go_wp2_with fail
           go_ret
           exact ⟨v8, _, rfl, HO8.out, .inr ⟨st, z, r, x, e, HP.out, HI.out.2.2, .inl (by rw [HHD.out])⟩, HS8.out.1, HS8.out.2⟩
       · have HPO := Box.mk hpo
         have HNE := Box.mk HI.out.2.1
         obtain ⟨gp, cp, rfl, _, _⟩ := hpo.form
         have HL7 := Box.mk (show interF.length + hd.length ≤ 1000000000 by have := HLE.out.1; show 25 + _ ≤ _; omega)
         clear hpo
         go_wp2_with (at_builtin; refine wpList_append_mb _ rfl _ _ rfl rfl HPO.out rfl HI6.out HL7.out HB6.out ?c7)
         case c7 =>
          intro v7 w7 ho7 hg7 hn7
          have HO7 := Box.mk ho7
          have HS7 := Box.mk (HSR.out HK6.out.src HK6.out.grown hg7 (fun k e => (HPO.out.lt e).1))
          have HE7 := Box.mk (isBytes_grownS HE6.out hg7 (fun y e1 h1 e2 => HNE.out y e1 h1 e2))
          have HL8 := Box.mk (show (interF ++ hd).length + e.length ≤ 1000000000 by have := HLE.out.1; have := HLE.out.2; rw [List.length_append]; show 25 + _ + _ ≤ _; omega)
          have HB7 := Box.mk (show w.heap.size ≤ w7.heap.size from HS7.out.2.size)
          clear ho7 hg7 hn7 HL7 HI6
          go_wp2_with (at_builtin; refine wpList_append_mb _ rfl _ _ rfl rfl HO7.out rfl HE7.out HL8.out HB7.out ?c8)
          case c8 =>
           intro v8 w8 ho8 hg8 hn8
           have HO8 := Box.mk ho8
           have HS8 := Box.mk (HSR.out HS7.out.1 HS7.out.2 hg8 (fun k e => (HO7.out.lt e).1))
           clear ho8 hg8 hn8
           go_wp2_with fail
           go_ret
           exact ⟨v8, _, rfl, HO8.out, .inr ⟨st, z, r, x, e, HP.out, HI.out.2.2, .inr (by rw [HHD.out])⟩, HS8.out.1, HS8.out.2⟩
end Go.Proofs.YteoadfckcilalaaGreatDoor
namespace Go.Proofs.YteoadfckcilalaaGreatDoor
open Go.RowKit

set_option linter.unusedVariables false
def RetStr (w : World) (e : Ending) (w' : World) : Prop := ∃ v b, e = .returned v ∧ OwnM w.heap.size w' v b ∧ GoodB b ∧ b.length ≤ 1900 ∧ Below w.heap.size w w'
def tailF : List ByteArray := [⟨#[]⟩, ⟨#[71, 69, 84]⟩, ⟨#[13, 10]⟩]
theorem tailF_ok : (tailF.all fun s => decide (s.size ≤ 3)) = true := by decide
theorem StrF.pos {b : List UInt8} (h : StrF b) : 0 < b.length := by
 rcases h with h | ⟨m, t, z, x, fr, ch, l, hm, ht, hz, hx, hl, hfr, rfl⟩
 · exact h.len.1
 · have := (reqOk_made m t z x fr ch l hm ht hz hx hl hfr).lo
   unfold reqW
   rw [List.length_append]; omega
section
variable {ops : Array Oper} {rest : List Oper} {o : Oper} {act : Act} {Q : Exit → Act → World → Prop}
theorem wpList_append_mstrS (w : World) (hgd : o.guard = none) (s x : Operand) (ho : o.op = .call { callee := .builtin .append, args := #[s, x], argTypes := #[23, 9] })
  {B : Nat} {v : Value} {l : List UInt8} (hs : act.eval s = v) (h : OwnM B w v l) {t : ByteArray} (hx : act.eval x = .string t) (hn : l.length + t.size ≤ 1000000000) (hB : B ≤ w.heap.size)
  (K : ∀ v' w', OwnM B w' v' (l ++ t.data.toList) → w.grownBy w' v.ownBlock → wpList Tryz.prog ops Q rest (act.put o.dst v') w') : wpList Tryz.prog ops Q (o :: rest) act w :=
 wpList_plain hgd fun K2 hK2 => wp_append_mstrH ho (by rw [hs]; exact h) hx hn hB fun v' w' h1 h2 _ => hK2 _ _ (K v' w' h1 (by rw [hs] at h2; exact h2))
end
def StrS (w : World) (a : Option Addr) (n c : Nat) (w' : World) (v : Value) : Prop := ∃ b, StrF b ∧ BytesV w' v b ∧ Src w' w.heap.size a n c ∧ Below w.heap.size w w'
set_option maxRecDepth 100000 in
set_option maxHeartbeats 4000000 in
theorem stream_any (a : Option Addr) (n c : Nat) (reply : Bool) (at_ : Int) (x : UInt8) (w : World) (hi : IntsF w a n) (hn : n ≤ maxLen) :
  Calls Tryz.prog 8 #[.slice a n c, .bool reply, .int .i64 at_, .int .u8 x.toNat] w (RetStr w) := by
 have HS0 := Box.mk (src_box (c := c) hi hn)
 have HB0 := Box.mk (below_oneF w (.cells #[.slice a n c, .int .i64 0] 56))
 clear hi hn
 go_enter Tryz.func8, Tryz.ntmps8
 go_upto_if 14 with fail
 go_cut [10] (fun s10 wx => Box (StrS w a n c wx s10))
 case first =>
  cases reply with
  | true =>
   go_wp2_with fail
   refine (srcRep_any w.heap.size a n c _ HS0.out).mono ?_
   rintro e w1 ⟨v, b, rfl, ho, hf, hs, hg⟩
   go_wp2_with fail
   go_meet
   exact ⟨b, .inl hf, by obtain ⟨g, cc, h1, _, h2⟩ := ho.form; exact ⟨_, cc, h1, h2⟩, hs, below_box HB0.out hg⟩
  | false =>
   go_wp2_with fail
   refine (srcReq_any w.heap.size a n c _ HS0.out).mono ?_
   rintro e w5 ⟨m, t, z, v5, y, fr, vB, bl, rfl, hm, ht, hz, ho5, hbo, hR3, hbl, hfr, hs5, hg5⟩
   obtain ⟨fa, fc, rfl, hfc, _⟩ := ho5.shape
   obtain ⟨ba, bc, rfl, hbv⟩ := hbo.val
   have HM := Box.mk (And.intro hm (And.intro ht (And.intro hz (And.intro hR3 (And.intro hbl hfr)))))
   have HO5 := Box.mk (And.intro ho5 hbo)
   have HS5 := Box.mk hs5
   have HB5 := Box.mk (below_box HB0.out hg5)
   clear hm ht hz ho5 hbo hR3 hbl hfr hs5 hg5 hfc hbv HS0 HB0
   go_wp2_with fail
   refine (next_any w.heap.size 2 a n c _ HS5.out (by decide) (by decide)).mono ?_
   rintro e w6 ⟨k, hk, rfl, hs6, hg6⟩
   have HS6 := Box.mk hs6
   have HB6 := Box.mk (below_box HB5.out hg6)
   have hf6 : FldsC w6 fa y fc := by
    obtain ⟨fa2, fc2, e1, h1, _⟩ := (HO5.out.1.grown hg6 (fun q e1 e2 => by have := (HO5.out.1.lt e1).1; have := Option.some.inj e2; rw [World.size_alloc] at *; omega)).shape
    obtain ⟨rfl, _, rfl⟩ := Value.slice.inj e1
    exact h1
   have hd6 : IsBytes w6 ba bl bc := by
    obtain ⟨ba2, bc2, e1, h1⟩ := (HO5.out.2.grown hg6 (fun q e1 e2 => by have := (HO5.out.2.lt e1).1; have := Option.some.inj e2; rw [World.size_alloc] at *; omega)).val
    obtain ⟨rfl, _, rfl⟩ := Value.slice.inj e1
    exact h1
   have HF6 := Box.mk hf6
   have HD6 := Box.mk hd6
   clear hs6 hg6 hf6 hd6 HS5 HB5 HO5
   have HWI := Box.mk (fun ch => reqWire_any m t z y fr ch bl fa ba fc bc w6 (by have := (meth_at HM.out.1).2; omega) (by have := (targ_at HM.out.2.1).2; omega) HF6.out HD6.out (by have := HM.out.2.2.2.1.made.2; omega) (by have := HM.out.2.2.2.2.1; omega) HM.out.2.2.1 (reqOk_made m t z y fr ch bl HM.out.1 HM.out.2.1 HM.out.2.2.1 HM.out.2.2.2.1 HM.out.2.2.2.2.1 HM.out.2.2.2.2.2))
   obtain ⟨ch, hch⟩ : ∃ ch : Bool, ch = ((k : Int) == 0) := ⟨_, rfl⟩
   go_wp2_with fail
   rw [← hch]
   clear hch
   refine (HWI.out ch).mono ?_
   rintro e w7 ⟨v, rfl, ho7, hb7⟩
   have HR7 := Box.mk (And.intro ho7 hb7)
   clear ho7 hb7
   go_wp2_with fail
   go_meet
   exact ⟨_, .inr ⟨m, t, z, y, fr, ch, bl, HM.out.1, HM.out.2.1, HM.out.2.2.1, HM.out.2.2.2.1, HM.out.2.2.2.2.1, HM.out.2.2.2.2.2, rfl⟩, by obtain ⟨g, cc, h1, _, h2⟩ := HR7.out.1.form; exact ⟨_, cc, h1, h2⟩, HS6.out.keep HR7.out.2, below_trans HB6.out HR7.out.2⟩
 case rest =>
  have HST := Box.mk hcut.out
  clear hcut HS0 HB0
  obtain ⟨b, hb, ⟨va, vc, rfl, hby⟩, hs, hbl⟩ := HST.out
  have HF := Box.mk hb
  have HBY := Box.mk hby
  have HS := Box.mk hs
  have HB := Box.mk hbl
  have HE := Box.mk (AccB.empty wc)
  have HL := Box.mk (show ([] : List UInt8).length + b.length ≤ 140737488355328 by have := hb.len; rw [List.length_nil]; omega)
  have HBY2 := Box.mk (HBY.out.keep HE.out.2)
  clear hb hby hs hbl HST
  go_wp2_with (at_builtin; refine wpList_append_accs _ rfl _ _ rfl rfl HE.out rfl HBY2.out HL.out ?c1)
  case c1 =>
   intro v1 w1 hacc
   have HA := Box.mk hacc
   have HS1 := Box.mk (HS.out.keep hacc.2)
   have HB1 := Box.mk (below_trans HB.out hacc.2)
   clear hacc HE HL HBY2
   go_wp2_with fail
   obtain ⟨W2, hW2⟩ : ∃ W2, W2 = w1.alloc (.cells (tailF.map Value.string).toArray 9) := ⟨_, rfl⟩
   have HB2 := Box.mk (show Below w1.heap.size w1 W2 by rw [hW2]; exact below_oneF w1 _)
   have HL2 := Box.mk (show StrsIn W2 (some ⟨w1.heap.size, 0, none⟩) tailF by rw [hW2]; exact strsIn_newF w1 tailF 9)
   change Calls _ _ _ (w1.alloc (.cells (tailF.map Value.string).toArray 9)) _
   rw [← hW2]
   clear hW2
   have hlt1 := HS1.out.lt
   refine (of_n w.heap.size w1.heap.size 3 tailF 3 a n c W2 (HS1.out.keep HB2.out) HL2.out (by omega) rfl (by decide) (by decide)).mono ?_
   rintro e w3 ⟨s, hs, rfl, hsrc, hg3⟩
   have hltc : w.heap.size < wc.heap.size := HS.out.lt
   have hA1 : Own wc.heap.size w1 v1 b := HA.out.1
   have hA2 : Own wc.heap.size W2 v1 b := Own.same hA1 fun k hk => HB2.out.block k (Own.lt hA1 hk).2
   have hown3 : Own wc.heap.size w3 v1 b := Own.grown hA2 hg3 (fun k hk e => by have := (Own.lt hA1 hk).1; have := Option.some.inj e; omega)
   have HO3 := Box.mk ((OwnM.of_own hown3 HF.out.pos).low (Nat.le_of_lt hltc))
   have HB3 := Box.mk (below_box (below_trans HB1.out HB2.out) hg3)
   have hsz := of_decide_eq_true (List.all_eq_true.1 tailF_ok s hs)
   have HSZ := Box.mk (show s.data.toList.length ≤ 3 by rw [Array.length_toList]; exact hsz)
   have HL3 := Box.mk (show b.length + s.size ≤ 1000000000 by have := HF.out.len; omega)
   have HG3 := Box.mk (show w.heap.size ≤ w3.heap.size from HB3.out.size)
   clear hs hsrc hg3 hown3 hA1 hA2 hsz HA HB2 HL2 HS1 HB1 hlt1 hltc HS
   go_wp2_with (at_builtin; refine wpList_append_mstrS _ rfl _ _ rfl rfl HO3.out rfl HL3.out HG3.out ?c2)
   case c2 =>
    intro v4 w4 ho4 hg4
    have HO4 := Box.mk ho4
    have HB4 := Box.mk (HB3.out.grown hg4 HB3.out.size (fun k e => (HO3.out.lt e).1))
    obtain ⟨g, cc, rfl, hgc, hby4⟩ := ho4.form
    have HBY4 := Box.mk hby4
    obtain ⟨l2, hl2⟩ : ∃ l2, l2 = b ++ s.data.toList := ⟨_, rfl⟩
    rw [← hl2] at HO4 HBY4 hgc ⊢
    have HGD := Box.mk (show GoodB l2 ∧ ∀ i c, GoodB (l2.set i c) from by
     rw [hl2]; exact ⟨HF.out.good0 _ (by have := HSZ.out; omega), fun i c => HF.out.good _ (by have := HSZ.out; omega) i c⟩)
    have hlen : 0 < l2.length ∧ l2.length ≤ 1900 := by
     have h1 := HF.out.pos
     have h2 := HF.out.len
     have h3 := HSZ.out
     rw [hl2, List.length_append]; omega
    have hlo := hlen.1
    have hhi := hlen.2
    obtain ⟨zb, hzb, hz01⟩ := and1 at_
    clear ho4 hg4 hby4 hl2 hlen HO3 HB3 HSZ HL3 HG3 HF HBY HB
    rcases hz01 with rfl | rfl
    · go_wp2_with fail
      go_ret
      exact ⟨_, l2, rfl, HO4.out, HGD.out.1, by omega, HB4.out⟩
    · go_wp2_with fail
      obtain ⟨q, hq, hqe⟩ := withI_range (at_ / 2) l2.length (by omega) (by omega)
      refine (withinF _ l2.length _ (by omega) (by omega)).mono ?_
      rintro e w11 ⟨he, rfl⟩
      rw [hqe] at he
      subst he
      have hcell := HBY4.out.cellAtH hq
      have hfz := HO4.out.thawed hq
      have HST := Box.mk (HO4.out.put8 q x)
      clear hqe
      go_wp2_with fail
      go_ret
      exact ⟨_, l2.set q x, rfl, by have := HST.out.1; exact this, HGD.out.2 q x, by rw [List.length_set]; omega,
       HB4.out.grown HST.out.2 HB4.out.size (fun r e => by have := Option.some.inj e; have := (HO4.out.lt (k := g) rfl).1; omega)⟩
end Go.Proofs.YteoadfckcilalaaGreatDoor
namespace Go.Proofs.YteoadfckcilalaaGreatDoor
open Go.RowKit

set_option linter.unusedVariables false
def erW : RW → Int | .err e => e | .got e _ _ _ => e
def msW : RW → (ByteArray × ByteArray × Int × List Fld × Bool) × (Int × ByteArray × Int × List Fld) | .err _ => MsgS zeroR | .got _ s _ _ => MsgS s
def dtW : RW → List UInt8 | .err _ => [] | .got _ _ d _ => d
def nmW : RW → Nat | .err _ => 0 | .got _ _ _ n => n
theorem same_fun {x y : RW} (h : x.same y) : erW x = erW y ∧ msW x = msW y ∧ dtW x = dtW y ∧ nmW x = nmW y := by
 cases x <;> cases y <;> simp_all [RW.same, erW, msW, dtW, nmW]
def NmM (m : (ByteArray × ByteArray × Int × List Fld × Bool) × (Int × ByteArray × Int × List Fld)) : Prop := (∀ f ∈ m.1.2.2.2.1, ¬ f.1.size = 0) ∧ ∀ f ∈ m.2.2.2.2, ¬ f.1.size = 0
theorem headX_names {s : RS} (hs : NmS s) (h : List UInt8) (body : Int) : NmS (headX s h body).r := by
 unfold headX
 split
 · split
   · exact nmS_zero
   · split
     · exact nmS_zero
     · split
       · exact hs
       · refine finX_names ?_ _ _ _
         exact ⟨hs.1, headA_names _⟩
 · split
   · exact nmS_zero
   · refine finX_names ?_ _ _ _
     exact ⟨headR_names _, hs.2⟩
theorem bodyC_names {s : RS} (hs : NmS s) (b : List UInt8) : NmM (msW (bodyC s b)) := by
 have h : ∀ (r : RW), (r = .err (erW r) ∨ ∃ e d n, r = .got e s d n) → NmM (msW r) := fun r hr => by
  rcases hr with h | ⟨e, d, n, h⟩
  · rw [h]; exact nmS_zero
  · rw [h]; exact hs
 refine h _ ?_
 unfold bodyC
 split
 · split
   · exact .inr ⟨_, _, _, rfl⟩
   · exact .inr ⟨_, _, _, rfl⟩
 · split
   · split
     · exact .inr ⟨_, _, _, rfl⟩
     · exact .inl rfl
   · split
     · exact .inl rfl
     · exact .inr ⟨_, _, _, rfl⟩
theorem add_names {r : RW} (h : NmM (msW r)) (d : List UInt8) (n : Nat) : NmM (msW (r.add d n)) := by
 cases r <;> exact h
theorem allC_names : ∀ (f : Nat) (s : RS) (b : List UInt8), NmS s → NmM (msW (allC f s b))
 | 0, _, _, _ => nmS_zero
 | f + 1, s, b, hs => by
  unfold allC
  split
  · split
    · exact hs
    · split
      · exact nmS_zero
      · split
        · exact nmS_zero
        · exact add_names (allC_names f _ _ (headX_names hs _ _)) _ _
  · exact bodyC_names hs b
theorem CW_names {s : RS} (hs : NmS s) (b : List UInt8) : NmM (msW (CW s b)) := allC_names _ _ _ hs
def AgC (m : (ByteArray × ByteArray × Int × List Fld × Bool) × (Int × ByteArray × Int × List Fld)) (w : World) (cr : Array Value) : Prop := ∃ (t : RS) (fa : Option Addr) (fc : Nat) (ga : Option Addr) (gc : Nat) (la : Option Addr) (lc : Nat), cr = #[.bool t.rep, .string t.meth, .int .i64 t.ph, .string t.m, .string t.t, .int .i64 t.z, .slice fa (List.length t.xs) fc, .bool t.fr, .slice none 0 0, .int .i64 t.st, .string t.rs, .int .i64 t.z2, .slice ga (List.length t.ys) gc, .slice none 0 0, .int .i64 t.fk, .int .i64 t.fl, .int .i64 t.left, .int .i64 t.size, .int .i64 t.ck.ph, .int .i64 t.ck.left, .int .i64 t.ck.tr, .slice la (List.length t.ck.line) lc] ∧ MsgS t = m ∧ FldsIn w fa t.xs ∧ FldsIn w ga t.ys ∧ t.xs.length ≤ 64 ∧ t.ys.length ≤ 64
abbrev Msg := (ByteArray × ByteArray × Int × List Fld × Bool) × (Int × ByteArray × Int × List Fld)
theorem AgC.keep {m : Msg} {w w' : World} {cr : Array Value} (h : AgC m w cr) (hb : Below w.heap.size w w') : AgC m w' cr := by
 obtain ⟨t, fa, fc, ga, gc, la, lc, h1, h2, h3, h4, h5⟩ := h
 exact ⟨t, fa, fc, ga, gc, la, lc, h1, h2, h3.keep hb, h4.keep hb, h5⟩
theorem AgC.size {m : Msg} {w : World} {cr : Array Value} (h : AgC m w cr) : cr.size = 22 ∧ cr.all (·.oneCell') = true := by
 obtain ⟨t, fa, fc, ga, gc, la, lc, rfl, _⟩ := h
 exact ⟨rfl, oneRd ..⟩
theorem AgC.cells {mm tt : ByteArray} {z : Int} {xs : List Fld} {fr : Bool} {st : Int} {rs : ByteArray} {z2 : Int} {ys : List Fld} {w : World} {cr : Array Value} (h : AgC ((mm, tt, z, xs, fr), (st, rs, z2, ys)) w cr) : ∃ fa fc ga gc,
  cr[3]? = some (.string mm) ∧ cr[4]? = some (.string tt) ∧ cr[5]? = some (.int .i64 z) ∧ cr[6]? = some (.slice fa (List.length xs) fc) ∧ cr[7]? = some (.bool fr) ∧ cr[8]? = some (.slice none 0 0) ∧
  cr[9]? = some (.int .i64 st) ∧ cr[10]? = some (.string rs) ∧ cr[11]? = some (.int .i64 z2) ∧ cr[12]? = some (.slice ga (List.length ys) gc) ∧ cr[13]? = some (.slice none 0 0) ∧ FldsIn w fa xs ∧ FldsIn w ga ys ∧ xs.length ≤ 64 ∧ ys.length ≤ 64 := by
 obtain ⟨t, fa, fc, ga, gc, la, lc, rfl, hm, h3, h4, h5, h6⟩ := h
 simp only [MsgS, Prod.mk.injEq] at hm
 obtain ⟨⟨rfl, rfl, rfl, rfl, rfl⟩, rfl, rfl, rfl, rfl⟩ := hm
 exact ⟨fa, fc, ga, gc, rfl, rfl, rfl, rfl, rfl, rfl, rfl, rfl, rfl, rfl, rfl, h3, h4, h5, h6⟩
def AgW (m : Msg) (w : World) (v : Value) : Prop := ∃ cr, v = .agg cr ∧ AgC m w cr
def WhT (r : RW) (w : World) (v : Value) : Prop := ∃ cr, v = .tuple #[.agg cr, .string ⟨(dtW r).toArray⟩, .int .i64 (nmW r : Int), .int .i64 (erW r)] ∧ AgC (msW r) w cr
theorem whole_val {r : RW} {e : Ending} {w0 w : World} (h : RetWh w0 r e w) : ∃ v, e = .returned v ∧ WhT r w v := by
 rcases h with ⟨er, rfl, rfl⟩ | ⟨er, t, d, n, fa, fc, ga, gc, la, lc, hs, rfl, h1, h2, h3, h4⟩
 · exact ⟨_, rfl, _, rfl, zeroR, none, 0, none, 0, none, 0, rfl, rfl, FldsIn.nil _ _, FldsIn.nil _ _, Nat.zero_le _, Nat.zero_le _⟩
 · obtain ⟨g1, g2, g3, g4⟩ := same_fun hs
   refine ⟨_, rfl, _, ?_, t, fa, fc, ga, gc, la, lc, rfl, g2, h1, h2, h3, h4⟩
   rw [← g1, ← g3, ← g4]; rfl
def WhR (r : RW) (N : Nat) (w : World) (v : Value) : Prop := ∃ q cr, v = .pointer (some ⟨q, 0, none⟩) ∧ N ≤ q ∧ RVr w q cr ∧ AgC (msW r) w cr
def Spec.agw (m : Msg) : Spec := ⟨fun v w => AgW m w v, fun _ _ _ h hb => by
 obtain ⟨cr, h1, h2⟩ := h
 exact ⟨cr, h1, h2.keep hb⟩⟩
def Spec.wht (r : RW) : Spec := ⟨fun v w => WhT r w v, fun _ _ _ h hb => by
 obtain ⟨cr, h1, h2⟩ := h
 exact ⟨cr, h1, h2.keep hb⟩⟩
def Spec.whr (r : RW) (N : Nat) : Spec := ⟨fun v w => WhR r N w v, fun _ _ _ h hb => by
 obtain ⟨q, cr, h1, h2, h3, h4⟩ := h
 exact ⟨q, cr, h1, h2, h3.keep hb, h4.keep hb⟩⟩
def I1 (N : Nat) (w : World) (v : Value) : Prop := ∃ b, v = .slice (some ⟨b, 0, none⟩) 1 1 ∧ N ≤ b ∧ w.heap[b]? = some (.cells #[.int .i64 3] 3 (0, 0))
def Spec.i1 (N : Nat) : Spec := ⟨fun v w => I1 N w v, fun _ _ _ h hb => by
 obtain ⟨b, h1, h2, h3⟩ := h
 exact ⟨b, h1, h2, (hb.block _ (lt_row h3)).trans h3⟩⟩
def CutV (w : World) (v : Value) : Prop := ∃ a n c, v = .slice a n c ∧ IntsF w a n ∧ n ≤ maxLen ∧ n ≤ c
def Spec.cuts : Spec := ⟨fun v w => CutV w v, fun _ _ _ h hb => by
 obtain ⟨a, n, c, h1, h2, h3⟩ := h
 exact ⟨a, n, c, h1, h2.keep hb, h3⟩⟩
section
variable {Q : Exit → Act → World → Prop} {act : Act} {w : World} {o : Oper} {s : Spec} {K : Act → World → Prop}
theorem loc_int1 (ho : o.op = .buildSlice 22 1 #[(0, .const (.int .i64 3))]) {N : Nat} (hN : N ≤ w.heap.size) (hs : ∀ v w', I1 N w' v → s.p v w') :
  o.wp Tryz.prog act w (fun a' w' => ∃ v, a' = act.put o.dst v ∧ Below w.heap.size w w' ∧ s.p v w') Q := by
 obtain ⟨i0, hi, hz0, hz1, hz2⟩ := info_parts (show (Tryz.prog.info? 3).map (fun i => (i.zero, i.size, i.bytes)) = some (some (.int .i64 0), 1, 8) by kernel_rfl)
 have hrun := run_buildSlice (P := Tryz.prog) w 22 3 1 #[(0, .int .i64 3)] #[.int .i64 3] i0 _ Tryz.underlying22 hi hz0 (by rw [hz1]; decide) (by rw [hz1]; decide) (by rw [hz1]; simp [Instr.fill, Value.cells, Array.range_succ, show Array.range 0 = #[] from rfl])
 refine loc_run (v := .slice (some ⟨w.heap.size, 0, none⟩) 1 1) (w' := w.alloc (.cells #[.int .i64 3] 3)) ?_ (below_oneF _ _) (hs _ _ ⟨_, rfl, hN, heap_alloc_new _ _⟩)
 unfold execOp
 simp only [ho, List.map_toArray, List.map_cons, List.map_nil]
 rw [Sem.run_bind]
 exact congrArg (fun r => Result.andThen r fun u w' => Sem.run Tryz.prog (pure (Next.value u)) w') hrun
theorem loc_appendI {x y : Operand} (ho : o.op = .call { callee := .builtin .append, args := #[x, y], argTypes := #[22, 22] }) {b : Nat} (hx : act.eval x = .slice (some ⟨b, 0, none⟩) 1 1) (hrow : w.heap[b]? = some (.cells #[.int .i64 3] 3 (0, 0)))
  {ca : Option Addr} {cl cc : Nat} (hy : act.eval y = .slice ca cl cc) (hi : IntsF w ca cl) (hn : cl ≤ 2000000) (hs : ∀ v w', CutV w' v → s.p v w') :
  o.wp Tryz.prog act w (fun a' w' => ∃ v, a' = act.put o.dst v ∧ Below w.heap.size w w' ∧ s.p v w') Q := by
 obtain ⟨i0, hi0, hz0, hz1, hz2⟩ := info_parts (show (Tryz.prog.info? 3).map (fun i => (i.zero, i.size, i.bytes)) = some (some (.int .i64 0), 1, 8) by kernel_rfl)
 have fin : ∀ v w', (Builtin.append_ #[22, 22] o.type #[.slice (some ⟨b, 0, none⟩) 1 1, .slice ca cl cc]).run Tryz.prog w = .ok v w' → Below w.heap.size w w' → CutV w' v →
   o.wp Tryz.prog act w (fun a' w' => ∃ v, a' = act.put o.dst v ∧ Below w.heap.size w w' ∧ s.p v w') Q := fun v w' h1 h2 h3 => by
  refine loc_run (v := v) (w' := w') ?_ h2 (hs v w' h3)
  unfold execOp
  simp only [ho]
  simp [resolve, invoke, builtin, hx, hy, h1, Result.andThen]
 have hc0 : w.cell? ⟨b, 0, none⟩ = some (.int .i64 3) := by rw [cell_of_row _ _ _ _ _ _ hrow]; rfl
 by_cases h0 : cl = 0
 · subst h0
   refine fin (.slice (some ⟨b, 0, none⟩) 1 1) w ?_ (Below.refl _ _) ⟨_, _, _, rfl, fun j hj => ?_, by decide, Nat.le_refl _⟩
   · cases ca <;> simp [Builtin.append_, run_underlying Tryz.underlying22, sizeOf, typeInfo, hi0, Builtin.lenOf, Builtin.firstCells, loadCells, storeCells, loadCellsFrom]
   · obtain rfl : j = 0 := by omega
     exact ⟨_, 3, rfl, by rw [Addr.add_lit]; exact hc0, by decide, by decide⟩
 · obtain ⟨x0, z0, rfl, _⟩ := hi 0 (by omega)
   have hl : ((List.range cl).map fun j => (w.cell? (x0.add j)).getD undef).length = cl * 1 := by simp
   have hnews : ∀ j u, ((List.range cl).map fun j => (w.cell? (x0.add j)).getD undef)[j]? = some u → w.cell? (x0.add j) = some u := fun j u h => by
    rw [List.getElem?_map] at h
    by_cases hj : j < cl
    · obtain ⟨x, z, e, h1, _⟩ := hi j hj
      obtain rfl := Option.some.inj e
      rw [List.getElem?_range hj, Option.map_some, h1] at h
      rw [h1]
      simpa using h
    · rw [List.getElem?_eq_none (by simpa using hj)] at h
      cases h
   obtain ⟨v', w', h1, h2, h3⟩ := run_append_arg_grows (P := Tryz.prog) (w := w) 22 o.type 3 i0 _ 1 8 Tryz.underlying22 hi0 hz0 hz1 hz2 rfl (by decide) ⟨b, 0, none⟩ 1 1 [.int .i64 3] rfl (fun j u hj => by
    match j, hj with
    | 0, hj => simp at hj; subst hj; rw [Addr.add_lit]; exact hc0
    | j + 1, hj => simp at hj) x0 cl cc _ hl hnews (by omega) (by unfold maxLen; omega) (by omega)
   refine fin v' w' h1 ((Below.refl _ _).grown h3 (Nat.le_refl _) (fun k hk => by cases hk)) ?_
   rcases h2.2 with ⟨_, e⟩ | ⟨g', cap, cur, rfl, hg, hrow2, h5, h6, h7, h8⟩
   · omega
   · refine ⟨_, _, _, rfl, fun j hj => ?_, by unfold maxLen; omega, h5⟩
     have hcur : cur[j]? = ([Value.int .i64 3] ++ (List.range cl).map fun j => (w.cell? (x0.add j)).getD undef)[j]? := by
      rw [← h8, List.getElem?_take, if_pos (by omega), Array.getElem?_toList]
     by_cases hj0 : j = 0
     · subst hj0
       exact ⟨⟨g', 0, none⟩, 3, rfl, by rw [Addr.add_lit, cell_of_row _ _ _ _ _ _ hrow2, Nat.zero_add, hcur]; rfl, by decide, by decide⟩
     · obtain ⟨x, z, e, h9, h10⟩ := hi (j - 1) (by omega)
       obtain rfl := Option.some.inj e
       refine ⟨⟨g', 0, none⟩, z, rfl, ?_, h10⟩
       rw [Addr.add_lit, cell_of_row _ _ _ _ _ _ hrow2, Nat.zero_add, hcur, List.getElem?_append_right (by simp; omega)]
       simp only [List.length_cons, List.length_nil, Nat.zero_add]
       rw [List.getElem?_map, List.getElem?_range (by omega), Option.map_some, h9]
       rfl
theorem wp_storeWh {y z : Operand} (ho : o.op = .store 37 y z) {N : Nat} {r : RW} (hn : NmM (msW r)) (h1 : RNew N w (act.eval y)) (h2 : AgW (msW r) w (act.eval z)) (hK : ∀ q cs, act.eval y = .pointer (some ⟨q, 0, none⟩) → N ≤ q → RVr w q #[.bool false, .string ⟨#[]⟩, .int .i64 0, .string ⟨#[]⟩, .string ⟨#[]⟩, .int .i64 0, .slice none 0 0, .bool false, .slice none 0 0, .int .i64 0, .string ⟨#[]⟩, .int .i64 0, .slice none 0 0, .slice none 0 0, .int .i64 0, .int .i64 0, .int .i64 0, .int .i64 0, .int .i64 0, .int .i64 0, .int .i64 0, .slice none 0 0] → WhR r N (w.setRow q cs) (act.eval y) → K (act.put o.dst undef) (w.setRow q cs)) : o.wp Tryz.prog act w K Q := by
 obtain ⟨q, e1, hN, hq⟩ := h1
 obtain ⟨cr, e2, h3⟩ := h2
 obtain ⟨h22, hone⟩ := h3.size
 refine wp_store_row 37 _ _ ho q cr e1 e2 37 _ hq (by rw [h22]; exact sizeRd) (by rw [h22]; rfl) hone ?_
 refine hK q _ e1 hN hq ⟨q, cr, e1, hN, setRow_heap _ _ _ _ _ _ hq, ?_⟩
 obtain ⟨t, fa, fc, ga, gc, la, lc, rfl, hm, h4, h5, h6⟩ := h3
 rw [← hm] at hn
 exact ⟨t, fa, fc, ga, gc, la, lc, rfl, hm, sameNe h4 fun y e hl => setRow_other _ _ _ _ (flds_away hq zero_noStr h4 hn.1 y e hl), sameNe h5 fun y e hl => setRow_other _ _ _ _ (flds_away hq zero_noStr h5 hn.2 y e hl), h6⟩
theorem loc_wh0 {y : Operand} (ho : o.op = .extract y 0) {r : RW} (h : WhT r w (act.eval y)) (hs : ∀ v, AgW (msW r) w v → s.p v w) : o.wp Tryz.prog act w (fun a' w' => ∃ v, a' = act.put o.dst v ∧ Below w.heap.size w w' ∧ s.p v w') Q := by
 obtain ⟨cr, e, h2⟩ := h
 exact loc_run (v := .agg cr) (by unfold execOp; simp [ho, e, Instr.extract]) (Below.refl _ _) (hs _ ⟨cr, rfl, h2⟩)
theorem loc_wh1 {y : Operand} (ho : o.op = .extract y 1) {r : RW} (h : WhT r w (act.eval y)) (hs : s.p (.string ⟨(dtW r).toArray⟩) w) : o.wp Tryz.prog act w (fun a' w' => ∃ v, a' = act.put o.dst v ∧ Below w.heap.size w w' ∧ s.p v w') Q := by
 obtain ⟨cr, e, h2⟩ := h
 exact loc_run (v := .string ⟨(dtW r).toArray⟩) (by unfold execOp; simp [ho, e, Instr.extract]) (Below.refl _ _) hs
theorem loc_wh2 {y : Operand} (ho : o.op = .extract y 2) {r : RW} (h : WhT r w (act.eval y)) (hs : s.p (.int .i64 (nmW r : Int)) w) : o.wp Tryz.prog act w (fun a' w' => ∃ v, a' = act.put o.dst v ∧ Below w.heap.size w w' ∧ s.p v w') Q := by
 obtain ⟨cr, e, h2⟩ := h
 exact loc_run (v := .int .i64 (nmW r : Int)) (by unfold execOp; simp [ho, e, Instr.extract]) (Below.refl _ _) hs
theorem loc_wh3 {y : Operand} (ho : o.op = .extract y 3) {r : RW} (h : WhT r w (act.eval y)) (hs : s.p (.int .i64 (erW r)) w) : o.wp Tryz.prog act w (fun a' w' => ∃ v, a' = act.put o.dst v ∧ Below w.heap.size w w' ∧ s.p v w') Q := by
 obtain ⟨cr, e, h2⟩ := h
 exact loc_run (v := .int .i64 (erW r)) (by unfold execOp; simp [ho, e, Instr.extract]) (Below.refl _ _) hs
end
end Go.Proofs.YteoadfckcilalaaGreatDoor
namespace Go.Proofs.YteoadfckcilalaaGreatDoor
open Go.RowKit

set_option linter.unusedVariables false
theorem WhT.rowQ {r : RW} {w : World} {v : Value} {q : Nat} {cs : Array Value} (h : WhT r w v) (hn : NmM (msW r)) (hq : RVr w q #[.bool false, .string ⟨#[]⟩, .int .i64 0, .string ⟨#[]⟩, .string ⟨#[]⟩, .int .i64 0, .slice none 0 0, .bool false, .slice none 0 0, .int .i64 0, .string ⟨#[]⟩, .int .i64 0, .slice none 0 0, .slice none 0 0, .int .i64 0, .int .i64 0, .int .i64 0, .int .i64 0, .int .i64 0, .int .i64 0, .int .i64 0, .slice none 0 0]) : WhT r (w.setRow q cs) v := by
 obtain ⟨cr, e, t, fa, fc, ga, gc, la, lc, rfl, hm, h4, h5, h6⟩ := h
 rw [← hm] at hn
 exact ⟨_, e, t, fa, fc, ga, gc, la, lc, rfl, hm, sameNe h4 fun y e hl => setRow_other _ _ _ _ (flds_away hq zero_noStr h4 hn.1 y e hl), sameNe h5 fun y e hl => setRow_other _ _ _ _ (flds_away hq zero_noStr h5 hn.2 y e hl), h6⟩
theorem beginV (reply : Bool) (z : Int) (w : World) : Calls Tryz.prog 11 #[.bool reply, .int .i64 z] w fun e w' => ∃ (p : ByteArray) (c0 : Array Value), c0 = #[.bool reply, .string p, .int .i64 0, .string ⟨#[]⟩, .string ⟨#[]⟩, .int .i64 0, .slice none 0 0, .bool false, .slice none 0 0, .int .i64 0, .string ⟨#[]⟩, .int .i64 0, .slice none 0 0, .slice none 0 0, .int .i64 0, .int .i64 0, .int .i64 0, .int .i64 0, .int .i64 0, .int .i64 0, .int .i64 0, .slice none 0 0] ∧ e = .returned (.tuple #[.agg c0, .agg c0]) ∧ Below w.heap.size w w' := by
 cases reply
 · refine (beginN_no z w).mono ?_
   rintro e w' ⟨rfl, hb⟩
   exact ⟨⟨#[]⟩, _, rfl, rfl, hb⟩
 · refine (beginN_yes z w).mono ?_
   rintro e w' ⟨p, rfl, hb⟩
   exact ⟨p, _, rfl, rfl, hb⟩
set_option maxRecDepth 100000 in
set_option maxHeartbeats 4000000 in
theorem readerPieces_any (a : Option Addr) (n c : Nat) (reply : Bool) (mt at_ : Int) (x : UInt8) (ca : Option Addr) (cl cc : Nat) (mm : Int) (w : World) (hi : IntsF w a n) (hn : n ≤ maxLen) (hcu : IntsF w ca cl) (hcl : cl ≤ 2000000) (hk : HdOk w mm) :
  Calls Tryz.prog 4 #[.slice a n c, .bool reply, .int .i64 mt, .int .i64 at_, .int .u8 x.toNat, .slice ca cl cc] w fun e w' => e = .returned (.bool true) ∧ Below w.heap.size w w' := by
 have HOK := Box.mk hk
 have HCU := Box.mk hcu
 have HCL := Box.mk hcl
 have HST := Box.mk (stream_any a n c reply at_ x w hi hn)
 clear hi hn hcu hcl hk
 go_enter Tryz.func4, Tryz.ntmps4
 go_wp2_with fail
 refine HST.out.mono ?_
 rintro e w1 ⟨v, b, rfl, ho, hgb, hbl, hb1⟩
 obtain ⟨gv, vc, rfl, _, hby⟩ := ho.form
 obtain ⟨va, hva⟩ : ∃ va : Option Addr, va = some ⟨gv, 0, none⟩ := ⟨_, rfl⟩
 rw [← hva] at hby ⊢
 have HBY := Box.mk hby
 have HGB := Box.mk (And.intro hgb hbl)
 have HB1 := Box.mk hb1
 clear ho hgb hbl hb1 hby hva HST
 by_cases hc : 600 < b.length
 · go_wp2_with fail
   refine (awakeN_any mm _ (HOK.out.keep HB1.out)).mono ?_
   rintro e wz ⟨rfl, hbz⟩
   go_wp2_with fail
   go_ret
   exact ⟨rfl, below_trans HB1.out hbz⟩
 · go_wp2_with fail
   refine (beginV reply mt w1).mono ?_
   rintro e w2 ⟨p, c0, hc0, rfl, hb2⟩
   have HC0 := Box.mk hc0
   have h22 : c0.size = 22 := by rw [hc0]; rfl
   have hone : c0.all (·.oneCell') = true := by rw [hc0]; simp [Value.oneCell']
   have HSZ := Box.mk (show (Tryz.prog.info? 37).map (·.size) = some c0.size by rw [h22]; exact sizeRd)
   have HB2 := Box.mk (below_trans HB1.out hb2)
   have HBY2 := Box.mk (HBY.out.keep hb2)
   obtain ⟨W4, hW4⟩ : ∃ W4, W4 = (((w2.alloc (.cells #[.bool false, .string ⟨#[]⟩, .int .i64 0, .string ⟨#[]⟩, .string ⟨#[]⟩, .int .i64 0, .slice none 0 0, .bool false, .slice none 0 0, .int .i64 0, .string ⟨#[]⟩, .int .i64 0, .slice none 0 0, .slice none 0 0, .int .i64 0, .int .i64 0, .int .i64 0, .int .i64 0, .int .i64 0, .int .i64 0, .int .i64 0, .slice none 0 0] 37)).alloc (.cells #[.bool false, .string ⟨#[]⟩, .int .i64 0, .string ⟨#[]⟩, .string ⟨#[]⟩, .int .i64 0, .slice none 0 0, .bool false, .slice none 0 0, .int .i64 0, .string ⟨#[]⟩, .int .i64 0, .slice none 0 0, .slice none 0 0, .int .i64 0, .int .i64 0, .int .i64 0, .int .i64 0, .int .i64 0, .int .i64 0, .int .i64 0, .slice none 0 0] 37)).setRow w2.heap.size c0).setRow (w2.heap.size + 1) c0 := ⟨_, rfl⟩
   have HX2 := Box.mk (show RVr ((w2.alloc (.cells #[.bool false, .string ⟨#[]⟩, .int .i64 0, .string ⟨#[]⟩, .string ⟨#[]⟩, .int .i64 0, .slice none 0 0, .bool false, .slice none 0 0, .int .i64 0, .string ⟨#[]⟩, .int .i64 0, .slice none 0 0, .slice none 0 0, .int .i64 0, .int .i64 0, .int .i64 0, .int .i64 0, .int .i64 0, .int .i64 0, .int .i64 0, .slice none 0 0] 37)).alloc (.cells #[.bool false, .string ⟨#[]⟩, .int .i64 0, .string ⟨#[]⟩, .string ⟨#[]⟩, .int .i64 0, .slice none 0 0, .bool false, .slice none 0 0, .int .i64 0, .string ⟨#[]⟩, .int .i64 0, .slice none 0 0, .slice none 0 0, .int .i64 0, .int .i64 0, .int .i64 0, .int .i64 0, .int .i64 0, .int .i64 0, .int .i64 0, .slice none 0 0] 37)) w2.heap.size #[.bool false, .string ⟨#[]⟩, .int .i64 0, .string ⟨#[]⟩, .string ⟨#[]⟩, .int .i64 0, .slice none 0 0, .bool false, .slice none 0 0, .int .i64 0, .string ⟨#[]⟩, .int .i64 0, .slice none 0 0, .slice none 0 0, .int .i64 0, .int .i64 0, .int .i64 0, .int .i64 0, .int .i64 0, .int .i64 0, .int .i64 0, .slice none 0 0] from
    ((below_oneF (w2.alloc (.cells #[.bool false, .string ⟨#[]⟩, .int .i64 0, .string ⟨#[]⟩, .string ⟨#[]⟩, .int .i64 0, .slice none 0 0, .bool false, .slice none 0 0, .int .i64 0, .string ⟨#[]⟩, .int .i64 0, .slice none 0 0, .slice none 0 0, .int .i64 0, .int .i64 0, .int .i64 0, .int .i64 0, .int .i64 0, .int .i64 0, .int .i64 0, .slice none 0 0] 37)) _).block _ (by rw [World.size_alloc]; omega)).trans (heap_alloc_new _ _))
   have HY2 := Box.mk (show RVr (((w2.alloc (.cells #[.bool false, .string ⟨#[]⟩, .int .i64 0, .string ⟨#[]⟩, .string ⟨#[]⟩, .int .i64 0, .slice none 0 0, .bool false, .slice none 0 0, .int .i64 0, .string ⟨#[]⟩, .int .i64 0, .slice none 0 0, .slice none 0 0, .int .i64 0, .int .i64 0, .int .i64 0, .int .i64 0, .int .i64 0, .int .i64 0, .int .i64 0, .slice none 0 0] 37)).alloc (.cells #[.bool false, .string ⟨#[]⟩, .int .i64 0, .string ⟨#[]⟩, .string ⟨#[]⟩, .int .i64 0, .slice none 0 0, .bool false, .slice none 0 0, .int .i64 0, .string ⟨#[]⟩, .int .i64 0, .slice none 0 0, .slice none 0 0, .int .i64 0, .int .i64 0, .int .i64 0, .int .i64 0, .int .i64 0, .int .i64 0, .int .i64 0, .slice none 0 0] 37)).setRow w2.heap.size c0) (w2.heap.size + 1) #[.bool false, .string ⟨#[]⟩, .int .i64 0, .string ⟨#[]⟩, .string ⟨#[]⟩, .int .i64 0, .slice none 0 0, .bool false, .slice none 0 0, .int .i64 0, .string ⟨#[]⟩, .int .i64 0, .slice none 0 0, .slice none 0 0, .int .i64 0, .int .i64 0, .int .i64 0, .int .i64 0, .int .i64 0, .int .i64 0, .int .i64 0, .slice none 0 0] by
    have h := heap_alloc_new (w2.alloc (.cells #[.bool false, .string ⟨#[]⟩, .int .i64 0, .string ⟨#[]⟩, .string ⟨#[]⟩, .int .i64 0, .slice none 0 0, .bool false, .slice none 0 0, .int .i64 0, .string ⟨#[]⟩, .int .i64 0, .slice none 0 0, .slice none 0 0, .int .i64 0, .int .i64 0, .int .i64 0, .int .i64 0, .int .i64 0, .int .i64 0, .int .i64 0, .slice none 0 0] 37)) (.cells #[.bool false, .string ⟨#[]⟩, .int .i64 0, .string ⟨#[]⟩, .string ⟨#[]⟩, .int .i64 0, .slice none 0 0, .bool false, .slice none 0 0, .int .i64 0, .string ⟨#[]⟩, .int .i64 0, .slice none 0 0, .slice none 0 0, .int .i64 0, .int .i64 0, .int .i64 0, .int .i64 0, .int .i64 0, .int .i64 0, .int .i64 0, .slice none 0 0] 37)
    rw [World.size_alloc] at h
    exact (setRow_other _ _ _ _ (by omega)).trans h)
   have hb24 : Below w2.heap.size w2 W4 := by rw [hW4]; exact below_setRow (below_setRow (below_twoF (below_oneF _ _) _) (Nat.le_refl _) _) (by omega) _
   have HG4 := Box.mk (show RVr W4 w2.heap.size c0 by rw [hW4]; exact (setRow_other _ _ _ _ (by omega)).trans (setRow_heap _ _ _ _ _ _ HX2.out))
   have HB4 := Box.mk (below_trans HB2.out hb24)
   have HBY4 := Box.mk (HBY2.out.keep hb24)
   have HW4 := Box.mk hW4
   obtain ⟨r, hr⟩ : ∃ r, r = CW (begR reply p) b := ⟨_, rfl⟩
   have HNM := Box.mk (show NmM (msW r) by rw [hr]; exact CW_names (begR_nm ..) b)
   have HCALL := Box.mk (show ∀ (wx : World) (da : Option Addr) (dl dc : Nat), IsBytes wx va b vc → IntsF wx da dl → (dl ≤ maxLen ∧ dl ≤ dc) → HdOk wx mm → Calls Tryz.prog 18 #[.agg c0, .slice va b.length vc, .slice da dl dc] wx fun e w' => ∃ v, e = .returned v ∧ WhT r w' v ∧ Below wx.heap.size wx w' from fun wx da dl dc h1 h2 h3 h4 => by
    rw [hc0]
    refine (whole_any (begR reply p) b va vc da dl dc none none none 0 0 0 mm wx h1 HGB.out.2 h2 h3 (begR_mem ..) (begR_good HGB.out.1) (begR_nm ..) h4).mono ?_
    rintro e w' ⟨h5, h6⟩
    rw [← hr] at h5
    obtain ⟨v, h7, h8⟩ := whole_val h5
    exact ⟨v, h7, h8, h6⟩)
   clear hc0 hb2 hb24 hW4 hr hc HB1 HBY HB2 HBY2
   go_upto_region 5 with (first | (refine wpList_store_row rfl 37 _ _ rfl w2.heap.size c0 rfl rfl 37 _ HX2.out HSZ.out h22.symm hone ?_) | (refine wpList_store_row rfl 37 _ _ rfl (w2.heap.size + 1) c0 rfl rfl 37 _ HY2.out HSZ.out h22.symm hone ?_))
   rw [← HW4.out]
   clear HW4 HX2 HY2
   go_wp2_with (refine wpList_load_row rfl 37 _ rfl w2.heap.size rfl 37 c0 (0, 0) _ HG4.out Tryz.underlying37 rfl HSZ.out ?_)
   refine (HCALL.out W4 none 0 0 HBY4.out (intsF_none _) ⟨Nat.zero_le _, Nat.le_refl _⟩ (HOK.out.keep HB4.out)).mono ?_
   rintro e w5 ⟨v5, rfl, ⟨c1, rfl, hag⟩, hb5⟩
   obtain ⟨s22, sone⟩ := hag.size
   have HSZ1 := Box.mk (show (Tryz.prog.info? 37).map (·.size) = some c1.size by rw [s22]; exact sizeRd)
   have HX5 := Box.mk (show RVr (w5.alloc (.cells #[.bool false, .string ⟨#[]⟩, .int .i64 0, .string ⟨#[]⟩, .string ⟨#[]⟩, .int .i64 0, .slice none 0 0, .bool false, .slice none 0 0, .int .i64 0, .string ⟨#[]⟩, .int .i64 0, .slice none 0 0, .slice none 0 0, .int .i64 0, .int .i64 0, .int .i64 0, .int .i64 0, .int .i64 0, .int .i64 0, .int .i64 0, .slice none 0 0] 37)) w5.heap.size #[.bool false, .string ⟨#[]⟩, .int .i64 0, .string ⟨#[]⟩, .string ⟨#[]⟩, .int .i64 0, .slice none 0 0, .bool false, .slice none 0 0, .int .i64 0, .string ⟨#[]⟩, .int .i64 0, .slice none 0 0, .slice none 0 0, .int .i64 0, .int .i64 0, .int .i64 0, .int .i64 0, .int .i64 0, .int .i64 0, .int .i64 0, .slice none 0 0] from heap_alloc_new _ _)
   obtain ⟨W6, hW6⟩ : ∃ W6, W6 = (w5.alloc (.cells #[.bool false, .string ⟨#[]⟩, .int .i64 0, .string ⟨#[]⟩, .string ⟨#[]⟩, .int .i64 0, .slice none 0 0, .bool false, .slice none 0 0, .int .i64 0, .string ⟨#[]⟩, .int .i64 0, .slice none 0 0, .slice none 0 0, .int .i64 0, .int .i64 0, .int .i64 0, .int .i64 0, .int .i64 0, .int .i64 0, .int .i64 0, .slice none 0 0] 37)).setRow w5.heap.size c1 := ⟨_, rfl⟩
   have hb56 : Below w5.heap.size w5 W6 := by rw [hW6]; exact below_setRow (below_oneF _ _) (Nat.le_refl _) _
   have HR6 := Box.mk (show RVr W6 w5.heap.size c1 by rw [hW6]; exact setRow_heap _ _ _ _ _ _ HX5.out)
   have HA6 := Box.mk (hag.keep hb56)
   have h46 := below_trans hb5 hb56
   have HB6 := Box.mk (below_trans HB4.out h46)
   have HBY6 := Box.mk (HBY4.out.keep h46)
   have HG6 := Box.mk (HG4.out.keep h46)
   have HW6 := Box.mk hW6
   clear hag hb5 hb56 h46 hW6 HB4 HBY4 HG4
   go_upto_region 6 with (refine wpList_store_row rfl 37 _ _ rfl w5.heap.size c1 rfl rfl 37 _ HX5.out HSZ1.out s22.symm sone ?_)
   rw [← HW6.out]
   clear HW6 HX5 HSZ1 s22 sone
   rename_i K hK
   refine wp_region_phases [12] (fun p => match p with | 0 => [0, 1, 2, 3, 4, 5, 6, 7, 8, 9, 10, 11] | _ => [8, 9, 10, 13, 14, 15])
    (fun p => match p with | 0 => [.val (.agg c0), .val (.slice va b.length vc), .i1 W6.heap.size, .val (.slice ca cl cc), .cuts, .wht r, .wht r, .agw (msW r), .val (.string ⟨(dtW r).toArray⟩), .val (.int .i64 (nmW r : Int)), .val (.int .i64 (erW r)), .rnew W6.heap.size, .any, .nope, .nope, .nope] | _ => [.any, .any, .any, .any, .any, .any, .wht r, .any, .val (.string ⟨(dtW r).toArray⟩), .val (.int .i64 (nmW r : Int)), .val (.int .i64 (erW r)), .whr r W6.heap.size, .any, .val (.string ⟨(dtW r).toArray⟩), .val (.int .i64 (nmW r : Int)), .val (.int .i64 (erW r))])
    (fun _ wx => Below W6.heap.size W6 wx)
    (by kernel_rfl) (by kernel_rfl) (by kernel_rfl) (by kernel_rfl) (by kernel_rfl) (by kernel_rfl) ?_ (Below.refl _ _) ?_ ?_ ?_
   · intro p wa wb h hb
     exact below_trans h hb
   · intro p hp
     match p, hp with
     | 0, _ =>
      refine ⟨?_, ?_, ?_, ?_, ?_, ?_, ?_, ?_, ?_, ?_, ?_, ?_, trivial⟩ <;> intro a1 wx hv hf hd
      · exact ⟨wanted_none rfl, loc_load rfl (by rw [show a1.eval (.tmp 14) = .pointer (some ⟨w2.heap.size, 0, none⟩) from hf.base 14 rfl]; exact run_loadRR _ _ _ (HG6.out.keep hv) h22) rfl⟩
      · exact ⟨wanted_none rfl, loc_move rfl (hf.base 13 rfl)⟩
      · exact ⟨wanted_none rfl, loc_int1 rfl hv.size fun v w' h => h⟩
      · exact ⟨wanted_none rfl, loc_move rfl (hf.base 5 rfl)⟩
      · obtain ⟨ib, e50, _, hir⟩ := hd 2 rfl
        exact ⟨wanted_none rfl, loc_appendI rfl e50 hir (hd 3 rfl) (HCU.out.keep (below_trans HB6.out hv)) HCL.out fun v w' h => h⟩
      · obtain ⟨da, dl, dc, e52, h1, h2, h3⟩ := hd 4 rfl
        refine ⟨wanted_none rfl, loc_call rfl (by kernel_rfl) ?_⟩
        show Calls _ _ #[a1.eval (.tmp 48), a1.eval (.tmp 49), a1.eval (.tmp 52)] wx _
        rw [show a1.eval (.tmp 48) = _ from hd 0 rfl, show a1.eval (.tmp 49) = _ from hd 1 rfl, show a1.eval (.tmp 52) = _ from e52]
        refine (HCALL.out wx da dl dc (HBY6.out.keep hv) h1 ⟨h2, h3⟩ (HOK.out.keep (below_trans HB6.out hv))).mono ?_
        rintro e w' ⟨v, rfl, h4, h5⟩
        exact ⟨v, rfl, h5, h4⟩
      · exact ⟨wanted_none rfl, loc_move rfl (hd 5 rfl)⟩
      · exact ⟨wanted_none rfl, loc_wh0 rfl (hd 6 rfl) fun v h => h⟩
      · exact ⟨wanted_none rfl, loc_wh1 rfl (hd 6 rfl) rfl⟩
      · exact ⟨wanted_none rfl, loc_wh2 rfl (hd 6 rfl) rfl⟩
      · exact ⟨wanted_none rfl, loc_wh3 rfl (hd 6 rfl) rfl⟩
      · exact ⟨wanted_none rfl, loc_allocRn rfl hv.size fun v w' h => h⟩
     | 1, _ =>
      refine ⟨?_, ?_, ?_, ?_, ?_, ?_, trivial⟩ <;> intro a1 wx hv hf hd
      · exact ⟨wanted_none rfl, loc_wh1 rfl (hd 6 rfl) rfl⟩
      · exact ⟨wanted_none rfl, loc_wh2 rfl (hd 6 rfl) rfl⟩
      · exact ⟨wanted_none rfl, loc_wh3 rfl (hd 6 rfl) rfl⟩
      · exact ⟨wanted_none rfl, loc_assign rfl (hd 8 rfl)⟩
      · exact ⟨wanted_none rfl, loc_assign rfl (hd 9 rfl)⟩
      · exact ⟨wanted_none rfl, loc_assign rfl (hd 10 rfl)⟩
   · intro p hp
     match p, hp with
     | 0, _ =>
      intro a2 wx hv hf hd
      refine ⟨wanted_none rfl, wp_storeWh rfl HNM.out (hd 11 rfl) (hd 7 rfl) fun q cs eq hN hr hst => ?_⟩
      exact ⟨undef, rfl, below_setRow hv hN _, trivial, ⟨.inr fun _ _ _ => trivial, .inr fun _ _ _ => trivial, .inr fun _ _ _ => trivial, .inr fun _ _ _ => trivial, .inr fun _ _ _ => trivial, .inr fun _ _ _ => trivial, .inr fun _ _ h => WhT.rowQ h HNM.out hr, .inr fun _ _ _ => trivial, .inr fun _ _ h => h, .inr fun _ _ h => h, .inr fun _ _ h => h, .inr fun v hq2 _ => by rw [hq2 _ _ rfl rfl]; exact hst, .inl rfl, .inr fun _ _ h => h.elim, .inr fun _ _ h => h.elim, .inr fun _ _ h => h.elim, trivial⟩⟩
   · intro a2 w7 hv hf hh
     have e21 : a2.eval (.tmp 21) = .string ⟨(dtW r).toArray⟩ := hh 13 (by decide)
     have e22 : a2.eval (.tmp 22) = .int .i64 (nmW r : Int) := hh 14 (by decide)
     have e23 : a2.eval (.tmp 23) = .int .i64 (erW r) := hh 15 (by decide)
     obtain ⟨q, c2, e20, hq, hrb, hcb⟩ : WhR r W6.heap.size w7 (a2.eval (.tmp 20)) := hh 11 (by decide)
     clear hh
     rw [fr_putAll hf]
     clear hf
     simp only [putAll, e20, e21, e22, e23]
     generalize a2.eval (.tmp 47) = u47
     generalize a2.eval (.tmp 48) = u48
     generalize a2.eval (.tmp 49) = u49
     generalize a2.eval (.tmp 50) = u50
     generalize a2.eval (.tmp 51) = u51
     generalize a2.eval (.tmp 52) = u52
     generalize a2.eval (.tmp 53) = u53
     generalize a2.eval (.tmp 54) = u54
     generalize a2.eval (.tmp 55) = u55
     generalize a2.eval (.tmp 56) = u56
     generalize a2.eval (.tmp 57) = u57
     clear e20 e21 e22 e23 a2
     simp only [Act.put, List.setIfInBounds_toArray, List.set_cons_succ, List.set_cons_zero]
     have hra := HR6.out.keep hv
     have hca := HA6.out.keep hv
     have HB7 := Box.mk (below_trans HB6.out hv)
     obtain ⟨M, hM⟩ : ∃ M, M = msW r := ⟨_, rfl⟩
     rw [← hM] at hca hcb
     clear hM
     obtain ⟨⟨mq, tq, zq, xs, fq⟩, sq, rs, z2, ys⟩ := M
     obtain ⟨fa1, fc1, ga1, gc1, hA⟩ := hca.cells
     obtain ⟨fa2, fc2, ga2, gc2, hB⟩ := hcb.cells
     have ka3 := (RVr.cell hra 3).trans hA.1
     have ka4 := (RVr.cell hra 4).trans hA.2.1
     have ka5 := (RVr.cell hra 5).trans hA.2.2.1
     have ka6 := (RVr.cell hra 6).trans hA.2.2.2.1
     have ka7 := (RVr.cell hra 7).trans hA.2.2.2.2.1
     have ka8 := (RVr.cell hra 8).trans hA.2.2.2.2.2.1
     have ka9 := (RVr.cell hra 9).trans hA.2.2.2.2.2.2.1
     have ka10 := (RVr.cell hra 10).trans hA.2.2.2.2.2.2.2.1
     have ka11 := (RVr.cell hra 11).trans hA.2.2.2.2.2.2.2.2.1
     have ka12 := (RVr.cell hra 12).trans hA.2.2.2.2.2.2.2.2.2.1
     have ka13 := (RVr.cell hra 13).trans hA.2.2.2.2.2.2.2.2.2.2.1
     have kb3 := (RVr.cell hrb 3).trans hB.1
     have kb4 := (RVr.cell hrb 4).trans hB.2.1
     have kb5 := (RVr.cell hrb 5).trans hB.2.2.1
     have kb6 := (RVr.cell hrb 6).trans hB.2.2.2.1
     have kb7 := (RVr.cell hrb 7).trans hB.2.2.2.2.1
     have kb8 := (RVr.cell hrb 8).trans hB.2.2.2.2.2.1
     have kb9 := (RVr.cell hrb 9).trans hB.2.2.2.2.2.2.1
     have kb10 := (RVr.cell hrb 10).trans hB.2.2.2.2.2.2.2.1
     have kb11 := (RVr.cell hrb 11).trans hB.2.2.2.2.2.2.2.2.1
     have kb12 := (RVr.cell hrb 12).trans hB.2.2.2.2.2.2.2.2.2.1
     have kb13 := (RVr.cell hrb 13).trans hB.2.2.2.2.2.2.2.2.2.2.1
     have HFA := Box.mk hA.2.2.2.2.2.2.2.2.2.2.2
     have HFB := Box.mk hB.2.2.2.2.2.2.2.2.2.2.2
     generalize (⟨(dtW r).toArray⟩ : ByteArray) = ds at *
     generalize nmW r = nn at *
     generalize erW r = er at *
     clear hra hca hcb hrb hA hB hv hq HR6 HA6 HB6 HBY6 HG6
     refine hK _ _ ?_
     clear hK
     have ee : ∀ y : List UInt8, (y == y) = true := fun y => by simp
     go_wp2_with fail
     refine (sameReq_any mq tq zq fq xs [] fa1 fa2 none none fc1 fc2 0 0 w7 HFA.out.1 HFB.out.1 (.inl ⟨rfl, rfl, rfl⟩) (.inl ⟨rfl, rfl, rfl⟩) (by have := HFA.out.2.2.1; omega)).mono ?_
     rintro e w8 ⟨rfl, hb8⟩
     have HB8 := Box.mk (below_trans HB7.out hb8)
     have HF8 := Box.mk (And.intro (HFA.out.2.1.keep hb8) (HFB.out.2.1.keep hb8))
     have ka9 := below_cell hb8 ka9
     have ka10 := below_cell hb8 ka10
     have ka11 := below_cell hb8 ka11
     have ka12 := below_cell hb8 ka12
     have ka13 := below_cell hb8 ka13
     have kb9 := below_cell hb8 kb9
     have kb10 := below_cell hb8 kb10
     have kb11 := below_cell hb8 kb11
     have kb12 := below_cell hb8 kb12
     have kb13 := below_cell hb8 kb13
     clear hb8
     go_wp2_with fail
     refine (sameRep_any sq z2 rs ys [] ga1 ga2 none none gc1 gc2 0 0 w8 HF8.out.1 HF8.out.2 (.inl ⟨rfl, rfl, rfl⟩) (.inl ⟨rfl, rfl, rfl⟩) (by have := HFA.out.2.2.2; omega)).mono ?_
     rintro e w9 ⟨rfl, hb9⟩
     have HB9 := Box.mk (below_trans HB8.out hb9)
     clear hb9
     go_wp2_with fail
     refine (awakeN_any mm _ (HOK.out.keep HB9.out)).mono ?_
     rintro e wz ⟨rfl, hbz⟩
     go_wp2_with fail
     go_ret
     exact ⟨rfl, below_trans HB9.out hbz⟩
end Go.Proofs.YteoadfckcilalaaGreatDoor
namespace Go.Proofs.YteoadfckcilalaaGreatDoor
open Go.ChangeShapes Go.WideShapes Go.ChangeAt Go.RowKit

theorem i64_ofF {x : Int} (h : (Lit.int .i64 x).wf = true) : -9223372036854775808 ≤ x ∧ x ≤ 9223372036854775807 := bounds_i64 h
theorem open_intsf {H : Type} {enc : TypeId × Value → H} {W : World} {a : Option Addr} {len cap : Nat} {d : DataW H} {ps : List MemPlace} {base : Nat}
  (h : DataW.Trod enc Tryz.prog W base (fun _ => true) true 22 (.slice a len cap) d ps) : IntsF W a len ∧ len ≤ maxLen := by
 obtain ⟨fuel, hf⟩ := h
 rcases open_ints Tryz.underlying22 Tryz.underlying3 (by kernel_rfl) hf with ⟨hcs, _⟩ | ⟨x, l, c, zs, hcs, _, hl, hm, hz, _, hcell, hwz⟩
 · simp [Value.cells] at hcs
   obtain ⟨rfl, rfl, rfl⟩ := hcs
   exact ⟨fun k hk => absurd hk (Nat.not_lt_zero _), Nat.zero_le _⟩
 · simp [Value.cells] at hcs
   obtain ⟨rfl, rfl, rfl⟩ := hcs
   have hz' : zs.length = cap := by simpa using hz
   refine ⟨fun k hk => ?_, Nat.le_trans hl hm⟩
   have hk' : k < zs.length := by omega
   have e : zs.getD k 0 = zs[k] := by rw [List.getD_eq_getElem?_getD, List.getElem?_eq_getElem hk']; rfl
   refine ⟨x, zs[k], rfl, by rw [hcell k hk', e], i64_ofF (hwz zs[k] (List.getElem_mem _))⟩
end Go.Proofs.YteoadfckcilalaaGreatDoor
namespace Go.Proofs.YteoadfckcilalaaGreatDoor
open Go.ChangeShapes Go.WideShapes Go.ChangeAt Go.RowKit

theorem ints_bulkR {H : Type} {enc : TypeId × Value → H} {W : World} {a : Option Addr} {len cap : Nat} {d : DataW H} {ps : List MemPlace} {base : Nat}
  (h : DataW.Trod enc Tryz.prog W base (fun _ => true) true 22 (.slice a len cap) d ps) : len ≤ Rows.uptoBulk d := by
 obtain ⟨fuel, hf⟩ := h
 rcases open_ints Tryz.underlying22 Tryz.underlying3 (by kernel_rfl) hf with ⟨hcs, _⟩ | ⟨x, n, c, zs, hcs, _, hn, hm, hz, hx, _, _⟩
 · simp [Value.cells] at hcs
   omega
 · simp [Value.cells] at hcs
   obtain ⟨rfl, rfl, rfl⟩ := hcs
   have hz' : zs.length = cap := by simpa using hz
   have h1 := bulk_length (lits (H := H) .i64 (zs.take len))
   have h2 : (lits (H := H) .i64 (zs.take len)).length = len := by simp [lits]; omega
   have e := congrArg Prod.fst hx
   simp only at e
   rw [e]
   simp only [Rows.uptoBulk]
   omega
end Go.Proofs.YteoadfckcilalaaGreatDoor
