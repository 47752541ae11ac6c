/- The small functions of package head, and the library's functions that it calls. Package head: the fields of lines, End, the start lines. Package head: lines of a head as pieces; the variable of a message; start. Package head: parse, for requests. Package head: ParseRequest. The request that the source makes: what is said of it. The request that the source makes. A slice of bytes in a block of the call's own that may bear the mark of a conversion: append in place, one byte stored. Sizes of what the source makes; local laws for wire. The law LineStatus. A line that was formatted is parsed to the same fields; the law LineTwice. The law LineTwice. The law LineFormat. Package head: FormatRequest, FormatReply. awake of the laws on heads. The laws HeadEnd and HeadGrows. The law HeadParse. The law FieldLine. A formatted head is parsed to what it was made of: plain mathematics. The law HeadMany. -/
import Derived.Test.YtcdianojchmgpaaDoorPk1
import Derived.Test.YtcdianojchmgpaaDoorPk2
import Derived.Test.YtcdianojchmgpaaDoorRows
import Derived.WalkKit
import Derived.WalkSpells
import Derived.WalkLawsBesides
import Derived.BigQuiet
import Derived.Deep.QuietTactic
import Derived.Lib.Bytealg
import Derived.Lib.IndexLaws
import Derived.Lib.Hide
import Derived.Laws.IdiomStrings
import Derived.Lib.SlTrimSet
import Derived.Lib.IndexBytes
import Derived.Lib.Split
import Derived.Deep.AppendLies
import Derived.Shelf.Strings.SlTrimAscii
import Derived.Shelf.Strings.SplitShaped
import Derived.Shelf.LaysM
import Derived.Shelf.Strings.BuilderK
import Derived.Shelf.Strconv.Itoa4
import Derived.Shelf.Strings.Prefix
import Derived.Shelf.Bytes.SlIndexWhole
import Derived.Test.YtcdianojchmgpaaDoorProg
import Derived.Lib.SplitLaws
import Derived.WalkSmall
import Derived.ProofKit
import Derived.OpenShut
import Derived.Lib.Strings
import Derived.SliceStrings
import Derived.Deep.Quiet
import Derived.Tactics
import Derived.KernelRfl
import Derived.Below
import Derived.Laws.Bits64
import Derived.Lib.SlBytesConst
import Derived.Maps.AppendAt
import Derived.Laws.AppendOwnNone
import Derived.Great.BuildSlice
import Derived.Laws.Rows
import Derived.Laws.BitsAllLaws
import Derived.Laws.Shifts
import Derived.Maps.OwnOps
import Derived.Maps.OwnSet
import Derived.Deep.SlicePairs
import Derived.Lib.AppendZerosOnto
import Derived.Lib.AppendStr
import Derived.Laws.CopyOwn
import Derived.OwnWalk
import Derived.Laws.Strings3
import Derived.Laws.Concat
import Derived.Lib.ItoaMem
import Derived.IntWalk
import Derived.Laws.RangeAny
import Derived.LoopTactic
import Derived.Sort.Grow
import Derived.Lib.ConvBytes
import Derived.Lib.LaidTab
import Derived.LaidSub
import Derived.Laws.Bits64b
import Derived.Deep.DeepCutAuto
import Derived.Deep.CutBlock
import Derived.Lib.FrozenHead2
namespace Go.Proofs.YtcdianojchmgpaaDoor
open Go.RowKit

/-- What the project's functions want of memory: the library's variable MaxLen. -/
def HdOk (w : World) (mm : Int) : Prop := w.cell? ⟨0, 0, none⟩ = some (.int .i64 mm)
theorem HdOk.keep {w w' : World} {mm : Int} (h : HdOk w mm) (hb : Below w.heap.size w w') : HdOk w' mm := below_cell hb h
theorem countR_any (s sep : ByteArray) (mm : Int) (w : World) (hs : s.size < 4294967281) (hm : HdOk w mm) (h1 : 1 ≤ sep.size) :
    Calls Tryd.prog 25 #[.string s, .string sep] w fun e w' => e = .returned (.int .i64 (Lib.count s.data.toList sep.data.toList : Nat)) ∧ w = w' :=
  (Any.strings_Count_any Tryd.lays138 s sep mm w hs hm h1).mono fun _ _ ⟨he, hw⟩ => ⟨he, hw.symm⟩
theorem suffixR_any (s p : ByteArray) (w : World) (hs : s.size ≤ 9223372036854775807) :
    Calls Tryd.prog 16 #[.string s, .string p] w fun e w' => e = .returned (.string ⟨(Lib.trimSuffix s.data.toList p.data.toList).toArray⟩) ∧ w = w' :=
  (Any.strings_TrimSuffix Tryd.lays102 s p w hs).mono fun _ _ ⟨he, hw⟩ => ⟨he, hw.symm⟩
/-- At most 66 lines. -/
def piecesS (s : ByteArray) : List ByteArray := Lib.splitB crlfB 0 (min 66 (s.size + 1) - 1) s
theorem piecesS_pos (s : ByteArray) : 0 < (piecesS s).length := by
  unfold piecesS
  generalize min 66 (s.size + 1) - 1 = k
  cases k with
  | zero => exact Nat.one_pos
  | succ k => unfold Lib.splitB; split <;> simp
theorem splitL_any (s : ByteArray) (w : World) (mm : Int) (hs : s.size < 4294967281) (hm : HdOk w mm) :
    Calls Tryd.prog 15 #[.string s, .string ⟨#[13, 10]⟩, .int .i64 66] w fun e w' => ∃ cap, e = .returned (.slice (some ⟨w.heap.size, 0, none⟩) (piecesS s).length cap) ∧
      (piecesS s).length ≤ cap ∧ cap ≤ 66 ∧ StrsAt w' (some ⟨w.heap.size, 0, none⟩) (piecesS s) ∧ Below w.heap.size w w' := by
  refine (Any.strings_SplitN { Tryd.laysM147 with } Tryd.laysM147.i9 s ⟨#[13, 10]⟩ 66 mm w hs hm (by decide) (by decide) (by decide)).mono ?_
  rintro e w' ⟨he, hw⟩
  have hlen := Lib.splitB_length_le crlfB 0 (min 66 (s.size + 1) - 1) s
  refine ⟨_, he, by unfold piecesS; omega, by omega, fun j hj => ⟨_, _, rfl, ?_⟩, by rw [hw]; exact (Below.refl _ _).alloc (Nat.le_refl _) _⟩
  rw [hw, new_cellF, Nat.zero_add]
  exact cellsOf_at _ _ j hj
theorem bytesOf_nat (b : List UInt8) : Lib.bytesOf (b.map fun x => (x.toNat : Int)) = b := by
  unfold Lib.bytesOf
  rw [List.map_map]
  conv => rhs; rw [← List.map_id b]
  apply List.map_congr_left
  intro x _
  show UInt8.ofNat (x.toNat : Int).toNat = x
  rw [Int.toNat_natCast]; exact UInt8.ofNat_toNat
theorem idxR_any (b s : List UInt8) (a : Option Addr) (x2 : Addr) (c c2 : Nat) (mm : Int) (w : World) (h : IsBytes w a b c) (h2 : IsBytes w (some x2) s c2) (h0 : 1 < s.length) (hl : b.length ≤ 4000000000) (hm : HdOk w mm) :
    Calls Tryd.prog 24 #[.slice a b.length c, .slice (some x2) s.length c2] w fun e w' => e = .returned (.int .i64 (Lib.index b s)) ∧ Below w.heap.size w w' := by
  rcases h2 with ⟨e, _⟩ | ⟨x3, e, h21, h22, h23⟩
  · cases e
  cases e
  have hmx : maxLen = 9223372036854775807 ∨ maxLen ≤ 9223372036854775807 := by unfold maxLen; omega
  have hsl : s.length ≤ 9223372036854775807 := by unfold maxLen at h22; omega
  rcases h with ⟨rfl, rfl, rfl⟩ | ⟨x, rfl, h11, h12, h13⟩
  · refine (Any.bytes_Index_nil Tryd.lays185 (some x2) s.length c2 w hsl (fun e => by omega)).mono ?_
    rintro e w' ⟨he, hw⟩
    refine ⟨?_, by rw [hw]; exact Below.refl _ _⟩
    rw [he, if_neg (by omega)]
    unfold Lib.index
    rw [if_neg (by cases s with
      | nil => simp at h0
      | cons x r => simp)]
  · have hr : ∀ l : List UInt8, ∀ z ∈ l.map (fun x => (x.toNat : Int)), 0 ≤ z ∧ z < 256 := fun l z hz => by
      obtain ⟨y, _, rfl⟩ := List.mem_map.1 hz
      have := y.toNat_lt
      constructor
      · omega
      · have h3 : y.toNat < 256 := this
        omega
    have hg : ∀ (l : List UInt8) (i : Nat) (hi : i < l.length), (l.map fun x => (x.toNat : Int)).getD i 0 = (l[i].toNat : Int) := fun l i hi => by
      rw [List.getD_eq_getElem?_getD, List.getElem?_map, List.getElem?_eq_getElem hi]; rfl
    refine (Any.bytes_Index_at Tryd.lays185 x x2 b.length c s.length c2 (b.map fun x => (x.toNat : Int)) (s.map fun x => (x.toNat : Int)) mm w (by simp) (by simp) (hr b) (hr s)
      (fun i hi => by rw [hg b i hi]; exact h13 i hi) (fun i hi => by rw [hg s i hi]; exact h23 i hi) h11 (by omega) hsl hm).mono ?_
    rintro e w' ⟨he, q, hw⟩
    refine ⟨?_, by rw [hw]; exact below_drewN (Below.refl _ _) q⟩
    rw [he, bytesOf_nat, bytesOf_nat]
set_option maxRecDepth 100000 in
set_option maxHeartbeats 4000000 in
theorem projWhole_any (b : List UInt8) (mm : Int) (w : World) (hl : b.length ≤ 4000000000) (hm : HdOk w mm) :
    Calls Tryd.prog 14 #[.string ⟨b.toArray⟩] w fun e w' => e = .returned (.bool (linesGo [] b).isSome) ∧ w = w' := by
  have HC := Box.mk (lines_counts b)
  have HM := Box.mk hm
  have hsz : (⟨b.toArray⟩ : ByteArray).size = b.length := rfl
  have HN := Box.mk (fun sep h1 => countR_any ⟨b.toArray⟩ sep mm w (by omega) hm h1)
  have HN1 := Box.mk (show Calls Tryd.prog 25 #[.string ⟨b.toArray⟩, .string ⟨#[13, 10]⟩] w fun e w' => e = .returned (.int .i64 (Lib.count b crlf1 : Nat)) ∧ w = w' from HN.out ⟨#[13, 10]⟩ (by decide))
  have HN2 := Box.mk (show Calls Tryd.prog 25 #[.string ⟨b.toArray⟩, .string ⟨#[13]⟩] w fun e w' => e = .returned (.int .i64 (b.count 13 : Nat)) ∧ w = w' by rw [← Lib.count_one]; exact HN.out ⟨#[13]⟩ (by decide))
  have HN3 := Box.mk (show Calls Tryd.prog 25 #[.string ⟨b.toArray⟩, .string ⟨#[10]⟩] w fun e w' => e = .returned (.int .i64 (b.count 10 : Nat)) ∧ w = w' by rw [← Lib.count_one]; exact HN.out ⟨#[10]⟩ (by decide))
  generalize (linesGo [] b).isSome = r at *
  generalize Lib.count b crlf1 = n at *
  generalize b.count 13 = n1 at *
  generalize b.count 10 = n2 at *
  clear hm HN hsz
  go_enter Tryd.func14, Tryd.ntmps14
  go_wp2_with fail
  refine HN1.out.mono ?_
  rintro e w1 ⟨rfl, rfl⟩
  clear HN1
  go_wp2_with fail
  refine HN2.out.mono ?_
  rintro e w1 ⟨rfl, rfl⟩
  clear HN2
  by_cases h1 : n1 = n
  · have e1 : ((n1 : Int) == (n : Int)) = true := by rw [h1]; exact beq_self_eq_true _
    go_wp2_with fail
    refine HN3.out.mono ?_
    rintro e w1 ⟨rfl, rfl⟩
    have HP := Box.mk (show ((n2 : Int) == (n : Int)) = r by
      rw [Bool.eq_iff_iff, HC.out, beq_iff_eq]
      constructor
      · intro h; exact ⟨h1, by omega⟩
      · intro h; omega)
    clear HN3 HC h1
    go_wp2_with fail
    go_ret
    rw [HP.out]
    exact ⟨rfl, rfl⟩
  · have e1 : ((n1 : Int) == (n : Int)) = false := by rw [beq_eq_false_iff_ne]; omega
    have HP := Box.mk (show r = false by
      rw [Bool.eq_false_iff]
      intro h
      exact h1 (HC.out.1 h).1)
    clear HN3 HC h1
    go_wp2_with fail
    go_ret
    rw [HP.out]
    exact ⟨rfl, rfl⟩
def hostU : ByteArray := ⟨#[72, 111, 115, 116]⟩
theorem values_host (x : List Fld) : valuesL x hostU = valuesL x hostN := by
  have h : lowS hostU = lowS hostN := by decide +kernel
  unfold valuesL
  congr 1
/-- Is the host named as often as the version asks? -/
def hostB (x : List Fld) (z : Int) : Bool := decide ((valuesL x hostN).length = 1 ∨ ((valuesL x hostN).length = 0 ∧ ¬ z = 1))
set_option maxRecDepth 100000 in
set_option maxHeartbeats 4000000 in
theorem projHosted_any (z : Int) (x : List Fld) (fa : Option Addr) (fc : Nat) (w : World) (h : FldsIn w fa x) (hz : ShortF x) (hl : x.length ≤ 1000) :
    Calls Tryd.prog 10 #[.int .i64 z, .slice fa x.length fc] w fun e w' => e = .returned (.bool (hostB x z)) ∧ Below w.heap.size w w' := by
  have HD := Box.mk (show hostB x z = decide ((valuesL x hostN).length = 1 ∨ ((valuesL x hostN).length = 0 ∧ ¬ z = 1)) from rfl)
  have HN := Box.mk (fValues_any x hostU fa fc w h hz (by decide) (by omega))
  rw [values_host] at HN
  generalize hostB x z = r at *
  go_enter Tryd.func10, Tryd.ntmps10
  go_wp2_with fail
  refine HN.out.mono ?_
  rintro e w1 ⟨va, vc, rfl, _, hb1⟩
  have HB1 := Box.mk hb1
  clear HN h hz hb1
  generalize (valuesL x hostN).length = nv at *
  by_cases h1 : nv = 1
  · have e1 : ((nv : Int) == 1) = true := by rw [h1]; rfl
    have HP := Box.mk (show r = true by rw [HD.out]; exact decide_eq_true (.inl h1))
    clear HD h1
    go_wp2_with fail
    go_ret
    rw [HP.out]
    exact ⟨rfl, HB1.out⟩
  · have e1 : ((nv : Int) == 1) = false := by rw [beq_eq_false_iff_ne]; omega
    by_cases h0 : nv = 0
    · have e0 : ((nv : Int) == 0) = true := by rw [h0]; rfl
      have HP := Box.mk (show r = (z != 1) by
        rw [HD.out, Bool.eq_iff_iff, decide_eq_true_iff, bne_iff_ne]
        constructor
        · intro h; exact h.elim (fun h => absurd h h1) (fun h => h.2)
        · intro h; exact .inr ⟨h0, h⟩)
      clear HD h1 h0
      go_wp2_with fail
      go_ret
      rw [HP.out]
      exact ⟨rfl, HB1.out⟩
    · have e0 : ((nv : Int) == 0) = false := by rw [beq_eq_false_iff_ne]; omega
      have HP := Box.mk (show r = false by rw [HD.out]; exact decide_eq_false (fun h => h.elim h1 (fun h => h0 h.1)))
      clear HD h1 h0
      go_wp2_with fail
      go_ret
      rw [HP.out]
      exact ⟨rfl, HB1.out⟩
end Go.Proofs.YtcdianojchmgpaaDoor
namespace Go.Proofs.YtcdianojchmgpaaDoor
open Go.RowKit

set_option maxRecDepth 100000 in
set_option maxHeartbeats 4000000 in
theorem projFieldsH_any (l : List ByteArray) (a : Option Addr) (c : Nat) (w : World) (h : StrsAt w a l) (hz : ∀ s ∈ l, s.size ≤ maxLen) (hl : l.length ≤ 4000000) :
    Calls Tryd.prog 17 #[.slice a l.length c] w fun e w' => ∃ x fa fc er, fieldsS l = (er, x) ∧ e = .returned (.tuple #[.slice fa (List.length x) fc, .int .i64 er]) ∧ FldsIn w' fa x ∧ (∀ y, fa = some y → w.heap.size ≤ y.block) ∧ Below w.heap.size w w' := by
  have HS := Box.mk h
  have HZ := Box.mk hz
  have HF1 := Box.mk (fun h => fieldsS_big (l := l) h)
  have HF2 := Box.mk (fun h x hx => fieldsS_some (l := l) (x := x) h hx)
  have HF3 := Box.mk (fun h hx => fieldsS_none (l := l) h hx)
  generalize fieldsS l = R at *
  clear h hz
  by_cases h64 : 64 < l.length
  · have HP := Box.mk (HF1.out h64)
    clear HF1 HF2 HF3
    go_enter Tryd.func17, Tryd.ntmps17
    go_wp2_with fail
    go_ret2
    exact ⟨[], none, 0, 3, HP.out, rfl, FldsIn.nil _ _, (fun _ e => by cases e), Below.refl _ _⟩
  · have HF4 := Box.mk h64
    clear HF1
    go_enter Tryd.func17, Tryd.ntmps17
    go_wp2_with fail
    go_loopw [4, 14] (fun v iv wr => ∃ k : Nat, k ≤ l.length ∧ iv = .int .i64 k ∧ ∃ x : List Fld, Box (AccF w wr v x ∧ x.length ≤ k ∧ fieldsGo (l.take k) = some x)) (fun _ iv _ => l.length - (intOf iv).toNat)
    case atStart => exact ⟨0, Nat.zero_le _, rfl, [], ⟨AccF.start _, Nat.le_refl _, rfl⟩⟩
    case round =>
      obtain ⟨k, hk, rfl, x, HM⟩ := hrel
      by_cases hlt : k < l.length
      · obtain ⟨b, off, rfl, hcell⟩ := (HS.out.keep HM.out.1.2) k hlt
        have HSZ := Box.mk (HZ.out _ (List.getElem_mem hlt))
        have HST := Box.mk (fieldsGo_stop hlt rfl HM.out.2.2)
        generalize l[k] = s at *
        go_wp2_with fail
        refine (fParse_any s _ HSZ.out).mono ?_
        rintro e w2 ⟨he, hb2⟩
        have HA2 := Box.mk (HM.out.1.keep hb2)
        have HXL := Box.mk HM.out.2.1
        clear hb2 hcell
        rcases hq : parseF s with _ | ⟨fn, fv⟩
        · rw [hq] at he
          simp only [parseV] at he
          subst he
          have HP := Box.mk (show R = (2, []) by
            have h9 := HST.out
            rw [hq] at h9
            have h10 := fieldsGo_none _ (l.drop (k + 1)) h9
            rw [List.take_append_drop] at h10
            exact HF3.out HF4.out h10)
          clear hq HST HF2 HF3
          go_wp2_with fail
          go_ret2
          exact ⟨[], none, 0, 2, HP.out, rfl, FldsIn.nil _ _, (fun _ e => by cases e), below_trans HA2.out.2 (below_oneF _ _)⟩
        · rw [hq] at he
          simp only [parseV] at he
          subst he
          have HN := Box.mk (show fieldsGo (l.take (k + 1)) = some (x ++ [(fn, fv)]) by rw [HST.out, hq]; rfl)
          clear hq HST
          go_wp2_with (at_builtin; refine wpList_append_accf _ rfl _ _ rfl rfl (HA2.out.keep (below_twoF (below_oneF w2 _) _)) rfl (y := (fn, fv)) ?c1 ?c2 ?c3 ?c4)
          case c3 => have := HXL.out; omega
          case c4 =>
            intro g cap w3 hacc
            obtain ⟨x2, hx2⟩ : ∃ x2, x2 = x ++ [(fn, fv)] := ⟨_, rfl⟩
            rw [← hx2] at hacc HN
            have HX2 := Box.mk (show x2.length = x.length + 1 by rw [hx2]; simp)
            have HACC := Box.mk hacc
            clear hacc hx2
            go_wp2_with fail
            go_roundw
            case rel => exact ⟨k + 1, by omega, by go_num, x2, ⟨HACC.out, by rw [HX2.out]; have := HXL.out; omega, HN.out⟩⟩
            case measure => simp [intOf]; omega
      · have HP := Box.mk (show R = (0, x) by
          have h9 := HM.out.2.2
          rw [List.take_of_length_le (by omega)] at h9
          exact HF2.out HF4.out x h9)
        obtain ⟨fa, fc, rfl, hfs⟩ := HM.out.1.shape
        have HFS := Box.mk hfs
        clear hfs
        go_wp2_with fail
        go_ret2
        exact ⟨x, fa, fc, 0, HP.out, rfl, HFS.out, HM.out.1.fresh, HM.out.1.2⟩
theorem isBytes_takeH {w : World} {a : Option Addr} {l : List UInt8} {c : Nat} (h : IsBytes w a l c) (k : Nat) : IsBytes w a (l.take k) c := by
  rcases h with ⟨h1, rfl, h3⟩ | ⟨x, h1, h2, h3, h4⟩
  · exact .inl ⟨h1, by simp, h3⟩
  · refine .inr ⟨x, h1, by rw [List.length_take]; omega, h3, fun j hj => ?_⟩
    rw [List.getElem_take]; exact h4 j (by rw [List.length_take] at hj; omega)
theorem row_bytesH {w : World} {g : Nat} {l : List UInt8} {t : TypeId} {fr : Nat × Nat} (h : w.heap[g]? = some (.cells (bytesV l).toArray t fr)) (hl : l.length ≤ maxLen) : IsBytes w (some ⟨g, 0, none⟩) l l.length := by
  refine .inr ⟨_, rfl, Nat.le_refl _, hl, fun j hj => ?_⟩
  rw [Addr.add_lit, Nat.zero_add, cell_of_row _ _ _ _ _ _ h]
  simp [bytesV, hj]
set_option maxRecDepth 100000 in
set_option maxHeartbeats 4000000 in
theorem projEnd_any (b : List UInt8) (a : Option Addr) (c : Nat) (most mm : Int) (w : World) (h : IsBytes w a b c) (hl : b.length ≤ 3000000) (hm : HdOk w mm) :
    Calls Tryd.prog 13 #[.slice a b.length c, .int .i64 most] w fun e w' => e = .returned (.tuple #[.int .i64 (endS b most).1, .int .i64 (endS b most).2]) ∧ Below w.heap.size w w' := by
  have kc := fun (w : World) (C : Array Value) (n c : Nat) => Lib.run_convert_bytes_const (P := Tryd.prog) w 26 5 C n c Tryd.underlying26 Tryd.underlying5
  have HS := Box.mk (show endS b most = if 0 ≤ endZ b ∧ endZ b ≤ most then (endZ b, 0) else if most ≤ b.length then (0, 3) else (0, 4) from rfl)
  have HR := Box.mk (endGo_range b 0)
  obtain ⟨q, hq⟩ : ∃ q : Nat, max 0 (min most (b.length : Int)) = (q : Int) := ⟨(max 0 (min most (b.length : Int))).toNat, by omega⟩
  have HQ := Box.mk hq
  have hqb : q ≤ b.length := by omega
  have HI := Box.mk (index_endZ b q)
  obtain ⟨W1, hW1⟩ : ∃ W1, W1 = w.alloc (.cells #[.int .u8 13, .int .u8 10, .int .u8 13, .int .u8 10] 5 (4, 5)) := ⟨_, rfl⟩
  have HB1 := Box.mk (show Below w.heap.size w W1 by rw [hW1]; exact below_oneF w _)
  have HP := Box.mk (show IsBytes W1 (some ⟨w.heap.size, 0, none⟩) crlf2 4 by rw [hW1]; exact row_bytesH (heap_alloc_new w (.cells (bytesV crlf2).toArray 5 (4, 5))) (by decide))
  have HM := Box.mk (hm.keep HB1.out)
  have HIX := Box.mk (fun ad ca (h2 : IsBytes W1 ad (b.take q) ca) => idxR_any (b.take q) crlf2 ad ⟨w.heap.size, 0, none⟩ ca 4 mm W1 h2 HP.out (by decide) (by rw [List.length_take]; omega) HM.out)
  rw [List.length_take, Nat.min_eq_left hqb] at HIX
  have HW1 := Box.mk hW1
  have HBY := Box.mk h
  obtain ⟨n, hn⟩ : ∃ n, endS b most = n := ⟨_, rfl⟩
  have HZ2 := Box.mk (show endZ b = -1 ∨ 4 ≤ endZ b by
    rcases HR.out with h | ⟨k, h1, h2, _⟩
    · exact .inl h
    · right; show 4 ≤ endGo 0 b; rw [h1]; omega)
  have HZ3 := Box.mk (show endZ b ≤ b.length by
    rcases HR.out with h | ⟨k, h1, _, h2⟩
    · show endGo 0 b ≤ _; rw [h]; omega
    · show endGo 0 b ≤ _; rw [h1]; omega)
  rw [hn] at HS ⊢
  generalize endZ b = z at *
  have hqc : (q : Int) ≤ (c : Int) := by have := isBytes_cap h; omega
  clear hn HR h hm hW1 HM
  go_enter Tryd.func13, Tryd.ntmps13
  go_wp2_with fail
  rw [← HW1.out]
  refine (HIX.out a c ((isBytes_takeH HBY.out q).keep HB1.out)).mono ?_
  rintro e w2 ⟨rfl, hb2⟩
  have HB2 := Box.mk (below_trans HB1.out hb2)
  rw [HI.out]
  clear hb2 HIX HP HW1 HB1 kc
  by_cases h1 : 0 ≤ z ∧ z ≤ (q : Int)
  · rw [if_pos h1]
    have hz4 : 4 ≤ z := by have := HZ2.out; omega
    obtain ⟨r, hr⟩ : ∃ r, r = z - 4 := ⟨_, rfl⟩
    have h0 : 0 ≤ r := by omega
    have hadd : IntKind.i64.wrap (r + 4) = z := by
      rw [show r + 4 = z by omega]
      exact IntWalk.i64_in _ ⟨by omega, by have := HZ3.out; omega⟩
    have HN := Box.mk (show n = (z, 0) by
      rw [HS.out, if_pos ⟨h1.1, by have := HQ.out; omega⟩])
    rw [← hr]
    clear hr h1 HI HS
    go_wp2_with fail
    go_ret2
    rw [HN.out]
    exact ⟨rfl, HB2.out⟩
  · rw [if_neg h1]
    have h3 : ¬ (0 ≤ z ∧ z ≤ most) := fun h => h1 ⟨h.1, by have := HQ.out; have := HZ3.out; omega⟩
    by_cases h4 : most ≤ b.length
    · have HN := Box.mk (show n = (0, 3) by rw [HS.out, if_neg h3, if_pos h4])
      clear h3 h1 HI HS
      go_wp2_with fail
      go_ret2
      rw [HN.out]
      exact ⟨rfl, HB2.out⟩
    · have HN := Box.mk (show n = (0, 4) by rw [HS.out, if_neg h3, if_neg h4])
      clear h3 h1 HI HS
      go_wp2_with fail
      go_ret2
      rw [HN.out]
      exact ⟨rfl, HB2.out⟩
end Go.Proofs.YtcdianojchmgpaaDoor
namespace Go.Proofs.YtcdianojchmgpaaDoor
open Go.RowKit

theorem splitB_small (sep : ByteArray) (save : Nat) (k : Nat) : ∀ (s : ByteArray), ∀ x ∈ Lib.splitB sep save k s, x.size ≤ s.size := by
  induction k with
  | zero => intro s x hx; unfold Lib.splitB at hx; obtain rfl := List.mem_singleton.1 hx; exact Nat.le_refl _
  | succ k ih =>
    intro s x hx
    unfold Lib.splitB at hx
    split at hx
    · obtain rfl := List.mem_singleton.1 hx; exact Nat.le_refl _
    · rcases List.mem_cons.1 hx with rfl | h
      · rw [ByteArray.size_extract]; omega
      · have := ih _ x h
        rw [ByteArray.size_extract] at this
        omega
theorem splitB_head (sep : ByteArray) (save : Nat) (s : ByteArray) (k k' : Nat) : ∃ x r r', Lib.splitB sep save (k + 1) s = x :: r ∧ Lib.splitB sep save (k' + 1) s = x :: r' := by
  unfold Lib.splitB
  split
  · exact ⟨_, _, _, rfl, rfl⟩
  · exact ⟨_, _, _, rfl, rfl⟩
/-- The lines of a whole head, and the pieces that SplitN makes. -/
theorem linesS_pieces {b t : List UInt8} (hb : b = t ++ crlf2) (he : endZ b = b.length) (hw : (linesGo [] b).isSome = true) :
    ∃ l0 ls ls', linesS b = some (l0 :: ls) ∧ piecesS ⟨t.toArray⟩ = l0 :: ls' ∧ fieldsS ls' = fieldsS ls ∧ l0.size ≤ b.length ∧ (∀ s ∈ ls', s.size ≤ b.length) ∧ ls'.length ≤ 65 := by
  obtain ⟨L, hL⟩ := Option.isSome_iff_exists.1 hw
  have h4 : 4 ≤ b.length := by rw [hb, List.length_append]; show 4 ≤ t.length + 4; omega
  have hls : linesS b = some L.dropLast := by unfold linesS; rw [if_pos ⟨he, h4⟩, hL]; rfl
  rw [hb] at hL
  have hsp := lines_spl t [] L hL
  have hz : 1 ≤ crlfB.size := by decide
  have hts : (⟨t.toArray⟩ : ByteArray).size = t.length := rfl
  have hle := Lib.countB_le crlfB hz t.length ⟨t.toArray⟩ (Nat.le_refl _)
  have hall := spl_split t [] (Lib.countB ⟨t.toArray⟩ crlfB) NoEnd.nil (by rw [List.nil_append]; exact Nat.le_refl _)
  rw [List.nil_append] at hall
  have hsm : ∀ s ∈ piecesS ⟨t.toArray⟩, s.size ≤ b.length := fun s hs => by
    have := splitB_small _ _ _ _ s hs
    rw [hts] at this
    rw [hb, List.length_append]; omega
  have hpl := Lib.splitB_length_le crlfB 0 (min 66 ((⟨t.toArray⟩ : ByteArray).size + 1) - 1) ⟨t.toArray⟩
  rw [hsp, List.dropLast_concat, ← hall] at hls
  by_cases hc : Lib.countB ⟨t.toArray⟩ crlfB ≤ min 66 ((⟨t.toArray⟩ : ByteArray).size + 1) - 1
  · have e : piecesS ⟨t.toArray⟩ = Lib.splitB crlfB 0 (Lib.countB ⟨t.toArray⟩ crlfB) ⟨t.toArray⟩ := splitB_lim _ hz _ _ _ hc
    rw [← e] at hls
    cases hp : piecesS ⟨t.toArray⟩ with
    | nil => have := piecesS_pos ⟨t.toArray⟩; rw [hp] at this; exact absurd this (by simp)
    | cons l0 ls =>
      rw [hp] at hls hsm
      refine ⟨l0, ls, ls, hls, rfl, rfl, hsm l0 (List.mem_cons_self ..), fun s hs => hsm s (List.mem_cons_of_mem _ hs), ?_⟩
      have e2 : (piecesS ⟨t.toArray⟩).length ≤ min 66 ((⟨t.toArray⟩ : ByteArray).size + 1) - 1 + 1 := hpl
      rw [hp, List.length_cons] at e2
      omega
  · have hm : min 66 ((⟨t.toArray⟩ : ByteArray).size + 1) - 1 = 65 := by rw [hts] at hc ⊢; omega
    rw [hm] at hc
    have hk : Lib.countB ⟨t.toArray⟩ crlfB = (Lib.countB ⟨t.toArray⟩ crlfB - 1) + 1 := by omega
    obtain ⟨x, r, r', h1, h2⟩ := splitB_head crlfB 0 ⟨t.toArray⟩ (Lib.countB ⟨t.toArray⟩ crlfB - 1) 64
    rw [← hk] at h1
    have hp : piecesS ⟨t.toArray⟩ = x :: r' := by unfold piecesS; rw [hm]; exact h2
    have hl1 := splitB_more crlfB hz 0 65 ⟨t.toArray⟩ (by omega)
    have hl2 := splitB_more crlfB hz 0 (Lib.countB ⟨t.toArray⟩ crlfB) ⟨t.toArray⟩ (Nat.le_refl _)
    rw [h2, List.length_cons] at hl1
    rw [h1, List.length_cons] at hl2
    rw [h1] at hls
    rw [hp] at hsm
    exact ⟨x, r, r', hls, hp, by rw [fieldsS_big (by omega), fieldsS_big (by omega)], hsm x (List.mem_cons_self ..), fun s hs => hsm s (List.mem_cons_of_mem _ hs), by omega⟩
theorem head_cut {b : List UInt8} (he : endZ b = b.length) : ∃ t, b = t ++ crlf2 ∧ 4 ≤ b.length := by
  obtain ⟨h1, h2⟩ := end_suffix b 0 (by rw [Nat.zero_add]; exact he)
  exact ⟨b.take (b.length - 4), by rw [← h2, List.take_append_drop], h1⟩
theorem trim_crlf2 (t : List UInt8) : Lib.trimSuffix (t ++ crlf2) crlf2 = t := by
  unfold Lib.trimSuffix
  rw [if_pos (by unfold Lib.hasSuffix; simp)]
  rw [List.length_append, Nat.add_sub_cancel, List.take_left']
  rfl
/-- All but block p is as it was. -/
structure ButH (p : Nat) (W wr : World) : Prop where
  os : wr.os = W.os
  tape : wr.tape = W.tape
  output : wr.output = W.output
  size : W.heap.size ≤ wr.heap.size
  block : ∀ k, k < W.heap.size → k ≠ p → wr.heap[k]? = W.heap[k]?
theorem ButH.of {p : Nat} {W wr : World} (h : Below W.heap.size W wr) : ButH p W wr := ⟨h.os, h.tape, h.output, h.size, fun k hk _ => h.block k hk⟩
theorem ButH.trans {p : Nat} {a b c : World} (h : ButH p a b) (h2 : ButH p b c) : ButH p a c :=
  ⟨h2.os.trans h.os, h2.tape.trans h.tape, h2.output.trans h.output, Nat.le_trans h.size h2.size, fun k hk hp => (h2.block k (Nat.lt_of_lt_of_le hk h.size) hp).trans (h.block k hk hp)⟩
theorem ButH.setRow {p : Nat} {W wr : World} (h : ButH p W wr) (cs : Array Value) : ButH p W (wr.setRow p cs) :=
  h.trans ⟨rfl, rfl, rfl, by simp [World.setRow], fun k _ hp => setRow_other _ _ _ _ hp⟩
theorem ButH.below {p K : Nat} {W wr : World} (h : ButH p W wr) (hK : K ≤ p) (hK2 : K ≤ W.heap.size) : Below K W wr := ⟨h.os, h.tape, h.output, h.size, fun k hk => h.block k (by omega) (by omega)⟩
theorem ButH.strs {p g o : Nat} {W wr : World} {l : List ByteArray} (h : ButH p W wr) (hs : StrsAt W (some ⟨g, o, none⟩) l) (hg : g < W.heap.size) (hp : g ≠ p) : StrsAt wr (some ⟨g, o, none⟩) l := fun j hj => by
  obtain ⟨b, off, e, hc⟩ := hs j hj
  refine ⟨b, off, e, ?_⟩
  cases e
  unfold World.cell? at *
  rw [show wr.heap[g]? = W.heap[g]? from h.block g hg hp]
  exact hc
theorem ButH.ok {p : Nat} {W wr : World} {mm : Int} (h : ButH p W wr) (hm : HdOk W mm) (hp : 0 ≠ p) : HdOk wr mm := by
  have hlt : 0 < W.heap.size := by
    unfold HdOk World.cell? at hm
    by_cases hh : 0 < W.heap.size
    · exact hh
    · rw [show W.heap[0]? = none from Array.getElem?_eq_none (by omega)] at hm
      cases hm
  unfold HdOk World.cell? at *
  rw [show wr.heap[0]? = W.heap[0]? from h.block _ hlt hp]
  exact hm
/-- A variable of head's own type of requests. -/
def QVarP (w : World) (g : Nat) (m t : ByteArray) (z : Int) (v : Value) : Prop := w.heap[g]? = some (.cells #[.string m, .string t, .int .i64 z, v, .bool false, .slice none 0 0] 35 (0, 0))
theorem QVarP.keep {w w' : World} {g : Nat} {m t : ByteArray} {z : Int} {v : Value} (h : QVarP w g m t z v) (hb : Below w.heap.size w w') : QVarP w' g m t z v := by
  unfold QVarP at *
  rw [hb.block g (Array.getElem?_eq_some_iff.1 h).1]; exact h
theorem sizeRP : (Tryd.prog.info? 35).map (·.size) = some 6 := by kernel_rfl
/-- What start leaves: error, method, target, minor version. -/
def startR (s : ByteArray) : Int × ByteArray × ByteArray × Int :=
  match lineR (splitS 32 s) with
  | (some f, _) => (0, f.1, f.2.1, f.2.2)
  | (none, e) => (e, ⟨#[]⟩, ⟨#[]⟩, 0)
set_option maxRecDepth 100000 in
set_option maxHeartbeats 4000000 in
theorem startReq_any (s : ByteArray) (g : Nat) (mm : Int) (w : World) (hs : s.size ≤ 4000000) (hm : HdOk w mm) (hq : QVarP w g ⟨#[]⟩ ⟨#[]⟩ 0 (.slice none 0 0)) :
    Calls Tryd.prog 9 #[.pointer (some ⟨g, 0, none⟩), .string s] w fun e w' => e = .returned (.int .i64 (startR s).1) ∧ QVarP w' g (startR s).2.1 (startR s).2.2.1 (startR s).2.2.2 (.slice none 0 0) ∧ ButH g w w' := by
  have HQ := Box.mk hq
  have HC := Box.mk (projParseReq_any s w mm (by omega) hm)
  have HD := Box.mk (show startR s = match lineR (splitS 32 s) with
    | (some f, _) => (0, f.1, f.2.1, f.2.2)
    | (none, e) => (e, ⟨#[]⟩, ⟨#[]⟩, 0) from rfl)
  generalize startR s = R at *
  generalize lineR (splitS 32 s) = o at *
  clear hq hm
  have hg : g < w.heap.size := (Array.getElem?_eq_some_iff.1 HQ.out).1
  go_enter Tryd.func9, Tryd.ntmps9
  go_wp2_with fail
  refine HC.out.mono ?_
  rintro e w1 ⟨he, hb1⟩
  have HB1 := Box.mk (ButH.of (p := g) hb1)
  have HQ1 := Box.mk (HQ.out.keep hb1)
  clear hb1 HC HQ
  obtain ⟨o1, er⟩ := o
  rcases o1 with _ | ⟨m, t, z⟩
  · simp only [reqV] at he
    subst he
    have HP := Box.mk (show R = (er, ⟨#[]⟩, ⟨#[]⟩, 0) from HD.out)
    clear HD
    have hb2 := below_oneF w1 (.cells #[.string ⟨#[]⟩, .string ⟨#[]⟩, .int .i64 0, .slice none 0 0, .bool false, .slice none 0 0] 28)
    have HQ2 := Box.mk (HQ1.out.keep hb2)
    have HB2 := Box.mk (HB1.out.trans (ButH.of hb2))
    clear hb2
    go_wp2_with (refine wpList_store_row rfl 35 _ _ rfl g #[.string ⟨#[]⟩, .string ⟨#[]⟩, .int .i64 0, .slice none 0 0, .bool false, .slice none 0 0] rfl rfl 35 _ HQ2.out sizeRP rfl (oneQH _ _ _ _ _ _) ?_)
    go_ret
    rw [HP.out]
    exact ⟨rfl, setRow_heap _ _ _ _ _ _ HQ2.out, HB2.out.setRow _⟩
  · simp only [reqV] at he
    subst he
    have HP := Box.mk (show R = (0, m, t, z) from HD.out)
    clear HD
    have hb2 := below_oneF w1 (.cells #[.string m, .string t, .int .i64 z, .slice none 0 0, .bool false, .slice none 0 0] 28)
    have HQ2 := Box.mk (HQ1.out.keep hb2)
    have HB2 := Box.mk (HB1.out.trans (ButH.of hb2))
    clear hb2
    go_wp2_with (refine wpList_store_row rfl 35 _ _ rfl g #[.string m, .string t, .int .i64 z, .slice none 0 0, .bool false, .slice none 0 0] rfl rfl 35 _ HQ2.out sizeRP rfl (oneQH _ _ _ _ _ _) ?_)
    go_ret
    rw [HP.out]
    exact ⟨rfl, setRow_heap _ _ _ _ _ _ HQ2.out, HB2.out.setRow _⟩
end Go.Proofs.YtcdianojchmgpaaDoor
namespace Go.Proofs.YtcdianojchmgpaaDoor
open Go.RowKit

/-- What parse leaves: error, method, target, minor version, fields. -/
def headP (b : List UInt8) : Int × ByteArray × ByteArray × Int × List Fld :=
  match linesS b with
  | some (l0 :: ls) => if (startR l0).1 = 0 then ((fieldsS ls).1, (startR l0).2.1, (startR l0).2.2.1, (startR l0).2.2.2, (fieldsS ls).2) else ((startR l0).1, (startR l0).2.1, (startR l0).2.2.1, (startR l0).2.2.2, [])
  | _ => (2, ⟨#[]⟩, ⟨#[]⟩, 0, [])
def RetParseP (w : World) (g : Nat) (r : Int × ByteArray × ByteArray × Int × List Fld) (e : Ending) (w' : World) : Prop :=
  ∃ fa fc, e = .returned (.tuple #[.slice fa r.2.2.2.2.length fc, .int .i64 r.1]) ∧ QVarP w' g r.2.1 r.2.2.1 r.2.2.2.1 (.slice none 0 0) ∧ FldsIn w' fa r.2.2.2.2 ∧ (∀ y, fa = some y → w.heap.size ≤ y.block) ∧ ButH g w w' ∧ ShortF r.2.2.2.2 ∧ r.2.2.2.2.length ≤ 64
theorem end_not {b : List UInt8} (h : ¬ endZ b = b.length) : ¬ ((endS b b.length).2 = 0 ∧ (endS b b.length).1 = b.length) := by
  rintro ⟨h1, h2⟩
  unfold endS at h1 h2
  split at h1
  · rename_i h3; rw [if_pos h3] at h2; exact h h2
  · rename_i h3
    split at h1
    · exact absurd h1 (by decide)
    · exact absurd h1 (by decide)
theorem end_yes {b : List UInt8} (h : endZ b = b.length) : endS b b.length = ((b.length : Int), 0) := by
  unfold endS; rw [if_pos ⟨by omega, by omega⟩, h]
set_option maxRecDepth 100000 in
set_option maxHeartbeats 4000000 in
theorem projParseP_any (b : List UInt8) (a : Option Addr) (c g : Nat) (mm : Int) (w : World) (h : IsBytes w a b c) (hl : b.length ≤ 3000000) (hm : HdOk w mm) (hgm : 0 ≠ g) (hq : QVarP w g ⟨#[]⟩ ⟨#[]⟩ 0 (.slice none 0 0)) :
    Calls Tryd.prog 8 #[.slice a b.length c, .func (.func 9) #[.pointer (some ⟨g, 0, none⟩)] #[]] w (RetParseP w g (headP b)) := by
  have HQ := Box.mk hq
  have HM := Box.mk hm
  have HBY := Box.mk h
  have hg : g < w.heap.size := (Array.getElem?_eq_some_iff.1 hq).1
  have HD := Box.mk (show headP b = match linesS b with
    | some (l0 :: ls) => if (startR l0).1 = 0 then ((fieldsS ls).1, (startR l0).2.1, (startR l0).2.2.1, (startR l0).2.2.2, (fieldsS ls).2) else ((startR l0).1, (startR l0).2.1, (startR l0).2.2.1, (startR l0).2.2.2, [])
    | _ => (2, ⟨#[]⟩, ⟨#[]⟩, 0, []) from rfl)
  have HEND := Box.mk (projEnd_any b a c b.length mm w h hl hm)
  have HGM := Box.mk hgm
  generalize headP b = R at *
  clear h hm hq hgm
  by_cases he : endZ b = b.length
  · obtain ⟨t, ht, h4⟩ := head_cut he
    rw [end_yes he] at HEND
    have HE := Box.mk he
    have HT := Box.mk ht
    clear he ht
    go_enter Tryd.func8, Tryd.ntmps8
    go_wp2_with fail
    refine HEND.out.mono ?_
    rintro e w1 ⟨rfl, hb1⟩
    have HB1 := Box.mk hb1
    have HBY1 := Box.mk (HBY.out.keep hb1)
    have HM1 := Box.mk (HM.out.keep hb1)
    have HQ1 := Box.mk (HQ.out.keep hb1)
    have HN1 := Box.mk (ButH.of (p := g) hb1)
    have hg1 : g < w1.heap.size := (Array.getElem?_eq_some_iff.1 HQ1.out).1
    have hcv := conv_bytes HBY1.out
    clear hb1 HEND HBY HM HQ
    go_wp2_with fail
    refine (projWhole_any b mm w1 (by omega) HM1.out).mono ?_
    rintro e w2 ⟨rfl, rfl⟩
    by_cases hw : (linesGo [] b).isSome = true
    · obtain ⟨l0, ls, ls', hls, hps, hfs, hz0, hzl, hln⟩ := linesS_pieces HT.out HE.out hw
      rw [hw]
      have HR := Box.mk (show R = if (startR l0).1 = 0 then ((fieldsS ls').1, (startR l0).2.1, (startR l0).2.2.1, (startR l0).2.2.2, (fieldsS ls').2) else ((startR l0).1, (startR l0).2.1, (startR l0).2.2.1, (startR l0).2.2.2, []) by rw [HD.out, hls, hfs])
      have htz : t.length ≤ 3000000 := by have := HT.out; rw [this, List.length_append] at hl; omega
      have HSUF := Box.mk (show Calls Tryd.prog 16 #[.string ⟨b.toArray⟩, .string ⟨#[13, 10, 13, 10]⟩] w1 fun e w' => e = .returned (.string ⟨t.toArray⟩) ∧ w1 = w' by
        have h := suffixR_any ⟨b.toArray⟩ ⟨#[13, 10, 13, 10]⟩ w1 (by show b.length ≤ _; omega)
        have e : (⟨(Lib.trimSuffix (⟨b.toArray⟩ : ByteArray).data.toList (⟨#[13, 10, 13, 10]⟩ : ByteArray).data.toList).toArray⟩ : ByteArray) = ⟨t.toArray⟩ := by
          show (⟨(Lib.trimSuffix b crlf2).toArray⟩ : ByteArray) = _
          rw [HT.out, trim_crlf2]
        rw [e] at h
        exact h)
      have HSPL := Box.mk (splitL_any ⟨t.toArray⟩ w1 mm (by show t.length < _; omega) HM1.out)
      rw [hps] at HSPL
      have HZ0 := Box.mk hz0
      have HZL := Box.mk (show ∀ s ∈ ls', s.size ≤ maxLen from fun s hs => Nat.le_trans (hzl s hs) (by unfold maxLen; omega))
      clear hw hls hps hfs hzl HD HE HT hz0
      go_wp2_with fail
      refine HSUF.out.mono ?_
      rintro e w2 ⟨rfl, rfl⟩
      clear HSUF
      go_wp2_with fail
      refine HSPL.out.mono ?_
      rintro e w2 ⟨cap, rfl, hlc, hcap, hst, hb2⟩
      rw [List.length_cons] at hlc
      have HST := Box.mk hst
      have HB2 := Box.mk (below_trans HB1.out hb2)
      have HM2 := Box.mk (HM1.out.keep hb2)
      have HQ2 := Box.mk (HQ1.out.keep hb2)
      have HN2 := Box.mk (HN1.out.trans (ButH.of hb2))
      have hc0 := hst.head
      have hlt2 : w1.heap.size < w2.heap.size := by
        by_cases hh : w1.heap.size < w2.heap.size
        · exact hh
        · have h := hc0
          unfold World.cell? at h
          rw [show w2.heap[w1.heap.size]? = none from Array.getElem?_eq_none (by omega)] at h
          cases h
      have hG1 : w.heap.size ≤ w1.heap.size := HB1.out.size
      have HSTA := Box.mk (startReq_any l0 g mm w2 (by have := HZ0.out; omega) HM2.out HQ2.out)
      clear hst hb2 HSPL HM1 HQ1 HN1 HBY1 hcv
      generalize startR l0 = S at *
      obtain ⟨er, m, tt, z⟩ := S
      go_wp2_with fail
      refine HSTA.out.mono ?_
      rintro e w3 ⟨rfl, hq3, hn3⟩
      have HQ3 := Box.mk hq3
      have HN3 := Box.mk (HN2.out.trans hn3)
      have HST3 := Box.mk ((hn3.strs HST.out hlt2 (by omega)).tail)
      have hs3 : w2.heap.size ≤ w3.heap.size := hn3.size
      clear hq3 hn3 HST HSTA HQ2 HN2 HM2 hc0
      by_cases h0 : er = 0
      · subst h0
        have HR2 := Box.mk (show R = ((fieldsS ls').1, m, tt, z, (fieldsS ls').2) by rw [HR.out, if_pos rfl])
        clear HR
        by_cases hc1 : cap = 1
        · subst hc1
          obtain rfl : ls' = [] := List.eq_nil_of_length_eq_zero (by omega)
          go_wp2_with fail
          refine (projFieldsH_any [] (some ⟨w1.heap.size, 0, none⟩) 0 w3 (StrsAt.nil _ _) HZL.out (by simp)).mono ?_
          rintro e w4 ⟨x, fa, fc, er, hx, rfl, hfx, hfr, hb4⟩
          obtain ⟨hs1, hs2, _⟩ := fieldsS_small hx HZL.out
          have HR3 := Box.mk (show R = (er, m, tt, z, x) by rw [HR2.out, hx])
          have HFX := Box.mk hfx
          have HQ4 := Box.mk (HQ3.out.keep hb4)
          have HN4 := Box.mk (HN3.out.trans (ButH.of hb4))
          have HFR := Box.mk (show ∀ y, fa = some y → w.heap.size ≤ y.block from fun y hy => by have := hfr y hy; omega)
          have HS1 := Box.mk hs1
          clear hx hfx hfr hb4 HR2 HST3 HQ3 HN3 hs1
          go_wp2_with fail
          go_ret2
          rw [HR3.out]
          exact ⟨fa, fc, rfl, HQ4.out, HFX.out, HFR.out, HN4.out, HS1.out, hs2⟩
        · have hlc2 : 1 ≤ cap := by omega
          go_wp2_with fail
          refine (projFieldsH_any ls' (some ⟨w1.heap.size, 1, none⟩) (cap - 1) w3 HST3.out HZL.out (by omega)).mono ?_
          rintro e w4 ⟨x, fa, fc, er, hx, rfl, hfx, hfr, hb4⟩
          obtain ⟨hs1, hs2, _⟩ := fieldsS_small hx HZL.out
          have HR3 := Box.mk (show R = (er, m, tt, z, x) by rw [HR2.out, hx])
          have HFX := Box.mk hfx
          have HQ4 := Box.mk (HQ3.out.keep hb4)
          have HN4 := Box.mk (HN3.out.trans (ButH.of hb4))
          have HFR := Box.mk (show ∀ y, fa = some y → w.heap.size ≤ y.block from fun y hy => by have := hfr y hy; omega)
          have HS1 := Box.mk hs1
          clear hx hfx hfr hb4 HR2 HST3 HQ3 HN3 hs1
          go_wp2_with fail
          go_ret2
          rw [HR3.out]
          exact ⟨fa, fc, rfl, HQ4.out, HFX.out, HFR.out, HN4.out, HS1.out, hs2⟩
      · have e0 : (er != 0) = true := by rw [bne_iff_ne]; exact h0
        have HR2 := Box.mk (show R = (er, m, tt, z, []) by rw [HR.out, if_neg h0])
        clear HR h0
        go_wp2_with fail
        go_ret2
        rw [HR2.out]
        exact ⟨none, 0, rfl, HQ3.out, FldsIn.nil _ _, (fun _ e => by cases e), HN3.out, (fun f hf => by cases hf), Nat.zero_le _⟩
    · have hw0 : (linesGo [] b).isSome = false := by rw [← Bool.not_eq_true]; exact hw
      rw [hw0]
      have HR := Box.mk (show R = (2, ⟨#[]⟩, ⟨#[]⟩, 0, []) by
        rw [HD.out]
        have : linesS b = none := by
          unfold linesS
          cases hh : linesGo [] b with
          | none => split <;> rfl
          | some L => rw [hh] at hw0; cases hw0
        rw [this])
      clear hw hw0 HD HE HT
      go_wp2_with fail
      go_ret2
      rw [HR.out]
      exact ⟨none, 0, rfl, HQ1.out, FldsIn.nil _ _, (fun _ e => by cases e), HN1.out, (fun f hf => by cases hf), Nat.zero_le _⟩
  · have HNE := Box.mk (end_not he)
    have HR := Box.mk (show R = (2, ⟨#[]⟩, ⟨#[]⟩, 0, []) by
      rw [HD.out]
      have : linesS b = none := by unfold linesS; rw [if_neg (fun h => he h.1)]
      rw [this])
    generalize endS b b.length = E at *
    obtain ⟨n, er⟩ := E
    clear he HD
    go_enter Tryd.func8, Tryd.ntmps8
    go_wp2_with fail
    refine HEND.out.mono ?_
    rintro e w1 ⟨rfl, hb1⟩
    have HQ1 := Box.mk (HQ.out.keep hb1)
    have HN1 := Box.mk (ButH.of (p := g) hb1)
    clear hb1 HEND HQ HBY HM
    by_cases h0 : er = 0
    · subst h0
      have en : (n != (b.length : Int)) = true := by rw [bne_iff_ne]; exact fun h => HNE.out ⟨rfl, h⟩
      clear HNE
      go_wp2_with fail
      go_ret2
      rw [HR.out]
      exact ⟨none, 0, rfl, HQ1.out, FldsIn.nil _ _, (fun _ e => by cases e), HN1.out, (fun f hf => by cases hf), Nat.zero_le _⟩
    · have e0 : (er != 0) = true := by rw [bne_iff_ne]; exact h0
      clear HNE h0
      go_wp2_with fail
      go_ret2
      rw [HR.out]
      exact ⟨none, 0, rfl, HQ1.out, FldsIn.nil _ _, (fun _ e => by cases e), HN1.out, (fun f hf => by cases hf), Nat.zero_le _⟩
end Go.Proofs.YtcdianojchmgpaaDoor
namespace Go.Proofs.YtcdianojchmgpaaDoor
open Go.RowKit

theorem QVarP.cells6 {w : World} {g : Nat} {m t : ByteArray} {z : Int} {v : Value} (h : QVarP w g m t z v) : w.cell? ⟨g, 0, none⟩ = some (.string m) ∧ w.cell? ⟨g, 1, none⟩ = some (.string t) ∧ w.cell? ⟨g, 2, none⟩ = some (.int .i64 z) ∧ w.cell? ⟨g, 3, none⟩ = some v ∧ w.cell? ⟨g, 4, none⟩ = some (.bool false) ∧ w.cell? ⟨g, 5, none⟩ = some (.slice none 0 0) := by
  refine ⟨?_, ?_, ?_, ?_, ?_, ?_⟩ <;> rw [cell_of_row _ _ _ _ _ _ h] <;> rfl
theorem QVarP.put {w : World} {g : Nat} {m t : ByteArray} {z : Int} {v u : Value} (h : QVarP w g m t z v) : QVarP (w.setCell ⟨g, 3, none⟩ u) g m t z u := by
  unfold QVarP; rw [heap_setCell_same _ _ _ _ _ _ h]; rfl
theorem QVarP.frozen {w : World} {g i : Nat} {m t : ByteArray} {z : Int} {v : Value} (h : QVarP w g m t z v) : w.frozen? ⟨g, i, none⟩ = false := by
  unfold QVarP at h; simp [World.frozen?, h]
theorem HdOk.lt {w : World} {mm : Int} (hm : HdOk w mm) : 0 < w.heap.size := by
  unfold HdOk World.cell? at hm
  by_cases hh : 0 < w.heap.size
  · exact hh
  · rw [show w.heap[0]? = none from Array.getElem?_eq_none (by omega)] at hm
    cases hm
theorem headR_P (b : List UInt8) : headR b = if (headP b).1 = 0 then (if hostB (headP b).2.2.2.2 (headP b).2.2.2.1 = true then headP b else (2, ⟨#[]⟩, ⟨#[]⟩, 0, [])) else ((headP b).1, ⟨#[]⟩, ⟨#[]⟩, 0, []) := by
  unfold headR headP
  rcases hls : linesS b with _ | L
  · rfl
  · rcases L with _ | ⟨l0, ls⟩
    · rfl
    · simp only []
      have hne := lineR_ne (splitS 32 l0)
      unfold startR
      generalize lineR (splitS 32 l0) = o at *
      obtain ⟨o1, er⟩ := o
      rcases o1 with _ | f
      · simp only []
        have h0 : ¬ er = 0 := hne rfl
        rw [if_neg h0]
        simp only [h0, if_false]
      · simp only [if_true]
        generalize fieldsS ls = F
        obtain ⟨er2, x⟩ := F
        simp only []
        by_cases h0 : er2 = 0
        · subst h0
          simp only [if_true]
          unfold hostB
          by_cases hh : (valuesL x hostN).length = 1 ∨ ((valuesL x hostN).length = 0 ∧ ¬ f.2.2 = 1)
          · rw [if_neg (by omega), if_pos (decide_eq_true hh)]
          · rw [if_pos (by
              rcases Nat.lt_or_ge 1 (valuesL x hostN).length with h1 | h1
              · exact .inl h1
              · right
                constructor
                · omega
                · exact Classical.byContradiction fun h2 => hh (.inr ⟨by omega, h2⟩)), if_neg (by rw [decide_eq_true_iff]; exact hh)]
        · rw [if_neg h0, if_neg h0]
/-- As RetReqH, and the fields lie in a block of the call's own. -/
def RetReqF (w : World) (r : Int × ByteArray × ByteArray × Int × List Fld) (e : Ending) (w' : World) : Prop :=
  ∃ fa fc, e = .returned (.tuple #[.agg #[.string r.2.1, .string r.2.2.1, .int .i64 r.2.2.2.1, .slice fa r.2.2.2.2.length fc, .bool false, .slice none 0 0], .int .i64 r.1]) ∧ FldsIn w' fa r.2.2.2.2 ∧ (∀ y, fa = some y → w.heap.size ≤ y.block) ∧ Below w.heap.size w w'
set_option maxRecDepth 100000 in
set_option maxHeartbeats 4000000 in
theorem projHeadReqF_any (b : List UInt8) (a : Option Addr) (c : Nat) (mm : Int) (w : World) (h : IsBytes w a b c) (hl : b.length ≤ 3000000) (hm : HdOk w mm) :
    Calls Tryd.prog 5 #[.slice a b.length c] w (RetReqF w (headR b)) := by
  obtain ⟨W0, hW0⟩ : ∃ W0, W0 = w.alloc (.cells #[.string ⟨#[]⟩, .string ⟨#[]⟩, .int .i64 0, .slice none 0 0, .bool false, .slice none 0 0] 28) := ⟨_, rfl⟩
  have hs0 : W0.heap.size = w.heap.size + 1 := by rw [hW0]; exact Array.size_push _
  obtain ⟨W1, hW1⟩ : ∃ W1, W1 = W0.alloc (.cells #[.string ⟨#[]⟩, .string ⟨#[]⟩, .int .i64 0, .slice none 0 0, .bool false, .slice none 0 0] 35) := ⟨_, rfl⟩
  have hb0 : Below w.heap.size w W0 := by rw [hW0]; exact below_oneF w _
  have hb1 : Below W0.heap.size W0 W1 := by rw [hW1]; exact below_oneF W0 _
  have HR0 := Box.mk (show QVarH W0 w.heap.size ⟨#[]⟩ ⟨#[]⟩ 0 (.slice none 0 0) by rw [hW0]; exact heap_alloc_new _ _)
  have HR1 := Box.mk (HR0.out.keep hb1)
  have HQ1 := Box.mk (show QVarP W1 W0.heap.size ⟨#[]⟩ ⟨#[]⟩ 0 (.slice none 0 0) by rw [hW1]; exact heap_alloc_new _ _)
  have HB1 := Box.mk (below_trans hb0 hb1)
  have hmlt := hm.lt
  have hs1 : W1.heap.size = w.heap.size + 2 := by rw [hW1]; exact (Array.size_push _).trans (by rw [hs0])
  have HCALL := Box.mk (projParseP_any b a c W0.heap.size mm W1 (h.keep HB1.out) hl (hm.keep HB1.out) (by omega) HQ1.out)
  have HD := Box.mk (headR_P b)
  generalize headR b = R at *
  generalize headP b = S at *
  obtain ⟨er, m, t, z, x⟩ := S
  rw [hs0] at HCALL HQ1
  rw [hW0] at hW1
  have HW1 := Box.mk hW1
  clear h hm hW0 hW1 hb0 hb1 hs0 HR0 HQ1 hmlt
  go_enter Tryd.func5, Tryd.ntmps5
  go_wp2_with fail
  rw [← HW1.out]
  clear HW1
  refine HCALL.out.mono ?_
  rintro e w2 ⟨fa, fc, rfl, hq2, hfx, hfr, hn2, hsf, hx64⟩
  have HQ2 := Box.mk hq2
  have HFX := Box.mk hfx
  have HFR := Box.mk hfr
  have HSF := Box.mk hsf
  have HR2 := Box.mk (show QVarH w2 w.heap.size ⟨#[]⟩ ⟨#[]⟩ 0 (.slice none 0 0) by unfold QVarH; rw [hn2.block _ (by omega) (by omega)]; exact HR1.out)
  have HB2 := Box.mk (HB1.out.trans (hn2.below (K := w.heap.size) (by omega) (by omega)))
  have hs2 : W1.heap.size ≤ w2.heap.size := hn2.size
  clear hq2 hfx hfr hn2 hsf HR1 HB1 HCALL
  by_cases h0 : er = 0
  · subst h0
    have HD1 := Box.mk (show R = if hostB x z = true then (0, m, t, z, x) else (2, ⟨#[]⟩, ⟨#[]⟩, 0, []) from HD.out)
    have hc2 := HQ2.out.cells6.2.2.1
    clear HD
    go_wp2_with fail
    refine (projHosted_any z x fa fc w2 HFX.out HSF.out (by omega)).mono ?_
    rintro e w3 ⟨he, hb3⟩
    have HQ3 := Box.mk (HQ2.out.keep hb3)
    have HR3 := Box.mk (HR2.out.keep hb3)
    have HFX3 := Box.mk (HFX.out.keep hb3)
    have HB3 := Box.mk (below_trans HB2.out hb3)
    clear hb3 HQ2 HR2 HFX HB2 hc2
    by_cases hh : hostB x z = true
    · rw [hh] at he
      subst he
      have HD2 := Box.mk (show R = (0, m, t, z, x) by rw [HD1.out, if_pos hh])
      have hf3 := HQ3.out.frozen (i := 3)
      obtain ⟨k0, k1, k2, k3, k4, k5⟩ := HQ3.out.cells6
      clear HD1 hh
      obtain ⟨W4, hW4⟩ : ∃ W4, W4 = w3.setCell ⟨w.heap.size + 1, 3, none⟩ (.slice fa x.length fc) := ⟨_, rfl⟩
      have HQ4 := Box.mk (show QVarP W4 (w.heap.size + 1) m t z (.slice fa x.length fc) by rw [hW4]; exact HQ3.out.put)
      have HR4 := Box.mk (show QVarH W4 w.heap.size ⟨#[]⟩ ⟨#[]⟩ 0 (.slice none 0 0) by
        unfold QVarH; rw [hW4, heap_setCell_other _ _ _ _ (by show w.heap.size ≠ w.heap.size + 1; omega)]; exact HR3.out)
      have HB4 := Box.mk (show Below w.heap.size w W4 by rw [hW4]; exact HB3.out.setCell (p := ⟨w.heap.size + 1, 3, none⟩) (show w.heap.size ≤ w.heap.size + 1 by omega) (.slice fa x.length fc))
      have HX4 := Box.mk (show FldsIn W4 fa x by
        rw [hW4]; exact HFX3.out.same fun y hy => heap_setCell_other _ _ _ _ (by have := HFR.out y hy; show y.block ≠ w.heap.size + 1; omega))
      subst hW4
      obtain ⟨c0, c1, c2, c3, c4, c5⟩ := HQ4.out.cells6
      clear HQ3 HR3 HFX3 HB3
      go_wp2_with (refine wpList_store_row rfl 28 _ _ rfl w.heap.size #[.string m, .string t, .int .i64 z, .slice fa x.length fc, .bool false, .slice none 0 0] rfl rfl 28 _ HR4.out sizeR rfl (oneQH _ _ _ _ _ _) ?_)
      (try simp only [Exit.inBlock, Exit.then])
      refine bodyPost_ret (results_row_tmpF rfl _ _ w.heap.size _ _ _ _ rfl (setRow_heap _ _ _ _ _ _ HR4.out) Tryd.underlying28 rfl sizeR) rfl ?_
      rw [HD2.out]
      exact ⟨fa, fc, rfl, HX4.out.same fun y hy => setRow_other _ _ _ _ (by have := HFR.out y hy; omega), (fun y hy => by have := HFR.out y hy; omega), below_setRow HB4.out (Nat.le_refl _) _⟩
    · have hh0 : hostB x z = false := by rw [← Bool.not_eq_true]; exact hh
      rw [hh0] at he
      subst he
      have HP := Box.mk (show R = (2, ⟨#[]⟩, ⟨#[]⟩, 0, []) by rw [HD1.out, if_neg hh])
      clear HD1 hh hh0
      go_wp2_with (refine wpList_store_row rfl 28 _ _ rfl w.heap.size #[.string ⟨#[]⟩, .string ⟨#[]⟩, .int .i64 0, .slice none 0 0, .bool false, .slice none 0 0] rfl rfl 28 _ HR3.out sizeR rfl (oneQH _ _ _ _ _ _) ?_)
      (try simp only [Exit.inBlock, Exit.then])
      refine bodyPost_ret (results_row_tmpF rfl _ _ w.heap.size _ _ _ _ rfl (setRow_heap _ _ _ _ _ _ HR3.out) Tryd.underlying28 rfl sizeR) rfl ?_
      rw [HP.out]
      exact ⟨none, 0, rfl, FldsIn.nil _ _, (fun y hy => by cases hy), below_setRow HB3.out (Nat.le_refl _) _⟩
  · have e0 : (er == 0) = false := by rw [beq_eq_false_iff_ne]; exact h0
    have e1 : (er != 0) = true := by rw [bne_iff_ne]; exact h0
    have HP := Box.mk (show R = (er, ⟨#[]⟩, ⟨#[]⟩, 0, []) by rw [HD.out, if_neg h0])
    clear HD h0
    go_wp2_with (refine wpList_store_row rfl 28 _ _ rfl w.heap.size #[.string ⟨#[]⟩, .string ⟨#[]⟩, .int .i64 0, .slice none 0 0, .bool false, .slice none 0 0] rfl rfl 28 _ HR2.out sizeR rfl (oneQH _ _ _ _ _ _) ?_)
    (try simp only [Exit.inBlock, Exit.then])
    refine bodyPost_ret (results_row_tmpF rfl _ _ w.heap.size _ _ _ _ rfl (setRow_heap _ _ _ _ _ _ HR2.out) Tryd.underlying28 rfl sizeR) rfl ?_
    rw [HP.out]
    exact ⟨none, 0, rfl, FldsIn.nil _ _, (fun y hy => by cases hy), below_setRow HB2.out (Nat.le_refl _) _⟩
theorem projHeadReq_any (b : List UInt8) (a : Option Addr) (c : Nat) (mm : Int) (w : World) (h : IsBytes w a b c) (hl : b.length ≤ 3000000) (hm : HdOk w mm) :
    Calls Tryd.prog 5 #[.slice a b.length c] w (RetReqH w (headR b)) :=
  (projHeadReqF_any b a c mm w h hl hm).mono fun _ _ ⟨fa, fc, h1, h2, _, h3⟩ => ⟨fa, fc, h1, h2, h3⟩
end Go.Proofs.YtcdianojchmgpaaDoor
namespace Go.Proofs.YtcdianojchmgpaaDoor
open Go.RowKit

theorem OwnF.mono {B B' : Nat} {w : World} {v : Value} {l : List Fld} (h : OwnF B w v l) (hb : B' ≤ B) : OwnF B' w v l := by
  obtain ⟨h1, h2⟩ := h
  refine ⟨h1, ?_⟩
  rcases h2 with h2 | ⟨g, cap, cur, hv, hg, hc, r⟩
  · exact .inl h2
  · exact .inr ⟨g, cap, cur, hv, Nat.le_trans hb hg, hc, r⟩
end Go.Proofs.YtcdianojchmgpaaDoor
namespace Go.Proofs.YtcdianojchmgpaaDoor
open Go.RowKit

section
variable {Q : Exit → Act → World → Prop} {act : Act} {w : World} {o : Oper} {s : Spec} {K : Act → World → Prop}
end

theorem agg_fields (w : World) : (isAgg 25).run Tryd.prog w = .ok false w := by
  unfold isAgg; rw [Sem.run_bind, run_underlying Tryd.underlying25 w]; rfl
end Go.Proofs.YtcdianojchmgpaaDoor
namespace Go.Proofs.YtcdianojchmgpaaDoor
open Go.RowKit

/-- The block's frozen stretch lies behind its last cell, or there is none. -/
def NoFz (n : Nat) (fz : Nat × Nat) : Prop := fz.2 = 0 ∨ n ≤ fz.1
/-- v is a slice with the bytes l in a block of its own, at B or beyond; the block may bear a conversion's mark. -/
def OwnM (B : Nat) (w : World) (v : Value) (l : List UInt8) : Prop :=
  ∃ g cap cur fz, v = .slice (some ⟨g, 0, none⟩) l.length cap ∧ B ≤ g ∧ w.heap[g]? = some (.cells cur 5 fz) ∧ NoFz cur.size fz ∧ l.length ≤ cap ∧ cap ≤ maxLen ∧ cur.size = cap ∧ cur.toList.take l.length = bytesV l
theorem OwnM.lt {B : Nat} {w : World} {v : Value} {l : List UInt8} (h : OwnM B w v l) {k : Nat} (hk : v.ownBlock = some k) : B ≤ k ∧ k < w.heap.size := by
  obtain ⟨g, cap, cur, fz, rfl, hb, hg, _⟩ := h
  obtain rfl : g = k := Option.some.inj hk
  exact ⟨hb, (Array.getElem?_eq_some_iff.1 hg).1⟩
theorem OwnM.same {B : Nat} {w w' : World} {v : Value} {l : List UInt8} (h : OwnM B w v l) (hs : ∀ k, v.ownBlock = some k → w'.heap[k]? = w.heap[k]?) : OwnM B w' v l := by
  obtain ⟨g, cap, cur, fz, hv, hb, hg, r⟩ := h
  exact ⟨g, cap, cur, fz, hv, hb, by rw [hs g (by rw [hv]; rfl)]; exact hg, r⟩
theorem OwnM.keep {B : Nat} {w w' : World} {v : Value} {l : List UInt8} (h : OwnM B w v l) (hb : Below w.heap.size w w') : OwnM B w' v l :=
  h.same fun k hk => hb.block k (h.lt hk).2
theorem OwnM.grown {B : Nat} {w w' : World} {v : Value} {l : List UInt8} {row : Option Nat} (h : OwnM B w v l) (hg : w.grownBy w' row) (hne : ∀ k, v.ownBlock = some k → some k ≠ row) : OwnM B w' v l :=
  h.same fun k hk => hg.block k (h.lt hk).2 (hne k hk)
theorem OwnM.form {B : Nat} {w : World} {v : Value} {l : List UInt8} (h : OwnM B w v l) : ∃ g c, v = .slice (some ⟨g, 0, none⟩) l.length c ∧ l.length ≤ c ∧ IsBytes w (some ⟨g, 0, none⟩) l c := by
  obtain ⟨g, cap, cur, fz, rfl, hb, hg, hf, h1, h2, h3, ht⟩ := h
  refine ⟨g, cap, rfl, h1, .inr ⟨_, rfl, h1, h2, fun j hj => ?_⟩⟩
  have e : cur.toList[j]? = some (Value.int .u8 (l[j].toNat : Int)) := by
    have := congrArg (fun x => x[j]?) ht
    simp only [bytesV] at this
    rw [List.getElem?_take_of_lt hj, List.getElem?_map, List.getElem?_eq_getElem hj] at this
    exact this
  rw [Addr.add_lit]
  simp only [World.cell?, hg, Nat.zero_add]
  simpa using e
theorem OwnM.conv (w : World) (s : ByteArray) (hs : s.size ≤ 4000000000) : OwnM w.heap.size (Lib.bytesWorld w 5 s) (.slice (some ⟨w.heap.size, 0, none⟩) s.size (grownCap w s.size 0 5)) s.data.toList := by
  have hge := grownCap_ge w s.size 0 5
  have hz : (Lib.bytesCells w 5 s).size = grownCap w s.size 0 5 := by
    unfold Lib.bytesCells
    rw [Array.size_append, Array.size_map, Array.size_replicate]
    have : s.data.size = s.size := rfl
    omega
  have el : s.data.toList.length = s.size := by rw [Array.length_toList]; rfl
  refine ⟨w.heap.size, _, _, _, by rw [el], Nat.le_refl _, Lib.bytesWorld_at_new w 5 s, .inr (Nat.le_refl _), by rw [el]; exact hge, grownCap_le_maxLen w s.size 0 5 (by unfold maxLen; omega), hz, ?_⟩
  unfold Lib.bytesCells
  rw [Array.toList_append, el, List.take_left' (by rw [Array.length_toList, Array.size_map]; rfl), Array.toList_map]
  rfl
section
variable {ops : Array Oper} {rest : List Oper} {o : Oper} {act : Act} {Q : Exit → Act → World → Prop}
end
end Go.Proofs.YtcdianojchmgpaaDoor
namespace Go.Proofs.YtcdianojchmgpaaDoor
open Go.RowKit

theorem below_convH (w : World) (e : TypeId) (s : ByteArray) : Below w.heap.size w (Lib.bytesWorld w e s) :=
  ⟨rfl, rfl, rfl, by rw [Lib.bytesWorld_size]; omega, fun k hk => Lib.bytesWorld_at_old w e s k hk⟩
section
variable {Q : Exit → Act → World → Prop} {act : Act} {w : World} {o : Oper} {s : Spec} {K : Act → World → Prop}
theorem sizeOf_u8H (w : World) : (sizeOf 5).run Tryd.prog w = .ok 1 w := by
  obtain ⟨i0, hi, hz0, hz1, hz2⟩ := info_parts Tryd.info5
  simp [sizeOf, typeInfo, hi, hz1]
theorem loc_uptoH {x y : Operand} (ho : o.op = .slice 26 x none (some y) none) {ad : Option Addr} {n c k : Nat} (hx : act.eval x = .slice ad n c) (hy : act.eval y = .int .i64 k) (hk : k ≤ n) (hc : n ≤ c) (hs : s.p (.slice ad k c) w) :
    o.wp Tryd.prog act w (fun a' w' => ∃ v, a' = act.put o.dst v ∧ Below w.heap.size w w' ∧ s.p v w') Q := by
  have es : (sizeOf (Tryd.prog.elem 26)).run Tryd.prog w = .ok 1 w := by rw [show Tryd.prog.elem 26 = 5 by kernel_rfl]; exact sizeOf_u8H w
  refine loc_run (v := .slice ad k c) ?_ (Below.refl _ _) hs
  have hrun : (Instr.sliceAt 26 (.slice ad n c) none (some (.int .i64 (k : Int))) none).run Tryd.prog w = .ok (.slice ad k c) w := by
    rw [run_sliceAt_slice w 26 _ _ _ _ (by kernel_rfl), run_slice_h w 26 _ _ _ (by kernel_rfl) .i64 (k : Int) (by omega) (by omega), es]
    have ha : Option.map (fun x : Addr => x.add 0) ad = ad := by cases ad <;> simp [Addr.add]
    simp [Result.andThen, sliced, ha]
  unfold execOp
  simp only [ho, hx, hy, Option.map_some, Option.map_none, Sem.run_bind, hrun, Result.andThen_ok, Sem.run_pure]
end
end Go.Proofs.YtcdianojchmgpaaDoor
namespace Go.Proofs.YtcdianojchmgpaaDoor
open Go.RowKit

theorem RVar.cells {w : World} {g : Nat} {m t : ByteArray} {z : Int} (h : RVar w g m t z) : g < w.heap.size ∧ w.cell? ⟨g, 0, none⟩ = some (.string m) ∧ w.cell? ⟨g, 1, none⟩ = some (.string t) ∧ w.cell? ⟨g, 2, none⟩ = some (.int .i64 z) ∧ w.cell? ⟨g, 3, none⟩ = some (.slice none 0 0) ∧ w.cell? ⟨g, 4, none⟩ = some (.bool false) ∧ w.cell? ⟨g, 5, none⟩ = some (.slice none 0 0) := by
  refine ⟨(Array.getElem?_eq_some_iff.1 h).1, ?_, ?_, ?_, ?_, ?_, ?_⟩ <;> rw [cell_of_row _ _ _ _ _ _ h] <;> rfl

section
variable (line reason : ByteArray) (status at_ : Int) (c : UInt8) (wild : Int) (mm : Int) (w : World)
end
end Go.Proofs.YtcdianojchmgpaaDoor
namespace Go.Proofs.YtcdianojchmgpaaDoor
open Go.RowKit

theorem splitL_one (c : UInt8) : ∀ l : List UInt8, ¬ c ∈ l → splitL c l = [l]
  | [], _ => rfl
  | b :: t, h => by
    have hb : ¬ b = c := fun e => h (by rw [e]; exact List.mem_cons_self)
    have ih := splitL_one c t (fun e => h (List.mem_cons_of_mem _ e))
    rw [splitL, if_neg hb, ih]; rfl
theorem tok_blank {m : ByteArray} (h : tokS m = true) : ¬ (32 : UInt8) ∈ m.data.toList := fun e => by
  unfold tokS at h
  rw [Bool.and_eq_true] at h
  have := List.all_eq_true.1 h.1 32 e
  revert this; decide +kernel
theorem targ_blank {t : ByteArray} (h : targetS t = true) : ¬ (32 : UInt8) ∈ t.data.toList := fun e => by
  unfold targetS at h
  rw [Bool.and_eq_true] at h
  have := List.all_eq_true.1 h.1 32 e
  revert this; decide +kernel
theorem three_words (m t v : ByteArray) (hm : ¬ (32 : UInt8) ∈ m.data.toList) (ht : ¬ (32 : UInt8) ∈ t.data.toList) (hv : ¬ (32 : UInt8) ∈ v.data.toList) : splitS 32 (m ++ ⟨#[32]⟩ ++ t ++ ⟨#[32]⟩ ++ v) = [m, t, v] := by
  unfold splitS
  have e : (m ++ ⟨#[32]⟩ ++ t ++ ⟨#[32]⟩ ++ v).data.toList = m.data.toList ++ 32 :: (t.data.toList ++ 32 :: v.data.toList) := by
    rw [ba_app_list, ba_app_list, ba_app_list, ba_app_list]
    show m.data.toList ++ [32] ++ t.data.toList ++ [32] ++ v.data.toList = _
    simp
  rw [e, splitL_append, splitL_append, splitL_one 32 _ hm, splitL_one 32 _ ht, splitL_one 32 _ hv]
  simp only [List.map_append, List.map_cons, List.map_nil, ofL_of]
  rfl
theorem versionS_ok {z : Int} (hz : z = 0 ∨ z = 1) : verZ (versionS z) = (z, 0) ∧ ¬ (32 : UInt8) ∈ (versionS z).data.toList := by
  rcases hz with rfl | rfl
  · decide +kernel
  · decide +kernel
theorem twice_req {m t : ByteArray} {z : Int} (hm : tokS m = true) (ht : targetS t = true) (hz : z = 0 ∨ z = 1) : lineR (splitS 32 (fmtReq m t z)) = (some (m, t, z), 0) := by
  have h01 : 0 ≤ z ∧ z ≤ 1 := by omega
  have e : fmtReq m t z = m ++ ⟨#[32]⟩ ++ t ++ ⟨#[32]⟩ ++ versionS z := by
    unfold fmtReq; rw [if_pos ⟨hm, ht, h01⟩]
    have h := (versionS_dec h01.1 h01.2).1
    rw [ByteArray.append_assoc, ← h, ← ByteArray.append_assoc]
  obtain ⟨h1, h2⟩ := versionS_ok hz
  rw [e, three_words m t _ (tok_blank hm) (targ_blank ht) h2, lineR_ok hm ht (by rw [h1]), h1]
end Go.Proofs.YtcdianojchmgpaaDoor
namespace Go.Proofs.YtcdianojchmgpaaDoor
open Go.RowKit

section
variable (b : Option Addr) (n cb : Nat) (status minor : Int) (reason : ByteArray) (mm : Int) (w : World)
theorem row_cells6 {w : World} {g : Nat} {T : TypeId} {u0 u1 u2 u3 u4 u5 : Value} (h : w.heap[g]? = some (.cells #[u0, u1, u2, u3, u4, u5] T (0, 0))) : g < w.heap.size ∧ w.cell? ⟨g, 0, none⟩ = some u0 ∧ w.cell? ⟨g, 1, none⟩ = some u1 ∧ w.cell? ⟨g, 2, none⟩ = some u2 ∧ w.cell? ⟨g, 3, none⟩ = some u3 ∧ w.cell? ⟨g, 4, none⟩ = some u4 ∧ w.cell? ⟨g, 5, none⟩ = some u5 := by
  refine ⟨(Array.getElem?_eq_some_iff.1 h).1, ?_, ?_, ?_, ?_, ?_, ?_⟩ <;> rw [cell_of_row _ _ _ _ _ _ h] <;> rfl
end
end Go.Proofs.YtcdianojchmgpaaDoor
namespace Go.Proofs.YtcdianojchmgpaaDoor
open Go.RowKit

theorem run_loadReq (w : World) (g : Nat) {u0 u1 u2 u3 u4 u5 : Value} (h : w.heap[g]? = some (.cells #[u0, u1, u2, u3, u4, u5] 28 (0, 0))) :
    (Instr.loadAt 28 (.pointer (some ⟨g, 0, none⟩))).run Tryd.prog w = .ok (.agg #[u0, u1, u2, u3, u4, u5]) w := by
  simp [Instr.loadAt, Instr.sureAddr, run_loadVar_row w g _ 28 _ _ _ h Tryd.underlying28 rfl sizeR]
theorem lt_row {w : World} {g : Nat} {o : Obj} (h : w.heap[g]? = some o) : g < w.heap.size := (Array.getElem?_eq_some_iff.1 h).1

section
variable {act : Act} {w : World} {o : Oper} {K : Act → World → Prop} {Q : Exit → Act → World → Prop}
end

section
variable (m t : ByteArray) (z : Int) (fa ba : Option Addr) (fn fc bn bc : Nat) (fr : Bool) (st : Int) (r : ByteArray) (z2 : Int) (ga ha : Option Addr) (gn gc hn hc : Nat) (b : Option Addr) (n cb : Nat) (raw : Bool) (mm : Int) (w : World)
end
end Go.Proofs.YtcdianojchmgpaaDoor
namespace Go.Proofs.YtcdianojchmgpaaDoor
open Go.RowKit

/-- A slice with the bytes l comes back. -/
def RetHdP (w : World) (l : List UInt8) (e : Ending) (w' : World) : Prop := ∃ a c, e = .returned (.slice a (List.length l) c) ∧ IsBytes w' a l c ∧ Below w.heap.size w w'
theorem fmtF_cases (x : List Fld) : (allB x = true ∧ (fmtF x).data.toList = linesB x ∧ ((fmtF x).size = 0 → x = [])) ∨ (allB x = false ∧ (fmtF x).size = 0 ∧ ¬ x = []) := by
  by_cases h : allB x = true
  · refine .inl ⟨h, by unfold fmtF; rw [if_pos h], fun h0 => ?_⟩
    cases x with
    | nil => rfl
    | cons f r =>
      exfalso
      have h2 : (fmtF (f :: r)).data.toList = linesB (f :: r) := by unfold fmtF; rw [if_pos h]
      have h3 := congrArg List.length h2
      rw [Array.length_toList] at h3
      have h4 : (fmtF (f :: r)).data.size = (fmtF (f :: r)).size := rfl
      rw [h4, h0] at h3
      unfold linesB at h3
      rw [List.flatMap_cons, List.length_append, lineB_len] at h3
      omega
  · refine .inr ⟨by rw [← Bool.not_eq_true]; exact h, by unfold fmtF; rw [if_neg h]; rfl, ?_⟩
    rintro rfl
    exact h rfl
set_option maxRecDepth 100000 in
set_option maxHeartbeats 4000000 in
theorem projFormatH_any (s : ByteArray) (x : List Fld) (fa : Option Addr) (fc : Nat) (w : World) (hx : FldsIn w fa x) (hz : SmallF x) (hl : x.length ≤ 100) (hq : s.size ≤ 3000000000) :
    Calls Tryd.prog 11 #[.string s, .slice fa x.length fc] w (RetHdP w (headB s x)) := by
  have HN := Box.mk (fun h => headB_no (s := s) (x := x) h)
  have HY := Box.mk (fun h h2 => headB_yes (s := s) (x := x) h h2)
  have HFM := Box.mk (fFormat_any x fa fc w hx hz (by omega))
  have HC := Box.mk (fmtF_cases x)
  have HL := Box.mk (show (linesB x).length ≤ 100 * 2097156 by
    have h1 := linesB_len x hz x.length
    rw [List.take_length] at h1
    exact Nat.le_trans h1 (Nat.mul_le_mul_right _ hl))
  generalize headB s x = R at *
  generalize fmtF x = f at *
  clear hx hz
  go_enter Tryd.func11, Tryd.ntmps11
  go_wp2_with fail
  refine HFM.out.mono ?_
  rintro e w1 ⟨rfl, hb1⟩
  have HB1 := Box.mk hb1
  clear hb1 HFM
  by_cases h0 : s.size = 0
  · have he := empty_s h0
    have HP := Box.mk (HN.out (.inl h0))
    clear h0
    go_wp2_with fail
    go_ret
    rw [HP.out]
    exact ⟨none, 0, rfl, .inl ⟨rfl, rfl, rfl⟩, HB1.out⟩
  · have he := full_s h0
    have H0 := Box.mk h0
    have hs1 : 0 < s.size := by omega
    clear h0
    rcases HC.out with ⟨hv, hf, hf0⟩ | ⟨hv, hf, hx0⟩
    · have HP := Box.mk (HY.out H0.out hv)
      have HF := Box.mk hf
      have hfz : f.size ≤ 100 * 2097156 := by
        have h2 := congrArg List.length hf
        rw [Array.length_toList] at h2
        have h3 : f.data.size = f.size := rfl
        have := HL.out
        omega
      have hadd1 := fun W => run_string_add_sum (P := Tryd.prog) (w := W) s ⟨#[13, 10]⟩ (by show s.size + 2 ≤ _; omega)
      obtain ⟨s1, hs1⟩ : ∃ s1, s1 = s ++ (⟨#[13, 10]⟩ : ByteArray) := ⟨_, rfl⟩
      rw [← hs1] at hadd1
      have hs1z : s1.size = s.size + 2 := by rw [hs1, ByteArray.size_append]; rfl
      have hadd2 := fun W => run_string_add_sum (P := Tryd.prog) (w := W) s1 f (by omega)
      obtain ⟨s2, hs2⟩ : ∃ s2, s2 = s1 ++ f := ⟨_, rfl⟩
      rw [← hs2] at hadd2
      have hs2z : s2.size = s.size + 2 + f.size := by rw [hs2, ByteArray.size_append, hs1z]
      have hadd3 := fun W => run_string_add_sum (P := Tryd.prog) (w := W) s2 ⟨#[13, 10]⟩ (by show s2.size + 2 ≤ _; omega)
      obtain ⟨s3, hs3⟩ : ∃ s3, s3 = s2 ++ (⟨#[13, 10]⟩ : ByteArray) := ⟨_, rfl⟩
      rw [← hs3] at hadd3
      have HS3 := Box.mk (show s3.data.toList = R by
        rw [HP.out, hs3, hs2, hs1, ← HF.out]
        simp)
      have hs3z : s3.size = s2.size + 2 := by rw [hs3, ByteArray.size_append]; rfl
      have HZ3 := Box.mk (show s3.size ≤ 4000000000 by rw [hs3z, hs2z]; omega)
      have hcvb := fun W => Lib.run_convert_string_bytes (P := Tryd.prog) W 9 26 5 s3 Tryd.underlying9 Tryd.underlying26 Tryd.underlying5
      have HRL := Box.mk (show R.length = s3.size by rw [← HS3.out, Array.length_toList]; rfl)
      have HW := Box.mk (fun W => OwnM.conv W s3 ?hz)
      case hz => exact HZ3.out
      clear hs1 hs2 hs3 hs1z hs2z hv hf HC HN HY HL hs3z
      by_cases hfe : f.size = 0
      · have hfe2 := empty_s hfe
        obtain rfl := hf0 hfe
        clear hf0 hfe
        go_wp2_with fail
        go_ret
        obtain ⟨g, c, hg, hc, hib⟩ := (HW.out w1).form
        rw [HS3.out] at hg hib
        refine ⟨_, _, by rw [← hg]; rfl, hib, below_trans HB1.out (below_convH _ _ _)⟩
      · have hfe2 := full_s hfe
        clear hf0 hfe
        go_wp2_with fail
        go_ret
        obtain ⟨g, c, hg, hc, hib⟩ := (HW.out w1).form
        rw [HS3.out] at hg hib
        refine ⟨_, _, by rw [← hg]; rfl, hib, below_trans HB1.out (below_convH _ _ _)⟩
    · have he2 := empty_s hf
      have HP := Box.mk (HN.out (.inr hv))
      have hxl : 0 < x.length := List.length_pos_iff.2 hx0
      clear hv hx0 HN HY HC hf
      go_wp2_with fail
      go_ret
      rw [HP.out]
      exact ⟨none, 0, rfl, .inl ⟨rfl, rfl, rfl⟩, HB1.out⟩
set_option maxRecDepth 100000 in
set_option maxHeartbeats 4000000 in
theorem projFmtReq_any (m t : ByteArray) (z : Int) (fr : Bool) (x : List Fld) (fa ba : Option Addr) (fc bn bc : Nat) (mm : Int) (w : World) (hm : m.size ≤ 1000000000) (ht : t.size ≤ 1000000000) (hx : FldsIn w fa x) (hz : SmallF x) (hl : x.length ≤ 100) (hq : (fmtReq m t z).size ≤ 3000000000) (_hk : HdOk w mm) :
    Calls Tryd.prog 6 #[.agg #[.string m, .string t, .int .i64 z, .slice fa x.length fc, .bool fr, .slice ba bn bc]] w (RetHdP w (headB (fmtReq m t z) x)) := by
  obtain ⟨W0, hW0⟩ : ∃ W0, W0 = w.alloc (.cells #[.string m, .string t, .int .i64 z, .slice fa x.length fc, .bool fr, .slice ba bn bc] 28) := ⟨_, rfl⟩
  have HB0 := Box.mk (show Below w.heap.size w W0 by rw [hW0]; exact below_oneF w _)
  have HR := Box.mk (show W0.heap[w.heap.size]? = some (.cells #[.string m, .string t, .int .i64 z, .slice fa x.length fc, .bool fr, .slice ba bn bc] 28 (0, 0)) by rw [hW0]; exact heap_alloc_new _ _)
  have HX := Box.mk (hx.keep HB0.out)
  have HZ := Box.mk hz
  have HQ := Box.mk hq
  have HW0 := Box.mk hW0
  have row1 : ∀ w', Below W0.heap.size W0 w' → w'.heap[w.heap.size]? = some (.cells #[.string m, .string t, .int .i64 z, .slice fa x.length fc, .bool fr, .slice ba bn bc] 28 (0, 0)) := fun w' hb => by rw [hb.block _ (lt_row HR.out)]; exact HR.out
  have ROW1 := Box.mk row1
  clear hx hz hW0 hq row1
  go_enter Tryd.func6, Tryd.ntmps6
  go_wp2_with fail
  rw [← HW0.out]
  clear HW0
  rename_i K hK
  refine wp_region_local (S := [.val (.agg #[.string m, .string t, .int .i64 z, .slice fa x.length fc, .bool fr, .slice ba bn bc]), .val (.string (fmtReq m t z)), .val (.pointer (some ⟨w.heap.size, 3, none⟩)), .val (.slice fa x.length fc), .bytes (headB (fmtReq m t z) x), .bytes (headB (fmtReq m t z) x)])
    (by kernel_rfl) (by kernel_rfl) (by kernel_rfl) ?_ ?_
  · refine ⟨?_, ?_, ?_, ?_, ?_, ?_, trivial⟩ <;> intro a w3 hb hf hd
    · exact ⟨wanted_none rfl, loc_load rfl (by rw [show a.eval (.tmp 1) = .pointer (some ⟨w.heap.size, 0, none⟩) from hf.base 1 rfl]; exact run_loadReq _ _ (ROW1.out w3 hb)) rfl⟩
    · refine ⟨wanted_none rfl, loc_call rfl (by kernel_rfl) ?_⟩
      show Calls _ _ #[a.eval (.tmp 3)] w3 _
      rw [show a.eval (.tmp 3) = _ from hd 0 rfl]
      refine (projFormatReq_any m t z fa ba x.length fc bn bc fr w3 hm ht).mono ?_
      rintro e w' ⟨rfl, hb'⟩
      exact ⟨_, rfl, hb', rfl⟩
    · exact ⟨wanted_none rfl, loc_fieldR rfl (hf.base 1 rfl) (by decide) rfl⟩
    · exact ⟨wanted_none rfl, loc_cell rfl (hd 2 rfl) (by rw [cell_of_row _ _ _ _ _ _ (ROW1.out w3 hb)]; rfl) (agg_fields _) rfl⟩
    · refine ⟨wanted_none rfl, loc_call rfl (by kernel_rfl) ?_⟩
      show Calls _ _ #[a.eval (.tmp 4), a.eval (.tmp 6)] w3 _
      rw [show a.eval (.tmp 4) = _ from hd 1 rfl, show a.eval (.tmp 6) = _ from hd 3 rfl]
      refine (projFormatH_any (fmtReq m t z) x fa fc w3 (HX.out.keep hb) HZ.out hl HQ.out).mono ?_
      rintro e w' ⟨qa, qc, rfl, hqb, hb'⟩
      exact ⟨_, rfl, hb', qa, qc, rfl, hqb⟩
    · exact ⟨wanted_none rfl, loc_assign rfl (hd 4 rfl)⟩
  · intro a w3 hb hf hh
    refine hK a w3 ?_
    obtain ⟨qa, qc, hv, hqb⟩ := (show BytesV w3 (a.eval (.tmp 2)) (headB (fmtReq m t z) x) from hh 5 (by decide))
    go_wp2_with fail
    exact local_ret rfl hf.defers hv ⟨qa, qc, rfl, hqb, below_trans HB0.out hb⟩
end Go.Proofs.YtcdianojchmgpaaDoor
namespace Go.Proofs.YtcdianojchmgpaaDoor
open Go.RowKit

theorem run_loadQH (w : World) (g : Nat) (m t : ByteArray) (z : Int) (a : Option Addr) (n c : Nat) (h : QVarH w g m t z (.slice a n c)) :
    (Instr.loadAt 28 (.pointer (some ⟨g, 0, none⟩))).run Tryd.prog w = .ok (.agg #[.string m, .string t, .int .i64 z, .slice a n c, .bool false, .slice none 0 0]) w := by
  unfold QVarH at h
  simp [Instr.loadAt, Instr.sureAddr, run_loadVar_row w g _ 28 _ _ _ h Tryd.underlying28 rfl sizeR]
section
variable {Q : Exit → Act → World → Prop} {act : Act} {w : World} {o : Oper} {s : Spec}
theorem loc_eqlEH {x y : Operand} {t : TypeId} (ho : o.op = .binOp .eql 29 x y t) {n : Int} (hx : act.eval x = .int .i64 n) (hy : act.eval y = .int .i64 n) (hs : s.p (.bool true) w) :
    o.wp Tryd.prog act w (fun a' w' => ∃ v, a' = act.put o.dst v ∧ Below w.heap.size w w' ∧ s.p v w') Q :=
  loc_run (v := .bool true) (by
    unfold execOp
    simp [ho, hx, hy, eqGuard, binOp, Op.intCmp]) (Below.refl _ _) hs
theorem loc_lenH {x : Operand} (ho : o.op = .call { callee := .builtin .len, args := #[x], argTypes := #[25] }) {ad : Option Addr} {n c : Nat} (hx : act.eval x = .slice ad n c) (hs : s.p (.int .i64 n) w) :
    o.wp Tryd.prog act w (fun a' w' => ∃ v, a' = act.put o.dst v ∧ Below w.heap.size w w' ∧ s.p v w') Q :=
  loc_run (v := .int .i64 n) (by
    unfold execOp
    simp [ho, hx, resolve, invoke, builtin, Builtin.len_, run_underlying Tryd.underlying25]
    try rfl) (Below.refl _ _) hs
end
def awkL : List UInt8 := [71, 69, 84, 32, 47, 32, 72, 84, 84, 80, 47, 49, 46, 49, 13, 10, 72, 111, 115, 116, 58, 32, 97, 13, 10, 13, 10, 109, 111, 114, 101]
def awkH : List UInt8 := [71, 69, 84, 32, 47, 32, 72, 84, 84, 80, 47, 49, 46, 49, 13, 10, 72, 111, 115, 116, 58, 32, 97, 13, 10, 13, 10]
def awkF : List Fld := [(⟨#[72, 111, 115, 116]⟩, ⟨#[97]⟩)]
theorem awk_end : endS awkL 100 = (27, 0) := by decide +kernel
theorem awk_take : awkL.take 27 = awkH := by decide +kernel
theorem awk_parse : headR awkH = (0, ⟨#[71, 69, 84]⟩, ⟨#[47]⟩, 1, awkF) := by decide +kernel
theorem awk_fmt : headB (fmtReq ⟨#[71, 69, 84]⟩ ⟨#[47]⟩ 1) awkF = awkH := by decide +kernel
theorem awk_size : (fmtReq ⟨#[71, 69, 84]⟩ ⟨#[47]⟩ 1).size ≤ 100 := by decide +kernel
theorem awk_small : SmallF awkF := fun f hf => by
  obtain rfl := List.mem_singleton.1 hf; exact ⟨by decide, by decide⟩
set_option maxRecDepth 100000 in
set_option maxHeartbeats 4000000 in
theorem awakeH_any (mm : Int) (w : World) (hm : HdOk w mm) : Calls Tryd.prog 7 #[] w fun e w' => e = .returned (.bool true) ∧ Below w.heap.size w w' := by
  have kc := fun (w : World) (C : Array Value) (n c : Nat) => Lib.run_convert_bytes_const (P := Tryd.prog) w 26 5 C n c Tryd.underlying26 Tryd.underlying5
  have HM := Box.mk hm
  clear hm
  go_enter Tryd.func7, Tryd.ntmps7
  go_wp2_with fail
  clear kc
  obtain ⟨W1, hW1⟩ : ∃ W1, W1 = w.alloc (.cells (bytesV awkL).toArray 5 (31, 32)) := ⟨_, rfl⟩
  have HB1 := Box.mk (show Below w.heap.size w W1 by rw [hW1]; exact below_oneF w _)
  have HBY := Box.mk (show IsBytes W1 (some ⟨w.heap.size, 0, none⟩) awkL 31 by rw [hW1]; exact row_bytesH (heap_alloc_new w (.cells (bytesV awkL).toArray 5 (31, 32))) (by decide))
  change Calls _ _ _ (w.alloc (.cells (bytesV awkL).toArray 5 (31, 32))) _
  rw [← hW1]
  clear hW1
  refine (projEnd_any awkL (some ⟨w.heap.size, 0, none⟩) 31 100 mm W1 HBY.out (by decide) (HM.out.keep HB1.out)).mono ?_
  rintro e w2 ⟨he, hb2⟩
  rw [awk_end] at he
  simp only [] at he
  subst he
  have HB2 := Box.mk (below_trans HB1.out hb2)
  have HBY2 := Box.mk (HBY.out.keep hb2)
  clear hb2 HBY HB1
  go_wp2_with fail
  refine (projHeadReq_any awkH (some ⟨w.heap.size, 0, none⟩) 31 mm _ (by have := isBytes_takeH HBY2.out 27; rw [awk_take] at this; exact this) (by decide) (HM.out.keep HB2.out)).mono ?_
  rintro e w3 ⟨fa, fc, he, hf, hb3⟩
  rw [awk_parse] at he hf
  simp only [] at he hf
  subst he
  have HB3 := Box.mk (below_trans HB2.out hb3)
  have HBY3 := Box.mk (HBY2.out.keep hb3)
  have HF3 := Box.mk hf
  clear hb3 hf HB2 HBY2
  go_wp2_with fail
  obtain ⟨W4, hW4⟩ : ∃ W4, W4 = w3.alloc (.cells #[.string ⟨#[71, 69, 84]⟩, .string ⟨#[47]⟩, .int .i64 1, .slice fa awkF.length fc, .bool false, .slice none 0 0] 28) := ⟨_, rfl⟩
  have hb4 : Below w3.heap.size w3 W4 := by rw [hW4]; exact below_oneF w3 _
  have HB4 := Box.mk (below_trans HB3.out hb4)
  have HQ4 := Box.mk (show QVarH W4 w3.heap.size ⟨#[71, 69, 84]⟩ ⟨#[47]⟩ 1 (.slice fa awkF.length fc) by rw [hW4]; exact heap_alloc_new _ _)
  have HBY4 := Box.mk (show IsBytes W4 (some ⟨w.heap.size, 0, none⟩) awkH 31 by have := isBytes_takeH (HBY3.out.keep hb4) 27; rw [awk_take] at this; exact this)
  have HF4 := Box.mk (HF3.out.keep hb4)
  change Code.wp _ _ _ _ (w3.alloc (.cells #[.string ⟨#[71, 69, 84]⟩, .string ⟨#[47]⟩, .int .i64 1, .slice fa awkF.length fc, .bool false, .slice none 0 0] 28))
  rw [← hW4]
  clear hW4 hb4 HB3 HF3 HBY3
  rename_i K hK
  refine wp_region_local (S := [.val (.int .i64 0), .val (.bool true), .val (.bool true), .val (.pointer (some ⟨w3.heap.size, 0, none⟩)), .val (.string ⟨#[71, 69, 84]⟩), .val (.bool true), .val (.bool true), .val (.bool true),
    .val (.pointer (some ⟨w3.heap.size, 3, none⟩)), .val (.slice fa awkF.length fc), .val (.int .i64 awkF.length), .val (.bool true), .val (.bool true), .val (.bool true),
    .val (.agg #[.string ⟨#[71, 69, 84]⟩, .string ⟨#[47]⟩, .int .i64 1, .slice fa awkF.length fc, .bool false, .slice none 0 0]), .bytes awkH, .val (.string ⟨awkH.toArray⟩),
    .val (.slice (some ⟨w.heap.size, 0, none⟩) 31 31), .val (.int .i64 27), .val (.slice (some ⟨w.heap.size, 0, none⟩) 27 31), .val (.string ⟨awkH.toArray⟩), .val (.bool true), .val (.bool true), .val (.bool true)])
    (by kernel_rfl) (by kernel_rfl) (by kernel_rfl) ?_ ?_
  · refine ⟨?_, ?_, ?_, ?_, ?_, ?_, ?_, ?_, ?_, ?_, ?_, ?_, ?_, ?_, ?_, ?_, ?_, ?_, ?_, ?_, ?_, ?_, ?_, ?_, trivial⟩ <;> intro a1 w7 hb hf hd
    · exact ⟨wanted_none rfl, loc_move rfl (hf.base 5 rfl)⟩
    · exact ⟨wanted_none rfl, loc_eqlEH rfl (hd 0 rfl) rfl rfl⟩
    · exact ⟨wanted_none rfl, loc_move rfl (hd 1 rfl)⟩
    · exact ⟨wanted_true rfl rfl (hd 2 rfl), loc_fieldR rfl (hf.base 4 rfl) (by decide) rfl⟩
    · exact ⟨wanted_true rfl rfl (hd 2 rfl), loc_cell rfl (hd 3 rfl) (by rw [cell_of_row _ _ _ _ _ _ (HQ4.out.keep hb)]; rfl) (agg_string _) rfl⟩
    · exact ⟨wanted_true rfl rfl (hd 2 rfl), loc_eql_str rfl (hd 4 rfl) rfl rfl⟩
    · exact ⟨wanted_none rfl, loc_pick rfl (hd 2 rfl) (hd 5 rfl)⟩
    · exact ⟨wanted_none rfl, loc_move rfl (hd 6 rfl)⟩
    · exact ⟨wanted_true rfl rfl (hd 7 rfl), loc_fieldR rfl (hf.base 4 rfl) (by decide) rfl⟩
    · exact ⟨wanted_true rfl rfl (hd 7 rfl), loc_cell rfl (hd 8 rfl) (by rw [cell_of_row _ _ _ _ _ _ (HQ4.out.keep hb)]; rfl) (agg_fields _) rfl⟩
    · exact ⟨wanted_true rfl rfl (hd 7 rfl), loc_lenH rfl (hd 9 rfl) rfl⟩
    · exact ⟨wanted_true rfl rfl (hd 7 rfl), loc_eql_int rfl (hd 10 rfl) rfl rfl⟩
    · exact ⟨wanted_none rfl, loc_pick rfl (hd 7 rfl) (hd 11 rfl)⟩
    · exact ⟨wanted_none rfl, loc_move rfl (hd 12 rfl)⟩
    · exact ⟨wanted_true rfl rfl (hd 13 rfl), loc_load rfl (by rw [show a1.eval (.tmp 4) = _ from hf.base 4 rfl]; exact run_loadQH _ _ _ _ _ _ _ _ (HQ4.out.keep hb)) rfl⟩
    · refine ⟨wanted_true rfl rfl (hd 13 rfl), loc_call rfl (by kernel_rfl) ?_⟩
      show Calls _ _ #[a1.eval (.tmp 40)] w7 _
      rw [show a1.eval (.tmp 40) = _ from hd 14 rfl]
      refine (projFmtReq_any ⟨#[71, 69, 84]⟩ ⟨#[47]⟩ 1 false awkF fa none fc 0 0 mm w7 (by decide) (by decide) (HF4.out.keep hb) awk_small (by decide) (Nat.le_trans awk_size (by decide)) (HM.out.keep (below_trans HB4.out hb))).mono ?_
      rintro e w' ⟨qa, qc, rfl, hqb, hb'⟩
      rw [awk_fmt] at hqb ⊢
      exact ⟨_, rfl, hb', qa, qc, rfl, hqb⟩
    · exact ⟨wanted_true rfl rfl (hd 13 rfl), loc_string rfl (hd 15 rfl) rfl⟩
    · exact ⟨wanted_true rfl rfl (hd 13 rfl), loc_move rfl (hf.base 1 rfl)⟩
    · exact ⟨wanted_true rfl rfl (hd 13 rfl), loc_move rfl (hf.base 2 rfl)⟩
    · exact ⟨wanted_true rfl rfl (hd 13 rfl), loc_uptoH rfl (hd 17 rfl) (hd 18 rfl) (by decide) (by decide) rfl⟩
    · exact ⟨wanted_true rfl rfl (hd 13 rfl), loc_string rfl (by rw [show a1.eval (.tmp 45) = _ from hd 19 rfl]; exact ⟨_, 31, rfl, HBY4.out.keep hb⟩) rfl⟩
    · exact ⟨wanted_true rfl rfl (hd 13 rfl), loc_eql_str rfl (hd 16 rfl) (hd 20 rfl) rfl⟩
    · exact ⟨wanted_none rfl, loc_pick rfl (hd 13 rfl) (hd 21 rfl)⟩
    · exact ⟨wanted_none rfl, loc_assign rfl (hd 22 rfl)⟩
  · intro a1 w7 hb hf hh
    refine hK a1 w7 ?_
    go_wp2_with fail
    exact local_ret rfl hf.defers (show a1.eval (.tmp 0) = .bool true from hh 23 (by decide)) ⟨rfl, below_trans HB4.out hb⟩
end Go.Proofs.YtcdianojchmgpaaDoor
namespace Go.Proofs.YtcdianojchmgpaaDoor
open Go.RowKit

theorem endGo_cons (i : Nat) (x : UInt8) (r : List UInt8) : endGo i (x :: r) = if (x :: r).take 4 = crlf2 then ((i + 4 : Nat) : Int) else endGo (i + 1) r := by rw [endGo]
end Go.Proofs.YtcdianojchmgpaaDoor
namespace Go.Proofs.YtcdianojchmgpaaDoor
open Go.RowKit

theorem QVarH.all {w : World} {g : Nat} {m t : ByteArray} {z : Int} {v : Value} (h : QVarH w g m t z v) : g < w.heap.size ∧ w.cell? ⟨g, 0, none⟩ = some (.string m) ∧ w.cell? ⟨g, 1, none⟩ = some (.string t) ∧ w.cell? ⟨g, 2, none⟩ = some (.int .i64 z) ∧ w.cell? ⟨g, 3, none⟩ = some v ∧ w.cell? ⟨g, 4, none⟩ = some (.bool false) ∧ w.cell? ⟨g, 5, none⟩ = some (.slice none 0 0) := by
  refine ⟨(Array.getElem?_eq_some_iff.1 h).1, ?_, ?_, ?_, ?_, ?_, ?_⟩ <;> rw [cell_of_row _ _ _ _ _ _ h] <;> rfl
end Go.Proofs.YtcdianojchmgpaaDoor
namespace Go.Proofs.YtcdianojchmgpaaDoor
open Go.RowKit

theorem tok_no_colon {n : ByteArray} (h : tokS n = true) : ∀ c ∈ n.data.toList, c ≠ 58 := fun c hc => by
  unfold tokS at h
  simp only [Bool.and_eq_true] at h
  have h1 := List.all_eq_true.1 h.1 c hc
  intro e
  subst e
  have : tokB 58 = false := by decide +kernel
  rw [this] at h1; cases h1
theorem val_trim {v : ByteArray} (h : valS v = true) : trimBA v = v := by
  unfold valS at h
  simp only [Bool.and_eq_true] at h
  have h2 := h.2
  rw [toList_eq] at h2
  exact of_decide_eq_true h2
/-- The line of a valid field is parsed to the field. -/
theorem parse_line (n v P : ByteArray) (hn : tokS n = true) (hv : valS v = true) (hP : P.data.toList = n.data.toList ++ 58 :: 32 :: v.data.toList) : parseF P = some (n, v) := by
  have hnl : n.data.toList.length = n.size := by rw [Array.length_toList]; rfl
  have hsz : P.size = n.size + (2 + v.data.toList.length) := by
    have : P.size = P.data.toList.length := by rw [Array.length_toList]; rfl
    rw [this, hP, List.length_append, hnl]; simp; omega
  have hlt : n.size < P.size := by omega
  have hat : P.data.toList[n.size]? = some 58 := by
    rw [hP, List.getElem?_append_right (by omega), hnl, Nat.sub_self]; rfl
  have hc : colonI P = (n.size : Int) := by
    refine colonI_at P n.size hlt ?_ (fun j hj => ?_)
    · have h2 : P.data.toList[n.size]? = some P[n.size] := by
        rw [List.getElem?_eq_getElem (by simpa using hlt)]; rfl
      rw [hat] at h2
      exact (Option.some.inj h2).symm
    · rw [hP, List.getElem?_append_left (by omega)]
      intro e
      exact tok_no_colon hn 58 (List.mem_of_getElem? e) rfl
  rw [parseF_at hc]
  have e1 : P.extract 0 n.size = n := ba_ext (by
    rw [extract_ofL]
    show (ofL _).data.toList = _
    simp only [ofL, List.drop_zero, Nat.sub_zero, hP]
    rw [List.take_left' hnl])
  have e2 : trimBA (P.extract (n.size + 1) P.size) = v := by
    rw [← val_trim hv]
    refine ba_ext ?_
    rw [trimBA_list, trimBA_list, extract_ofL]
    have e3 : (P.data.toList.drop (n.size + 1)).take (P.size - (n.size + 1)) = 32 :: v.data.toList := by
      rw [hP, show n.size + 1 = n.data.toList.length + 1 by omega, List.drop_append, List.drop_of_length_le (by omega), Nat.add_sub_cancel_left, List.nil_append]
      show List.take _ (32 :: v.data.toList) = _
      exact List.take_of_length_le (by rw [List.length_cons]; omega)
    show trimL (ofL ((P.data.toList.drop (n.size + 1)).take (P.size - (n.size + 1)))).data.toList = _
    rw [e3]
    show trimL (32 :: v.data.toList) = _
    rw [trimL_front _ 32 (by decide)]
  rw [e1, e2, if_pos (by unfold fldB; rw [hn, hv]; rfl)]

end Go.Proofs.YtcdianojchmgpaaDoor
namespace Go.Proofs.YtcdianojchmgpaaDoor
open Go.RowKit

/-- No CR and no LF. -/
def noCL (l : List UInt8) : Prop := ∀ c ∈ l, ¬ c = 13 ∧ ¬ c = 10
theorem noCL.app {a b : List UInt8} (ha : noCL a) (hb : noCL b) : noCL (a ++ b) := fun c hc => by
  rcases List.mem_append.1 hc with h | h
  · exact ha c h
  · exact hb c h
theorem lines_word : ∀ (l cur r : List UInt8), noCL l → linesGo cur (l ++ 13 :: 10 :: r) = (linesGo [] r).map (⟨(cur ++ l).toArray⟩ :: ·)
  | [], cur, r, _ => by
    rw [List.nil_append, lines_more (by decide) (fun _ => rfl), lines_end (by simp), List.dropLast_concat, List.append_nil]
  | c :: l, cur, r, h => by
    have hc := h c (List.mem_cons_self ..)
    rw [List.cons_append, lines_more hc.2 (fun e => absurd e hc.1), lines_word l (cur ++ [c]) r (fun x hx => h x (List.mem_cons_of_mem _ hx)), List.append_assoc]
    rfl
def wordsB (ws : List (List UInt8)) : List UInt8 := ws.flatMap (· ++ [13, 10])
theorem wordsB_cons (w : List UInt8) (ws : List (List UInt8)) : wordsB (w :: ws) = w ++ 13 :: 10 :: wordsB ws := by
  unfold wordsB; rw [List.flatMap_cons, List.append_assoc]; rfl
theorem lines_words : ∀ ws : List (List UInt8), (∀ w ∈ ws, noCL w) → linesGo [] (wordsB ws) = some (ws.map fun w => (⟨w.toArray⟩ : ByteArray))
  | [], _ => by rw [show wordsB [] = [] from rfl, lines_nil]; rfl
  | w :: ws, h => by
    rw [wordsB_cons, lines_word w [] _ (h w (List.mem_cons_self ..)), lines_words ws (fun x hx => h x (List.mem_cons_of_mem _ hx))]
    rfl
theorem endGo_word : ∀ (l r : List UInt8) (i : Nat), noCL l → endGo i (l ++ r) = endGo (i + l.length) r
  | [], r, i, _ => rfl
  | c :: l, r, i, h => by
    have hc := h c (List.mem_cons_self ..)
    rw [List.cons_append, endGo_cons, if_neg (fun e => by
      have := congrArg List.head? e
      rw [List.take_succ_cons] at this
      exact hc.1 (Option.some.inj this)), endGo_word l r (i + 1) (fun x hx => h x (List.mem_cons_of_mem _ hx)), List.length_cons, show i + 1 + l.length = i + (l.length + 1) by omega]
theorem end_words : ∀ (ws : List (List UInt8)) (i : Nat), ¬ ws = [] → (∀ w ∈ ws, noCL w ∧ ¬ w = []) → endGo i (wordsB ws ++ [13, 10]) = ((i + (wordsB ws).length + 2 : Nat) : Int)
  | [], _, h, _ => absurd rfl h
  | w :: ws, i, _, h => by
    have hw := h w (List.mem_cons_self ..)
    have e : wordsB (w :: ws) ++ [13, 10] = w ++ 13 :: 10 :: (wordsB ws ++ [13, 10]) := by rw [wordsB_cons, List.append_assoc]; rfl
    have hl : (wordsB (w :: ws)).length = w.length + 2 + (wordsB ws).length := by rw [wordsB_cons, List.length_append, List.length_cons, List.length_cons]; omega
    rw [e, endGo_word w _ i hw.1, hl]
    cases ws with
    | nil =>
      rw [show wordsB [] = [] from rfl, List.nil_append, endGo_cons, if_pos (show List.take 4 [13, 10, 13, 10] = crlf2 from rfl)]
      rw [List.length_nil]
      omega
    | cons v vs =>
      have hv := h v (List.mem_cons_of_mem _ (List.mem_cons_self ..))
      obtain ⟨c, v', rfl⟩ : ∃ c v', v = c :: v' := by
        cases v with
        | nil => exact absurd rfl hv.2
        | cons c v' => exact ⟨c, v', rfl⟩
      have hc := hv.1 c (List.mem_cons_self ..)
      have hn : wordsB ((c :: v') :: vs) ++ [13, 10] = c :: (v' ++ 13 :: 10 :: (wordsB vs ++ [13, 10])) := by rw [wordsB_cons, List.append_assoc]; rfl
      have ih := end_words ((c :: v') :: vs) (i + w.length + 2) (by simp) (fun x hx => h x (List.mem_cons_of_mem _ hx))
      rw [endGo_cons, if_neg (fun e => by
        rw [hn] at e
        have := congrArg (fun l => l[2]?) e
        simp only [List.take_succ_cons, crlf2] at this
        exact hc.1 (Option.some.inj this)), endGo_cons, if_neg (fun e => by
        have := congrArg List.head? e
        rw [List.take_succ_cons] at this
        have h2 := Option.some.inj this
        revert h2; decide), show i + w.length + 1 + 1 = i + w.length + 2 by omega, ih]
      omega
theorem linesS_words (ws : List (List UInt8)) (h0 : ¬ ws = []) (h : ∀ w ∈ ws, noCL w ∧ ¬ w = []) : linesS (wordsB ws ++ [13, 10]) = some (ws.map fun w => (⟨w.toArray⟩ : ByteArray)) := by
  have e : wordsB ws ++ [13, 10] = wordsB (ws ++ [[]]) := by unfold wordsB; rw [List.flatMap_append]; rfl
  have h1 := end_words ws 0 h0 h
  have h2 : endGo 0 (wordsB ws ++ [13, 10]) = ((0 + (wordsB ws ++ [13, 10]).length : Nat) : Int) := by
    rw [h1, List.length_append, List.length_cons, List.length_cons, List.length_nil]; omega
  have h3 := end_suffix _ 0 h2
  unfold linesS endZ
  rw [if_pos ⟨by rw [h2, Nat.zero_add], h3.1⟩, e, lines_words (ws ++ [[]]) (fun w hw => by
    rcases List.mem_append.1 hw with hw | hw
    · exact (h w hw).1
    · obtain rfl := List.mem_singleton.1 hw
      exact fun c hc => absurd hc (by simp)), Option.map_some, List.map_append, List.map_cons, List.map_nil, List.dropLast_concat]
def lineW (f : Fld) : List UInt8 := f.1.data.toList ++ [58, 32] ++ f.2.data.toList
theorem linesB_words : ∀ x : List Fld, linesB x = wordsB (x.map lineW)
  | [] => rfl
  | f :: r => by
    have ih := linesB_words r
    unfold linesB at ih ⊢
    rw [List.flatMap_cons, List.map_cons, wordsB_cons, ← ih]
    unfold lineB lineW
    simp
theorem tok_noCL {m : ByteArray} (h : tokS m = true) : noCL m.data.toList := fun c hc => by
  unfold tokS at h
  rw [Bool.and_eq_true] at h
  have h1 := List.all_eq_true.1 h.1 c hc
  constructor
  · rintro rfl; revert h1; decide +kernel
  · rintro rfl; revert h1; decide +kernel
theorem targ_noCL {m : ByteArray} (h : targetS m = true) : noCL m.data.toList := fun c hc => by
  unfold targetS at h
  rw [Bool.and_eq_true] at h
  have h1 := List.all_eq_true.1 h.1 c hc
  constructor
  · rintro rfl; revert h1; decide +kernel
  · rintro rfl; revert h1; decide +kernel
theorem vis_noCL {m : ByteArray} (h : visS m = true) : noCL m.data.toList := fun c hc => by
  unfold visS at h
  have h1 := List.all_eq_true.1 h c hc
  constructor
  · rintro rfl; revert h1; decide +kernel
  · rintro rfl; revert h1; decide +kernel
def noCLb (l : List UInt8) : Bool := l.all fun c => !(c == 13) && !(c == 10)
theorem noCLb_ok {l : List UInt8} (h : noCLb l = true) : noCL l := fun c hc => by
  have := List.all_eq_true.1 h c hc
  simpa using this
theorem num_noCL {z : Int} (h0 : 0 ≤ z) (h1 : z ≤ 599) : noCL (fmtS 10 z).data.toList := by
  obtain ⟨k, rfl⟩ : ∃ k : Nat, z = k := ⟨z.toNat, by omega⟩
  have hk : k < 600 := by omega
  have h : ∀ m : Fin 600, noCLb (fmtS 10 (m.val : Int)).data.toList = true := by decide +kernel
  exact noCLb_ok (h ⟨k, hk⟩)
theorem nonempty_ba {s : ByteArray} (h : 0 < s.size) : ¬ s.data.toList = [] := fun e => by
  have h1 := congrArg List.length e
  rw [Array.length_toList, List.length_nil] at h1
  have h2 : s.data.size = s.size := rfl
  omega
theorem lineW_ok {f : Fld} (h : fldB f.1 f.2 = true) : noCL (lineW f) ∧ ¬ lineW f = [] := by
  unfold fldB at h
  rw [Bool.and_eq_true] at h
  have hv := h.2
  unfold valS at hv
  rw [Bool.and_eq_true] at hv
  refine ⟨((tok_noCL h.1).app (noCLb_ok (by decide))).app (vis_noCL hv.1), fun e => ?_⟩
  have h1 := congrArg List.length e
  unfold lineW at h1
  simp at h1
theorem fieldsGo_words : ∀ x : List Fld, allB x = true → fieldsGo (x.map fun f => (⟨(lineW f).toArray⟩ : ByteArray)) = some x
  | [], _ => rfl
  | f :: r, h => by
    have h0 := h
    unfold allB at h0
    rw [List.all_cons, Bool.and_eq_true] at h0
    have hf := h0.1
    unfold fldB at hf
    rw [Bool.and_eq_true] at hf
    have hp : parseF (⟨(lineW f).toArray⟩ : ByteArray) = some f := parse_line f.1 f.2 _ hf.1 hf.2 (by show lineW f = _; unfold lineW; simp)
    rw [List.map_cons]
    unfold fieldsGo
    rw [hp]
    simp only []
    rw [fieldsGo_words r h0.2]; rfl
theorem fieldsS_words {x : List Fld} (h : allB x = true) : fieldsS (x.map fun f => (⟨(lineW f).toArray⟩ : ByteArray)) = if 64 < x.length then (3, []) else (0, x) := by
  unfold fieldsS
  rw [List.length_map, fieldsGo_words x h]
theorem linesS_head {s : ByteArray} {x : List Fld} (hs : noCL s.data.toList) (h0 : 0 < s.size) (hx : allB x = true) : linesS (headB s x) = some (s :: x.map fun f => (⟨(lineW f).toArray⟩ : ByteArray)) := by
  have e : headB s x = wordsB (s.data.toList :: x.map lineW) ++ [13, 10] := by
    rw [headB_yes (by omega) hx, wordsB_cons, linesB_words x]
    simp
  rw [e, linesS_words _ (by simp) (fun w hw => by
    rcases List.mem_cons.1 hw with rfl | hw
    · exact ⟨hs, nonempty_ba h0⟩
    · obtain ⟨f, hf, rfl⟩ := List.mem_map.1 hw
      unfold allB at hx
      exact lineW_ok (List.all_eq_true.1 hx f hf)), List.map_cons, List.map_map]
  rfl
theorem fmtReq_line {m t : ByteArray} {z : Int} (hm : tokS m = true) (ht : targetS t = true) (hz : z = 0 ∨ z = 1) : noCL (fmtReq m t z).data.toList ∧ 0 < (fmtReq m t z).size := by
  unfold fmtReq
  rw [if_pos ⟨hm, ht, by omega, by omega⟩]
  refine ⟨?_, by simp only [ByteArray.size_append]; have e1 : http1.size = 8 := rfl; omega⟩
  rw [ba_app_list, ba_app_list, ba_app_list, ba_app_list]
  exact ((((tok_noCL hm).app (noCLb_ok (by decide))).app (targ_noCL ht)).app (noCLb_ok (by decide))).app (num_noCL (by omega) (by omega))
theorem headR_made {m t : ByteArray} {z : Int} {x : List Fld} (hm : tokS m = true) (ht : targetS t = true) (hz : z = 0 ∨ z = 1) (hx : allB x = true) :
    headR (headB (fmtReq m t z) x) = if 64 < x.length then (3, ⟨#[]⟩, ⟨#[]⟩, 0, []) else if 1 < (valuesL x hostN).length ∨ ((valuesL x hostN).length = 0 ∧ z = 1) then (2, ⟨#[]⟩, ⟨#[]⟩, 0, []) else (0, m, t, z, x) := by
  obtain ⟨h1, h2⟩ := fmtReq_line hm ht hz
  have h3 := linesS_head h1 h2 hx
  have h4 := twice_req hm ht hz
  have h5 := fieldsS_words hx
  unfold headR
  rw [h3]
  simp only []
  rw [h4]
  simp only []
  rw [h5]
  by_cases h64 : 64 < x.length
  · simp only [if_pos h64]; rfl
  · simp only [if_neg h64]; rfl
end Go.Proofs.YtcdianojchmgpaaDoor
namespace Go.Proofs.YtcdianojchmgpaaDoor
open Go.RowKit

def hostA : Fld := (⟨#[72, 111, 115, 116]⟩, ⟨#[97]⟩)
def abF : Fld := (⟨#[65]⟩, ⟨#[98]⟩)
def manyF (k : Nat) : List Fld := hostA :: List.replicate k abF
theorem manyF_snoc (k : Nat) : manyF k ++ [abF] = manyF (k + 1) := by
  unfold manyF; rw [List.replicate_succ', List.cons_append]
theorem manyF_len (k : Nat) : (manyF k).length = k + 1 := by unfold manyF; rw [List.length_cons, List.length_replicate]
theorem manyF_mem {k : Nat} {f : Fld} (h : f ∈ manyF k) : f = hostA ∨ f = abF := by
  unfold manyF at h
  rcases List.mem_cons.1 h with h | h
  · exact .inl h
  · exact .inr (List.eq_of_mem_replicate h)
theorem manyF_ok (k : Nat) : allB (manyF k) = true := allB_yes fun f hf => by
  rcases manyF_mem hf with rfl | rfl
  · decide +kernel
  · decide +kernel
theorem manyF_tiny (k : Nat) : SmallF (manyF k) := fun f hf => by
  rcases manyF_mem hf with rfl | rfl
  · exact ⟨by decide, by decide⟩
  · exact ⟨by decide, by decide⟩
theorem valuesL_app2 (x y : List Fld) (n : ByteArray) : valuesL (x ++ y) n = valuesL x n ++ valuesL y n := by
  unfold valuesL; rw [List.filter_append, List.map_append]
theorem manyF_host : ∀ k, (valuesL (manyF k) hostN).length = 1
  | 0 => by decide +kernel
  | k + 1 => by
    rw [← manyF_snoc, valuesL_app2, List.length_append, manyF_host k]
    have : (valuesL [abF] hostN).length = 0 := by decide +kernel
    rw [this]
def getS : ByteArray := ⟨#[71, 69, 84]⟩
def oneSlash : ByteArray := ⟨#[47]⟩
theorem many_head (k : Nat) : headR (headB (fmtReq getS oneSlash 1) (manyF k)) = if 64 < k + 1 then (3, ⟨#[]⟩, ⟨#[]⟩, 0, []) else (0, getS, oneSlash, 1, manyF k) := by
  rw [headR_made (by decide +kernel) (by decide +kernel) (.inr rfl) (manyF_ok k), manyF_len, manyF_host]
  rw [if_neg (show ¬ (1 < 1 ∨ 1 = 0 ∧ (1 : Int) = 1) by omega)]
theorem many_bytes (k : Nat) (h : k ≤ 99) : (headB (fmtReq getS oneSlash 1) (manyF k)).length ≤ 3000000 := by
  have h0 : ¬ (fmtReq getS oneSlash 1).size = 0 := by decide +kernel
  have h1 : (fmtReq getS oneSlash 1).data.toList.length ≤ 100 := by decide +kernel
  rw [headB_yes h0 (manyF_ok k)]
  have h2 : (linesB (manyF k)).length ≤ 9 + 6 * k := by
    unfold linesB manyF
    rw [List.flatMap_cons, List.length_append]
    have e1 : (lineB hostA).length = 9 := by decide
    have e2 : ∀ n, ((List.replicate n abF).flatMap lineB).length = 6 * n := fun n => by
      induction n with
      | zero => rfl
      | succ n ih => rw [List.replicate_succ, List.flatMap_cons, List.length_append, ih]; have : (lineB abF).length = 6 := by decide
                     omega
    rw [e1, e2]; omega
  simp only [List.length_append, List.length_cons, List.length_nil]
  omega
theorem OwnF.apart {B g : Nat} {w : World} {v : Value} {l : List Fld} {cs : Array Value} {fz : Nat × Nat} (h : OwnF B w v l) (hg : w.heap[g]? = some (.cells cs 28 fz)) : ∀ k, v.ownBlock = some k → k ≠ g := by
  rintro k hk rfl
  obtain ⟨_, h2⟩ := h
  rcases h2 with ⟨rfl, _⟩ | ⟨q, cap, cur, rfl, _, hq, _⟩
  · cases hk
  · cases hk
    rw [hg] at hq
    have h3 := Option.some.inj hq
    injection h3 with _ h4 _
    exact absurd h4 (by decide)
theorem OwnF.shapeF {B : Nat} {w : World} {a : Option Addr} {n c : Nat} {l : List Fld} (h : OwnF B w (.slice a n c) l) : FldsIn w a l := by
  obtain ⟨a', c', e, h1, _⟩ := h.shape
  cases e
  exact h1.1
def lenC : Option Value → Nat
  | some (.slice _ n _) => n
  | _ => 0
/-- The request on the way: its variable at g with the fields so far. -/
def ManyJ (w : World) (g : Nat) (k : Nat) (W : World) : Prop :=
  ∃ a c, OwnF w.heap.size W (.slice a (manyF k).length c) (manyF k) ∧ W.heap[g]? = some (.cells #[.string getS, .string oneSlash, .int .i64 1, .slice a (manyF k).length c, .bool false, .slice none 0 0] 28 (0, 0)) ∧ Below w.heap.size w W ∧ w.heap.size ≤ g
set_option maxRecDepth 100000 in
set_option maxHeartbeats 4000000 in
theorem headMany_any (n : Int) (mm : Int) (w : World) (hm : HdOk w mm) :
    Calls Tryd.prog 3 #[.int .i64 n] w fun e w' => e = .returned (.bool true) ∧ Below w.heap.size w w' := by
  have HM := Box.mk hm
  clear hm
  obtain ⟨k, hk, hwk⟩ := withI_range n 100 (by decide) (by decide)
  have HWK := Box.mk hwk
  clear hwk
  go_enter Tryd.func3, Tryd.ntmps3
  go_wp2_with fail
  refine (withinF n 100 _ (by decide) (by decide)).mono ?_
  rintro e w1 ⟨he, hww⟩
  rw [HWK.out] at he
  subst he hww
  go_wp2_with fail
  obtain ⟨W0, hW0⟩ : ∃ W0, W0 = (w1.alloc (.cells #[.string ⟨#[72, 111, 115, 116]⟩, .string ⟨#[97]⟩] 24)).alloc (.cells #[.string ⟨#[71, 69, 84]⟩, .string ⟨#[47]⟩, .int .i64 1, .slice (some ⟨w1.heap.size, 0, none⟩) 1 1, .bool false, .slice none 0 0] 28) := ⟨_, rfl⟩
  have HJ := Box.mk (show ManyJ w1 (w1.heap.size + 1) 0 W0 by
    have h1 := heap_alloc_new (w1.alloc (.cells #[.string ⟨#[72, 111, 115, 116]⟩, .string ⟨#[97]⟩] 24)) (.cells #[.string ⟨#[71, 69, 84]⟩, .string ⟨#[47]⟩, .int .i64 1, .slice (some ⟨w1.heap.size, 0, none⟩) 1 1, .bool false, .slice none 0 0] 28)
    rw [World.size_alloc, ← hW0] at h1
    have hb := below_twoF (below_oneF w1 (.cells #[.string ⟨#[72, 111, 115, 116]⟩, .string ⟨#[97]⟩] 24)) (.cells #[.string ⟨#[71, 69, 84]⟩, .string ⟨#[47]⟩, .int .i64 1, .slice (some ⟨w1.heap.size, 0, none⟩) 1 1, .bool false, .slice none 0 0] 28)
    have h2 : W0.heap[w1.heap.size]? = some (.cells #[.string ⟨#[72, 111, 115, 116]⟩, .string ⟨#[97]⟩] 24 (0, 0)) := by
      rw [hW0]
      exact ((below_oneF (w1.alloc (.cells #[.string ⟨#[72, 111, 115, 116]⟩, .string ⟨#[97]⟩] 24)) _).block _ (by rw [World.size_alloc]; omega)).trans (heap_alloc_new _ _)
    rw [← hW0] at hb
    exact ⟨some ⟨w1.heap.size, 0, none⟩, 1, ⟨rfl, .inr ⟨w1.heap.size, 1, _, rfl, Nat.le_refl _, h2, Nat.le_refl _, by decide, rfl, rfl⟩⟩, h1, hb, Nat.le_succ _⟩)
  rw [← hW0]
  clear hW0
  generalize hg : w1.heap.size + 1 = g at *
  have HG := Box.mk hg
  clear hg
  go_loopw [] (fun wr => ∃ j : Nat, j ≤ k ∧ Box (ManyJ w1 g j wr)) (fun wr => k + 1 - lenC (wr.cell? ⟨g, 3, none⟩))
  case atStart => exact ⟨0, Nat.zero_le _, HJ⟩
  case round =>
    clear HJ
    obtain ⟨j, hj, HJ⟩ := hrel
    obtain ⟨a, c, hown, hrow, hb, hge⟩ := HJ.out
    obtain ⟨hlt, hc0, hc1, hc2, hc3, hc4, hc5⟩ := row_cells6 hrow
    have HO := Box.mk hown
    have HR := Box.mk hrow
    have HB := Box.mk hb
    have hlen := manyF_len j
    have HL := Box.mk hlen
    by_cases hjk : j < k
    · have h1 : (manyF j).length < 1 + k := by omega
      have HAP := Box.mk (OwnF.apart hown hrow)
      have hszB := hb.size
      clear hown hrow hb HJ hlen
      go_wp2_with (at_builtin; refine wpList_append_ownf _ rfl _ _ rfl rfl (HO.out.keep ((Below.refl _ _).alloc (Nat.le_refl _) _)) rfl (y := abF) ?c1 ?c2 (by have := HL.out; omega) (by simp; omega) ?c3)
      case c1 => simp [abF]
      case c2 => simp [abF]
      case c3 =>
        intro v' w3 hown3 hgrow
        have hgrow2 : wr.grownBy w3 (Value.slice a (manyF j).length c).ownBlock := ⟨hgrow.os, hgrow.tape, hgrow.output, Nat.le_trans (by simp) hgrow.size, fun k hk hne => by
          rw [hgrow.block k (by simp; omega) hne]
          exact (below_oneF wr _).block k hk⟩
        have hrow3 := (hgrow2.block g hlt (fun e => HAP.out g e.symm rfl)).trans HR.out
        have HB3 := Box.mk (HB.out.grown hgrow2 hszB (fun q e => (HO.out.lt e).1))
        rw [manyF_snoc] at hown3
        obtain ⟨a3, c3, rfl, -, -⟩ := hown3.shape
        have HO3 := Box.mk hown3
        have HA3 := Box.mk (OwnF.apart hown3 hrow3)
        have HR3 := Box.mk hrow3
        have hcc3 : w3.cell? ⟨g, 3, none⟩ = some (.slice a (manyF j).length c) := by rw [cell_of_row _ _ _ _ _ _ hrow3]; rfl
        have hff3 : w3.frozen? ⟨g, 3, none⟩ = false := frozen_of_row w3 g 3 _ _ hrow3
        have HL3 := Box.mk (manyF_len (j + 1))
        have HR0 := Box.mk HR.out
        clear hown3 hgrow hgrow2 hrow3 hc0 hc1 hc2 hc3 hc4 hc5 HO HR HB HAP
        go_wp2_with fail
        go_roundw
        case rel =>
          refine ⟨j + 1, by omega, ⟨a3, c3, ?_, ?_, ?_, hge⟩⟩
          · exact OwnF.same HO3.out (fun q hq => heap_setCell_other _ _ _ _ (HA3.out q hq))
          · rw [heap_setCell_same _ _ _ _ _ _ HR3.out]; rfl
          · exact HB3.out.setCell (p := ⟨g, 3, none⟩) hge _
        case measure =>
          have e1 : (w3.setCell ⟨g, 3, none⟩ (.slice a3 (manyF (j + 1)).length c3)).cell? ⟨g, 3, none⟩ = some (.slice a3 (manyF (j + 1)).length c3) := by
            rw [cell_of_row _ _ _ _ _ _ (heap_setCell_same _ _ _ _ _ _ HR3.out)]; rfl
          have e2 : wr.cell? ⟨g, 3, none⟩ = some (.slice a (manyF j).length c) := by rw [cell_of_row _ _ _ _ _ _ HR0.out]; rfl
          rw [e1, e2]
          have h4 := HL.out
          have h5 := HL3.out
          simp only [lenC]
          omega
    · obtain rfl : j = k := by omega
      have h1 : ¬ (manyF j).length < 1 + j := by omega
      have HP := Box.mk (many_head j)
      have HBY := Box.mk (many_bytes j (by omega))
      have hcall := projFmtReq_any getS oneSlash 1 false (manyF j) a none c 0 0 mm wr (by decide) (by decide) (OwnF.shapeF hown) (manyF_tiny j) (by omega) (by decide +kernel) (HM.out.keep (by
        exact hb))
      have HCALL := Box.mk hcall
      have HLI := Box.mk (show (((manyF j).length : Int) == 1 + (j : Int)) = true by rw [hlen, beq_iff_eq]; omega)
      clear hown hrow hb HJ HO HR hcall hlen
      generalize headB (fmtReq getS oneSlash 1) (manyF j) = b at *
      generalize manyF j = L at *
      go_wp2_with fail
      refine HCALL.out.mono ?_
      rintro e w4 ⟨qa, qc, rfl, hib, hb4⟩
      have HIB := Box.mk hib
      have HB4 := Box.mk (below_trans HB.out hb4)
      clear hib hb4 HB HCALL hlt hc0 hc1 hc2 hc3 hc4 hc5 h1
      go_wp2_with fail
      refine (projHeadReq_any b qa qc mm w4 HIB.out HBY.out (HM.out.keep HB4.out)).mono ?_
      rintro e w5 ⟨f2, c2, he, hf2, hb5⟩
      have HB5 := Box.mk (below_trans HB4.out hb5)
      rw [HP.out] at he
      clear hb5 hf2 HB4 HIB HP
      by_cases h64 : 64 < j + 1
      · rw [if_pos h64] at he
        dsimp only at he
        subst he
        have HB6 := Box.mk (below_trans HB5.out (below_oneF w5 (.cells #[.string ⟨#[]⟩, .string ⟨#[]⟩, .int .i64 0, .slice f2 0 c2, .bool false, .slice none 0 0] 28)))
        have h65 : (64 : Int) < 1 + (j : Int) := by omega
        go_wp2_with fail
        refine (awakeH_any mm _ (HM.out.keep HB6.out)).mono ?_
        rintro e w7 ⟨rfl, hb7⟩
        have HB7 := Box.mk (below_trans HB6.out hb7)
        clear hb7
        go_wp2_with fail
        go_ret
        exact ⟨rfl, HB7.out⟩
      · rw [if_neg h64] at he
        dsimp only at he
        subst he
        have HB6 := Box.mk (below_trans HB5.out (below_oneF w5 (.cells #[.string getS, .string oneSlash, .int .i64 1, .slice f2 L.length c2, .bool false, .slice none 0 0] 28)))
        have h65 : ¬ (64 : Int) < 1 + (j : Int) := by omega
        have hli := HLI.out
        go_wp2_with fail
        refine (awakeH_any mm _ (HM.out.keep HB6.out)).mono ?_
        rintro e w7 ⟨rfl, hb7⟩
        have HB7 := Box.mk (below_trans HB6.out hb7)
        clear hb7
        go_wp2_with fail
        go_ret
        exact ⟨rfl, HB7.out⟩
end Go.Proofs.YtcdianojchmgpaaDoor
