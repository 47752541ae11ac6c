/- Normalized fields by a map: mathematics. The landed normal: the values of each name in a map of slices. The landed normal: which fields are compared; the step of a range over the groups; an own slice of fields or strings that the library sorts. What the library's sort does with the call's own slice of fields, in words of Go's document. The landed normal.Fields. The landed normal.Names. Normalized fields by a map and the library's sort: mathematics. The library's sort at fields and at strings, and Compact at strings: by the shelf's contracts. The landed normal: its two contracts. The laws of package normal: made, awake. The law NormalFields. Opening a slice of strings among the arguments, with its capacity. Opening the arguments of the laws on fields. Plans: mathematics, and the reference's check of one. Plans: the reference's weight of a stage and verdict on a window; variables of small structs. A region that draws its order, where an operation may be left out by its guard. -/
import Derived.Test.YtnpbnaapbimjaaaGreatDoorPk1
import Derived.Test.YtnpbnaapbimjaaaGreatDoorPk2
import Derived.Test.YtnpbnaapbimjaaaGreatDoorPk3
import Derived.Test.YtnpbnaapbimjaaaGreatDoorRows
import Derived.WalkKit
import Derived.WalkSpells
import Derived.WalkLawsBesides
import Derived.BigQuiet
import Derived.Deep.QuietTactic
import Derived.Lib.Bytealg
import Derived.Lib.IndexLaws
import Derived.Lib.Hide
import Derived.Laws.IdiomStrings
import Derived.Lib.SlTrimSet
import Derived.Lib.IndexBytes
import Derived.Lib.Split
import Derived.Deep.AppendLies
import Derived.Shelf.SlGeneric
import Derived.Shelf.Strings.SlTrimAscii
import Derived.Shelf.Strings.SplitShaped
import Derived.Shelf.LaysM
import Derived.Shelf.Strings.BuilderK
import Derived.Shelf.Strconv.Itoa4
import Derived.Shelf.Strings.Builder2
import Derived.Shelf.SlLaysF0
import Derived.Shelf.SlLaysM
import Derived.Shelf.SlLaysN
import Derived.Ground.SlsfProg
import Derived.Ground.SlgmProg
import Derived.Ground.SlgnProg
import Derived.Test.YtnpbnaapbimjaaaGreatDoorProg
import Derived.Lib.SplitLaws
import Derived.WalkSmall
import Derived.ProofKit
import Derived.OpenShut
import Derived.Lib.Strings
import Derived.SliceStrings
import Derived.Deep.Quiet
import Derived.Tactics
import Derived.KernelRfl
import Derived.Below
import Derived.Laws.Bits64
import Derived.Lib.SlBytesConst
import Derived.Maps.AppendAt
import Derived.Laws.AppendOwnNone
import Derived.Great.BuildSlice
import Derived.Laws.Rows
import Derived.Laws.BitsAllLaws
import Derived.Laws.Shifts
import Derived.Maps.OwnOps
import Derived.Maps.OwnSet
import Derived.Deep.SlicePairs
import Derived.Lib.AppendZerosOnto
import Derived.Lib.AppendStr
import Derived.Laws.CopyOwn
import Derived.OwnWalk
import Derived.Laws.Strings3
import Derived.Laws.Concat
import Derived.Lib.ItoaMem
import Derived.Deep.RegionHeld3
import Derived.IntWalk
import Derived.Sort.Grow
import Derived.Lib.LaidTab
import Derived.LaidSub
import Derived.Sort.Walk0
import Derived.Laws.OwnMore
import Derived.ArgAppend
import Derived.Shelf.Strings.OnBuilder
import Derived.Laws.Tables
import Derived.Maps.RangeWalk
import Derived.Lib.SlicesCompact
import Derived.Shelf.SlSortCmp.Insertion
import Derived.Sort.Statements
import Derived.Shelf.SlSortCmp.WholeK
import Derived.Shelf.SlSortCmp.NoneTotal
import Derived.Shelf.SortM.Plain
import Derived.Shelf.SlicesG.CompactS
import Derived.Shelf.Small.Strs
import Derived.Sort.OwnSorted
import Derived.Deep.DeepCutAuto
import Derived.Deep.CutBlock
namespace Go.Proofs.YtnpbnaapbimjaaaGreatDoor
open Go.RowKit
set_option linter.unusedSimpArgs false
set_option linter.unusedVariables false

/-- The values of a name, in lower case, as the landed code groups them. -/
def valsN (l : List Fld) (s : ByteArray) : List ByteArray := (l.filter fun f => (lowS f.1).toList == s.toList).map (·.2)
theorem valsN_low (l : List Fld) (g : Fld) : valsN l (lowS g.1) = valuesL l (lowS g.1) := by
  unfold valsN valuesL foldS
  congr 1
  refine List.filter_congr fun f _ => ?_
  rw [lowS_idem]
theorem valsN_app (l : List Fld) (f : Fld) (s : ByteArray) : valsN (l ++ [f]) s = if lowS f.1 = s then valsN l s ++ [f.2] else valsN l s := by
  unfold valsN
  rw [List.filter_append, List.map_append]
  by_cases e : lowS f.1 = s
  · have h : ((lowS f.1).toList == s.toList) = true := by rw [e]; simp
    rw [if_pos e]; simp [h]
  · rw [if_neg e]
    have : ((lowS f.1).toList == s.toList) = false := by
      rw [beq_eq_false_iff_ne]
      exact fun h => e (ba_eq.2 h)
    simp [this]
theorem valsN_len (l : List Fld) (s : ByteArray) : (valsN l s).length ≤ l.length := by
  unfold valsN
  rw [List.length_map]
  exact List.length_filter_le _ _
theorem withoutVD (x : List Fld) (ig : List ByteArray) : withoutL x ([⟨#[86, 105, 97]⟩, ⟨#[68, 97, 116, 101]⟩] ++ ig) = withoutL (withoutL x viaDate) ig := by
  unfold withoutL
  rw [List.filter_filter]
  refine List.filter_congr fun f _ => ?_
  rw [inFoldL_app]
  have : inFoldL [⟨#[86, 105, 97]⟩, ⟨#[68, 97, 116, 101]⟩] f.1 = inFoldL viaDate f.1 := by
    unfold inFoldL viaDate
    have e1 : ∀ s, foldS s ⟨#[86, 105, 97]⟩ = foldS s ⟨#[118, 105, 97]⟩ := fun s => by
      unfold foldS; rw [show lowS ⟨#[86, 105, 97]⟩ = lowS ⟨#[118, 105, 97]⟩ from by decide]
    have e2 : ∀ s, foldS s ⟨#[68, 97, 116, 101]⟩ = foldS s ⟨#[100, 97, 116, 101]⟩ := fun s => by
      unfold foldS; rw [show lowS ⟨#[68, 97, 116, 101]⟩ = lowS ⟨#[100, 97, 116, 101]⟩ from by decide]
    have e3 : ∀ s, foldS ⟨#[86, 105, 97]⟩ s = foldS ⟨#[118, 105, 97]⟩ s := fun s => by
      unfold foldS; rw [show lowS ⟨#[86, 105, 97]⟩ = lowS ⟨#[118, 105, 97]⟩ from by decide]
    have e4 : ∀ s, foldS ⟨#[68, 97, 116, 101]⟩ s = foldS ⟨#[100, 97, 116, 101]⟩ s := fun s => by
      unfold foldS; rw [show lowS ⟨#[68, 97, 116, 101]⟩ = lowS ⟨#[100, 97, 116, 101]⟩ from by decide]
    simp only [List.any_cons, List.any_nil, e1, e2, e3, e4]
  rw [this]
  cases inFoldL viaDate f.1 <;> cases inFoldL ig f.1 <;> rfl
end Go.Proofs.YtnpbnaapbimjaaaGreatDoor
namespace Go.Proofs.YtnpbnaapbimjaaaGreatDoor
open Go.RowKit
open Go.Maps (Keyed string_keyed)
set_option linter.unusedSimpArgs false
set_option linter.unusedVariables false

theorem keyedG : Keyed Tryz.prog 9 := string_keyed Tryz.underlying9
theorem zeroG (w : World) : (zeroValue 24).run Tryz.prog w = .ok (.slice none 0 0) w := by kernel_rfl
/-- How a value of the map reads: as itself. -/
def heldG (v : Value) : Option (DataW Value × List MemPlace) := some (.held v, [])
def keyG (s : ByteArray) : Lit := .string s.data.toList
theorem keyG_inj {s z : ByteArray} (h : keyG s = keyG z) : s = z := ba_ext (by unfold keyG at h; injection h)
def nilG : Value := .slice none 0 0
/-- Block b is a map which has the values of each name in lower case, each in a slice of its own. -/
structure GrpS (w : World) (b n : Nat) (l : List Fld) (D : DataW Value) (V : ByteArray → Value) : Prop where
  map : w.ownsMap Tryz.prog 9 heldG b n D
  at_ : ∀ s, D.atKey (keyG s) (.held nilG) = .held (V s)
  own : ∀ s, OwnS (b + 1) w (V s) (valsN l s)
  apart : ∀ s z g, (V s).ownBlock = some g → (V z).ownBlock = some g → s = z
  has : ∀ s, Go.Maps.has D (keyG s) = l.any fun f => (lowS f.1).toList == s.toList
theorem GrpS.lt {w : World} {b n : Nat} {l : List Fld} {D : DataW Value} {V : ByteArray → Value} (h : GrpS w b n l D V) : b < w.heap.size := h.map.lt
theorem GrpS.keep {w w' : World} {b n : Nat} {l : List Fld} {D : DataW Value} {V : ByteArray → Value} (h : GrpS w b n l D V) (hb : Below w.heap.size w w') : GrpS w' b n l D V :=
  ⟨h.map.kept (grownBy_below (row := none) hb) (by simp), h.at_, fun s => (h.own s).keep hb, h.apart, h.has⟩
theorem GrpS.made (w : World) : GrpS (w.alloc (.map #[] 0)) w.heap.size 0 [] (.map []) (fun _ => nilG) :=
  ⟨World.ownsMap_made _ _ _ _, fun s => rfl, fun s => OwnS.start _ _, fun s z g h => (by cases h), fun s => rfl⟩
theorem GrpS.step {w w4 w5 : World} {b n : Nat} {l : List Fld} {D : DataW Value} {V : ByteArray → Value} (h : GrpS w b n l D V) {f : Fld} {s : ByteArray} (hs : lowS f.1 = s) {v : Value} {g : Nat}
    (ho : OwnS (b + 1) w4 v (valsN l s ++ [f.2])) (hg : w.grownBy w4 (V s).ownBlock) (hv : v.ownBlock = some g) (hl : (V s).ownBlock = some g ∨ g = w.heap.size)
    (hm : w5.ownsMap Tryz.prog 9 heldG b (n + 1) (D.put (keyG s) (.held v))) (hg5 : w4.grownBy w5 (some b)) : GrpS w5 b (n + 1) (l ++ [f]) (D.put (keyG s) (.held v)) (fun z => if z = s then v else V z) := by
  have hD := h.map.isMap
  have hk : WideAt.IsKeyLit (keyG s) := trivial
  refine ⟨hm, fun z => ?_, fun z => ?_, fun y z q h1 h2 => ?_, fun z => ?_⟩
  · by_cases e : z = s
    · subst e
      rw [Maps.atKey_put_same hD hk, if_pos rfl]
    · rw [Maps.atKey_put_other (fun e2 => e (keyG_inj e2)), if_neg e, h.at_]
  · rw [valsN_app]
    by_cases e : z = s
    · subst e
      rw [if_pos rfl, if_pos hs]
      exact ho.grown hg5 fun k hk e2 => by have := (ho.lt hk).1; injection e2 with e2; omega
    · rw [if_neg e, if_neg (fun e2 => e (by rw [← e2, hs]))]
      have h1 := (h.own z).grown hg fun k hk e2 => e (h.apart z s k hk (e2.symm))
      exact h1.grown hg5 fun k hk e2 => by have := (h1.lt hk).1; injection e2 with e2; omega
  · by_cases ey : y = s
    · by_cases ez : z = s
      · rw [ey, ez]
      · rw [if_pos ey] at h1
        rw [if_neg ez] at h2
        rw [hv] at h1
        injection h1 with h1
        subst h1
        rcases hl with hl | hl
        · rw [ey]; exact h.apart s z _ hl h2
        · have := ((h.own z).lt h2).2; omega
    · rw [if_neg ey] at h1
      by_cases ez : z = s
      · rw [if_pos ez, hv] at h2
        injection h2 with h2
        subst h2
        rcases hl with hl | hl
        · rw [ez]; exact h.apart y s _ h1 hl
        · have := ((h.own y).lt h1).2; omega
      · rw [if_neg ez] at h2
        exact h.apart y z q h1 h2
  · rw [List.any_append]
    by_cases e : z = s
    · subst e
      rw [Maps.has_put_same hD hk]
      simp [hs]
    · rw [Maps.has_put_other (fun e2 => e (keyG_inj e2)), h.has]
      have : ((lowS f.1).toList == z.toList) = false := by
        rw [beq_eq_false_iff_ne]
        exact fun e2 => e (by rw [← hs]; exact (ba_eq.2 e2).symm)
      simp [this]
def GrpIn (w : World) (b n : Nat) (l : List Fld) : Prop := ∃ D V, GrpS w b n l D V
theorem GrpIn.keep {w w' : World} {b n : Nat} {l : List Fld} (h : GrpIn w b n l) (hb : Below w.heap.size w w') : GrpIn w' b n l := by
  obtain ⟨D, V, h⟩ := h; exact ⟨D, V, h.keep hb⟩

section
variable {ops : Array Oper} {rest : List Oper} {o : Oper} {act : Act} {Q : Exit → Act → World → Prop}
theorem wpList_lookup_grp (w : World) (hg : o.guard = none) (m x : Operand) (hop : o.op = Op.lookup 41 m x false) {b n : Nat} {l : List Fld} {D : DataW Value} {V : ByteArray → Value} {s : ByteArray}
    (hm : act.eval m = .map (some b)) (h : GrpS w b n l D V) (hx : act.eval x = .string s) (hs : s.size ≤ maxLen) (hK : wpList Tryz.prog ops Q rest (act.put o.dst (V s)) w) : wpList Tryz.prog ops Q (o :: rest) act w := by
  refine wpList_plain hg fun K' hK' => ?_
  obtain ⟨v, ps, hrun, hv⟩ := h.map.lookup (t := 41) (e := 24) keyedG Tryz.underlying41 (zeroG w) (zd := .held nilG) (zp := []) rfl (key := .string s) (kl := keyG s) (WideMaps.keyOf_string_mk Tryz.underlying9 hs)
  rw [h.at_] at hv
  have e : v = V s := by
    unfold heldG at hv
    simp only [Option.some.injEq, Prod.mk.injEq, DataW.held.injEq] at hv
    exact hv.1
  subst e
  unfold Oper.wp
  simp [execOp, hop, hm, hx, hrun, Result.andThen]
  exact hK' _ _ hK
theorem wpList_append_grp (w : World) (hgd : o.guard = none) (y x : Operand) (ho : o.op = .call { callee := .builtin .append, args := #[y, x], argTypes := #[24, 24] }) {B : Nat} {v : Value} {l : List ByteArray} (hy : act.eval y = v) (h : OwnS B w v l) {b c : Nat}
    (hx : act.eval x = .slice (some ⟨b, 0, none⟩) 1 c) {f : ByteArray} (h0 : w.cell? ⟨b, 0, none⟩ = some (.string f)) (hn : l.length + 1 ≤ 8000000) (hB : B ≤ w.heap.size)
    (hK : ∀ v' w' g, OwnS B w' v' (l ++ [f]) → w.grownBy w' v.ownBlock → v'.ownBlock = some g → (v.ownBlock = some g ∨ g = w.heap.size) → wpList Tryz.prog ops Q rest (act.put o.dst v') w') : wpList Tryz.prog ops Q (o :: rest) act w := by
  obtain ⟨i0, hi, hz0, hz1, hz2⟩ := info_parts Tryz.info9
  refine wpList_append_lies w hgd y x 24 ho B 9 i0 _ 1 16 Tryz.underlying24 hi hz0 hz1 hz2 rfl (by decide) v l.length (strV l) hy h ⟨b, 0, none⟩ 1 c [.string f] hx rfl ?_ ?_ (by decide) (by unfold maxLen; omega) (by omega) hB w.heap.size rfl ?_
  · intro j u hj
    match j, hj with
    | 0, hj => simp at hj; subst hj; rw [Addr.add_lit]; exact h0
    | j + 1, hj => simp at hj
  · intro u hu; simp at hu; rcases hu with rfl; rfl
  · intro g cap w' hown hgrow hg hlt
    refine hK _ w' g ?_ hgrow rfl hg
    unfold OwnS
    rw [List.length_append, strV_app]; exact hown
theorem wpList_update_grp (w : World) (hg : o.guard = none) (m x y : Operand) (hop : o.op = Op.mapUpdate 41 m x y) {w0 : World} {b n : Nat} {l : List Fld} {D : DataW Value} {V : ByteArray → Value} {s : ByteArray} {f : Fld} {v : Value} {g : Nat}
    (hm : act.eval m = .map (some b)) (h : GrpS w0 b n l D V) (hn : n < maxLen) (hx : act.eval x = .string s) (hs : s.size ≤ maxLen) (hsf : lowS f.1 = s) (hy : act.eval y = v)
    (ho : OwnS (b + 1) w v (valsN l s ++ [f.2])) (hg0 : w0.grownBy w (V s).ownBlock) (hv : v.ownBlock = some g) (hl : (V s).ownBlock = some g ∨ g = w0.heap.size)
    (hK : ∀ w', GrpIn w' b (n + 1) (l ++ [f]) → w.grownBy w' (some b) → wpList Tryz.prog ops Q rest (act.put o.dst undef) w') : wpList Tryz.prog ops Q (o :: rest) act w := by
  have hmap := h.map.kept hg0 (fun e => by have := ((h.own s).lt e.symm).1; omega)
  refine wpList_mapUpdate_own w hg m x y 41 hop 9 24 keyedG Tryz.underlying41 heldG b n D hm hmap hn (.string s) v (keyG s) hx hy (WideMaps.keyOf_string_mk Tryz.underlying9 hs) (.held v) [] rfl ?_
  intro w' h1 h2
  exact hK w' ⟨_, _, h.step hsf ho hg0 hv hl h1 h2⟩ h2
end

def RetGrp (w : World) (l : List Fld) (e : Ending) (w' : World) : Prop :=
  ∃ b n, e = .returned (.map (some b)) ∧ n ≤ l.length ∧ GrpIn w' b n l ∧ Below w.heap.size w w'
set_option maxRecDepth 100000 in
set_option maxHeartbeats 2000000 in
theorem nmValues_any (l : List Fld) (a : Option Addr) (cap : Nat) (w : World) (h : FldsIn w a l) (hz : ShortF l) (hl : l.length ≤ 1000000) :
    Calls Tryz.prog 15 #[.slice a l.length cap] w (RetGrp w l) := by
  have H0 := Box.mk h
  have HZ := Box.mk hz
  clear h hz
  have hmm := @run_makeMap Tryz.prog
  go_enter Tryz.func15, Tryz.ntmps15
  go_wp2_with fail
  obtain ⟨W, hW⟩ : ∃ W, W = w.alloc (.map #[] 0) := ⟨_, rfl⟩
  have HS := Box.mk (show GrpIn W w.heap.size 0 (l.take 0) by rw [hW]; exact ⟨_, _, GrpS.made w⟩)
  have HB := Box.mk (show Below w.heap.size w W by rw [hW]; exact below_oneF w (.map #[] 0))
  rw [← hW]
  clear hW
  generalize hb : w.heap.size = b at HS ⊢
  have HBS := Box.mk hb
  clear hb
  go_loopw [10] (fun iv wr => ∃ k : Nat, k ≤ l.length ∧ iv = .int .i64 k ∧ Box (GrpIn wr b k (l.take k) ∧ Below w.heap.size w wr)) (fun iv _ => l.length - (intOf iv).toNat)
  case atStart => exact ⟨0, Nat.zero_le _, rfl, ⟨HS.out, HB.out⟩⟩
  case round =>
    clear HS HB
    obtain ⟨k, hk, rfl, HM⟩ := hrel
    by_cases hlt : k < l.length
    · obtain ⟨x, rfl, hx1, hx2⟩ := (H0.out.keep HM.out.2) k hlt
      have hx2 := cell_next hx2
      have HSZ := Box.mk (HZ.out _ (List.getElem_mem hlt))
      have HT := Box.mk (List.take_succ_eq_append_getElem hlt)
      generalize l[k] = f at *
      have HSZL := Box.mk (show (lowS f.1).size ≤ maxLen by rw [lowS_sizeF]; exact HSZ.out.1)
      go_wp2_with fail
      refine (lower_any f.1 _ HSZ.out.1).mono ?_
      rintro e w2 ⟨rfl, hb1⟩
      have hc2 : w2.cell? ⟨wr.heap.size, 1, none⟩ = some (.string f.2) := below_cell hb1 (by rw [new_cellF]; rfl)
      have HB2 := Box.mk (below_trans (below_oneF wr (.cells #[.string f.1, .string f.2] 34)) hb1)
      obtain ⟨D, V, hG2⟩ := HM.out.1.keep HB2.out
      have HG2 := Box.mk hG2
      have HVL := Box.mk (show (valsN (l.take k) (lowS f.1)).length + 1 ≤ 8000000 by have h1 := valsN_len (l.take k) (lowS f.1); have h2 := List.length_take_le k l; omega)
      have HBB := Box.mk (show b + 1 ≤ w2.heap.size from hG2.lt)
      clear hb1 hG2
      generalize hs : lowS f.1 = s at *
      have HSE := Box.mk hs
      clear hs
      go_wp2_with (first | (at_lookup; refine wpList_lookup_grp _ rfl _ _ rfl rfl HG2.out rfl HSZL.out ?_) | (at_builtin; refine wpList_append_grp _ rfl _ _ rfl rfl (((HG2.out.keep (below_oneF w2 _)).own s)) rfl (f := f.2) ?c1 HVL.out ?c2 ?c3))
      case c1 => simp
      case c2 => simp; have := HBB.out; omega
      case c3 =>
        intro v' w4 g ho hg hv hl
        have HO := Box.mk ho
        have HG := Box.mk hg
        have HV := Box.mk hv
        have HL := Box.mk hl
        clear ho hg hv hl
        go_wp2_with (at_mapUpdate; refine wpList_update_grp _ rfl _ _ _ rfl rfl (HG2.out.keep (below_oneF w2 _)) (by unfold maxLen; omega) rfl HSZL.out HSE.out rfl HO.out HG.out HV.out (by simpa using HL.out) ?c4)
        case c4 =>
          intro w5 hs5 hg5
          have HM5 := Box.mk (show GrpIn w5 b (k + 1) (l.take (k + 1)) ∧ Below w.heap.size w w5 by
            refine ⟨by rw [HT.out]; exact hs5, ?_⟩
            have e1 := below_trans (below_trans HM.out.2 HB2.out) (below_oneF w2 (.cells #[.string f.2] 9))
            have e2 := e1.grown HG.out e1.size (fun j hj => by have := (((HG2.out.keep (below_oneF w2 (.cells #[.string f.2] 9))).own s).lt hj).1; have := HBS.out; omega)
            exact e2.grown hg5 e2.size (fun j hj => by injection hj with hj; have := HBS.out; omega))
          clear hs5 hg5 HO HG HV HL HG2 HB2
          go_wp2_with fail
          go_roundw
          case rel => exact ⟨k + 1, by omega, by go_num, HM5⟩
          case measure => simp [intOf]; omega
    · have HE := Box.mk (show GrpIn wr b k l by have := HM.out.1; rw [List.take_of_length_le (by omega)] at this; exact this)
      go_wp2_with fail
      go_ret
      exact ⟨b, k, rfl, hk, HE.out, HM.out.2⟩
end Go.Proofs.YtnpbnaapbimjaaaGreatDoor
namespace Go.Proofs.YtnpbnaapbimjaaaGreatDoor
open Go.RowKit
open Go.Maps (Keyed string_keyed)
set_option linter.unusedSimpArgs false
set_option linter.unusedVariables false

section
variable {ops : Array Oper} {rest : List Oper} {o : Oper} {act : Act} {Q : Exit → Act → World → Prop}
theorem wpList_append_strs (w : World) (hgd : o.guard = none) (y x : Operand) (ho : o.op = .call { callee := .builtin .append, args := #[y, x], argTypes := #[24, 24] }) {B : Nat} {l r : List ByteArray} {a : Option Addr} {c : Nat} {v : Value} (hv : act.eval y = v) (hy : OwnS B w v l)
    (hx : act.eval x = .slice a r.length c) (hr : StrsC w a r c) (hn : l.length + r.length ≤ 8000000) (hB : B ≤ w.heap.size)
    (hK : ∀ v' w', OwnS B w' v' (l ++ r) → w.grownBy w' v.ownBlock → wpList Tryz.prog ops Q rest (act.put o.dst v') w') : wpList Tryz.prog ops Q (o :: rest) act w := by
  subst hv
  exact wpList_plain hgd fun K' hK' => wp_append_ownSs ho hy hx hr hn hB fun v' w' h1 h2 => hK' _ _ (hK v' w' h1 h2)
end
def vdN : List ByteArray := [⟨#[86, 105, 97]⟩, ⟨#[68, 97, 116, 101]⟩]
theorem ownVD (w : World) : OwnS w.heap.size (w.alloc (.cells #[.string ⟨#[86, 105, 97]⟩, .string ⟨#[68, 97, 116, 101]⟩] 9)) (.slice (some ⟨w.heap.size, 0, none⟩) 2 2) vdN :=
  ⟨rfl, .inr ⟨w.heap.size, 2, _, rfl, Nat.le_refl _, heap_alloc_new _ _, Nat.le_refl _, by decide, rfl, rfl⟩⟩

set_option maxRecDepth 100000 in
set_option maxHeartbeats 2000000 in
theorem nmCompared_any (l : List Fld) (ig : List ByteArray) (a b : Option Addr) (cap cb : Nat) (w : World) (mm : Int) (h : FldsIn w a l) (hz : ShortF l) (hl : l.length ≤ 1000000) (hm : MaxOk w mm) (ht : total (valuesL l cnN) ≤ 3000000000) (hi : StrsC w b ig cb) (hiz : ∀ x ∈ ig, x.size ≤ maxLen) (hil : ig.length ≤ 1000000) :
    Calls Tryz.prog 16 #[.slice a l.length cap, .slice b ig.length cb] w (RetAccF w (keptN l ig)) := by
  obtain ⟨W, hW⟩ : ∃ W, W = w.alloc (.cells #[.string ⟨#[86, 105, 97]⟩, .string ⟨#[68, 97, 116, 101]⟩] 9) := ⟨_, rfl⟩
  have HO := Box.mk (show OwnS w.heap.size W (.slice (some ⟨w.heap.size, 0, none⟩) 2 2) vdN by rw [hW]; exact ownVD w)
  have HB := Box.mk (show Below w.heap.size w W by rw [hW]; exact below_oneF w _)
  have HI := Box.mk (hi.keep HB.out)
  have HM := Box.mk hm
  have H0 := Box.mk h
  have HX := Box.mk (show withoutL (stripL l) (vdN ++ ig) = keptN l ig from withoutVD (stripL l) ig)
  have HNZ := Box.mk (show ∀ x ∈ vdN ++ ig, x.size ≤ maxLen by
    intro x hx
    rcases List.mem_append.1 hx with hx | hx
    · unfold vdN at hx
      simp only [List.mem_cons, List.not_mem_nil, or_false] at hx
      rcases hx with rfl | rfl <;> decide
    · exact hiz x hx)
  have HNL := Box.mk (show (vdN ++ ig).length ≤ 4000000000 by rw [List.length_append]; have : vdN.length = 2 := rfl; omega)
  have HL2 := Box.mk (show vdN.length + ig.length ≤ 8000000 by have : vdN.length = 2 := rfl; omega)
  clear hm h hi hiz
  generalize hJ : vdN ++ ig = J at *
  have HJ := Box.mk hJ
  clear hJ
  go_enter Tryz.func16, Tryz.ntmps16
  go_wp2_with (at_builtin; rw [← hW]; refine wpList_append_strs _ rfl _ _ rfl rfl HO.out rfl HI.out HL2.out HB.out.size ?c1)
  case c1 =>
    intro v w1 ho hg
    rw [HJ.out] at ho
    rw [← hW] at hg
    have HV := Box.mk ho
    have HB1 := Box.mk (show Below w.heap.size w w1 from HB.out.grown hg HB.out.size (fun j hj => by have e : w.heap.size = j := Option.some.inj hj; omega))
    clear ho hg HO HB HI
    obtain ⟨ja, jc, rfl, HJS⟩ := HV.out.shape
    go_wp2_with fail
    refine (hStrip_any l a cap w1 mm (H0.out.keep HB1.out) hz hl (HM.out.keep HB1.out) ht).mono ?_
    rintro e w2 ⟨v2, rfl, hv2⟩
    have HV2 := Box.mk hv2
    clear hv2
    obtain ⟨sa, sc, rfl, hs⟩ := HV2.out.shape
    have HS := Box.mk hs
    have HJ2 := Box.mk (HJS.1.keep HV2.out.2)
    have hsl : (stripL l).length ≤ 1000000 := Nat.le_trans (stripL_len l) hl
    have HZ2 := Box.mk (show ShortF (stripL l) from fun f hf => by unfold stripL withoutL at hf; exact hz f (List.mem_filter.1 hf).1)
    clear hs
    generalize hS : stripL l = S at *
    go_wp2_with fail
    refine (fWithout_acc S J sa ja sc jc w2 HS.out HZ2.out HJ2.out HNZ.out hsl HNL.out).mono ?_
    rintro e w3 ⟨v3, rfl, hv3⟩
    have HV3 := Box.mk (AccF.lift (below_trans HB1.out HV2.out.2) hv3)
    clear hv3
    go_wp2_with fail
    go_ret
    exact ⟨v3, rfl, by rw [← HX.out]; exact HV3.out⟩
end Go.Proofs.YtnpbnaapbimjaaaGreatDoor
namespace Go.Proofs.YtnpbnaapbimjaaaGreatDoor
open Go.RowKit
def SortFOk : Prop := ∀ (F : List Fld) (v : Value) (B : Nat) (w : World), OwnF B w v F → F.length ≤ 1000000 →
    Calls Tryz.prog 18 #[v, .func (.func 19) #[] #[]] w fun e w' => e = .returned (.tuple #[]) ∧ Below B w w' ∧ ∃ (d : List Fld) (a : Option Addr) (cap : Nat), v = .slice a F.length cap ∧ F.length ≤ cap ∧ FldsC w' a d cap ∧ d.length = F.length ∧
      (∀ X : List Fld, (F.map (·.1)).Nodup → (∀ s, s ∈ F.map (·.1) ↔ s ∈ X.map (fun f => lowS f.1)) → (∀ f ∈ F, f.2 = joinS (valuesL X f.1)) → d = outN X)
end Go.Proofs.YtnpbnaapbimjaaaGreatDoor
namespace Go.Proofs.YtnpbnaapbimjaaaGreatDoor
open Go.RowKit
set_option linter.unusedSimpArgs false
set_option linter.unusedVariables false

theorem keyG_of {x : ByteArray} {kl : Lit} (h : keyOf Tryz.prog 9 (.string x) = some kl) : kl = keyG x ∧ x.size ≤ maxLen := by
  simp [keyOf, Tryz.underlying9, mapKey] at h
  exact ⟨h.2.symm, h.1⟩
theorem keyG_string {key : Value} {kl : Lit} (h : keyOf Tryz.prog 9 key = some kl) : ∃ x, key = .string x := by
  cases key <;> simp [keyOf, Tryz.underlying9, mapKey] at h
  exact ⟨_, rfl⟩
section
variable {ops : Array Oper} {rest : List Oper} {o : Oper} {act : Act} {Q : Exit → Act → World → Prop}
theorem wpList_next_grp (w : World) (hg : o.guard = none) (it : Operand) (hop : o.op = Op.next it false) {b r n : Nat} {D : DataW Value} {V : ByteArray → Value} {left : Lit → Bool} {cnt : Nat}
    (hit : act.eval it = .pointer (some ⟨r, 0, none⟩)) (h : w.ranges Tryz.prog 9 heldG b r n D left cnt) (hat : ∀ s, D.atKey (keyG s) (.held nilG) = .held (V s))
    (hDone : cnt = 0 → (∀ kl, left kl = false) → wpList Tryz.prog ops Q rest (act.put o.dst (.tuple #[.bool false])) w)
    (hMore : ∀ (x : ByteArray) (w' : World) (cnt' : Nat), x.size ≤ maxLen → left (keyG x) = true → Go.Maps.has D (keyG x) = true → w'.ranges Tryz.prog 9 heldG b r n D (fun z => left z && !z.sameKey (keyG x)) cnt' → cnt' < cnt → w.grownBy w' (some r) → w'.heap.size = w.heap.size →
      (Instr.entry (.pointer (some ⟨r, 0, none⟩))).run Tryz.prog w' = .ok (.tuple #[.string x, V x]) w' → wpList Tryz.prog ops Q rest (act.put o.dst (.tuple #[.bool true, .string x, V x])) w') : wpList Tryz.prog ops Q (o :: rest) act w :=
  wpList_next_ranges w hg it hop 9 keyedG heldG Value.string (fun v : Value => v) (fun key kl hk => keyG_string hk) (fun v y _ => ⟨v, rfl⟩) b r n D left cnt hit h hDone (fun x c kl y w' cnt' hk hlk hv hy hrg hlt hgr hsz hen => by
    obtain ⟨rfl, hx⟩ := keyG_of hk
    have h1 := hy (.held nilG)
    rw [hat] at h1
    have e : c = V x := by
      unfold heldG at hv
      simp only [Option.some.injEq] at hv
      subst hv
      simp only [DataW.held.injEq] at h1
      exact h1.symm
    subst e
    exact hMore x w' cnt' hx hlk (Maps.has_true_of_atKey hy) hrg hlt hgr hsz hen)
end
theorem OwnS.block {B : Nat} {w : World} {v : Value} {l : List ByteArray} (h : OwnS B w v l) (hl : 0 < l.length) : ∃ g cap, v = .slice (some ⟨g, 0, none⟩) l.length cap ∧ g < w.heap.size ∧ l.length ≤ cap ∧ StrsAt w (some ⟨g, 0, none⟩) l := by
  obtain ⟨h1, h2⟩ := h
  rcases h2 with ⟨rfl, h2⟩ | ⟨g, cap, cur, rfl, hg, hc, hcap, hm, hsz, ht⟩
  · omega
  · refine ⟨g, cap, rfl, (Array.getElem?_eq_some_iff.1 hc).1, hcap, fun j hj => ?_⟩
    have hu : (strV l)[j]? = some (.string l[j]) := by unfold strV; simp [hj]
    have e := congrArg (fun x => x[j]?) ht
    have hlt : j < l.length * 1 := by omega
    rw [hu, List.getElem?_take_of_lt hlt] at e
    refine ⟨g, 0, rfl, ?_⟩
    simp only [World.cell?, hc, Nat.zero_add]
    simpa using e
theorem GrpS.size {w : World} {b n : Nat} {l : List Fld} {D : DataW Value} {V : ByteArray → Value} (h : GrpS w b n l D V) : Go.Maps.size D ≤ n := by
  obtain ⟨es, clock, _, _, hs, hD⟩ := h.map
  rw [hD]
  show List.length _ ≤ n
  rw [length_sorted]
  simpa using hs
theorem any_low {X : List Fld} {s : ByteArray} : (X.any fun f => (lowS f.1).toList == s.toList) = true ↔ s ∈ X.map (fun f => lowS f.1) := by
  rw [List.any_eq_true, List.mem_map]
  constructor
  · rintro ⟨f, h1, h2⟩
    exact ⟨f, h1, ba_eq.2 (beq_iff_eq.1 h2)⟩
  · rintro ⟨f, h1, h2⟩
    exact ⟨f, h1, by rw [h2]; simp⟩
theorem valsN_pos {X : List Fld} {s : ByteArray} (h : s ∈ X.map (fun f => lowS f.1)) : 0 < (valsN X s).length ∧ valsN X s = valuesL X s := by
  rw [List.mem_map] at h
  obtain ⟨f, h1, rfl⟩ := h
  refine ⟨?_, valsN_low X f⟩
  unfold valsN
  rw [List.length_map]
  refine List.length_pos_of_mem (a := f) (List.mem_filter.2 ⟨h1, by simp⟩)

theorem below_le {A B : Nat} {a b c : World} (h : Below A a b) (k : Below B b c) (hab : A ≤ B) : Below A a c :=
  ⟨k.os.trans h.os, k.tape.trans h.tape, k.output.trans h.output, Nat.le_trans h.size k.size, fun i hi => (k.block i (by omega)).trans (h.block i hi)⟩
/-- The range over the groups has come so far: v holds the fields F. -/
structure RngS (w2 wr : World) (b r n : Nat) (X : List Fld) (D : DataW Value) (left : Lit → Bool) (cnt : Nat) (v : Value) (F : List Fld) : Prop where
  rg : wr.ranges Tryz.prog 9 heldG b r n D left cnt
  own : OwnF (r + 1) wr v F
  nd : (F.map (·.1)).Nodup
  mem : ∀ s, s ∈ F.map (·.1) ↔ (Go.Maps.has D (keyG s) = true ∧ left (keyG s) = false)
  val : ∀ f ∈ F, f.2 = joinS (valuesL X f.1)
  low : Below r w2 wr
  len : F.length + cnt ≤ 1000000
theorem RngS.step {w2 wr w4 : World} {b r n : Nat} {X F : List Fld} {D : DataW Value} {left : Lit → Bool} {cnt cnt' : Nat} {v v' : Value} (h : RngS w2 wr b r n X D left cnt v F) {x : ByteArray} (hx : left (keyG x) = true) (hD : Go.Maps.has D (keyG x) = true)
    (hrg : w4.ranges Tryz.prog 9 heldG b r n D (fun z => left z && !z.sameKey (keyG x)) cnt') (hc : cnt' < cnt) (ho : OwnF (r + 1) w4 v' (F ++ [(x, joinS (valuesL X x))])) (hl : Below r w2 w4) : RngS w2 w4 b r n X D (fun z => left z && !z.sameKey (keyG x)) cnt' v' (F ++ [(x, joinS (valuesL X x))]) := by
  have hself : (keyG x).sameKey (keyG x) = true := WideAt.sameKey_self trivial
  have hnot : x ∉ F.map (·.1) := fun hm => by
    have := ((h.mem x).1 hm).2
    rw [hx] at this; cases this
  refine ⟨hrg, ho, ?_, fun s => ?_, fun f hf => ?_, hl, by have := h.len; rw [List.length_append]; simp only [List.length_cons, List.length_nil]; omega⟩
  · rw [List.map_append, List.nodup_append]
    refine ⟨h.nd, by simp, fun a ha b hb => ?_⟩
    simp at hb
    subst hb
    intro e
    subst e
    exact hnot ha
  · rw [List.map_append, List.mem_append, h.mem s]
    by_cases e : s = x
    · subst e
      simp [hD, hself]
    · have h1 : (keyG s).sameKey (keyG x) = false := Maps.sameKey_ne fun e2 => e (keyG_inj e2)
      simp [h1, e]
  · rcases List.mem_append.1 hf with hf | hf
    · exact h.val f hf
    · simp at hf
      rw [hf]

set_option maxRecDepth 100000 in
set_option maxHeartbeats 4000000 in
theorem nmFields_any (hsort : SortFOk) (l : List Fld) (ig : List ByteArray) (a b : Option Addr) (cap cb : Nat) (w : World) (mm : Int) (h : FldsIn w a l) (hz : ShortF l) (hl : l.length ≤ 1000000) (hm : MaxOk w mm) (ht : total (valuesL l cnN) ≤ 3000000000) (hts : ∀ n, total (valuesL l n) ≤ 70000000000000)
    (hi : StrsC w b ig cb) (hiz : ∀ x ∈ ig, x.size ≤ maxLen) (hil : ig.length ≤ 1000000) :
    Calls Tryz.prog 7 #[.slice a l.length cap, .slice b ig.length cb] w (RetFldC w (fieldsN l ig)) := by
  have HSORT := Box.mk hsort
  have H0 := Box.mk (nmCompared_any l ig a b cap cb w mm h hz hl hm ht hi hiz hil)
  have hkl : (keptN l ig).length ≤ l.length := Nat.le_trans (withoutL_len _ _) (Nat.le_trans (withoutL_len _ _) (stripL_len _))
  have HXZ := Box.mk (show ShortF (keptN l ig) from fun f hf => hz f (keptN_mem hf).1)
  have HXT := Box.mk (show ∀ n, total (valuesL (keptN l ig) n) ≤ 70000000000000 from fun n => Nat.le_trans (total_kept l ig n) (hts n))
  have HRES := Box.mk (show fieldsN l ig = outN (keptN l ig) from rfl)
  clear h hz hm hi hiz ht hts hsort
  generalize hX : keptN l ig = X at *
  clear hX
  go_enter Tryz.func7, Tryz.ntmps7
  go_wp2_with fail
  refine H0.out.mono ?_
  rintro e w1 ⟨v1, rfl, hv1⟩
  have HV1 := Box.mk hv1.2
  obtain ⟨xa, xc, rfl, hx⟩ := hv1.shape
  have HX1 := Box.mk hx
  clear hv1 hx H0
  go_wp2_with fail
  refine (nmValues_any X xa xc w1 HX1.out HXZ.out (by omega)).mono ?_
  rintro e w2 ⟨q, n, rfl, hn, ⟨D, V, hG⟩, hb⟩
  have HG := Box.mk hG
  have HB2 := Box.mk (below_trans HV1.out hb)
  have HSZ := Box.mk hG.size
  clear hG hb HV1
  go_wp2_with (at_range; refine wpList_range_own _ rfl _ 41 rfl 9 24 keyedG Tryz.underlying41 heldG _ _ D rfl HG.out.map ?c1)
  case c1 =>
    intro w3 hrg hg3 hs3
    have HR0 := Box.mk (show RngS w2 w3 q w2.heap.size n X D (Go.Maps.has D) (Go.Maps.size D) (.slice none 0 0) [] from
      ⟨hrg, OwnF.start _ _, List.nodup_nil, fun s => by simp, fun f hf => (by cases hf), (Below.refl _ _).grown hg3 (Nat.le_refl _) (fun j hj => by cases hj), by have := HSZ.out; simp only [List.length_nil]; omega⟩)
    clear hrg hg3 hs3
    generalize hr : w2.heap.size = r at *
    have HRE := Box.mk hr
    clear hr
    go_wp2_with fail
    go_loopw [5] (fun v wr => ∃ left cnt F, Box (RngS w2 wr q r n X D left cnt v F)) (fun _ wr => wr.rangeLeft q r)
    case atStart => exact ⟨_, _, _, HR0⟩
    case round =>
      obtain ⟨left, cnt, F, HM⟩ := hrel
      go_wp2_with (at_next; refine wpList_next_grp _ rfl _ rfl rfl HM.out.rg HG.out.at_ ?d1 ?d2)
      case d1 =>
        intro h0 hdone
        have HDONE := Box.mk hdone
        clear hdone h0
        go_wp2_with fail
        refine (HSORT.out F _ (r + 1) wr HM.out.own (by have := HM.out.len; omega)).mono ?_
        rintro e w4 ⟨rfl, hb, d, da, dc, rfl, hdc, hd, hdl, heq⟩
        have HD := Box.mk hd
        have HE := Box.mk (heq X HM.out.nd (fun s => by
          rw [HM.out.mem, HG.out.has, any_low]
          exact ⟨fun h => h.1, fun h => ⟨h, HDONE.out _⟩⟩) HM.out.val)
        have HB4 := Box.mk (show Below w.heap.size w w4 by
          have h1 := HRE.out
          have h2 := HB2.out.size
          exact ⟨hb.os.trans (HM.out.low.os.trans HB2.out.os), hb.tape.trans (HM.out.low.tape.trans HB2.out.tape), hb.output.trans (HM.out.low.output.trans HB2.out.output), Nat.le_trans h2 (Nat.le_trans HM.out.low.size hb.size),
            fun k hk => (hb.block k (by omega)).trans ((HM.out.low.block k (by omega)).trans (HB2.out.block k hk))⟩)
        clear hb hd heq HM
        go_wp2_with fail
        go_ret
        rw [HRES.out, ← HE.out]
        exact ⟨da, dc, by rw [hdl]; rfl, HD.out, by omega, HB4.out⟩
      case d2 =>
        intro x w4 cnt' hxs hlx hDx hrg hlt hg4 hsz4 hen
        have HIN := valsN_pos (any_low.1 (by rw [← HG.out.has]; exact hDx))
        have HL4 := Box.mk (show Below r w2 w4 from HM.out.low.grown hg4 (by have h1 := HM.out.low.size; have h2 := HRE.out; omega) (fun j hj => by have := Option.some.inj hj; omega))
        have HG4 := HG.out.keep (by rw [HRE.out]; exact HL4.out)
        obtain ⟨g, vc, hV, hgl, hvc, hst⟩ := OwnS.block (HG4.own x) HIN.1
        rw [hV] at hen ⊢
        have HXN := Box.mk (And.intro hxs (And.intro hlx hDx))
        have HST := Box.mk (And.intro hst hgl)
        have HEQ := Box.mk (show joinS (valsN X x) = joinS (valuesL X x) by rw [HIN.2])
        have HRG := Box.mk hrg
        have HCN := Box.mk hlt
        have HTT := Box.mk (show total (valsN X x) ≤ 70000000000000 by rw [HIN.2]; exact HXT.out x)
        have HO4 := Box.mk (show OwnF (r + 1) w4 _ F from HM.out.own.grown hg4 (fun k hk e => by have := (HM.out.own.lt hk).1; have := Option.some.inj e; omega))
        have HR4 := Box.mk (show r + 1 ≤ w4.heap.size from hrg.lt)
        clear hst hgl HIN hrg hg4 hxs hlx hDx hsz4 HG4 hlt
        generalize hvs : valsN X x = vs at *
        clear hvs
        go_wp2_with fail
        refine (sJoin_any vs g vc w4 HST.out.1 HST.out.2 hvc HTT.out).mono ?_
        rintro e w5 ⟨rfl, hb5⟩
        rw [HEQ.out]
        have HO5 := Box.mk (HO4.out.keep hb5)
        have HB5 := Box.mk hb5
        clear hb5 hen
        go_wp2_with (at_builtin; refine wpList_append_ownf _ rfl _ _ rfl rfl (HO5.out.keep (below_oneF w5 _)) rfl (y := (x, joinS (valuesL X x))) ?c1 ?c2 ?c3 ?c4 ?c5)
        case c3 => have := HM.out.len; omega
        case c4 => have := HR4.out; have := HB5.out.size; simp; omega
        case c5 =>
          intro v6 w6 ho6 hg6
          have hlo : ∀ k, Value.ownBlock _ = some k → r + 1 ≤ k := fun k hk => (HO5.out.lt hk).1
          have HL5 := below_le (below_le HL4.out HB5.out (by have := HR4.out; omega)) (below_oneF w5 (.cells #[.string x, .string (joinS (valuesL X x))] 34)) (by have := HR4.out; have := HB5.out.size; omega)
          have HL6 := Box.mk (show Below r w2 w6 from HL5.grown hg6 (by have := HR4.out; have := HB5.out.size; simp; omega) (fun j hj => by have := hlo j hj; omega))
          have HRG6 := Box.mk (((HRG.out.kept (grownBy_below (row := none) HB5.out) (by simp) (by simp)).alloc (.cells #[.string x, .string (joinS (valuesL X x))] 34)).kept hg6
            (fun e => by have h1 := hlo q e.symm; have h2 := HG.out.lt; have h3 := HRE.out; omega) (fun e => by have h1 := hlo r e.symm; omega))
          have HM6 := Box.mk (HM.out.step HXN.out.2.1 HXN.out.2.2 HRG6.out HCN.out ho6 HL6.out)
          have HME := Box.mk (show w6.rangeLeft q r < wr.rangeLeft q r by rw [HRG6.out.left_eq, HM.out.rg.left_eq]; exact HCN.out)
          clear ho6 hg6 HRG6 HM HRG HO5 HB5
          go_wp2_with fail
          go_roundw
          case rel => exact ⟨_, _, _, HM6⟩
          case measure => exact HME.out
end Go.Proofs.YtnpbnaapbimjaaaGreatDoor
namespace Go.Proofs.YtnpbnaapbimjaaaGreatDoor
open Go.RowKit
set_option linter.unusedSimpArgs false
set_option linter.unusedVariables false

/-- What the library's Sort, and its Compact behind it, do with the call's own slice of strings. -/
def SortSOk : Prop := ∀ (l : List ByteArray) (g cap B : Nat) (w : World), OwnS B w (.slice (some ⟨g, 0, none⟩) l.length cap) l → l.length ≤ 1000000 →
    Calls Tryz.prog 25 #[.slice (some ⟨g, 0, none⟩) l.length cap] w fun e w' => e = .returned (.tuple #[]) ∧ Below B w w' ∧
      Calls Tryz.prog 26 #[.slice (some ⟨g, 0, none⟩) l.length cap] w' fun e w2 => e = .returned (.slice (some ⟨g, 0, none⟩) (namesS l).length cap) ∧ Below B w' w2 ∧ StrsC w2 (some ⟨g, 0, none⟩) (namesS l) cap
theorem OwnS.block' {B : Nat} {w : World} {v : Value} {l : List ByteArray} (h : OwnS B w v l) (hl : v.ownBlock ≠ none) : ∃ g cap, v = .slice (some ⟨g, 0, none⟩) l.length cap := by
  obtain ⟨h1, h2⟩ := h
  rcases h2 with ⟨rfl, h2⟩ | ⟨g, cap, cur, rfl, _⟩
  · exact absurd rfl hl
  · exact ⟨g, cap, rfl⟩
section
variable {ops : Array Oper} {rest : List Oper} {o : Oper} {act : Act} {Q : Exit → Act → World → Prop}
theorem wpList_make_strs (w : World) (hg : o.guard = none) (x y : Operand) (hop : o.op = Op.makeSlice 24 x y) {n : Nat} (hx : act.eval x = .int .i64 0) (hy : act.eval y = .int .i64 (n : Int)) (hn : n ≤ 1000000)
    (hK : ∀ w', OwnS w.heap.size w' (.slice (some ⟨w.heap.size, 0, none⟩) 0 n) [] → Below w.heap.size w w' → wpList Tryz.prog ops Q rest (act.put o.dst (.slice (some ⟨w.heap.size, 0, none⟩) 0 n)) w') : wpList Tryz.prog ops Q (o :: rest) act w := by
  obtain ⟨i0, hi, hz0, hz1, hz2⟩ := info_parts Tryz.info9
  obtain ⟨w', h1, h2, h3⟩ := run_make_own (P := Tryz.prog) w w.heap.size 24 9 i0 _ 1 Tryz.underlying24 hi hz0 hz1 .i64 .i64 n (by rw [hz2]; omega) (by unfold maxLen; omega) (Nat.le_refl _)
  refine wpList_plain hg fun K' hK' => ?_
  unfold Oper.wp
  simp only [execOp, hop, hx, hy, h1, Sem.run_bind, Sem.run_pure, Result.andThen_ok]
  exact hK' _ _ (hK w' h2 ((Below.refl _ _).grown h3 (Nat.le_refl _) (fun k hk => by cases hk)))
end

set_option maxRecDepth 100000 in
set_option maxHeartbeats 4000000 in
theorem nmNames_any (hsort : SortSOk) (l : List Fld) (a : Option Addr) (cap : Nat) (w : World) (h : FldsIn w a l) (hl : l.length ≤ 1000000) :
    Calls Tryz.prog 10 #[.slice a l.length cap] w (RetStrC w (namesS (l.map (·.1)))) := by
  have HSORT := Box.mk hsort
  have H0 := Box.mk h
  clear h hsort
  obtain ⟨L, hL⟩ : ∃ L, L = l.map (·.1) := ⟨_, rfl⟩
  rw [← hL]
  have HL := Box.mk hL
  clear hL
  go_enter Tryz.func10, Tryz.ntmps10
  go_wp2_with (at_make; refine wpList_make_strs _ rfl _ _ rfl (n := l.length) rfl rfl hl ?c1)
  case c1 =>
    intro w1 ho hb
    have HS1 := Box.mk (show OwnS w.heap.size w1 _ ((l.take 0).map (·.1)) from ho)
    have HB1 := Box.mk hb
    clear ho hb
    go_wp2_with fail
    go_loopw [3, 11] (fun v iv wr => ∃ k : Nat, k ≤ l.length ∧ iv = .int .i64 k ∧ Box (OwnS w.heap.size wr v ((l.take k).map (·.1)) ∧ v.ownBlock ≠ none ∧ Below w.heap.size w wr)) (fun _ iv _ => l.length - (intOf iv).toNat)
    case atStart => exact ⟨0, Nat.zero_le _, rfl, ⟨HS1.out, by simp [Value.ownBlock], HB1.out⟩⟩
    case round =>
      clear HS1 HB1
      obtain ⟨k, hk, rfl, HM⟩ := hrel
      by_cases hlt : k < l.length
      · obtain ⟨x, rfl, hx1, hx2⟩ := (H0.out.keep HM.out.2.2) k hlt
        have hx2 := cell_next hx2
        have HT := Box.mk (show (l.take (k + 1)).map (·.1) = (l.take k).map (·.1) ++ [l[k].1] by rw [List.take_succ_eq_append_getElem hlt, List.map_append]; rfl)
        have HLEN := Box.mk (show ((l.take k).map (·.1)).length + 1 ≤ 8000000 by rw [List.length_map]; have := List.length_take_le k l; omega)
        generalize l[k] = f at *
        have HO2 := Box.mk (show OwnS w.heap.size ((wr.alloc (.cells #[.string f.1, .string f.2] 34)).alloc (.cells #[.string f.1] 9)) _ _ from (HM.out.1.keep (below_oneF wr _)).keep (below_oneF _ _))
        go_wp2_with (at_builtin; refine wpList_append_grp _ rfl _ _ rfl rfl HO2.out rfl (f := f.1) ?c2 HLEN.out ?c3 ?c4)
        case c3 => have := HM.out.2.2.size; simp; omega
        case c4 =>
          intro v' w' g ho hg hv hl'
          have HM1 := Box.mk (show OwnS w.heap.size w' v' ((l.take (k + 1)).map (·.1)) ∧ v'.ownBlock ≠ none ∧ Below w.heap.size w w' by
            refine ⟨by rw [HT.out, List.map_take]; exact ho, by rw [hv]; simp, ?_⟩
            have h1 := below_twoF HM.out.2.2 (.cells #[.string f.1, .string f.2] 34)
            have h2 := below_twoF h1 (.cells #[.string f.1] 9)
            exact h2.grown hg h2.size (fun j hj => (HO2.out.lt hj).1))
          clear ho hg hv hl' HM HO2 HT HLEN
          go_wp2_with fail
          go_roundw
          case rel => exact ⟨k + 1, by omega, by go_num, HM1⟩
          case measure => simp [intOf]; omega
      · obtain ⟨g, c, rfl⟩ := HM.out.1.block' HM.out.2.1
        have HTK := Box.mk (show (l.take k).map (·.1) = L by rw [HL.out, List.take_of_length_le (by omega)])
        have HE := Box.mk HM.out.1
        have HBW := Box.mk HM.out.2.2
        have HNL := Box.mk (show L.length ≤ 1000000 by rw [HL.out, List.length_map]; exact hl)
        clear HM
        rw [HTK.out] at HE ⊢
        clear HTK
        go_wp2_with fail
        refine (HSORT.out L g c w.heap.size wr HE.out HNL.out).mono ?_
        rintro e w2 ⟨rfl, hb2, hc2⟩
        have HC2 := Box.mk hc2
        have HB2 := Box.mk (below_le HBW.out hb2 (Nat.le_refl _))
        clear hb2 hc2
        go_wp2_with fail
        refine HC2.out.mono ?_
        rintro e w3 ⟨rfl, hb3, hs3⟩
        have HS3 := Box.mk hs3
        have HB3 := Box.mk (below_le HB2.out hb3 (Nat.le_refl _))
        clear hb3 hs3
        go_wp2_with fail
        go_ret
        exact ⟨_, _, rfl, HS3.out, HB3.out⟩
end Go.Proofs.YtnpbnaapbimjaaaGreatDoor
namespace Go.Proofs.YtnpbnaapbimjaaaGreatDoor
open Go.RowKit
open Go.Sort (SWO PermIn SortedIn)
set_option linter.unusedSimpArgs false
set_option linter.unusedVariables false

theorem cmpB_lt : ∀ a b : List UInt8, decide (Lib.compareBytes a b < 0) = Op.bytesLess a b
  | [], [] => by simp [Lib.compareBytes, Op.bytesLess]
  | [], _ :: _ => by simp [Lib.compareBytes, Op.bytesLess]
  | _ :: _, [] => by simp [Lib.compareBytes, Op.bytesLess]
  | x :: a, y :: b => by
    unfold Lib.compareBytes Op.bytesLess
    rw [← cmpB_lt a b]
    by_cases h1 : x < y
    · simp [h1]
    · by_cases h2 : y < x
      · have h3 : ¬ x = y := by intro e; subst e; exact h1 h2
        simp [h1, h2, h3]
      · have h3 : x = y := by
          rw [UInt8.lt_iff_toNat_lt] at h1 h2
          exact UInt8.toNat_inj.1 (by omega)
        subst h3
        simp [h1]
/-- What two fields are compared by: their names. -/
def cfF (x y : Fld) : Int := Lib.compareBytes x.1.data.toList y.1.data.toList
theorem ltF (x y : Fld) : ltOf cfF x y = ltS x.1 y.1 := by
  unfold ltOf cfF ltS
  rw [cmpB_lt, ba_toList, ba_toList]
theorem swoF : SWO (ltOf cfF) where
  irrefl x := by rw [ltF, ltS_irr]
  trans x y z h k := by rw [ltF] at *; exact ltS_trans h k
  ntrans x y z h k := by
    rw [ltF] at *
    cases hz : ltS x.1 z.1 with
    | false => rfl
    | true =>
      rcases ltS_tri x.1 y.1 with e | e | e
      · rw [h] at e; cases e
      · rw [e, k] at hz; cases hz
      · have := ltS_trans e hz
        rw [k] at this; cases this
theorem sortedS_of : ∀ {l : List ByteArray}, l.Pairwise (fun a b => ltS a b = true) → SortedS l
  | [], _ => trivial
  | x :: r, h => by
    obtain ⟨h1, h2⟩ := List.pairwise_cons.1 h
    exact ⟨h1, sortedS_of h2⟩
theorem sorted_arr (d : Array Fld) (h : SortedIn (ltOf cfF) 0 d.size d) (hn : (d.toList.map (·.1)).Nodup) : SortedS (d.toList.map (·.1)) := by
  refine sortedS_of ?_
  rw [List.pairwise_iff_getElem]
  intro i j hi hj hij
  have hi' : i < d.size := by simpa using hi
  have hj' : j < d.size := by simpa using hj
  have h1 := h i j (Nat.zero_le _) hij hj'
  rw [ltF, getElem!_pos d j hj', getElem!_pos d i hi'] at h1
  have hne : d[i].1 ≠ d[j].1 := by
    intro e
    have := (List.pairwise_iff_getElem.1 hn) i j hi hj hij
    simp only [List.getElem_map, Array.getElem_toList] at this
    exact this e
  simp only [List.getElem_map, Array.getElem_toList]
  rcases ltS_tri d[i].1 d[j].1 with e | e | e
  · exact e
  · exact absurd e hne
  · rw [h1] at e; cases e
theorem sorted_outN (X : List Fld) (F : List Fld) (d' : Array Fld) (hp : PermIn 0 F.toArray.size F.toArray d') (hs : SortedIn (ltOf cfF) 0 F.toArray.size d') (hn : (F.map (·.1)).Nodup)
    (hm : ∀ s, s ∈ F.map (·.1) ↔ s ∈ X.map (fun f => lowS f.1)) (hv : ∀ f ∈ F, f.2 = joinS (valuesL X f.1)) : d'.toList = outN X := by
  obtain ⟨h1, _, h3⟩ := hp
  rw [← h1] at hs h3
  have hperm : d'.toList.Perm F := by simpa using h3.trans (by rw [h1]; simp)
  have hnd : (d'.toList.map (·.1)).Nodup := (hperm.map (·.1)).nodup_iff.2 hn
  have hso := sorted_arr d' hs hnd
  have hnm : d'.toList.map (·.1) = namesS (X.map fun f => lowS f.1) := sorted_ext hso (namesS_sorted _) fun x => by
    rw [namesS_mem, ← hm, (hperm.map (·.1)).mem_iff]
  unfold outN
  rw [← hnm, List.map_map]
  refine ((List.map_congr_left fun f hf => ?_).trans (List.map_id' _)).symm
  have := hv f (hperm.mem_iff.1 hf)
  simp only [Function.comp_apply]
  rw [← this]

/-- The names that the library's sort and Compact leave. -/
def lsB (l : List ByteArray) : List (List UInt8) := l.map fun s => s.data.toList
def byB (l : List (List UInt8)) : List ByteArray := l.map fun s => ⟨s.toArray⟩
theorem ltS_mk (a b : List UInt8) : ltS ⟨a.toArray⟩ ⟨b.toArray⟩ = decide (a < b) := by
  unfold ltS
  rw [ba_toList, ba_toList, bytesLess_eq]
theorem ss_sorted (ss : List (List UInt8)) : (ss.mergeSort fun x y => decide (x ≤ y)).Pairwise (fun a b => ¬ b < a) := by
  have h := List.pairwise_mergeSort (le := fun x y : List UInt8 => decide (x ≤ y)) (fun a b c h1 h2 => by
    simp only [decide_eq_true_eq] at *
    exact List.le_trans h1 h2) (fun a b => by
    simp only [Bool.or_eq_true, decide_eq_true_eq]
    exact List.le_total a b) ss
  exact h.imp fun {a b} h => by
    simp only [decide_eq_true_eq] at h
    exact List.not_lt.2 h
theorem comp_mem (d : Array (List UInt8)) (x : List UInt8) : ∀ m, x ∈ Lib.compactUpTo d m ↔ ∃ j, j < m ∧ x = d[j]!
  | 0 => by simp [Lib.compactUpTo]
  | m + 1 => by
    rw [Lib.compactUpTo_succ, List.mem_append, comp_mem d x m]
    constructor
    · rintro (⟨j, h1, h2⟩ | h)
      · exact ⟨j, by omega, h2⟩
      · split at h
        · simp at h; exact ⟨m, by omega, h⟩
        · cases h
    · rintro ⟨j, h1, rfl⟩
      by_cases hj : j < m
      · exact .inl ⟨j, hj, rfl⟩
      · obtain rfl : j = m := by omega
        by_cases hk : Lib.keeps d j = true
        · exact .inr (by rw [if_pos hk]; simp)
        · left
          unfold Lib.keeps at hk
          simp only [decide_eq_true_eq, not_or] at hk
          exact ⟨j - 1, by omega, Classical.not_not.1 hk.2⟩
theorem comp_sorted (d : Array (List UInt8)) (hs : ∀ i j, i < j → j < d.size → ¬ d[j]! < d[i]!) : ∀ m, m ≤ d.size → (Lib.compactUpTo d m).Pairwise (fun a b => a < b)
  | 0, _ => by simp [Lib.compactUpTo]
  | m + 1, hm => by
    rw [Lib.compactUpTo_succ, List.pairwise_append]
    refine ⟨comp_sorted d hs m (by omega), by split <;> simp, fun a ha b hb => ?_⟩
    split at hb
    · rename_i hk
      simp at hb
      subst hb
      obtain ⟨j, hj, rfl⟩ := (comp_mem d a m).1 ha
      unfold Lib.keeps at hk
      simp only [decide_eq_true_eq] at hk
      have hne : d[m]! ≠ d[m - 1]! := by rcases hk with hk | hk; · omega
                                         · exact hk
      have h1 : ¬ d[m]! < d[m - 1]! := hs (m - 1) m (by omega) (by omega)
      have h2 : d[j]! = d[m - 1]! ∨ ¬ d[m - 1]! < d[j]! := by
        by_cases e : j = m - 1
        · exact .inl (by rw [e])
        · exact .inr (hs j (m - 1) (by omega) (by omega))
      have h3 : d[m - 1]! < d[m]! := by
        rcases List.le_iff_lt_or_eq.1 (List.not_lt.1 h1) with h | h
        · exact h
        · exact absurd h.symm hne
      rcases h2 with h2 | h2
      · rw [h2]; exact h3
      · exact List.lt_of_le_of_lt (List.not_lt.1 h2) h3
    · cases hb
/-- What is left of the names, sorted and each once. -/
theorem comp_names (l : List ByteArray) : byB (Lib.compactUpTo ((lsB l).mergeSort fun x y => decide (x ≤ y)).toArray ((lsB l).mergeSort fun x y => decide (x ≤ y)).toArray.size) = namesS l := by
  generalize hd : ((lsB l).mergeSort fun x y => decide (x ≤ y)) = ss
  have hperm : ss.Perm (lsB l) := by rw [← hd]; exact List.mergeSort_perm _ _
  have hso := ss_sorted (lsB l)
  rw [hd] at hso
  have hs : ∀ i j, i < j → j < ss.toArray.size → ¬ ss.toArray[j]! < ss.toArray[i]! := by
    intro i j hij hj
    have hj' : j < ss.length := by simpa using hj
    have h1 := List.pairwise_iff_getElem.1 hso i j (by omega) hj' hij
    rw [getElem!_pos ss.toArray j hj, getElem!_pos ss.toArray i (by omega)]
    simpa using h1
  have hp := comp_sorted ss.toArray hs ss.toArray.size (Nat.le_refl _)
  refine sorted_ext (sortedS_of ?_) (namesS_sorted _) fun x => ?_
  · unfold byB
    rw [List.pairwise_map]
    exact hp.imp fun {a b} h => by rw [ltS_mk]; simpa using h
  · rw [namesS_mem]
    have hx : x ∈ byB (Lib.compactUpTo ss.toArray ss.toArray.size) ↔ x.data.toList ∈ Lib.compactUpTo ss.toArray ss.toArray.size := by
      unfold byB
      rw [List.mem_map]
      constructor
      · rintro ⟨a, h, rfl⟩; exact h
      · intro h; exact ⟨_, h, rfl⟩
    rw [hx, comp_mem]
    have hy : x ∈ l ↔ x.data.toList ∈ ss := by
      rw [hperm.mem_iff]
      unfold lsB
      rw [List.mem_map]
      constructor
      · intro h; exact ⟨x, h, rfl⟩
      · rintro ⟨y, h, e⟩
        have : y = x := ba_ext e
        rw [← this]; exact h
    rw [hy]
    constructor
    · rintro ⟨j, hj, e⟩
      rw [e, getElem!_pos ss.toArray j hj]
      simp
    · intro h
      obtain ⟨j, hj, e⟩ := List.getElem_of_mem h
      refine ⟨j, by simpa using hj, ?_⟩
      rw [getElem!_pos ss.toArray j (by simpa using hj)]
      simp [e]
end Go.Proofs.YtnpbnaapbimjaaaGreatDoor
namespace Go.Proofs.YtnpbnaapbimjaaaGreatDoor
open Go.RowKit
open Go.Sort
set_option linter.unusedSimpArgs false
set_option linter.unusedVariables false

def encF (x : Fld) : List Value := [.string x.1, .string x.2]
theorem agFN (w : World) : (isAgg 34).run Tryz.prog w = .ok true w := by
  unfold isAgg; rw [Sem.run_bind, run_underlying Tryz.underlying34 w]; rfl
theorem szFN (w : World) : (Go.sizeOf 34).run Tryz.prog w = .ok 2 w := by
  obtain ⟨i0, hi, hz0, hz1, hz2⟩ := info_parts Tryz.info34
  simp [Go.sizeOf, typeInfo, hi, hz1]
set_option maxHeartbeats 1000000 in
theorem byName_any (x y : Fld) (W : World) : Calls Tryz.prog 19 #[.agg #[.string x.1, .string x.2], .agg #[.string y.1, .string y.2]] W fun e w' => e = .returned (.int .i64 (cfF x y)) ∧ ∃ q os', w' = grow (W.drewN q) os' := by
  have hcon : ∀ W', Calls Tryz.prog 37 #[.string x.1, .string y.1] W' fun e w' => e = .returned (.int .i64 (cfF x y)) ∧ w' = W' := fun W' => Any.strings_Compare Tryz.lays106 x.1 y.1 W'
  generalize cfF x y = r at *
  go_enter Tryz.func19, Tryz.ntmps19
  go_wp2_with fail
  refine (hcon _).mono ?_
  rintro e w' ⟨rfl, rfl⟩
  go_wp2_with fail
  go_ret
  exact ⟨rfl, 0, _, by rw [alloc_eq_grow, alloc_eq_grow, grow_grow]; rfl⟩
theorem cmpF (blk off size : Nat) (w : World) : CmpLays Tryz.prog 19 #[] encF 2 cfF blk off size w := fun _ _ _ _ x y => byName_any x y _
theorem holdsF {w : World} {g : Nat} {l : List Fld} (h : FldsIn w (some ⟨g, 0, none⟩) l) (hf : ∀ j, w.frozen? ⟨g, j, none⟩ = false) : HoldsK encF 2 w g 0 l.toArray := by
  intro j hj
  have hj' : j < l.length * 2 := by simpa using hj
  have hk : j / 2 < l.length := by omega
  refine ⟨?_, hf _⟩
  show w.cell? ⟨g, 0 + j, none⟩ = some ((flatK encF 2 l.toArray)[j]!)
  rw [get_flatK encF 2 l.toArray j (by simpa using hj')]
  obtain ⟨x, e, h1, h2⟩ := h (j / 2) hk
  obtain rfl := Option.some.inj e
  rw [Addr.add_lit] at h1 h2
  have hel : l.toArray[j / 2]! = l[j / 2] := by rw [getElem!_pos l.toArray (j / 2) (by simpa using hk)]; simp
  rw [hel, Nat.zero_add]
  rcases Nat.mod_two_eq_zero_or_one j with hm | hm
  · have e1 : j / 2 * 2 = j := by omega
    rw [hm]
    rw [e1, Nat.zero_add] at h1
    exact h1
  · have e1 : j / 2 * 2 + 1 = j := by omega
    rw [hm]
    rw [e1, Nat.zero_add] at h2
    exact h2
theorem holdsF_in {w : World} {g : Nat} {d : Array Fld} (h : HoldsK encF 2 w g 0 d) : FldsIn w (some ⟨g, 0, none⟩) d.toList := by
  intro j hj
  have hj' : j < d.size := by simpa using hj
  have hel : d[j]! = d.toList[j] := by rw [getElem!_pos d j hj']; simp
  refine ⟨_, rfl, ?_, ?_⟩
  · have h1 := (h (j * 2) (by simp; omega)).1
    rw [get_flatK encF 2 d (j * 2) (by omega)] at h1
    rw [Addr.add_lit, Nat.zero_add]
    rw [Nat.zero_add, show j * 2 / 2 = j by omega, show j * 2 % 2 = 0 by omega, hel] at h1
    exact h1
  · have h1 := (h (j * 2 + 1) (by simp; omega)).1
    rw [get_flatK encF 2 d (j * 2 + 1) (by omega)] at h1
    rw [Addr.add_lit, Nat.zero_add]
    rw [Nat.zero_add, show (j * 2 + 1) / 2 = j by omega, show (j * 2 + 1) % 2 = 1 by omega, hel] at h1
    exact h1
theorem grownBy_put {α : Type} [Inhabited α] {w : World} {g n : Nat} {os : Array Obj} (enc : α → Value) (d : Array α) : w.grownBy (grow (putRow enc (Sort.ahead w n) g 0 d) os) (some g) := by
  refine ⟨rfl, rfl, rfl, by simp, fun k hk hne => ?_⟩
  rw [heap_grow_old _ _ (by simpa using hk)]
  have : g ≠ k := fun e => hne (by rw [e])
  simp [putRow, mapBlock, Sort.ahead, Array.getElem?_modify, this]
theorem outN_nil {X : List Fld} (h : ∀ s, s ∈ ([] : List ByteArray) ↔ s ∈ X.map (fun f => lowS f.1)) : outN X = [] := by
  have : X = [] := by
    cases X with
    | nil => rfl
    | cons f r => have := (h (lowS f.1)).2 (by simp); cases this
  rw [this]; rfl
theorem frozen_cells {w : World} {g : Nat} {cur : Array Value} {e : TypeId} (hb : w.heap[g]? = some (.cells cur e (0, 0))) (j : Nat) : w.frozen? ⟨g, j, none⟩ = false := by simp [World.frozen?, hb]

theorem nmSortF_ok : SortFOk := by
  intro F v B w h hl
  obtain ⟨a, cap, hsh, hfl, hcap⟩ := h.shape
  obtain ⟨h1, h2⟩ := h
  rcases h2 with ⟨rfl, h0⟩ | ⟨g, cap', cur, rfl, hg, hc, hcap', hm, hsz, ht⟩
  · have hF : F = [] := List.eq_nil_of_length_eq_zero h0
    subst hF
    have hcon : Calls Tryz.prog 18 #[.slice none 0 0, .func (.func 19) #[] #[]] w fun e w' => e = .returned (.tuple #[]) ∧ w' = w := AnyF.slices_SortFunc_none Tryz.sortF none 0 _ w
    refine hcon.mono ?_
    rintro e w' ⟨rfl, rfl⟩
    exact ⟨rfl, Below.refl _ _, [], none, 0, rfl, Nat.le_refl _, ⟨FldsIn.nil _ _, fun _ => ⟨rfl, rfl⟩⟩, rfl, fun X _ hmem _ => (outN_nil hmem).symm⟩
  · injection hsh with e1 _ e3
    subst e1 e3
    have hlt := (Array.getElem?_eq_some_iff.1 hc).1
    have hH := holdsF hfl.1 (frozen_cells hc)
    have eg : ∀ args w, (callFunc 19 args).run Tryz.prog w = .ok (.enter 19 args) w := enters_of Tryz.func19 (by kernel_rfl) rfl
    have hcon : Calls Tryz.prog 18 #[.slice (some ⟨g, 0, none⟩) F.toArray.size cap', .func (.func 19) #[] #[]] w fun e w' =>
        e = .returned (.tuple #[]) ∧ ∃ d' n os, PermIn 0 F.toArray.size F.toArray d' ∧ SortedIn (ltOf cfF) 0 F.toArray.size d' ∧ w' = sortWorldK encF 2 w g 0 n d' os :=
      AnyQ.slices_SortFunc Tryz.sortF 2 agFN szFN encF (fun _ => rfl) (fun x v hv => by simp [encF] at hv; rcases hv with rfl | rfl <;> rfl) cfF swoF 19 #[] g 0 cap' F.toArray w eg (cmpF g 0 _ w) hH hlt (by simp; omega)
    rw [List.size_toArray] at hcon
    refine hcon.mono ?_
    rintro e w' ⟨rfl, d', n, os, hp, hs, rfl⟩
    have hds : d'.size = F.toArray.size := hp.1
    have hH' := holdsK_sortWorldK_c encF 2 w g 0 F.toArray d' n os hH hlt hds
    have hgr : w.grownBy (sortWorldK encF 2 w g 0 n d' os) (some g) := grownBy_put id (flatK encF 2 d')
    refine ⟨rfl, ⟨hgr.os, hgr.tape, hgr.output, hgr.size, fun k hk => hgr.block k (by omega) (fun e => by have := Option.some.inj e; omega)⟩, d'.toList, some ⟨g, 0, none⟩, cap', rfl, hcap, ⟨holdsF_in hH', fun e => by cases e⟩, by simpa using hds, fun X hn hmem hv => ?_⟩
    exact sorted_outN X F d' (by simpa using hp) (by simpa using hs) hn hmem hv

theorem holdsS {w : World} {g : Nat} {l : List ByteArray} {cur : Array Value} {e : TypeId} (hb : w.heap[g]? = some (.cells cur e (0, 0))) (ht : cur.toList.take (l.length * 1) = strV l) : Go.Sort.Holds encStr w g 0 (lsB l).toArray := by
  refine holds_of_block hb ?_
  unfold lsB at *
  rw [List.length_map]
  rw [Nat.mul_one] at ht
  rw [ht]
  unfold strV
  rw [List.map_map]
  refine List.map_congr_left fun s _ => ?_
  rfl
theorem nmSortS_ok : SortSOk := by
  intro l g cap B w h hl
  obtain ⟨h1, h2⟩ := h
  rcases h2 with ⟨e, _⟩ | ⟨g', cap', cur, e, hg, hc, hcap, hm, hsz, ht⟩
  · cases e
  · injection e with e1 _ e3
    have e1 := Option.some.inj e1
    injection e1 with e1
    subst e1 e3
    have hlt := (Array.getElem?_eq_some_iff.1 hc).1
    have hll : (lsB l).length = l.length := by unfold lsB; simp
    have hcon : Calls Tryz.prog 25 #[.slice (some ⟨g, 0, none⟩) (lsB l).length cap] w fun e w' =>
        e = .returned (.tuple #[]) ∧ ∃ n os, w' = grow (putRow encStr (Sort.ahead w n) g 0 ((lsB l).mergeSort fun x y => decide (x ≤ y)).toArray) os :=
      AnyM.slices_Sort_string Tryz.sortS g 0 cap (lsB l) w (holdsS hc ht) hlt (by omega)
    rw [hll] at hcon
    refine hcon.mono ?_
    rintro e w' ⟨rfl, n, os, rfl⟩
    have hgr : w.grownBy (grow (putRow encStr (Sort.ahead w n) g 0 ((lsB l).mergeSort fun x y => decide (x ≤ y)).toArray) os) (some g) := grownBy_put _ _
    have hheap := heap_sorted (n := n) (os := os) ((lsB l).mergeSort fun x y => decide (x ≤ y)).toArray hc
    have hzl : ((lsB l).mergeSort fun x y => decide (x ≤ y)).length = l.length := by rw [List.length_mergeSort, hll]
    have htk := take_putCells cur ((lsB l).mergeSort fun x y => decide (x ≤ y)) (by rw [hzl, hsz]; omega)
    have hres := comp_names l
    refine ⟨rfl, ⟨hgr.os, hgr.tape, hgr.output, hgr.size, fun k hk => hgr.block k (by omega) (fun e => by have := Option.some.inj e; omega)⟩, ?_⟩
    generalize grow (putRow encStr (Sort.ahead w n) g 0 ((lsB l).mergeSort fun x y => decide (x ≤ y)).toArray) os = W at *
    generalize ((lsB l).mergeSort fun x y => decide (x ≤ y)) = zs at *
    have hH : Go.Sort.Holds encStr W g 0 zs.toArray := holds_of_block hheap htk
    have hltW := (Array.getElem?_eq_some_iff.1 hheap).1
    have hcon2 : Calls Tryz.prog 26 #[.slice (some ⟨g, 0, none⟩) zs.length cap] W fun e w' =>
        e = .returned (.slice (some ⟨g, 0, none⟩) (Lib.compact zs).length cap) ∧ ∃ q, w' = putRow encStr (Sort.ahead W q) g 0 (Lib.compact zs ++ List.replicate (zs.length - (Lib.compact zs).length) []).toArray :=
      AnyG.slices_Compact_string Tryz.compS g 0 cap zs W hH (by omega) (by omega)
    rw [hzl] at hcon2
    refine hcon2.mono ?_
    rintro e w2 ⟨rfl, q, rfl⟩
    have hcz : byB (Lib.compact zs) = namesS l := by rw [← hres]; unfold Lib.compact; simp
    have hcl : (Lib.compact zs).length = (namesS l).length := by rw [← hcz]; unfold byB; simp
    have hnl := namesS_len l
    have hgr2 : W.grownBy (putRow encStr (Sort.ahead W q) g 0 (Lib.compact zs ++ List.replicate (l.length - (Lib.compact zs).length) []).toArray) (some g) := by
      have := grownBy_put (w := W) (g := g) (n := q) (os := #[]) encStr (Lib.compact zs ++ List.replicate (l.length - (Lib.compact zs).length) []).toArray
      rwa [grow_empty] at this
    refine ⟨by rw [hcl], ⟨hgr2.os, hgr2.tape, hgr2.output, hgr2.size, fun k hk => hgr2.block k (by omega) (fun e => by have := Option.some.inj e; omega)⟩, fun j hj => ?_, by omega, fun e => by cases e⟩
    have hj2 : j < (Lib.compact zs).length := by omega
    have hc3 := cell?_putRow encStr (Sort.ahead W q) g 0 zs.toArray (Lib.compact zs ++ List.replicate (l.length - (Lib.compact zs).length) []).toArray hH (by simp; omega) j (by simp; omega)
    refine ⟨_, rfl, ?_⟩
    rw [Addr.add_lit, hc3, getElem!_pos _ j (by simp; omega)]
    have e1 : (Lib.compact zs ++ List.replicate (l.length - (Lib.compact zs).length) []).toArray[j]'(by simp; omega) = (Lib.compact zs)[j] := by
      simp [List.getElem_append_left hj2]
    rw [e1]
    have e2 : (namesS l)[j] = ⟨(Lib.compact zs)[j].toArray⟩ := by
      have : (byB (Lib.compact zs))[j]'(by unfold byB; simpa using hj2) = ⟨(Lib.compact zs)[j].toArray⟩ := by unfold byB; simp
      rw [← this]
      congr 1
      exact hcz.symm
    rw [e2]
end Go.Proofs.YtnpbnaapbimjaaaGreatDoor
namespace Go.Proofs.YtnpbnaapbimjaaaGreatDoor
open Go.RowKit
set_option linter.unusedVariables false

/-- Fields of no more than so many bytes. -/
def MedF (l : List Fld) : Prop := (∀ f ∈ l, f.1.size ≤ 100000000 ∧ f.2.size ≤ 100000000) ∧ l.length ≤ 1000 ∧ total (valuesL l cnN) ≤ 3000000000
theorem MedF.short {l : List Fld} (h : MedF l) : ShortF l := fun f hf => by have := h.1 f hf; unfold maxLen; omega
theorem total_valuesM {x : List Fld} (h : ∀ f ∈ x, f.1.size ≤ 100000000 ∧ f.2.size ≤ 100000000) (n : ByteArray) : total (valuesL x n) ≤ x.length * 100000001 := by
  unfold valuesL
  induction x with
  | nil => exact Nat.zero_le _
  | cons f t ih =>
    have h1 := ih (fun g hg => h g (List.mem_cons_of_mem _ hg))
    have h2 := (h f (List.mem_cons_self ..)).2
    clear h ih
    rw [List.filter_cons, List.length_cons, Nat.add_mul, Nat.one_mul]
    split
    · simp only [List.map_cons, total]
      exact Nat.le_trans (Nat.add_le_add (Nat.add_le_add_right h2 1) h1) (Nat.le_of_eq (Nat.add_comm _ _))
    · exact Nat.le_trans h1 (Nat.le_add_right _ _)
theorem MedF.totals {l : List Fld} (h : MedF l) (n : ByteArray) : total (valuesL l n) ≤ 70000000000000 := by
  exact Nat.le_trans (total_valuesM h.1 n) (Nat.le_trans (Nat.mul_le_mul_right _ h.2.1) (by decide))
theorem medF_small {l : List Fld} (h : SmallF l) (hl : l.length ≤ 1000) : MedF l :=
  ⟨fun f hf => by have := h f hf; omega, hl, by have := small_total h hl cnN; omega⟩
theorem medF_fields {l : List Fld} {ig : List ByteArray} (h : SmallF l) (hl : l.length ≤ 40) : MedF (fieldsN l ig) := by
  refine ⟨fun f hf => ?_, ?_, ?_⟩
  · unfold fieldsN outN at hf
    rw [List.mem_map] at hf
    obtain ⟨n, hn, rfl⟩ := hf
    rw [namesS_mem, List.mem_map] at hn
    obtain ⟨g, hg, rfl⟩ := hn
    have h1 := h g (keptN_mem hg).1
    refine ⟨by rw [lowS_size]; omega, ?_⟩
    have h2 := joinS_size (valuesL (keptN l ig) (lowS g.1))
    have h3 := Nat.le_trans (total_kept l ig (lowS g.1)) (total_values h _)
    have h4 : l.length * 1048577 ≤ 41943080 := Nat.le_trans (Nat.mul_le_mul_right _ hl) (by decide)
    generalize l.length * 1048577 = m at *
    simp only
    omega
  · have h1 := outN_len (keptN l ig)
    have h2 : (keptN l ig).length ≤ l.length := Nat.le_trans (withoutL_len _ _) (Nat.le_trans (withoutL_len _ _) (stripL_len _))
    unfold fieldsN
    omega
  · have hc : valuesL (fieldsN l ig) cnN = [] := by
      unfold valuesL
      rw [List.map_eq_nil_iff, List.filter_eq_nil_iff]
      intro f hf hq
      obtain ⟨g, hg, e⟩ := outN_name hf
      have hk := (keptN_mem hg).2.1
      have hlow : inFoldL nineN f.1 = inFoldL nineN g.1 := inFoldL_low nineN (by rw [e, lowS_idem])
      rw [← hlow, inFoldL_right nineN hq, nine_cn] at hk
      cases hk
    rw [hc]; exact Nat.zero_le _
theorem fieldsN_len (l : List Fld) (ig : List ByteArray) : (fieldsN l ig).length ≤ l.length := by
  have h1 := outN_len (keptN l ig)
  have h2 : (keptN l ig).length ≤ l.length := Nat.le_trans (withoutL_len _ _) (Nat.le_trans (withoutL_len _ _) (stripL_len _))
  unfold fieldsN
  omega

theorem nFields_any (l : List Fld) (ig : List ByteArray) (a b : Option Addr) (cap cb : Nat) (w : World) (mm : Int) (hmx : MaxOk w mm) (h : FldsC w a l cap) (hc : l.length ≤ cap) (hm : MedF l) (hi : StrsC w b ig cb) (hiz : ∀ x ∈ ig, x.size ≤ maxLen) (hil : ig.length ≤ 1000) :
    Calls Tryz.prog 7 #[.slice a l.length cap, .slice b ig.length cb] w (RetFldC w (fieldsN l ig)) :=
  nmFields_any nmSortF_ok l ig a b cap cb w mm h.1 hm.short (by have := hm.2.1; omega) hmx hm.2.2 hm.totals hi hiz (by omega)
theorem nNames_any (l : List Fld) (a : Option Addr) (cap : Nat) (w : World) (h : FldsC w a l cap) (hc : l.length ≤ cap) (hm : MedF l) :
    Calls Tryz.prog 10 #[.slice a l.length cap] w (RetStrC w (namesS (l.map (·.1)))) :=
  nmNames_any nmSortS_ok l a cap w h.1 (by have := hm.2.1; omega)
end Go.Proofs.YtnpbnaapbimjaaaGreatDoor
namespace Go.Proofs.YtnpbnaapbimjaaaGreatDoor
open Go.RowKit
set_option linter.unusedSimpArgs false
set_option linter.unusedVariables false

theorem nFields_eq {l r : List Fld} {ig : List ByteArray} {a b : Option Addr} {cap cb : Nat} {mm : Int} (w : World) (hmx : MaxOk w mm) (h : FldsC w a l cap) (hc : l.length ≤ cap) (hm : MedF l) (hi : StrsC w b ig cb) (hiz : ∀ x ∈ ig, x.size ≤ maxLen) (hil : ig.length ≤ 1000) (hr : fieldsN l ig = r) :
    Calls Tryz.prog 7 #[.slice a l.length cap, .slice b ig.length cb] w (RetFldC w r) := by subst hr; exact nFields_any l ig a b cap cb w mm hmx h hc hm hi hiz hil
theorem nNames_eq {l : List Fld} {r : List ByteArray} {a : Option Addr} {cap : Nat} (w : World) (h : FldsC w a l cap) (hc : l.length ≤ cap) (hm : MedF l) (hr : namesS (l.map (·.1)) = r) :
    Calls Tryz.prog 10 #[.slice a l.length cap] w (RetStrC w r) := by subst hr; exact nNames_any l a cap w h hc hm
theorem refFields_eq {l r : List Fld} {ig : List ByteArray} {a b : Option Addr} {cap cb : Nat} (w : World) (h : FldsC w a l cap) (hm : MedF l) (hi : StrsC w b ig cb) (hiz : ∀ x ∈ ig, x.size ≤ maxLen) (hil : ig.length ≤ 1000) (hr : fieldsN l ig = r) :
    Calls Tryz.prog 8 #[.slice a l.length cap, .slice b ig.length cb] w (RetFldC w r) := by
  subst hr
  exact refFields_any l ig a b cap cb w h.1 hm.short (by have := hm.2.1; omega) hm.2.2 hm.totals hi.1 hiz (by omega)
theorem refNames_eq {l : List Fld} {r : List ByteArray} {a : Option Addr} {cap : Nat} (w : World) (h : FldsC w a l cap) (hm : MedF l) (hr : namesS (l.map (·.1)) = r) :
    Calls Tryz.prog 11 #[.slice a l.length cap] w (RetStrC w r) := by subst hr; exact refNames_any l a cap w h.1 (by have := hm.2.1; omega)
theorem StrsC.none (w : World) : StrsC w none [] 0 := ⟨StrsIn.nil _ _, Nat.le_refl _, fun _ => rfl⟩
theorem fldC_new {w : World} {l : List Fld} {cs : Array Value} (h : cs = (cellsF l).toArray) : FldsC (w.alloc (.cells cs 34)) (some ⟨w.heap.size, 0, none⟩) l l.length :=
  ⟨FldsIn.of_cells fun j u hj => by rw [Addr.add_lit, new_cellF, h]; simpa using hj, fun e => by cases e⟩
theorem strsC_one (w : World) (s : ByteArray) (t : TypeId) : StrsC (w.alloc (.cells #[.string s] t)) (some ⟨w.heap.size, 0, none⟩) [s] 1 := ⟨strsIn_one w s t, Nat.le_refl _, fun e => by cases e⟩

set_option maxHeartbeats 400000 in
theorem sameIn_any (x y : List ByteArray) (a b : Option Addr) (ca cb : Nat) (w : World) (hx : StrsIn w a x) (hy : StrsIn w b y) (_hxl : x.length ≤ 8796093022208) (_hyl : y.length ≤ 8796093022208) :
    Calls Tryz.prog 9 #[.slice a x.length ca, .slice b y.length cb] w fun e w' => e = .returned (.bool (sameS x y)) ∧ Below w.heap.size w w' := by
  have HX := Lib.hid hx
  have HY := Lib.hid hy
  clear hx hy
  go_enter Tryz.func9, Tryz.ntmps9
  by_cases hl : x.length = y.length
  · have HL := Lib.hid hl
    have hl1 : ((x.length : Int) != (y.length : Int)) = false := by simp [hl]
    have hl2 : x.length ≤ y.length := by omega
    clear hl
    go_wp2
    go_loopw [5] (fun i wr => ∃ k : Nat, k ≤ x.length ∧ i = .int .i64 k ∧ Hid (∀ j (h1 : j < x.length) (h2 : j < y.length), j < k → x[j] = y[j]) ∧ Hid (Below w.heap.size w wr)) (fun i _ => x.length - (intOf i).toNat)
    case atStart => exact ⟨0, Nat.zero_le _, rfl, Lib.hid (by intro j _ _ h; omega), Lib.hid (Below.refl _ _)⟩
    case round =>
      obtain ⟨k, hk, rfl, HP, HB⟩ := hrel
      by_cases hlt : k < x.length
      · have hlt2 : k < y.length := by omega
        obtain ⟨x1, rfl, c1⟩ := (HX.out.keep HB.out) k hlt
        obtain ⟨x2, rfl, c2⟩ := (HY.out.keep HB.out) k hlt2
        by_cases he : x[k] = y[k]
        · have ht : (x[k].toList == y[k].toList) = true := by rw [toList_eq]; simp [he]
          have HE := Lib.hid he
          clear he
          go_wp2_with fail
          go_quiet (fail)
          go_wp2
          go_roundw
          case rel => exact ⟨k + 1, by omega, by go_num, Lib.hid (by
            intro j h1 h2 hj
            by_cases e : j = k
            · subst e; exact HE.out
            · exact HP.out j h1 h2 (by omega)), Lib.hid (below_drewN HB.out _)⟩
          case measure => simp [intOf]; omega
        · have ht : (x[k].toList == y[k].toList) = false := by rw [toList_eq]; simp [he]
          have HE := Lib.hid he
          clear he
          go_wp2_with fail
          go_quiet (fail)
          go_wp2
          go_ret
          exact ⟨ret_bool (sameS_no hlt hlt2 HE.out).symm, below_drewN HB.out _⟩
      · go_wp2
        go_ret
        exact ⟨ret_bool (sameS_yes HL.out (fun j h1 h2 => HP.out j h1 h2 (by omega))).symm, HB.out⟩
  · have HL := Lib.hid hl
    have hl1 : ((x.length : Int) != (y.length : Int)) = true := by simp; omega
    clear hl
    go_wp2
    go_ret
    exact ⟨ret_bool (sameS_len HL.out).symm, Below.refl _ _⟩

theorem sameIn_self (x : List ByteArray) (a b : Option Addr) (ca cb : Nat) (w : World) (hx : StrsIn w a x) (hy : StrsIn w b x) (h : x.length ≤ 8796093022208) :
    Calls Tryz.prog 9 #[.slice a x.length ca, .slice b x.length cb] w fun e w' => e = .returned (.bool true) ∧ Below w.heap.size w w' := by
  refine (sameIn_any x x a b ca cb w hx hy h h).mono ?_
  rintro e w' ⟨rfl, hb⟩
  exact ⟨by unfold sameS; simp, hb⟩
theorem sameFlds_self (x : List Fld) (a b : Option Addr) (ca cb : Nat) (w : World) (hx : FldsIn w a x) (hy : FldsIn w b x) (h : x.length ≤ 2000000) :
    Calls Tryz.prog 6 #[.slice a x.length ca, .slice b x.length cb] w fun e w' => e = .returned (.bool true) ∧ Below w.heap.size w w' := by
  refine (sameFields_any x x a b ca cb w hx hy h h).mono ?_
  rintro e w' ⟨rfl, hb⟩
  exact ⟨by rw [sameF_self], hb⟩

/-- The law's fields. -/
def MadeN (w w' : World) (X : List Fld) (a : Option Addr) (c : Nat) : Prop := FldsC w' a X c ∧ X.length ≤ c ∧ X.length ≤ 30 ∧ SmallF X ∧ Below w.heap.size w w'
set_option maxHeartbeats 2000000 in
theorem nmMade_any (l : List Fld) (a : Option Addr) (cap : Nat) (b : Option Addr) (n c : Nat) (wild : Bool) (w : World) (h : FldsC w a l cap) (hs : SmallF l) (hcap : l.length ≤ cap) (hcm : cap ≤ maxLen) (hi : IntsF w b n) (hn : n ≤ maxLen) :
    Calls Tryz.prog 5 #[.slice b n c, .slice a l.length cap, .bool wild] w fun e w' => ∃ X a' c', e = .returned (.slice a' (List.length X) c') ∧ MadeN w w' X a' c' := by
  have H0 := Box.mk (And.intro h hs)
  have HI := Box.mk (And.intro hi hn)
  unfold maxLen at hcm
  clear h hi hn hs
  cases wild with
  | true =>
    by_cases hlt : 30 < l.length
    · have hl : (l.take 30).length = 30 := by rw [List.length_take]; omega
      have HT := Box.mk (show FldsC w a (l.take 30) cap from ⟨H0.out.1.1.take 30, fun e => by
        have := (H0.out.1.2 e).1
        rw [this] at hlt; exact absurd hlt (by decide)⟩)
      have HL := Box.mk hl
      clear hl
      go_enter Tryz.func5, Tryz.ntmps5
      go_wp2
      go_ret
      exact ⟨l.take 30, a, cap, by rw [HL.out]; rfl, HT.out, by rw [HL.out]; omega, by rw [HL.out]; exact Nat.le_refl _, fun f hf => H0.out.2 f (List.mem_of_mem_take hf), Below.refl _ _⟩
    · go_enter Tryz.func5, Tryz.ntmps5
      go_wp2
      go_ret
      exact ⟨l, a, cap, rfl, H0.out.1, hcap, by omega, H0.out.2, Below.refl _ _⟩
  | false =>
    have HS := Box.mk (src_box (c := c) HI.out.1 HI.out.2)
    have HB := Box.mk (below_oneF w (.cells #[.slice b n c, .int .i64 0] 39))
    go_enter Tryz.func5, Tryz.ntmps5
    go_wp2_with fail
    refine (srcFieldsS_any w.heap.size 9 b n c _ HS.out (by decide)).mono ?_
    rintro e w1 ⟨v, x, rfl, ho, hx9, hall, _, hg⟩
    obtain ⟨a', c', rfl, hf, hle⟩ := ho.shape
    have HF := Box.mk (show FldsC w1 a' x c' ∧ SmallF x ∧ Below w.heap.size w w1 from ⟨hf, fun f hm => by obtain ⟨_, h1, h2⟩ := (hall f hm).made; exact ⟨by omega, by omega⟩, below_box HB.out hg⟩)
    clear ho hf hall hg
    go_wp2_with fail
    go_ret
    exact ⟨x, a', c', rfl, HF.out.1, hle, by omega, HF.out.2.1, HF.out.2.2⟩

def akF : List Fld := [(⟨#[88, 45, 66]⟩, ⟨#[50]⟩), (⟨#[120, 45, 97]⟩, ⟨#[49]⟩), (⟨#[88, 45, 66]⟩, ⟨#[51]⟩), (⟨#[68, 97, 116, 101]⟩, ⟨#[110, 111, 119]⟩), (⟨#[69]⟩, ⟨#[53]⟩)]
def akNm : List Fld := [(⟨#[120, 45, 97]⟩, ⟨#[49]⟩), (⟨#[120, 45, 98]⟩, ⟨#[50, 44, 32, 51]⟩)]
def akE : ByteArray := ⟨#[101]⟩
theorem ak_fields : fieldsN akF [akE] = akNm := by decide +kernel
theorem akF_small : SmallF akF := by
  intro f hf
  have : ∀ f ∈ akF, f.1.size ≤ 1048576 ∧ f.2.size ≤ 1048576 := by decide +kernel
  exact this f hf
set_option maxRecDepth 10000 in
set_option maxHeartbeats 2000000 in
theorem nmAwake_any (w : World) (mm : Int) (hmx : MaxOk w mm) : Calls Tryz.prog 12 #[] w fun e w' => e = .returned (.bool true) ∧ Below w.heap.size w w' := by
  obtain ⟨cs, hcs⟩ : ∃ cs : Array Value, cs = (cellsF akF).toArray := ⟨_, rfl⟩
  obtain ⟨W, hW⟩ : ∃ W, W = (w.alloc (.cells (cellsF akF).toArray 34)).alloc (.cells #[.string akE] 9) := ⟨_, rfl⟩
  have HB := Box.mk (show Below w.heap.size w W by rw [hW]; exact below_twoF (below_oneF w _) _)
  have HF := Box.mk (show FldsC W (some ⟨w.heap.size, 0, none⟩) akF 5 by rw [hW]; exact (fldC_new (w := w) (l := akF) rfl).keep (below_oneF _ _))
  have HS := Box.mk (show StrsC W (some ⟨w.heap.size + 1, 0, none⟩) [akE] 1 by
    rw [hW]; have := strsC_one (w.alloc (.cells (cellsF akF).toArray 34)) akE 9; rw [World.size_alloc] at this; exact this)
  have HMX := Box.mk (hmx.keep HB.out)
  clear hcs cs hmx
  go_enter Tryz.func12, Tryz.ntmps12
  go_wp2_with fail
  change Calls _ _ #[.slice (some ⟨w.heap.size, 0, none⟩) akF.length 5, .slice (some ⟨w.heap.size + 1, 0, none⟩) ([akE] : List ByteArray).length 1] ((w.alloc (.cells (cellsF akF).toArray 34)).alloc (.cells #[.string akE] 9)) _
  rw [← hW]
  clear hW
  refine (nFields_eq W HMX.out HF.out (by decide) (medF_small akF_small (by decide)) HS.out (by unfold maxLen; decide +kernel) (by decide) ak_fields).mono ?_
  rintro e w1 ⟨ra, rc, rfl, h1, h2, h3⟩
  obtain ⟨W2, hW2⟩ : ∃ W2, W2 = w1.alloc (.cells (cellsF akNm).toArray 34) := ⟨_, rfl⟩
  have HB2 := Box.mk (show Below w.heap.size w W2 by rw [hW2]; exact below_twoF (below_trans HB.out h3) _)
  have HX := Box.mk (show FldsIn W2 ra akNm by rw [hW2]; exact h1.1.keep (below_oneF _ _))
  have HY := Box.mk (show FldsC W2 (some ⟨w1.heap.size, 0, none⟩) akNm 2 by rw [hW2]; exact fldC_new (w := w1) (l := akNm) rfl)
  clear h1 h2 h3 HB HF HS
  go_wp2_with fail
  change Calls _ _ #[.slice ra akNm.length rc, .slice (some ⟨w1.heap.size, 0, none⟩) akNm.length 2] (w1.alloc (.cells (cellsF akNm).toArray 34)) _
  rw [← hW2]
  clear hW2
  refine (sameFlds_self akNm ra (some ⟨w1.heap.size, 0, none⟩) rc 2 W2 HX.out HY.out.1 (by decide)).mono ?_
  rintro e w3 ⟨rfl, hb⟩
  have HB3 := Box.mk (below_trans HB2.out hb)
  clear hb HX HY HB2
  go_wp2_with fail
  go_ret
  exact ⟨rfl, HB3.out⟩
end Go.Proofs.YtnpbnaapbimjaaaGreatDoor
namespace Go.Proofs.YtnpbnaapbimjaaaGreatDoor
open Go.RowKit
set_option linter.unusedSimpArgs false
set_option linter.unusedVariables false

def IgOk (w : World) (b : Option Addr) (cb : Nat) (v : Value) : Prop := ∃ J : List ByteArray, v = .slice b J.length cb ∧ J.length ≤ 10 ∧ Box (StrsC w b J cb ∧ (∀ x ∈ J, x.size ≤ maxLen))
set_option maxRecDepth 10000 in
set_option maxHeartbeats 4000000 in
theorem normalFields_any (la : Option Addr) (ln lc : Nat) (l : List Fld) (a : Option Addr) (cap : Nat) (ig : List ByteArray) (b : Option Addr) (cb : Nat) (wild : Bool) (w : World) (hl : IntsF w la ln) (hn : ln ≤ maxLen) (h : FldsC w a l cap) (hs : SmallF l) (hcap : l.length ≤ cap) (hcm : cap ≤ maxLen) (hi : StrsC w b ig cb) (hcb : cb ≤ maxLen) (hiz : ∀ x ∈ ig, x.size ≤ maxLen) (mm : Int) (hmx : MaxOk w mm) :
    Calls Tryz.prog 3 #[.slice la ln lc, .slice a l.length cap, .slice b ig.length cb, .bool wild] w fun e w' => e = .returned (.bool true) ∧ Below w.heap.size w w' := by
  have HIN := Box.mk (And.intro h (And.intro hs (And.intro hcap (And.intro hcm (And.intro hl hn)))))
  have HIG := Box.mk (And.intro hi hiz)
  have hilen := hi.2.1
  unfold maxLen at hcb
  have HMX := Box.mk hmx
  clear hl hn h hs hcap hcm hi hiz hmx
  go_enter Tryz.func3, Tryz.ntmps3
  go_wp2_with fail
  refine (nmMade_any l a cap la ln lc wild w HIN.out.1 HIN.out.2.1 HIN.out.2.2.1 HIN.out.2.2.2.1 HIN.out.2.2.2.2.1 HIN.out.2.2.2.2.2).mono ?_
  rintro e w1 ⟨X, xa, xc, rfl, hM⟩
  have HM := Box.mk hM
  have hx30 : X.length ≤ 30 := hM.2.2.1
  have HMED := Box.mk (medF_small hM.2.2.2.1 (by omega))
  clear hM HIN
  go_upto_if 16 with fail
  go_cut [2] (fun v wx => w1 = wx ∧ IgOk w b cb v)
  case first =>
    by_cases hlt : 10 < ig.length
    · have HJ := Box.mk (show StrsC w b (ig.take 10) cb ∧ (∀ x ∈ ig.take 10, x.size ≤ maxLen) from ⟨HIG.out.1.take 10, fun x hx => HIG.out.2 x (List.mem_of_mem_take hx)⟩)
      have HL := Box.mk (show (ig.take 10).length = 10 by rw [List.length_take]; omega)
      go_wp2_with fail
      go_meet
      exact ⟨rfl, ig.take 10, by rw [HL.out], by rw [HL.out]; exact Nat.le_refl _, HJ⟩
    · go_wp2_with fail
      go_meet
      exact ⟨rfl, ig, rfl, by omega, HIG⟩
  case rest =>
    obtain ⟨rfl, hJJ⟩ := hcut
    obtain ⟨J, rfl, hJ, HJ⟩ := hJJ
    clear HIG hilen
    obtain ⟨F, hF⟩ : ∃ F, fieldsN X J = F := ⟨_, rfl⟩
    obtain ⟨G, hG⟩ : ∃ G, namesS (X.map (·.1)) = G := ⟨_, rfl⟩
    have HF := Box.mk hF
    have HG := Box.mk hG
    have hF1 : F.length ≤ 30 := by rw [← hF]; have := fieldsN_len X J; omega
    have hG1 : G.length ≤ 30 := by rw [← hG]; have := namesS_len (X.map (·.1)); rw [List.length_map] at this; omega
    clear hF hG
    have HBW := Box.mk HM.out.2.2.2.2
    go_wp2_with fail
    refine (nFields_eq w1 (HMX.out.keep HBW.out) HM.out.1 HM.out.2.1 HMED.out (HJ.out.1.keep HBW.out) HJ.out.2 (by omega) HF.out).mono ?_
    rintro e w2 ⟨ra, rc, rfl, h1, h2, h3⟩
    have H2 := Box.mk (And.intro h1 (below_trans HBW.out h3))
    have HX2 := Box.mk (HM.out.1.keep h3)
    clear h1 h2 h3
    go_wp2_with fail
    refine (refFields_eq w2 HX2.out HMED.out (HJ.out.1.keep H2.out.2) HJ.out.2 (by omega) HF.out).mono ?_
    rintro e w3 ⟨sa, sc, rfl, h1, h2, h3⟩
    have H3 := Box.mk (And.intro h1 (below_trans H2.out.2 h3))
    have HR3 := Box.mk (H2.out.1.keep h3)
    have HX3 := Box.mk (HX2.out.keep h3)
    clear h1 h2 h3 H2 HX2
    go_wp2_with fail
    refine (sameFlds_self F ra sa rc sc w3 HR3.out.1 H3.out.1.1 (by omega)).mono ?_
    rintro e w4 ⟨rfl, hb⟩
    have HB4 := Box.mk (below_trans H3.out.2 hb)
    have HX4 := Box.mk (HX3.out.keep hb)
    clear hb H3 HR3 HX3
    go_wp2_with fail
    refine (nNames_eq w4 HX4.out HM.out.2.1 HMED.out HG.out).mono ?_
    rintro e w5 ⟨ta, tc, rfl, h1, h3⟩
    have HS5 := Box.mk (And.intro h1 (below_trans HB4.out h3))
    have HX5 := Box.mk (HX4.out.keep h3)
    clear h1 h3 HX4 HB4
    go_wp2_with fail
    refine (refNames_eq w5 HX5.out HMED.out HG.out).mono ?_
    rintro e w6 ⟨ua, uc, rfl, h1, h3⟩
    have HS6 := Box.mk (And.intro h1 (below_trans HS5.out.2 h3))
    have HT6 := Box.mk (HS5.out.1.keep h3)
    clear h1 h3 HX5 HS5
    go_wp2_with fail
    refine (sameIn_self G ta ua tc uc w6 HT6.out.1 HS6.out.1.1 (by omega)).mono ?_
    rintro e w7 ⟨rfl, hb⟩
    have HB7 := Box.mk (below_trans HS6.out.2 hb)
    clear hb HS6 HT6
    go_wp2_with fail
    refine (nmAwake_any w7 mm (HMX.out.keep HB7.out)).mono ?_
    rintro e w8 ⟨rfl, hb⟩
    have HB8 := Box.mk (below_trans HB7.out hb)
    clear hb HB7
    go_wp2_with fail
    go_ret
    exact ⟨rfl, HB8.out⟩
end Go.Proofs.YtnpbnaapbimjaaaGreatDoor
namespace Go.Proofs.YtnpbnaapbimjaaaGreatDoor
open Go.ChangeShapes Go.WideShapes Go.ChangeAt Go.RowKit
set_option linter.unusedVariables false

theorem open_strsC {H : Type} {enc : TypeId × Value → H} {W : World} {a : Option Addr} {len cap : Nat} {d : DataW H} {ps : List MemPlace} {base : Nat}
    (h : DataW.Trod enc Tryz.prog W base (fun _ => true) true 24 (.slice a len cap) d ps) :
    ∃ l : List ByteArray, len = l.length ∧ StrsC W a l cap ∧ cap ≤ maxLen ∧ ∀ s ∈ l, s.size ≤ maxLen := by
  obtain ⟨l, rfl, h1, h2, h3, h4⟩ := open_strings_arg h
  refine ⟨l, rfl, ⟨h1, h2, fun e => ?_⟩, h3, h4⟩
  subst e
  obtain ⟨fuel, hf⟩ := h
  rcases open_strings Tryz.underlying24 Tryz.underlying9 (by kernel_rfl) hf with ⟨hcs, _⟩ | ⟨x, l', c, zs, hcs, _, hl, hm, hz, _, hcell, hwz⟩
  · simp [Value.cells] at hcs
    exact hcs.2
  · simp [Value.cells] at hcs
end Go.Proofs.YtnpbnaapbimjaaaGreatDoor
namespace Go.Proofs.YtnpbnaapbimjaaaGreatDoor
open Go.ChangeShapes Go.WideShapes Go.ChangeAt Go.RowKit

theorem fields_none {H : Type} {enc : TypeId × Value → H} {W : World} {a : Option Addr} {len cap : Nat} {d : DataW H} {ps : List MemPlace} {base : Nat}
    (h : DataW.Trod enc Tryz.prog W base (fun _ => true) true 23 (.slice a len cap) d ps) : a = none → len = 0 ∧ cap = 0 := by
  obtain ⟨fuel, hf⟩ := h
  rcases Go.Deep.open_slice_pairs Tryz.underlying23 Tryz.underlying34 (by kernel_rfl) (by kernel_rfl) (by kernel_rfl) (by kernel_rfl) (by kernel_rfl) hf with ⟨hcs, _⟩ | ⟨x, n, c, m, k, V0, V1, D0, D1, P0, P1, hcs, _⟩
  · simp [Value.cells] at hcs
    obtain ⟨rfl, rfl, rfl⟩ := hcs
    exact fun _ => ⟨rfl, rfl⟩
  · simp [Value.cells] at hcs
    obtain ⟨rfl, rfl, rfl⟩ := hcs
    intro e; cases e
theorem open_fieldsC {H : Type} {enc : TypeId × Value → H} {W : World} {a : Option Addr} {len cap : Nat} {d : DataW H} {ps : List MemPlace} {base : Nat}
    (h : DataW.Trod enc Tryz.prog W base (fun _ => true) true 23 (.slice a len cap) d ps) :
    ∃ l : List Fld, len = l.length ∧ FldsC W a l cap ∧ l.length ≤ cap ∧ cap ≤ maxLen ∧ ShortF l ∧ (Rows.uptoBulk d ≤ 1048576 → SmallF l) := by
  obtain ⟨l, rfl, h1, h2, h3, h4, h5⟩ := open_fields h
  refine ⟨l, rfl, ⟨h1, fun e => ?_⟩, h2, h3, h4, fun hb f hf => ⟨Nat.le_trans (h5 f hf).1 hb, Nat.le_trans (h5 f hf).2 hb⟩⟩
  obtain ⟨e1, e2⟩ := fields_none h e
  exact ⟨List.eq_nil_of_length_eq_zero e1, e2⟩
theorem i64_ofF {x : Int} (h : (Lit.int .i64 x).wf = true) : -9223372036854775808 ≤ x ∧ x ≤ 9223372036854775807 := bounds_i64 h
theorem open_intsf {H : Type} {enc : TypeId × Value → H} {W : World} {a : Option Addr} {len cap : Nat} {d : DataW H} {ps : List MemPlace} {base : Nat}
    (h : DataW.Trod enc Tryz.prog W base (fun _ => true) true 22 (.slice a len cap) d ps) : IntsF W a len ∧ len ≤ maxLen := by
  obtain ⟨fuel, hf⟩ := h
  rcases open_ints Tryz.underlying22 Tryz.underlying3 (by kernel_rfl) hf with ⟨hcs, _⟩ | ⟨x, l, c, zs, hcs, _, hl, hm, hz, _, hcell, hwz⟩
  · simp [Value.cells] at hcs
    obtain ⟨rfl, rfl, rfl⟩ := hcs
    exact ⟨fun k hk => absurd hk (Nat.not_lt_zero _), Nat.zero_le _⟩
  · simp [Value.cells] at hcs
    obtain ⟨rfl, rfl, rfl⟩ := hcs
    have hz' : zs.length = cap := by simpa using hz
    refine ⟨fun k hk => ?_, Nat.le_trans hl hm⟩
    have hk' : k < zs.length := by omega
    have e : zs.getD k 0 = zs[k] := by rw [List.getD_eq_getElem?_getD, List.getElem?_eq_getElem hk']; rfl
    refine ⟨x, zs[k], rfl, by rw [hcell k hk', e], i64_ofF (hwz zs[k] (List.getElem_mem _))⟩
end Go.Proofs.YtnpbnaapbimjaaaGreatDoor
namespace Go.Proofs.YtnpbnaapbimjaaaGreatDoor
open Go.RowKit

/-- A plan. -/
structure Pl where
  ws : List Int
  ms : Int
  num : Int
  den : Int
  hold : Int
  win : Int
/-- The first k weights ascend. -/
def ascK (l : List Int) : Nat → Bool
  | 0 => true
  | k + 1 => ascK l k && (decide (1 ≤ l.getD k 0) && decide (l.getD k 0 ≤ 10000) && (decide (k = 0) || decide (l.getD (k - 1) 0 < l.getD k 0)))
def Pl.nums (p : Pl) : Prop := 1 ≤ p.ws.length ∧ p.ws.length ≤ 8 ∧ 1 ≤ p.ms ∧ p.ms ≤ 1000000 ∧ 0 ≤ p.num ∧ p.num ≤ 1000000 ∧ 1 ≤ p.den ∧ p.den ≤ 1000000 ∧ 1 ≤ p.hold ∧ p.hold ≤ 100 ∧ 1 ≤ p.win ∧ p.win ≤ 1000000
instance (p : Pl) : Decidable p.nums := by unfold Pl.nums; infer_instance
def Pl.ok (p : Pl) : Bool := decide p.nums && ascK p.ws p.ws.length
end Go.Proofs.YtnpbnaapbimjaaaGreatDoor
namespace Go.Proofs.YtnpbnaapbimjaaaGreatDoor
open Go.RowKit

/-- A window. -/
structure Wn where
  tot : Int
  err : Int
  age : Int
def Wn.cells (v : Wn) : Array Value := #[.int .i64 v.tot, .int .i64 v.err, .int .i64 v.age]
def Wn.fits (v : Wn) : Prop := 0 ≤ v.tot ∧ v.tot ≤ 1000000000 ∧ 0 ≤ v.err ∧ v.err ≤ 1000000000
instance (v : Wn) : Decidable v.fits := by unfold Wn.fits; infer_instance
def verdV (p : Pl) (v : Wn) : Int := if p.ok = true ∧ v.fits then (if v.tot < p.ms then 1 else if p.num * v.tot < v.err * p.den then 3 else 2) else 0
end Go.Proofs.YtnpbnaapbimjaaaGreatDoor
namespace Go.Proofs.YtnpbnaapbimjaaaGreatDoor
open Go.RowKit

/-- One operation by itself: it is done, or its guard says no and nothing is claimed of its slot. -/
def StepSk (P : Program) (Q : Exit → Act → World → Prop) (ops : Array Oper) (S : List Spec) (a0 : Act) (w0 : World) (o : Oper) (s : Spec) : Prop :=
  ∀ a w, Below w0.heap.size w0 w → Fr ops a0 a → (∀ j, waitsFor o j = true → Holds ops S a w j) →
    (Region.wanted o (yielded ops a.tmps) = true ∧ o.wp P a w (fun a' w' => ∃ v, a' = a.put o.dst v ∧ Below w.heap.size w w' ∧ s.p v w') Q) ∨ (Region.wanted o (yielded ops a.tmps) = false ∧ s = Spec.any)
def StepsSk (P : Program) (Q : Exit → Act → World → Prop) (ops : Array Oper) (S : List Spec) (a0 : Act) (w0 : World) : List Oper → List Spec → Prop
  | o :: os, s :: ss => StepSk P Q ops S a0 w0 o s ∧ StepsSk P Q ops S a0 w0 os ss
  | [], [] => True
  | _, _ => False
section
variable {P : Program} {Q : Exit → Act → World → Prop} {ops : Array Oper} {S : List Spec} {a0 : Act} {w0 : World}
theorem stepsSk_at : ∀ {os : List Oper} {ss : List Spec}, StepsSk P Q ops S a0 w0 os ss → ∀ (i : Nat) (o : Oper), os[i]? = some o → ∃ s, ss[i]? = some s ∧ StepSk P Q ops S a0 w0 o s
  | o :: os, s :: ss, h, 0, _, rfl => ⟨s, rfl, h.1⟩
  | o :: os, s :: ss, h, i + 1, o', ho => stepsSk_at h.2 i o' ho
  | [], _, _, i, _, ho => by simp at ho
theorem wp_region_skip {id : Nat} (S : List Spec) (hm : P.follows .mixedOrders = true) (hB : (List.range ops.size).all (fun i => match ops[i]? with | some x => x.after.all (fun e => decide (e.on < i)) | none => true) = true)
    (hd : dstsOk ops a0.tmps.size = true) (h : StepsSk P Q ops S a0 w0 ops.toList S)
    (hQ : ∀ a w, Below w0.heap.size w0 w → Fr ops a0 a → (∀ j, j < ops.size → Holds ops S a w j) → Q .normal a w) : (Code.region id ops true).wp P Q a0 w0 := by
  refine wp_region_inv hm (fun m a w => Below w0.heap.size w0 w ∧ Fr ops a0 a ∧ ∀ j, m.getD j false = true → Holds ops S a w j) ?_ ?_ ?_
  · rintro m a w hs ⟨hb, hf, hh⟩ i hi
    obtain ⟨h1, o, ho, hall⟩ := mem_ready.1 hi
    have hil : i < ops.size := (Array.getElem?_eq_some_iff.1 ho).1
    obtain ⟨s, hsi, hstep⟩ := stepsSk_at h i o (by simpa using ho)
    have hst := hstep a w hb hf fun j hj => by
      obtain ⟨e, he, h2⟩ := List.any_eq_true.1 hj
      simp only [Bool.and_eq_true, beq_iff_eq] at h2
      obtain ⟨h3, rfl⟩ := h2
      exact hh _ (hall e (Array.mem_toList_iff.1 he) h3)
    have common : ∀ v w', Below w.heap.size w w' → s.p v w' → (Below w0.heap.size w0 w' ∧ Fr ops a0 (a.put o.dst v) ∧ ∀ j, (m.setIfInBounds i true).getD j false = true → Holds ops S (a.put o.dst v) w' j) := by
      intro v w' hb' hsp
      refine ⟨hb.trans (hb'.mono hb.size), ⟨?_, ?_, fun k hk => ?_⟩, fun j hj => ?_⟩
      · have := hf.defers
        cases o.dst <;> simpa [Act.put] using this
      · have := hf.size
        cases o.dst <;> simpa [Act.put] using this
      · rw [eval_put_other, hf.base k hk]
        intro hk2
        have : isDst ops k = true := by
          unfold isDst
          exact List.any_eq_true.2 ⟨o, Array.mem_toList_iff.2 (Array.mem_of_getElem? ho), by rw [hk2]; simp⟩
        rw [hk] at this; cases this
      · by_cases hji : j = i
        · subst hji
          unfold Holds
          simp only [ho, hsi]
          cases hdo : o.dst with
          | none => trivial
          | some d =>
            show s.p ((a.put (some d) v).eval (.tmp d)) w'
            rw [eval_put_same]
            · exact hsp
            · rw [hf.size]; exact (dsts_lt hd ho hdo).1
        · have hj' : m.getD j false = true := by rw [getD_set_ne false (fun e => hji e.symm)] at hj; exact hj
          have h5 := holds_mono (hh j hj') hb'
          unfold Holds at *
          cases hoj : ops[j]? with
          | none => simp
          | some o' =>
            cases hsj : S[j]? with
            | none => simp
            | some s' =>
              simp only [hoj, hsj] at h5 ⊢
              cases hdo : o'.dst with
              | none => trivial
              | some d =>
                simp only [hdo] at h5 ⊢
                show s'.p ((a.put o.dst v).eval (.tmp d)) w'
                rw [eval_put_other]
                · exact h5
                · intro e
                  exact (dsts_lt hd ho e).2 j o' hoj hji hdo
    unfold wpOp
    simp only [ho]
    rcases hst with ⟨hw, hwp⟩ | ⟨hw, hsany⟩
    · rw [if_pos hw]
      refine .inl (Oper.wp_mono ?_ hwp)
      rintro a' w' ⟨v, rfl, hb', hsp⟩
      exact common v w' hb' hsp
    · rw [if_neg (by rw [hw]; decide)]
      exact common undef w (Below.refl _ _) (by rw [hsany]; trivial)
  · rintro m a w hs ⟨hb, hf, hh⟩ hr
    refine hQ a w hb hf fun j hj => hh j ?_
    induction j using Nat.strongRecOn with
    | _ j ih =>
      cases hmj : m.getD j false with
      | true => rfl
      | false =>
        exfalso
        have hoj : ops[j]? = some ops[j] := Array.getElem?_eq_getElem hj
        have hbk := List.all_eq_true.1 hB j (List.mem_range.2 hj)
        rw [hoj] at hbk
        simp only [Array.all_eq_true_iff_forall_mem, decide_eq_true_eq] at hbk
        have : j ∈ Region.ready .any ops m := mem_ready.2 ⟨by
          have hs' : j < m.size := by rw [hs]; exact hj
          simp [hs'] at hmj ⊢; exact hmj, ops[j], hoj, fun e he _ => ih _ (hbk e he) (by have := hbk e he; omega)⟩
        rw [hr] at this; cases this
  · refine ⟨(Below.refl _ _).drew, ⟨rfl, rfl, fun _ _ => rfl⟩, fun j hj => ?_⟩
    exfalso
    simp only [Array.getD_eq_getD_getElem?, Array.getElem?_replicate] at hj
    split at hj <;> simp at hj
theorem wanted_no {a : Act} {o : Oper} {j d : Nat} (h : o.guard = some (j, true)) (hd : (ops[j]?).bind (·.dst) = some d) (hv : a.eval (.tmp d) = .bool false) : Region.wanted o (yielded ops a.tmps) = false := by
  have e : a.tmps[d]? = some (.bool false) := by
    unfold Act.eval at hv
    simp only [Array.getD_eq_getD_getElem?] at hv
    cases hq : a.tmps[d]? with
    | none => rw [hq] at hv; cases hv
    | some x => rw [hq] at hv; simp at hv; rw [hv]
  unfold Region.wanted yielded
  rw [h]
  simp [hd, e]
theorem wanted_yes0 {a : Act} {o : Oper} {j d : Nat} (h : o.guard = some (j, false)) (hd : (ops[j]?).bind (·.dst) = some d) (hv : a.eval (.tmp d) = .bool false) : Region.wanted o (yielded ops a.tmps) = true := by
  have e : a.tmps[d]? = some (.bool false) := by
    unfold Act.eval at hv
    simp only [Array.getD_eq_getD_getElem?] at hv
    cases hq : a.tmps[d]? with
    | none => rw [hq] at hv; cases hv
    | some x => rw [hq] at hv; simp at hv; rw [hv]
  unfold Region.wanted yielded
  rw [h]
  simp [hd, e]
theorem loc_pickF {act : Act} {w : World} {o : Oper} {s : Spec} {c x y : Operand} (ho : o.op = .pick c x y) (hc : act.eval c = .bool false) (hs : s.p (act.eval y) w) : o.wp P act w (fun a' w' => ∃ v, a' = act.put o.dst v ∧ Below w.heap.size w w' ∧ s.p v w') Q :=
  loc_run (by unfold execOp; rw [ho]; simp only [hc]; rfl) (Below.refl _ _) hs
end
end Go.Proofs.YtnpbnaapbimjaaaGreatDoor
