/- Normalized fields: mathematics (sorted lists of names; what the result depends on). The names that go, and Strip, in the project and in the reference. The reference's Strip. Slices of strings: own ones, parts of them, appends in regions that draw their order. Normalized fields: the reference's With and Names. Joined strings, by the library and in the reference. Single operations of a region that draws its order, for structs of any type: load, index, field, store. A region that draws its order, in phases, where an operation may read a slot that a later one writes. Normalized fields: the reference's Fields. -/
import Derived.Test.YtnpbnaapbimjaaaGreatDoorPk1
import Derived.Test.YtnpbnaapbimjaaaGreatDoorPk2
import Derived.Test.YtnpbnaapbimjaaaGreatDoorRows
import Derived.WalkKit
import Derived.WalkSpells
import Derived.WalkLawsBesides
import Derived.BigQuiet
import Derived.Deep.QuietTactic
import Derived.Lib.Bytealg
import Derived.Lib.IndexLaws
import Derived.Lib.Hide
import Derived.Laws.IdiomStrings
import Derived.Lib.SlTrimSet
import Derived.Lib.IndexBytes
import Derived.Lib.Split
import Derived.Deep.AppendLies
import Derived.Shelf.SlGeneric
import Derived.Shelf.Strings.SlTrimAscii
import Derived.Shelf.Strings.SplitShaped
import Derived.Shelf.LaysM
import Derived.Shelf.Strings.BuilderK
import Derived.Shelf.Strconv.Itoa4
import Derived.Shelf.Strings.Builder2
import Derived.Shelf.SlLaysF0
import Derived.Shelf.SlLaysM
import Derived.Shelf.SlLaysN
import Derived.Ground.SlsfProg
import Derived.Ground.SlgmProg
import Derived.Ground.SlgnProg
import Derived.Test.YtnpbnaapbimjaaaGreatDoorProg
import Derived.Lib.SplitLaws
import Derived.WalkSmall
import Derived.ProofKit
import Derived.OpenShut
import Derived.Lib.Strings
import Derived.SliceStrings
import Derived.Deep.Quiet
import Derived.Tactics
import Derived.KernelRfl
import Derived.Below
import Derived.Laws.Bits64
import Derived.Lib.SlBytesConst
import Derived.Maps.AppendAt
import Derived.Laws.AppendOwnNone
import Derived.Great.BuildSlice
import Derived.Laws.Rows
import Derived.Laws.BitsAllLaws
import Derived.Laws.Shifts
import Derived.Maps.OwnOps
import Derived.Maps.OwnSet
import Derived.Deep.SlicePairs
import Derived.Lib.AppendZerosOnto
import Derived.Lib.AppendStr
import Derived.Laws.CopyOwn
import Derived.OwnWalk
import Derived.Laws.Strings3
import Derived.Laws.Concat
import Derived.Lib.ItoaMem
import Derived.Deep.RegionHeld3
import Derived.IntWalk
import Derived.Sort.Grow
import Derived.Lib.LaidTab
import Derived.LaidSub
import Derived.Sort.Walk0
import Derived.Laws.OwnMore
import Derived.ArgAppend
import Derived.Shelf.Strings.OnBuilder
import Derived.Laws.Tables
namespace Go.Proofs.YtnpbnaapbimjaaaGreatDoor
open Go.RowKit
set_option linter.unusedSimpArgs false

theorem ba_toList (a : ByteArray) : a.toList = a.data.toList := by simp [ByteArray.toList_eq]
theorem ba_eq {a b : ByteArray} : a = b ↔ a.toList = b.toList := by
  constructor
  · intro h; rw [h]
  · intro h
    rw [ba_toList, ba_toList] at h
    exact ba_ext h
def ltS (a b : ByteArray) : Bool := Op.bytesLess a.toList b.toList
theorem bl_irr : ∀ a : List UInt8, Op.bytesLess a a = false
  | [] => rfl
  | x :: r => by
    unfold Op.bytesLess
    rw [bl_irr r]
    simp
theorem bl_trans : ∀ a b c : List UInt8, Op.bytesLess a b = true → Op.bytesLess b c = true → Op.bytesLess a c = true
  | _, [], _, h, _ => by unfold Op.bytesLess at h; cases h
  | [], _ :: _, [], _, h => by unfold Op.bytesLess at h; cases h
  | [], _ :: _, _ :: _, _, _ => by unfold Op.bytesLess; rfl
  | _ :: _, _ :: _, [], _, h => by unfold Op.bytesLess at h; cases h
  | x :: a, y :: b, z :: c, h1, h2 => by
    unfold Op.bytesLess at h1 h2 ⊢
    simp only [Bool.or_eq_true, Bool.and_eq_true, decide_eq_true_eq, beq_iff_eq] at h1 h2 ⊢
    rcases h1 with h1 | ⟨rfl, h1⟩
    · rcases h2 with h2 | ⟨rfl, h2⟩
      · exact .inl (UInt8.lt_trans h1 h2)
      · exact .inl h1
    · rcases h2 with h2 | ⟨rfl, h2⟩
      · exact .inl h2
      · exact .inr ⟨rfl, bl_trans a b c h1 h2⟩
theorem bl_tri : ∀ a b : List UInt8, Op.bytesLess a b = true ∨ a = b ∨ Op.bytesLess b a = true
  | [], [] => .inr (.inl rfl)
  | [], _ :: _ => .inl (by unfold Op.bytesLess; rfl)
  | _ :: _, [] => .inr (.inr (by unfold Op.bytesLess; rfl))
  | x :: a, y :: b => by
    unfold Op.bytesLess
    simp only [Bool.or_eq_true, Bool.and_eq_true, decide_eq_true_eq, beq_iff_eq, List.cons.injEq]
    by_cases h1 : x < y
    · exact .inl (.inl h1)
    · by_cases h2 : y < x
      · exact .inr (.inr (.inl h2))
      · have h3 : x = y := by
          rw [UInt8.lt_iff_toNat_lt] at h1 h2
          exact UInt8.toNat_inj.1 (by omega)
        rcases bl_tri a b with h | h | h
        · exact .inl (.inr ⟨h3, h⟩)
        · exact .inr (.inl ⟨h3, h⟩)
        · exact .inr (.inr (.inr ⟨h3.symm, h⟩))
theorem ltS_irr (a : ByteArray) : ltS a a = false := bl_irr _
theorem ltS_trans {a b c : ByteArray} (h : ltS a b = true) (k : ltS b c = true) : ltS a c = true := bl_trans _ _ _ h k
theorem ltS_tri (a b : ByteArray) : ltS a b = true ∨ a = b ∨ ltS b a = true := by
  rcases bl_tri a.toList b.toList with h | h | h
  · exact .inl h
  · exact .inr (.inl (ba_eq.2 h))
  · exact .inr (.inr h)

/-- Put into an ascending list, once. -/
def insS (s : ByteArray) : List ByteArray → List ByteArray
  | [] => [s]
  | x :: r => if ltS x s = true then x :: insS s r else if x = s then x :: r else s :: x :: r
def SortedS : List ByteArray → Prop
  | [] => True
  | x :: r => (∀ y ∈ r, ltS x y = true) ∧ SortedS r
theorem insS_mem (s : ByteArray) : ∀ (l : List ByteArray) (x : ByteArray), x ∈ insS s l ↔ x = s ∨ x ∈ l
  | [], x => by unfold insS; simp
  | y :: r, x => by
    unfold insS
    split
    · rw [List.mem_cons, insS_mem s r x, List.mem_cons]
      constructor
      · rintro (h | h | h)
        · exact .inr (.inl h)
        · exact .inl h
        · exact .inr (.inr h)
      · rintro (h | h | h)
        · exact .inr (.inl h)
        · exact .inl h
        · exact .inr (.inr h)
    · split
      · rename_i h; subst h; simp
      · simp
theorem insS_sorted (s : ByteArray) : ∀ l : List ByteArray, SortedS l → SortedS (insS s l)
  | [], _ => ⟨fun y h => (nomatch h), trivial⟩
  | x :: r, h => by
    unfold insS
    split
    · rename_i hx
      refine ⟨fun y hy => ?_, insS_sorted s r h.2⟩
      rcases (insS_mem s r y).1 hy with rfl | hy
      · exact hx
      · exact h.1 y hy
    · split
      · exact h
      · rename_i h1 h2
        have hs : ltS s x = true := by
          rcases ltS_tri s x with h3 | h3 | h3
          · exact h3
          · exact absurd h3.symm h2
          · exact absurd h3 h1
        refine ⟨fun y hy => ?_, h⟩
        rcases List.mem_cons.1 hy with rfl | hy
        · exact hs
        · exact ltS_trans hs (h.1 y hy)
theorem sorted_ext : ∀ {a b : List ByteArray}, SortedS a → SortedS b → (∀ x, x ∈ a ↔ x ∈ b) → a = b
  | [], [], _, _, _ => rfl
  | [], y :: b, _, _, h => by have := (h y).2 (List.mem_cons_self ..); cases this
  | x :: a, [], _, _, h => by have := (h x).1 (List.mem_cons_self ..); cases this
  | x :: a, y :: b, ha, hb, h => by
    have hxy : x = y := by
      have h1 := (h x).1 (List.mem_cons_self ..)
      have h2 := (h y).2 (List.mem_cons_self ..)
      rcases List.mem_cons.1 h1 with h1 | h1
      · exact h1
      · rcases List.mem_cons.1 h2 with h2 | h2
        · exact h2.symm
        · have := ltS_trans (ha.1 y h2) (hb.1 x h1)
          rw [ltS_irr] at this; cases this
    subst hxy
    congr 1
    refine sorted_ext ha.2 hb.2 fun z => ?_
    constructor
    · intro hz
      rcases List.mem_cons.1 ((h z).1 (List.mem_cons_of_mem _ hz)) with rfl | h1
      · have := ha.1 _ hz; rw [ltS_irr] at this; cases this
      · exact h1
    · intro hz
      rcases List.mem_cons.1 ((h z).2 (List.mem_cons_of_mem _ hz)) with rfl | h1
      · have := hb.1 _ hz; rw [ltS_irr] at this; cases this
      · exact h1
theorem insS_len (s : ByteArray) : ∀ l : List ByteArray, (insS s l).length ≤ l.length + 1
  | [] => Nat.le_refl _
  | x :: r => by
    unfold insS
    split
    · have := insS_len s r; simp only [List.length_cons]; omega
    · split
      · simp
      · simp
/-- Where the search ends. -/
theorem insS_at (s : ByteArray) : ∀ (l : List ByteArray) (k : Nat), k ≤ l.length → (∀ j (h : j < l.length), j < k → ltS l[j] s = true) → (∀ h : k < l.length, ltS l[k] s = false) →
    insS s l = if k < l.length ∧ l[k]? = some s then l else l.take k ++ [s] ++ l.drop k
  | [], k, hk, _, _ => by
    obtain rfl : k = 0 := by simpa using hk
    rfl
  | x :: r, 0, _, _, h2 => by
    have h := h2 (by simp)
    simp only [List.getElem_cons_zero] at h
    unfold insS
    rw [if_neg (by rw [h]; decide)]
    by_cases e : x = s
    · rw [if_pos e, if_pos ⟨by simp, by simp [e]⟩]
    · rw [if_neg e, if_neg (by rintro ⟨_, h⟩; exact e (by simpa using h))]
      rfl
  | x :: r, k + 1, hk, h1, h2 => by
    have h := h1 0 (by simp) (by omega)
    simp only [List.getElem_cons_zero] at h
    have ih := insS_at s r k (by simpa using hk) (fun j hj hjk => by have := h1 (j + 1) (by simpa using hj) (by omega); simpa using this) (fun hk2 => by have := h2 (by simpa using hk2); simpa using this)
    unfold insS
    rw [if_pos h, ih]
    by_cases e : k < r.length ∧ r[k]? = some s
    · rw [if_pos e, if_pos ⟨by simpa using e.1, by simpa using e.2⟩]
    · rw [if_neg e, if_neg (by rintro ⟨a, b⟩; exact e ⟨by simpa using a, by simpa using b⟩)]
      rfl
def namesS (l : List ByteArray) : List ByteArray := l.foldl (fun acc s => insS s acc) []
theorem namesS_snoc (l : List ByteArray) (k : Nat) (h : k < l.length) : namesS (l.take (k + 1)) = insS l[k] (namesS (l.take k)) := by
  unfold namesS
  rw [List.take_succ_eq_append_getElem h, List.foldl_append]; rfl
theorem foldIns_mem : ∀ (l acc : List ByteArray) (x : ByteArray), x ∈ l.foldl (fun acc s => insS s acc) acc ↔ x ∈ l ∨ x ∈ acc
  | [], acc, x => by simp
  | y :: r, acc, x => by
    rw [List.foldl_cons, foldIns_mem r (insS y acc) x, insS_mem, List.mem_cons]
    constructor
    · rintro (h | h | h)
      · exact .inl (.inr h)
      · exact .inl (.inl h)
      · exact .inr h
    · rintro ((h | h) | h)
      · exact .inr (.inl h)
      · exact .inl h
      · exact .inr (.inr h)
theorem foldIns_sorted : ∀ (l acc : List ByteArray), SortedS acc → SortedS (l.foldl (fun acc s => insS s acc) acc)
  | [], _, h => h
  | y :: r, acc, h => foldIns_sorted r (insS y acc) (insS_sorted y acc h)
theorem namesS_mem (l : List ByteArray) (x : ByteArray) : x ∈ namesS l ↔ x ∈ l := by unfold namesS; rw [foldIns_mem]; simp
theorem namesS_sorted (l : List ByteArray) : SortedS (namesS l) := foldIns_sorted l [] trivial
theorem namesS_id {a : List ByteArray} (h : SortedS a) : namesS a = a := sorted_ext (namesS_sorted a) h fun x => namesS_mem a x
theorem foldIns_len : ∀ (l acc : List ByteArray), (l.foldl (fun acc s => insS s acc) acc).length ≤ l.length + acc.length
  | [], acc => by simp
  | y :: r, acc => by
    rw [List.foldl_cons, List.length_cons]
    have h1 := foldIns_len r (insS y acc)
    have h2 := insS_len y acc
    omega
theorem namesS_len (l : List ByteArray) : (namesS l).length ≤ l.length := by have := foldIns_len l []; unfold namesS; simpa using this

/-- P19.1. -/
def viaDate : List ByteArray := [⟨#[118, 105, 97]⟩, ⟨#[100, 97, 116, 101]⟩]
def keptN (l : List Fld) (ig : List ByteArray) : List Fld := withoutL (withoutL (stripL l) viaDate) ig
def outN (k : List Fld) : List Fld := (namesS (k.map fun f => lowS f.1)).map fun n => (n, joinS (valuesL k n))
def fieldsN (l : List Fld) (ig : List ByteArray) : List Fld := outN (keptN l ig)
theorem keptN_mem {l : List Fld} {ig : List ByteArray} {f : Fld} (h : f ∈ keptN l ig) : f ∈ l ∧ inFoldL nineN f.1 = false ∧ inFoldL viaDate f.1 = false ∧ inFoldL ig f.1 = false := by
  unfold keptN withoutL at h
  rw [List.mem_filter, List.mem_filter] at h
  obtain ⟨⟨h1, h2⟩, h3⟩ := h
  unfold stripL withoutL at h1
  rw [List.mem_filter] at h1
  obtain ⟨h0, h1⟩ := h1
  unfold stripNs at h1
  rw [inFoldL_app] at h1
  simp only [Bool.not_eq_true', Bool.or_eq_false_iff] at h1 h2 h3
  exact ⟨h0, h1.1, h2, h3⟩
theorem outN_names (k : List Fld) : (outN k).map (·.1) = namesS (k.map fun f => lowS f.1) := by
  unfold outN
  rw [List.map_map]
  exact List.map_id' _
theorem outN_name {k : List Fld} {f : Fld} (h : f ∈ outN k) : ∃ g ∈ k, f.1 = lowS g.1 := by
  unfold outN at h
  rw [List.mem_map] at h
  obtain ⟨n, hn, rfl⟩ := h
  rw [namesS_mem, List.mem_map] at hn
  obtain ⟨g, hg, rfl⟩ := hn
  exact ⟨g, hg, rfl⟩
theorem foldS_iff (a b : ByteArray) : foldS a b = true ↔ lowS a = lowS b := by
  unfold foldS
  rw [beq_iff_eq]
  exact ba_eq.symm
/-- The values of a name in the result. -/
theorem values_map : ∀ (ns : List ByteArray) (f : ByteArray → ByteArray) (n : ByteArray), SortedS ns → (∀ x ∈ ns, lowS x = x) → n ∈ ns → valuesL (ns.map fun n => (n, f n)) n = [f n]
  | [], _, _, _, _, h => by cases h
  | x :: r, f, n, hs, hl, h => by
    have hx := hl x (List.mem_cons_self ..)
    have htail : ∀ (r : List ByteArray), (∀ y ∈ r, lowS y = y) → (∀ y ∈ r, y ≠ n) → lowS n = n → valuesL (r.map fun n => (n, f n)) n = [] := by
      intro r h1 h2 h3
      unfold valuesL
      rw [List.map_eq_nil_iff, List.filter_eq_nil_iff]
      intro g hg
      rw [List.mem_map] at hg
      obtain ⟨y, hy, rfl⟩ := hg
      intro hf
      rw [foldS_iff, h1 y hy, h3] at hf
      exact h2 y hy hf
    rw [List.map_cons, show ((x, f x) :: (r.map fun n => (n, f n))) = [(x, f x)] ++ (r.map fun n => (n, f n)) from rfl, vals_app, vals_one]
    rcases List.mem_cons.1 h with rfl | h
    · rw [if_pos (foldS_refl _), htail r (fun y hy => hl y (List.mem_cons_of_mem _ hy)) (fun y hy e => by have := hs.1 y hy; rw [e, ltS_irr] at this; cases this) hx]
      rfl
    · have hne : foldS x n = false := by
        cases hf : foldS x n with
        | false => rfl
        | true =>
          rw [foldS_iff, hx, hl n (List.mem_cons_of_mem _ h)] at hf
          have := hs.1 n h
          rw [hf, ltS_irr] at this; cases this
      rw [if_neg (by rw [hne]; decide), List.nil_append]
      exact values_map r f n hs.2 (fun y hy => hl y (List.mem_cons_of_mem _ hy)) h
theorem without_none {l : List Fld} {ns : List ByteArray} (h : ∀ f ∈ l, inFoldL ns f.1 = false) : withoutL l ns = l := by
  unfold withoutL
  rw [List.filter_eq_self]
  intro f hf
  rw [h f hf]; rfl
theorem names_low (k : List Fld) : ∀ x ∈ namesS (k.map fun f => lowS f.1), lowS x = x := by
  intro x hx
  rw [namesS_mem, List.mem_map] at hx
  obtain ⟨g, _, rfl⟩ := hx
  exact lowS_idem _
theorem outN_fix (k : List Fld) : outN (outN k) = outN k := by
  have hs := namesS_sorted (k.map fun f => lowS f.1)
  have hl := names_low k
  have e : (outN k).map (fun f => lowS f.1) = namesS (k.map fun f => lowS f.1) := by
    have h1 : (outN k).map (fun f => lowS f.1) = ((outN k).map (·.1)).map lowS := by rw [List.map_map]; rfl
    rw [h1, outN_names]
    exact (List.map_congr_left hl).trans (List.map_id' _)
  show (namesS ((outN k).map fun f => lowS f.1)).map (fun n => (n, joinS (valuesL (outN k) n))) = outN k
  rw [e, namesS_id hs]
  unfold outN
  refine List.map_congr_left fun n hn => ?_
  rw [values_map _ (fun n => joinS (valuesL k n)) n hs hl hn, joinS_one]
theorem keptN_fix {l : List Fld} {ig ig' : List ByteArray} (h : ∀ s, inFoldL ig s = false → inFoldL ig' s = false) : keptN (fieldsN l ig) ig' = fieldsN l ig := by
  have hm : ∀ f ∈ fieldsN l ig, inFoldL nineN f.1 = false ∧ inFoldL viaDate f.1 = false ∧ inFoldL ig f.1 = false := by
    intro f hf
    obtain ⟨g, hg, e⟩ := outN_name hf
    have hk := keptN_mem hg
    have hlow : ∀ ns, inFoldL ns f.1 = inFoldL ns g.1 := fun ns => inFoldL_low ns (by rw [e, lowS_idem])
    rw [hlow, hlow, hlow]
    exact hk.2
  have hc : valuesL (fieldsN l ig) cnN = [] := by
    unfold valuesL
    rw [List.map_eq_nil_iff, List.filter_eq_nil_iff]
    intro f hf hq
    have h1 := (hm f hf).1
    rw [inFoldL_right nineN hq, nine_cn] at h1
    cases h1
  have h1 : stripL (fieldsN l ig) = fieldsN l ig := by
    unfold stripL stripNs
    rw [hc]
    refine without_none fun f hf => ?_
    rw [inFoldL_app, (hm f hf).1, Bool.false_or]
    rfl
  unfold keptN
  rw [h1, without_none fun f hf => (hm f hf).2.1, without_none fun f hf => h _ (hm f hf).2.2]
theorem fieldsN_twice {l : List Fld} {ig ig' : List ByteArray} (h : ∀ s, inFoldL ig s = false → inFoldL ig' s = false) : fieldsN (fieldsN l ig) ig' = fieldsN l ig := by
  unfold fieldsN at *
  rw [show keptN (outN (keptN l ig)) ig' = outN (keptN l ig) from keptN_fix h, outN_fix]
theorem fieldsN_sorted (l : List Fld) (ig : List ByteArray) : SortedS ((fieldsN l ig).map (·.1)) := by unfold fieldsN; rw [outN_names]; exact namesS_sorted _
theorem fieldsN_low (l : List Fld) (ig : List ByteArray) : ∀ f ∈ fieldsN l ig, lowS f.1 = f.1 := by
  intro f hf
  obtain ⟨g, _, e⟩ := outN_name hf
  rw [e, lowS_idem]

end Go.Proofs.YtnpbnaapbimjaaaGreatDoor
namespace Go.Proofs.YtnpbnaapbimjaaaGreatDoor
open Go.RowKit

theorem nineN_short : ∀ x ∈ nineN, x.size ≤ maxLen := by
  have h : (nineN.all fun x => decide (x.size ≤ 100)) = true := by decide +kernel
  intro x hx
  have := of_decide_eq_true (List.all_eq_true.1 h x hx)
  unfold maxLen; omega
theorem nineR_short : ∀ x ∈ nineR, x.size ≤ maxLen := by
  have h : (nineR.all fun x => decide (x.size ≤ 100)) = true := by decide +kernel
  intro x hx
  have := of_decide_eq_true (List.all_eq_true.1 h x hx)
  unfold maxLen; omega
theorem named_yes (x : List ByteArray) (k : Nat) (h : k < x.length) (hp : protB x[k] = false) : namedL (x.take (k + 1)) = namedL (x.take k) ++ [x[k]] := by
  unfold namedL; rw [List.take_succ_eq_append_getElem h, List.filter_append]; simp [hp]
theorem named_no (x : List ByteArray) (k : Nat) (h : k < x.length) (hp : protB x[k] = true) : namedL (x.take (k + 1)) = namedL (x.take k) := by
  unfold namedL; rw [List.take_succ_eq_append_getElem h, List.filter_append]; simp [hp]
theorem namedL_len (x : List ByteArray) : (namedL x).length ≤ x.length := List.length_filter_le _ _
theorem prot_yes {s : ByteArray} (h : foldS s hostLo = true) : protB s = true := by unfold protB; rw [h]; rfl
theorem prot_second {s : ByteArray} (h : foldS s hostLo = false) : protB s = foldS s cookN := by unfold protB; rw [h]; rfl
theorem names_short {l : List Fld} (h : total (valuesL l cnN) ≤ 4000000000) : ∀ x ∈ nineN ++ namedL (listL (valuesL l cnN)), x.size ≤ maxLen := by
  intro x hx
  rcases List.mem_append.1 hx with hx | hx
  · exact nineN_short x hx
  · have := listL_small (List.mem_filter.1 hx).1
    unfold maxLen; omega
theorem namesR_short {l : List Fld} (h : total (valuesL l cnN) ≤ 4000000000) : ∀ x ∈ nineR ++ namedL (listL (valuesL l cnN)), x.size ≤ maxLen := by
  intro x hx
  rcases List.mem_append.1 hx with hx | hx
  · exact nineR_short x hx
  · have := listL_small (List.mem_filter.1 hx).1
    unfold maxLen; omega

theorem stripNs_len {l : List Fld} (h : total (valuesL l cnN) ≤ 4000000000 - 9) : (stripNs l).length ≤ 4000000000 := by
  have h1 := namedL_len (listL (valuesL l cnN))
  have h2 := listL_length (valuesL l cnN)
  unfold stripNs; rw [List.length_append]; show 9 + _ ≤ _; omega

set_option maxHeartbeats 1000000 in
theorem isProtected_any (s : ByteArray) (w : World) (hs : s.size ≤ maxLen) :
    Calls Tryz.prog 74 #[.string s] w fun e w' => e = .returned (.bool (protB s)) ∧ Below w.heap.size w w' := by
  cases h1 : foldS s hostLo with
  | true =>
    have HP := Box.mk (prot_yes h1).symm
    have H1 := Box.mk (show foldS s hostP = true by rw [foldS_low low_host]; exact h1)
    clear h1
    go_enter Tryz.func74, Tryz.ntmps74
    go_wp2_with fail
    refine (fold_any s hostP _ hs (by decide)).mono ?_
    rintro e w1 ⟨he, hb⟩
    rw [H1.out] at he
    subst he
    have HB := Box.mk hb
    clear hb
    go_wp2_with fail
    go_ret
    exact ⟨ret_bool HP.out, HB.out⟩
  | false =>
    have HP := Box.mk (prot_second h1).symm
    have H1 := Box.mk (show foldS s hostP = false by rw [foldS_low low_host]; exact h1)
    clear h1
    go_enter Tryz.func74, Tryz.ntmps74
    go_wp2_with fail
    refine (fold_any s hostP _ hs (by decide)).mono ?_
    rintro e w1 ⟨he, hb⟩
    rw [H1.out] at he
    subst he
    have HB := Box.mk hb
    clear hb
    go_wp2_with fail
    refine (fold_any s cookP _ hs (by decide)).mono ?_
    rintro e w2 ⟨rfl, hb2⟩
    rw [foldS_low low_cook]
    have HB2 := Box.mk (below_trans HB.out hb2)
    clear hb2
    go_wp2_with fail
    go_ret
    exact ⟨ret_bool HP.out, HB2.out⟩

theorem acc_lits (w : World) (L : List ByteArray) (n : Nat) (h : L.length = n) (hn : n ≤ 1000) (h0 : 0 < n) (cs : Array Value) (hc : cs = (L.map Value.string).toArray) : Acc w (w.alloc (.cells cs 9)) (.slice (some ⟨w.heap.size, 0, none⟩) n n) L := by
  subst h
  refine ⟨⟨by rw [List.length_map, Nat.mul_one], .inr ⟨w.heap.size, L.length, cs, rfl, Nat.le_refl _, heap_alloc_new w (.cells cs 9), Nat.le_refl _, by unfold maxLen; omega, ?_, ?_⟩⟩, below_oneF w _⟩
  · rw [hc]; simp
  · rw [hc, Nat.mul_one]; show List.take _ _ = _; exact List.take_of_length_le (by rw [List.length_map]; exact Nat.le_refl _)
theorem fElements_lowA {n m : ByteArray} (e : lowS n = lowS m) (w : World) (mm : Int) (l : List Fld) (a : Option Addr) (cap : Nat) (h : FldsIn w a l) (hz : ShortF l) (hn : n.size ≤ maxLen) (hl : l.length ≤ 1000000) (hm : MaxOk w mm) (ht : total (valuesL l m) ≤ 4000000000) :
    Calls Tryz.prog 73 #[.slice a l.length cap, .string n] w (RetAcc w (listL (valuesL l m))) := by
  rw [← valuesL_low l e] at ht ⊢
  exact fElements_acc w mm l n a cap h hz hn hl hm ht
/-- The strings of a slice that is newer than another one. -/
theorem acc_beside {w w1 : World} {v : Value} {x : List ByteArray} {B : Nat} (h : Acc w w1 v x) (hB : B < w.heap.size) {u : Value} (hu : u.ownBlock = some B) :
    ∃ a c P, v = .slice a x.length c ∧ StrsAt w1 a x ∧ (x ≠ [] → a = some ⟨P, 0, none⟩ ∧ Aside w1 u P x) := by
  by_cases hx : x = []
  · obtain ⟨a, c, rfl, hs⟩ := h.shape
    exact ⟨a, c, 0, rfl, hs, fun e => absurd hx e⟩
  · obtain ⟨g, c, rfl, h1, h2, h3⟩ := h.isNew hx
    exact ⟨_, c, g, rfl, h3, fun _ => ⟨rfl, h3, (by rw [hu]; intro e; have := Option.some.inj e; omega), h2⟩⟩

set_option maxRecDepth 100000 in
set_option maxHeartbeats 2000000 in
theorem namesOfOneHop_any (l : List Fld) (a : Option Addr) (cap : Nat) (w : World) (mm : Int) (h : FldsIn w a l) (hz : ShortF l) (hl : l.length ≤ 1000000) (hm : MaxOk w mm) (ht : total (valuesL l cnN) ≤ 4000000000) :
    Calls Tryz.prog 48 #[.slice a l.length cap] w (RetStrs w (stripNs l)) := by
  have HA0 := Box.mk (acc_lits w nineN 9 rfl (by decide) (by decide) _ rfl)
  have HF0 := Box.mk (h.keep HA0.out.2)
  have HM0 := Box.mk (hm.keep HA0.out.2)
  clear h hm
  obtain ⟨x, HX⟩ : ∃ x, Box (listL (valuesL l cnN) = x) := ⟨_, ⟨rfl⟩⟩
  have HXL := Box.mk (show ∀ y ∈ x, y.size ≤ maxLen by
    intro y hy; rw [← HX.out] at hy; have := listL_small hy; unfold maxLen; omega)
  have hxl : x.length ≤ 4000000000 := by rw [← HX.out]; have := listL_length (valuesL l cnN); omega
  go_enter Tryz.func48, Tryz.ntmps48
  go_wp2_with fail
  change Calls _ _ _ (w.alloc (.cells (nineN.map Value.string).toArray 9)) _
  obtain ⟨W, hW⟩ : ∃ W, W = w.alloc (.cells (nineN.map Value.string).toArray 9) := ⟨_, rfl⟩
  rw [← hW] at HA0 HF0 HM0 ⊢
  have HLT := Box.mk (show w.heap.size < W.heap.size by rw [hW, World.size_alloc]; exact Nat.lt_succ_self _)
  clear hW
  refine (fElements_lowA low_cn W mm l a cap HF0.out hz (by decide) hl HM0.out ht).mono ?_
  rintro e w1 ⟨v1, rfl, hv1⟩
  rw [HX.out] at hv1
  have HA1 := Box.mk (show Acc w w1 (.slice (some ⟨w.heap.size, 0, none⟩) 9 9) (nineN ++ namedL (x.take 0)) from HA0.out.keep hv1.2)
  obtain ⟨a1, c1, P, rfl, _, hP⟩ := acc_beside hv1 HLT.out (u := .slice (some ⟨w.heap.size, 0, none⟩) 9 9) rfl
  have HP1 := Box.mk hP
  clear hv1 hP HA0 HF0 HM0 HLT
  go_wp2_with fail
  go_loopw [3, 10] (fun v iv wr => ∃ k : Nat, k ≤ x.length ∧ iv = .int .i64 k ∧ Box (Acc w wr v (nineN ++ namedL (x.take k)) ∧ (x ≠ [] → Aside wr v P x))) (fun _ iv _ => x.length - (intOf iv).toNat)
  case atStart => exact ⟨0, Nat.zero_le _, rfl, ⟨HA1.out, fun e => (HP1.out e).2⟩⟩
  case round =>
    clear HA1
    obtain ⟨k, hk, rfl, HM⟩ := hrel
    have hnl := namedL_len (x.take k)
    have hnl2 : (x.take k).length ≤ k := List.length_take_le _ _
    have hnn : (nineN ++ namedL (x.take k)).length ≤ 4000000009 := by rw [List.length_append]; show 9 + _ ≤ _; omega
    by_cases hlt : k < x.length
    · have hne : x ≠ [] := fun e => by rw [e] at hlt; exact absurd hlt (Nat.not_lt_zero _)
      obtain ⟨rfl, _⟩ := HP1.out hne
      have HASD := Box.mk (HM.out.2 hne)
      obtain ⟨b, off, hbe, hc⟩ := HASD.out.1 k hlt
      have hbe2 := Option.some.inj hbe
      injection hbe2 with e1 e2
      subst e1 e2
      rw [Nat.zero_add] at hc
      clear hbe hne
      have HSZ := Box.mk (HXL.out _ (List.getElem_mem hlt))
      by_cases hp : protB x[k] = true
      · have HT := Box.mk (named_no x k hlt hp)
        have HP := Box.mk hp
        clear hp
        generalize x[k] = f at *
        go_wp2_with fail
        refine (isProtected_any f _ HSZ.out).mono ?_
        rintro e w2 ⟨he, hb⟩
        rw [HP.out] at he
        subst he
        have HM2 := Box.mk (show Acc w w2 _ (nineN ++ namedL (x.take (k + 1))) ∧ (x ≠ [] → Aside w2 _ P x) by rw [HT.out]; exact ⟨HM.out.1.keep hb, fun _ => HASD.out.keep hb⟩)
        clear hb HM HT HP hc hnl hnl2 hnn
        go_wp2_with fail
        go_roundw
        case rel => exact ⟨k + 1, by omega, by go_num, HM2⟩
        case measure => simp [intOf]; omega
      · have hp' : protB x[k] = false := by simpa using hp
        have HT := Box.mk (named_yes x k hlt hp')
        have HP := Box.mk hp'
        clear hp hp'
        generalize x[k] = f at *
        obtain ⟨y, hy⟩ : ∃ y, y = nineN ++ namedL (x.take k) := ⟨_, rfl⟩
        have HY := Box.mk (show nineN ++ namedL (x.take (k + 1)) = y ++ [f] by rw [HT.out, hy, List.append_assoc])
        rw [← hy] at HM hnn
        clear hy HT
        go_wp2_with fail
        refine (isProtected_any f _ HSZ.out).mono ?_
        rintro e w2 ⟨he, hb⟩
        rw [HP.out] at he
        subst he
        have HM2 := Box.mk (And.intro (HM.out.1.keep hb) (HASD.out.keep hb))
        clear hb HM HP hc hnl hnl2
        go_wp2_with (at_builtin; refine wpList_append_acc _ rfl _ _ rfl rfl (HM2.out.1.keep ((Below.refl _ _).alloc (Nat.le_refl _) _)) rfl (y := f) ?c1 ?c2 ?c3)
        case c1 => simp
        case c2 => omega
        case c3 =>
          intro g cap' w' hacc has
          have HACC := Box.mk (show Acc w w' (.slice (some ⟨g, 0, none⟩) (y.length + 1) cap') (nineN ++ namedL (x.take (k + 1))) ∧ (x ≠ [] → Aside w' (.slice (some ⟨g, 0, none⟩) (y.length + 1) cap') P x) by
            rw [HY.out]; exact ⟨hacc, fun _ => has _ _ (HM2.out.2.keep (below_oneF _ _))⟩)
          clear hacc has HM2 HY HASD
          go_wp2_with fail
          go_roundw
          case rel => exact ⟨k + 1, by omega, by go_num, HACC⟩
          case measure => simp [intOf]; omega
    · have HE := Box.mk (show Acc w wr _ (stripNs l) by
        have h1 := HM.out.1
        rw [List.take_of_length_le (by omega), ← HX.out] at h1; exact h1)
      clear HM
      go_wp2_with fail
      obtain ⟨a', cap', rfl, hs⟩ := HE.out.shape
      go_ret
      exact ⟨a', cap', rfl, hs, HE.out.2⟩
set_option maxHeartbeats 1000000 in
theorem hStrip_any (l : List Fld) (a : Option Addr) (cap : Nat) (w : World) (mm : Int) (h : FldsIn w a l) (hz : ShortF l) (hl : l.length ≤ 1000000) (hm : MaxOk w mm) (ht : total (valuesL l cnN) ≤ 3000000000) :
    Calls Tryz.prog 31 #[.slice a l.length cap] w (RetAccF w (stripL l)) := by
  have H0 := Box.mk h
  have hnl := stripNs_len (l := l) (by omega)
  have HN := Box.mk (names_short (l := l) (by omega))
  clear h
  go_enter Tryz.func31, Tryz.ntmps31
  go_wp2_with fail
  refine (namesOfOneHop_any l a cap _ mm H0.out hz hl hm (by omega)).mono ?_
  rintro e w1 ⟨a1, c1, rfl, hs1, hb1⟩
  have HS1 := Box.mk (StrsIn.of_at hs1)
  have HB1 := Box.mk hb1
  have HF1 := Box.mk (H0.out.keep hb1)
  clear hs1 hb1 H0
  go_wp2_with fail
  refine (fWithout_acc l (stripNs l) a a1 cap c1 w1 HF1.out hz HS1.out HN.out hl hnl).mono ?_
  rintro e w2 ⟨v2, rfl, hv2⟩
  have HV := Box.mk (AccF.lift HB1.out hv2)
  clear hv2
  go_wp2_with fail
  go_ret
  exact ⟨v2, rfl, HV.out⟩
end Go.Proofs.YtnpbnaapbimjaaaGreatDoor
namespace Go.Proofs.YtnpbnaapbimjaaaGreatDoor
open Go.RowKit

theorem refElements_lowA (w : World) (l : List Fld) (n : ByteArray) (a : Option Addr) (cap : Nat) (h : FldsIn w a l) (hz : ShortF l) (hn : n.size ≤ maxLen) (hl : l.length ≤ 1000000) (ht : total (valuesL l n) ≤ 4000000000) :
    Calls Tryz.prog 39 #[.slice a l.length cap, .string n] w (RetAcc w (listL (valuesL l n))) :=
  refElements_acc w l n a cap h hz hn hl ht
theorem namesR_len {l : List Fld} (h : total (valuesL l cnN) ≤ 3000000000) : (nineR ++ namedL (listL (valuesL l cnN))).length ≤ 4000000000 := by
  have h1 := namedL_len (listL (valuesL l cnN))
  have h2 := listL_length (valuesL l cnN)
  rw [List.length_append]; show 9 + _ ≤ _; omega
theorem prot_no {s : ByteArray} (h : protB s = false) : foldS s hostLo = false ∧ foldS s cookN = false := by
  unfold protB at h; rw [Bool.or_eq_false_iff] at h; exact h
theorem prot_cook {s : ByteArray} (h : protB s = true) (h2 : foldS s hostLo = false) : foldS s cookN = true := by
  rw [prot_second h2] at h; exact h

set_option maxRecDepth 100000 in
set_option maxHeartbeats 2000000 in
theorem refStrip_any (l : List Fld) (a : Option Addr) (cap : Nat) (w : World) (h : FldsIn w a l) (hz : ShortF l) (hl : l.length ≤ 1000000) (ht : total (valuesL l cnN) ≤ 3000000000) :
    Calls Tryz.prog 21 #[.slice a l.length cap] w (RetAccF w (stripL l)) := by
  have HA0 := Box.mk (acc_lits w nineR 9 rfl (by decide) (by decide) _ rfl)
  have HF0 := Box.mk (h.keep HA0.out.2)
  have HFW := Box.mk h
  have hnl := namesR_len ht
  have HN := Box.mk (namesR_short (l := l) (by omega))
  clear h
  obtain ⟨x, HX⟩ : ∃ x, Box (listL (valuesL l cnN) = x) := ⟨_, ⟨rfl⟩⟩
  have HXL := Box.mk (show ∀ y ∈ x, y.size ≤ maxLen by
    intro y hy; rw [← HX.out] at hy; have := listL_small hy; unfold maxLen; omega)
  have hxl : x.length ≤ 4000000000 := by rw [← HX.out]; have := listL_length (valuesL l cnN); omega
  go_enter Tryz.func21, Tryz.ntmps21
  go_wp2_with fail
  change Calls _ _ _ (w.alloc (.cells (nineR.map Value.string).toArray 9)) _
  obtain ⟨W, hW⟩ : ∃ W, W = w.alloc (.cells (nineR.map Value.string).toArray 9) := ⟨_, rfl⟩
  rw [← hW] at HA0 HF0 ⊢
  have HLT := Box.mk (show w.heap.size < W.heap.size by rw [hW, World.size_alloc]; exact Nat.lt_succ_self _)
  clear hW
  refine (refElements_lowA W l cnN a cap HF0.out hz (by decide) hl (by omega)).mono ?_
  rintro e w1 ⟨v1, rfl, hv1⟩
  rw [HX.out] at hv1
  have HA1 := Box.mk (show Acc w w1 (.slice (some ⟨w.heap.size, 0, none⟩) 9 9) (nineR ++ namedL (x.take 0)) from HA0.out.keep hv1.2)
  obtain ⟨a1, c1, P, rfl, hs1, hP⟩ := acc_beside hv1 HLT.out (u := .slice (some ⟨w.heap.size, 0, none⟩) 9 9) rfl
  have HP1 := Box.mk hP
  clear hs1 hv1 hP HA0 HF0 HLT
  go_wp2_with fail
  go_loopw [3, 5] (fun v iv wr => ∃ k : Nat, k ≤ x.length ∧ iv = .int .i64 k ∧ Box (Acc w wr v (nineR ++ namedL (x.take k)) ∧ (x ≠ [] → Aside wr v P x))) (fun _ iv _ => x.length - (intOf iv).toNat)
  case atStart => exact ⟨0, Nat.zero_le _, rfl, ⟨HA1.out, fun e => (HP1.out e).2⟩⟩
  case round =>
    clear HA1
    obtain ⟨k, hk, rfl, HM⟩ := hrel
    have hnl1 := namedL_len (x.take k)
    have hnl2 : (x.take k).length ≤ k := List.length_take_le _ _
    have hnn : (nineR ++ namedL (x.take k)).length ≤ 4000000009 := by rw [List.length_append]; show 9 + _ ≤ _; omega
    by_cases hlt : k < x.length
    · have hne : x ≠ [] := fun e => by rw [e] at hlt; exact absurd hlt (Nat.not_lt_zero _)
      obtain ⟨rfl, _⟩ := HP1.out hne
      have HASD := Box.mk (HM.out.2 hne)
      obtain ⟨b, off, hbe, hc⟩ := HASD.out.1 k hlt
      have hbe2 := Option.some.inj hbe
      injection hbe2 with e1 e2
      subst e1 e2
      rw [Nat.zero_add] at hc
      clear hbe hne
      have HSZ := Box.mk (HXL.out _ (List.getElem_mem hlt))
      cases hp : protB x[k] with
      | true =>
        have HT := Box.mk (named_no x k hlt hp)
        cases h1 : foldS x[k] hostLo with
        | true =>
          have HP := Box.mk h1
          clear hp h1
          generalize x[k] = f at *
          go_wp2_with fail
          refine (refFold_any f hostLo _ HSZ.out (by decide)).mono ?_
          rintro e w2 ⟨he, hb⟩
          rw [HP.out] at he
          subst he
          have HM2 := Box.mk (show Acc w w2 _ (nineR ++ namedL (x.take (k + 1))) ∧ (x ≠ [] → Aside w2 _ P x) by rw [HT.out]; exact ⟨HM.out.1.keep hb, fun _ => HASD.out.keep hb⟩)
          clear hb HM HT HP hc hnl1 hnl2 hnn
          go_wp2_with fail
          go_roundw
          case rel => exact ⟨k + 1, by omega, by go_num, HM2⟩
          case measure => simp [intOf]; omega
        | false =>
          have HP := Box.mk h1
          have HP2 := Box.mk (prot_cook hp h1)
          clear hp h1
          generalize x[k] = f at *
          go_wp2_with fail
          refine (refFold_any f hostLo _ HSZ.out (by decide)).mono ?_
          rintro e w2 ⟨he, hb⟩
          rw [HP.out] at he
          subst he
          have hc2 := below_cell hb hc
          have HM2 := Box.mk (And.intro (HM.out.1.keep hb) (HASD.out.keep hb))
          clear hb HM HASD hc hnl1 hnl2 hnn
          go_wp2_with fail
          refine (refFold_any f cookN _ HSZ.out (by decide)).mono ?_
          rintro e w3 ⟨he, hb⟩
          rw [HP2.out] at he
          subst he
          have HM3 := Box.mk (show Acc w w3 _ (nineR ++ namedL (x.take (k + 1))) ∧ (x ≠ [] → Aside w3 _ P x) by rw [HT.out]; exact ⟨HM2.out.1.keep hb, fun _ => HM2.out.2.keep hb⟩)
          clear hb HM2 HT HP HP2 hc2
          go_wp2_with fail
          go_roundw
          case rel => exact ⟨k + 1, by omega, by go_num, HM3⟩
          case measure => simp [intOf]; omega
      | false =>
        have HT := Box.mk (named_yes x k hlt hp)
        have HP := Box.mk (prot_no hp)
        clear hp
        generalize x[k] = f at *
        obtain ⟨y, hy⟩ : ∃ y, y = nineR ++ namedL (x.take k) := ⟨_, rfl⟩
        have HY := Box.mk (show nineR ++ namedL (x.take (k + 1)) = y ++ [f] by rw [HT.out, hy, List.append_assoc])
        rw [← hy] at HM hnn
        clear hy HT
        go_wp2_with fail
        refine (refFold_any f hostLo _ HSZ.out (by decide)).mono ?_
        rintro e w2 ⟨he, hb⟩
        rw [HP.out.1] at he
        subst he
        have hc2 := below_cell hb hc
        have HM2 := Box.mk (And.intro (HM.out.1.keep hb) (HASD.out.keep hb))
        clear hb HM HASD hc hnl1 hnl2
        go_wp2_with fail
        refine (refFold_any f cookN _ HSZ.out (by decide)).mono ?_
        rintro e w3 ⟨he, hb⟩
        rw [HP.out.2] at he
        subst he
        have hc3 := below_cell hb hc2
        have HM3 := Box.mk (And.intro (HM2.out.1.keep hb) (HM2.out.2.keep hb))
        clear hb HM2 HP hc2
        go_wp2_with (at_builtin; refine wpList_append_acc _ rfl _ _ rfl rfl (HM3.out.1.keep ((Below.refl _ _).alloc (Nat.le_refl _) _)) rfl (y := f) ?c1 ?c2 ?c3)
        case c1 => simp
        case c2 => omega
        case c3 =>
          intro g cap' w' hacc has
          have HACC := Box.mk (show Acc w w' (.slice (some ⟨g, 0, none⟩) (y.length + 1) cap') (nineR ++ namedL (x.take (k + 1))) ∧ (x ≠ [] → Aside w' (.slice (some ⟨g, 0, none⟩) (y.length + 1) cap') P x) by
            rw [HY.out]; exact ⟨hacc, fun _ => has _ _ (HM3.out.2.keep (below_oneF _ _))⟩)
          clear hacc has HM3 HY
          go_wp2_with fail
          go_roundw
          case rel => exact ⟨k + 1, by omega, by go_num, HACC⟩
          case measure => simp [intOf]; omega
    · have HE := Box.mk (show Acc w wr _ (nineR ++ namedL (listL (valuesL l cnN))) by
        have h1 := HM.out.1
        rw [List.take_of_length_le (by omega), ← HX.out] at h1; exact h1)
      clear HM hnl1 hnl2 hnn
      obtain ⟨z, hz2⟩ : ∃ z, z = nineR ++ namedL (listL (valuesL l cnN)) := ⟨_, rfl⟩
      rw [← hz2] at HE HN hnl
      have HZ2 := Box.mk (show withoutL l z = stripL l by rw [hz2]; exact strip_ref l)
      clear hz2
      obtain ⟨a', cap', rfl, hs⟩ := HE.out.shape
      have HS := Box.mk (StrsIn.of_at hs)
      clear hs
      go_wp2_with fail
      refine (refWithout_acc l z a a' cap cap' wr (HFW.out.keep HE.out.2) hz HS.out HN.out hl hnl).mono ?_
      rintro e w2 ⟨v2, rfl, hv2⟩
      rw [HZ2.out] at hv2
      have HV := Box.mk (AccF.lift HE.out.2 hv2)
      clear hv2
      go_wp2_with fail
      go_ret
      exact ⟨v2, rfl, HV.out⟩
end Go.Proofs.YtnpbnaapbimjaaaGreatDoor
namespace Go.Proofs.YtnpbnaapbimjaaaGreatDoor
open Go.RowKit
set_option linter.unusedVariables false

def strV (l : List ByteArray) : List Value := l.map Value.string
theorem strV_len (l : List ByteArray) : (strV l).length = l.length := by unfold strV; simp
theorem strV_app (a b : List ByteArray) : strV (a ++ b) = strV a ++ strV b := by unfold strV; simp
theorem strV_one (l : List ByteArray) : ∀ u ∈ strV l, u.oneCell' = true := by
  intro u hu
  unfold strV at hu
  rw [List.mem_map] at hu
  obtain ⟨s, _, rfl⟩ := hu
  rfl
/-- The slice reads as the strings l; its capacity is no less. -/
def StrsC (w : World) (a : Option Addr) (l : List ByteArray) (c : Nat) : Prop := StrsIn w a l ∧ l.length ≤ c ∧ (a = none → c = 0)
theorem StrsC.keep {w w' : World} {a : Option Addr} {l : List ByteArray} {c : Nat} (h : StrsC w a l c) (hb : Below w.heap.size w w') : StrsC w' a l c := ⟨h.1.keep hb, h.2⟩
theorem StrsC.nil {w : World} {a : Option Addr} {l : List ByteArray} {c : Nat} (h : StrsC w a l c) (e : a = none) : l = [] ∧ c = 0 := by
  have h0 := h.2.2 e
  have h1 := h.2.1
  exact ⟨List.eq_nil_of_length_eq_zero (by omega), h0⟩
theorem StrsC.take {w : World} {a : Option Addr} {l : List ByteArray} {c : Nat} (h : StrsC w a l c) (k : Nat) : StrsC w a (l.take k) c := ⟨h.1.take k, by have := h.2.1; rw [List.length_take]; omega, h.2.2⟩
theorem StrsIn.cells {w : World} {x : Addr} {l : List ByteArray} (h : StrsIn w (some x) l) : ∀ j u, (strV l)[j]? = some u → w.cell? (x.add j) = some u := by
  intro j u hj
  unfold strV at hj
  rw [List.getElem?_map] at hj
  obtain ⟨s, hs, rfl⟩ := Option.map_eq_some_iff.1 hj
  obtain ⟨hlt, rfl⟩ := List.getElem?_eq_some_iff.1 hs
  obtain ⟨y, e, hc⟩ := h j hlt
  obtain rfl := Option.some.inj e
  exact hc
def OwnS (B : Nat) (w : World) (v : Value) (l : List ByteArray) : Prop := w.ownsRow B 9 1 v l.length (strV l)
theorem OwnS.start (B : Nat) (w : World) : OwnS B w (.slice none 0 0) [] := World.ownsRow_nil _ _ _ _
theorem OwnS.lt {B : Nat} {w : World} {v : Value} {l : List ByteArray} (h : OwnS B w v l) {k : Nat} (hk : v.ownBlock = some k) : B ≤ k ∧ k < w.heap.size := World.ownsRow.lt h k hk
theorem OwnS.same {B : Nat} {w w' : World} {v : Value} {l : List ByteArray} (h : OwnS B w v l) (hs : ∀ k, v.ownBlock = some k → w'.heap[k]? = w.heap[k]?) : OwnS B w' v l := by
  obtain ⟨h1, h2⟩ := h
  refine ⟨h1, ?_⟩
  rcases h2 with h2 | ⟨g, cap, cur, hv, hg, hc, r⟩
  · exact .inl h2
  · exact .inr ⟨g, cap, cur, hv, hg, by rw [hs g (by rw [hv]; rfl)]; exact hc, r⟩
theorem OwnS.keep {B : Nat} {w w' : World} {v : Value} {l : List ByteArray} (h : OwnS B w v l) (hb : Below w.heap.size w w') : OwnS B w' v l :=
  h.same fun k hk => hb.block k (h.lt hk).2
theorem OwnS.grown {B : Nat} {w w' : World} {v : Value} {l : List ByteArray} {row : Option Nat} (h : OwnS B w v l) (hg : w.grownBy w' row) (hne : ∀ k, v.ownBlock = some k → some k ≠ row) : OwnS B w' v l :=
  h.same fun k hk => hg.block k (h.lt hk).2 (hne k hk)
theorem OwnS.shape {B : Nat} {w : World} {v : Value} {l : List ByteArray} (h : OwnS B w v l) : ∃ a cap, v = .slice a l.length cap ∧ StrsC w a l cap := by
  obtain ⟨h1, h2⟩ := h
  rcases h2 with ⟨rfl, h2⟩ | ⟨g, cap, cur, rfl, hg, hc, hcap, hm, hsz, ht⟩
  · have : l = [] := List.eq_nil_of_length_eq_zero h2
    subst this
    exact ⟨none, 0, rfl, StrsIn.nil _ _, Nat.le_refl _, fun _ => rfl⟩
  · refine ⟨_, cap, rfl, ⟨fun j hj => ⟨_, rfl, ?_⟩, hcap, fun e => by cases e⟩⟩
    have hu : (strV l)[j]? = some (.string l[j]) := by unfold strV; simp [hj]
    have e := congrArg (fun x => x[j]?) ht
    have hlt : j < l.length * 1 := by omega
    rw [hu, List.getElem?_take_of_lt hlt] at e
    rw [Addr.add_lit]
    simp only [World.cell?, hc, Nat.zero_add]
    simpa using e
theorem OwnS.up {B B' : Nat} {w : World} {v : Value} {l : List ByteArray} (h : OwnS B' w v l) (hB : B ≤ B') : OwnS B w v l := by
  obtain ⟨h1, h2⟩ := h
  refine ⟨h1, ?_⟩
  rcases h2 with h2 | ⟨g, cap, cur, hv, hg, hc, r⟩
  · exact .inl h2
  · exact .inr ⟨g, cap, cur, hv, Nat.le_trans hB hg, hc, r⟩
/-- An own slice with one block, empty and without room. -/
def Spec.ownS (B : Nat) (l : List ByteArray) : Spec := ⟨fun v w => OwnS B w v l, fun _ _ _ h hb => h.keep hb⟩
def Spec.own0 (B : Nat) : Spec := ⟨fun v w => (∃ g, v = .slice (some ⟨g, 0, none⟩) 0 0) ∧ OwnS B w v [], fun _ _ _ h hb => ⟨h.1, h.2.keep hb⟩⟩
/-- A slice of one string. -/
def Spec.strOne (s : ByteArray) : Spec := ⟨fun v w => ∃ b c, v = .slice (some ⟨b, 0, none⟩) 1 c ∧ w.cell? ⟨b, 0, none⟩ = some (.string s), fun _ _ _ h hb => by
  obtain ⟨b, c, h1, h2⟩ := h
  exact ⟨b, c, h1, below_cell hb h2⟩⟩
def Spec.nopeS : Spec := ⟨fun _ _ => False, fun _ _ _ h _ => h⟩
theorem sizeOf_strS (w : World) : (sizeOf (Tryz.prog.elem 24)).run Tryz.prog w = .ok 1 w := by
  rw [show Tryz.prog.elem 24 = 9 by kernel_rfl]
  obtain ⟨i0, hi, hz0, hz1, hz2⟩ := info_parts Tryz.info9
  simp [sizeOf, typeInfo, hi, hz1]
theorem run_part_s (W : World) (x : Addr) (len cap n : Nat) (hn : n ≤ len) :
    (Instr.sliceAt 24 (.slice (some x) len cap) (some (.int .i64 (n : Int))) none none).run Tryz.prog W = .ok (.slice (some (if cap = n then x else x.add n)) (len - n) (cap - n)) W := by
  rw [run_sliceAt_slice W 24 _ _ _ _ (by kernel_rfl), run_slice_l W 24 _ _ _ (by kernel_rfl) .i64 (n : Int) (by omega) (by omega), sizeOf_strS]
  simp only [Result.andThen, sliced, Int.toNat_natCast, Nat.mul_one]
  split <;> rfl
theorem add_addS (x : Addr) (n j : Nat) : (x.add n).add j = x.add (n + j) := by
  unfold Addr.add
  by_cases h0 : n = 0
  · subst h0; simp
  · by_cases hj0 : j = 0
    · subst hj0; simp [h0]
    · simp [h0, hj0, Nat.add_assoc]
theorem part_s {w : World} {a : Option Addr} {l : List ByteArray} {cap i : Nat} (h : StrsC w a l cap) (hi : i ≤ l.length) :
    ∃ a' c', (∀ W, (Instr.sliceAt 24 (.slice a l.length cap) (some (.int .i64 (i : Int))) none none).run Tryz.prog W = .ok (.slice a' (l.length - i) c') W) ∧ StrsC w a' (l.drop i) c' := by
  cases a with
  | some x =>
    refine ⟨_, _, fun W => run_part_s W x l.length cap i hi, fun j hj => ?_, by rw [List.length_drop]; have := h.2.1; omega, fun e => by cases e⟩
    have hj' : i + j < l.length := by rw [List.length_drop] at hj; omega
    refine ⟨_, rfl, ?_⟩
    have h1 := h.2.1
    rw [if_neg (by omega), add_addS, List.getElem_drop]
    obtain ⟨y, e, hc⟩ := h.1 (i + j) hj'
    obtain rfl := Option.some.inj e
    exact hc
  | none =>
    obtain ⟨rfl, rfl⟩ := h.nil rfl
    have h0 : i = 0 := by simpa using hi
    subst h0
    refine ⟨none, 0, fun W => ?_, StrsIn.nil _ _, Nat.le_refl _, fun _ => rfl⟩
    rw [run_sliceAt_slice W 24 _ _ _ _ (by kernel_rfl), run_slice_l W 24 _ _ _ (by kernel_rfl) .i64 ((0 : Nat) : Int) (by omega) (by simp), sizeOf_strS]
    rfl
section
variable {Q : Exit → Act → World → Prop} {act : Act} {w : World} {o : Oper} {s : Spec} {K : Act → World → Prop}
theorem loc_build0S (ho : o.op = .buildSlice 24 0 #[]) {B : Nat} (hBw : B ≤ w.heap.size) (hs : ∀ v w', (∃ g, v = .slice (some ⟨g, 0, none⟩) 0 0) ∧ OwnS B w' v [] → s.p v w') :
    o.wp Tryz.prog act w (fun a' w' => ∃ v, a' = act.put o.dst v ∧ Below w.heap.size w w' ∧ s.p v w') Q := by
  refine loc_run (v := .slice (some ⟨w.heap.size, 0, none⟩) 0 0) (w' := w.alloc (.cells #[] 9)) ?_ (below_oneF _ _) (hs _ _ ⟨⟨_, rfl⟩, rfl, .inr ⟨w.heap.size, 0, #[], rfl, hBw, heap_alloc_new _ _, Nat.le_refl _, Nat.zero_le _, rfl, rfl⟩⟩)
  obtain ⟨i0, hi, hz0, hz1, hz2⟩ := info_parts Tryz.info9
  unfold execOp
  simp [ho, Instr.buildSlice, run_underlying Tryz.underlying24, sizeOf, typeInfo, hi, Instr.fill, newRow, show Array.range 0 = #[] from rfl]
theorem loc_build1S {x : Operand} (ho : o.op = .buildSlice 24 1 #[(0, x)]) {f : ByteArray} (hx : act.eval x = .string f) (hs : ∀ v w', (∃ b c, v = .slice (some ⟨b, 0, none⟩) 1 c ∧ w'.cell? ⟨b, 0, none⟩ = some (.string f)) → s.p v w') :
    o.wp Tryz.prog act w (fun a' w' => ∃ v, a' = act.put o.dst v ∧ Below w.heap.size w w' ∧ s.p v w') Q := by
  obtain ⟨i0, hi, hz0, hz1, hz2⟩ := info_parts Tryz.info9
  have hrun := run_buildSlice (P := Tryz.prog) w 24 9 1 #[(0, .string f)] #[.string f] i0 _ Tryz.underlying24 hi hz0 (by rw [hz1]; decide) (by rw [hz1]; decide) (by rw [hz1]; simp [Instr.fill, Value.cells, Array.range_succ, show Array.range 0 = #[] from rfl])
  refine loc_run (v := .slice (some ⟨w.heap.size, 0, none⟩) 1 1) (w' := w.alloc (.cells #[.string f] 9)) ?_ (below_oneF _ _) (hs _ _ ⟨_, _, rfl, by rw [World.cell?_alloc_new]; rfl⟩)
  unfold execOp
  simp only [ho, List.map_toArray, List.map_cons, List.map_nil, hx]
  rw [Sem.run_bind, hrun]; rfl
theorem loc_uptoS {x y : Operand} (ho : o.op = .slice 24 x none (some y) none) {ad : Option Addr} {n c k : Nat} (hx : act.eval x = .slice ad n c) (hy : act.eval y = .int .i64 k) (hk : k ≤ n) (hc : n ≤ c) (hs : s.p (.slice ad k c) w) :
    o.wp Tryz.prog act w (fun a' w' => ∃ v, a' = act.put o.dst v ∧ Below w.heap.size w w' ∧ s.p v w') Q := by
  refine loc_run (v := .slice ad k c) ?_ (Below.refl _ _) hs
  have hrun : (Instr.sliceAt 24 (.slice ad n c) none (some (.int .i64 (k : Int))) none).run Tryz.prog w = .ok (.slice ad k c) w := by
    rw [run_sliceAt_slice w 24 _ _ _ _ (by kernel_rfl), run_slice_h w 24 _ _ _ (by kernel_rfl) .i64 (k : Int) (by omega) (by omega), sizeOf_strS]
    have ha : Option.map (fun x : Addr => x.add 0) ad = ad := by cases ad <;> simp [Addr.add]
    simp [Result.andThen, sliced, ha]
  unfold execOp
  simp only [ho, hx, hy, Option.map_some, Option.map_none, Sem.run_bind, hrun, Result.andThen_ok, Sem.run_pure]
/-- Append to an own empty slice without room. -/
theorem loc_append0S {x y : Operand} (ho : o.op = .call { callee := .builtin .append, args := #[x, y], argTypes := #[24, 24] }) {B g : Nat} (hx : act.eval x = .slice (some ⟨g, 0, none⟩) 0 0) (hown : OwnS B w (act.eval x) []) {a : Option Addr} {r : List ByteArray} {c : Nat}
    (hy : act.eval y = .slice a r.length c) (hr : StrsC w a r c) (hn : r.length ≤ 8000000) (hBw : B ≤ w.heap.size) (hs : ∀ v w', OwnS B w' v r → s.p v w') :
    o.wp Tryz.prog act w (fun a' w' => ∃ v, a' = act.put o.dst v ∧ Below w.heap.size w w' ∧ s.p v w') Q := by
  obtain ⟨i0, hi, hz0, hz1, hz2⟩ := info_parts Tryz.info9
  have fin : ∀ v w', (Builtin.append_ #[24, 24] o.type #[.slice (some ⟨g, 0, none⟩) 0 0, .slice a r.length c]).run Tryz.prog w = .ok v w' → Below w.heap.size w w' → OwnS B w' v r →
      o.wp Tryz.prog act w (fun a' w' => ∃ v, a' = act.put o.dst v ∧ Below w.heap.size w w' ∧ s.p v w') Q := fun v w' h1 h2 h3 => by
    refine loc_run (v := v) (w' := w') ?_ h2 (hs v w' h3)
    unfold execOp
    simp only [ho]
    simp [resolve, invoke, builtin, hx, hy, h1, Result.andThen]
  by_cases h0 : r = []
  · subst h0
    refine fin (.slice (some ⟨g, 0, none⟩) 0 0) w ?_ (Below.refl _ _) (by rw [← hx]; exact hown)
    cases a <;> simp [Builtin.append_, run_underlying Tryz.underlying24, sizeOf, typeInfo, hi, Builtin.lenOf, Builtin.firstCells, loadCells, storeCells, loadCellsFrom]
  · cases a with
    | none => exact absurd (hr.nil rfl).1 h0
    | some ad =>
      have hp : 0 < r.length := List.length_pos_iff.2 h0
      obtain ⟨v, w', h1, h2, h3⟩ := run_append_arg_grows (P := Tryz.prog) (w := w) 24 o.type 9 i0 _ 1 16 Tryz.underlying24 hi hz0 hz1 hz2 rfl (by decide) ⟨g, 0, none⟩ 0 0 [] rfl (fun j u hj => by simp at hj) ad r.length c (strV r) (by rw [strV_len, Nat.mul_one]) hr.1.cells (by omega) (by unfold maxLen; omega) (by omega)
      refine fin v w' h1 ((Below.refl _ _).grown h3 (Nat.le_refl _) (fun k hk => by cases hk)) ?_
      have h4 : w'.ownsRow w.heap.size 9 1 v r.length (strV r) := by simpa using h2
      exact OwnS.up (B' := w.heap.size) h4 hBw
/-- Append of a slice that is read to an own one, as one operation. -/
theorem wp_append_ownSs {x y : Operand} (ho : o.op = .call { callee := .builtin .append, args := #[x, y], argTypes := #[24, 24] }) {B : Nat} {l r : List ByteArray} {a : Option Addr} {c : Nat} (hx : OwnS B w (act.eval x) l)
    (hy : act.eval y = .slice a r.length c) (hr : StrsC w a r c) (hn : l.length + r.length ≤ 8000000) (hB : B ≤ w.heap.size)
    (h : ∀ v' w', OwnS B w' v' (l ++ r) → w.grownBy w' (act.eval x).ownBlock → K (act.put o.dst v') w') : o.wp Tryz.prog act w K Q := by
  obtain ⟨i0, hi, hz0, hz1, hz2⟩ := info_parts Tryz.info9
  have fin : ∀ v w', (Builtin.append_ #[24, 24] o.type #[act.eval x, .slice a r.length c]).run Tryz.prog w = .ok v w' → OwnS B w' v (l ++ r) → w.grownBy w' (act.eval x).ownBlock → o.wp Tryz.prog act w K Q := fun v w' h1 h2 h3 => by
    unfold Oper.wp execOp
    simp only [ho, resolve, invoke, builtin, Sem.run_bind, Sem.run_pure, Result.andThen_ok, List.map_toArray, List.map_cons, List.map_nil, hy, h1]
    exact h v w' h2 h3
  cases a with
  | none =>
    obtain ⟨rfl, rfl⟩ := hr.nil rfl
    refine fin (act.eval x) w (run_append_owned_none (P := Tryz.prog) (w := w) B 24 o.type 9 i0 1 Tryz.underlying24 hi (act.eval x) l.length (strV l) hx) ?_ ⟨rfl, rfl, rfl, Nat.le_refl _, fun _ _ _ => rfl⟩
    rw [List.append_nil]; exact hx
  | some ad =>
    obtain ⟨v', w', hr2, h2, h3, _, _⟩ := run_append_own_at (P := Tryz.prog) w B 24 o.type 9 i0 _ 1 16 Tryz.underlying24 hi hz0 hz1 hz2 rfl (by decide) (act.eval x) l.length (strV l) hx ad r.length c (strV r) (by rw [strV_len, Nat.mul_one]) (hr.1.cells) (strV_one r) (by unfold maxLen; omega) (by omega) hB
    refine fin v' w' hr2 ?_ h3
    unfold OwnS
    rw [List.length_append, strV_app]; exact h2
theorem wp_append_oneS {x y : Operand} (ho : o.op = .call { callee := .builtin .append, args := #[x, y], argTypes := #[24, 24] }) {B : Nat} {l : List ByteArray} (hx : OwnS B w (act.eval x) l) {b c : Nat} {f : ByteArray} (hy : act.eval y = .slice (some ⟨b, 0, none⟩) 1 c)
    (h0 : w.cell? ⟨b, 0, none⟩ = some (.string f)) (hn : l.length + 1 ≤ 8000000) (hB : B ≤ w.heap.size)
    (h : ∀ v' w', OwnS B w' v' (l ++ [f]) → w.grownBy w' (act.eval x).ownBlock → K (act.put o.dst v') w') : o.wp Tryz.prog act w K Q := by
  obtain ⟨i0, hi, hz0, hz1, hz2⟩ := info_parts Tryz.info9
  refine wp_append_lies w x y 24 ho B 9 i0 _ 1 16 Tryz.underlying24 hi hz0 hz1 hz2 rfl (by decide) (act.eval x) l.length (strV l) rfl hx ⟨b, 0, none⟩ 1 c [.string f] hy rfl ?_ ?_ (by decide) (by unfold maxLen; omega) (by omega) hB w.heap.size rfl ?_
  · intro j u hj
    match j, hj with
    | 0, hj => simp at hj; subst hj; rw [Addr.add_lit]; exact h0
    | j + 1, hj => simp at hj
  · intro u hu; simp at hu; rcases hu with rfl; rfl
  · intro g cap w' hown hgrow hg hlt
    refine h _ w' ?_ hgrow
    unfold OwnS
    rw [List.length_append, strV_app]; exact hown
end
end Go.Proofs.YtnpbnaapbimjaaaGreatDoor
namespace Go.Proofs.YtnpbnaapbimjaaaGreatDoor
open Go.RowKit
set_option linter.unusedSimpArgs false
set_option linter.unusedVariables false

/-- The call returns a slice that reads as the strings l. -/
def RetStrC (w : World) (l : List ByteArray) (e : Ending) (w' : World) : Prop := ∃ a c, e = .returned (.slice a l.length c) ∧ StrsC w' a l c ∧ Below w.heap.size w w'
theorem retStrC_eq {w w' : World} {l l' : List ByteArray} {e : Ending} (h : RetStrC w l e w') (hl : l = l') : RetStrC w l' e w' := hl ▸ h
section
variable {Q : Exit → Act → World → Prop} {act : Act} {w : World} {o : Oper} {s : Spec}
theorem loc_fromV {x y : Operand} (ho : o.op = .slice 24 x (some y) none none) {a a' : Option Addr} {n c c' i : Nat} (hx : act.eval x = .slice a n c) (h3 : ∀ W, (Instr.sliceAt 24 (.slice a n c) (some (.int .i64 (i : Int))) none none).run Tryz.prog W = .ok (.slice a' (n - i) c') W) (hy : act.eval y = .int .i64 i) (hs : s.p (.slice a' (n - i) c') w) :
    o.wp Tryz.prog act w (fun a' w' => ∃ v, a' = act.put o.dst v ∧ Below w.heap.size w w' ∧ s.p v w') Q := by
  refine loc_run (v := .slice a' (n - i) c') ?_ (Below.refl _ _) hs
  unfold execOp
  simp only [ho, hx, hy, Option.map_some, Option.map_none, Sem.run_bind, h3, Result.andThen_ok, Sem.run_pure]
end
theorem bless_t {a b : ByteArray} (h : ltS a b = true) : Op.bytesLess a.toList b.toList = true := h
theorem bless_f {a b : ByteArray} (h : ltS a b = false) : Op.bytesLess a.toList b.toList = false := h
theorem beqS_t {a b : ByteArray} (h : a = b) : (a.toList == b.toList) = true := by rw [h]; exact beq_self_eq_true _
theorem beqS_f {a b : ByteArray} (h : ¬ a = b) : (a.toList == b.toList) = false := by
  rw [beq_eq_false_iff_ne]
  exact fun e => h (ba_eq.2 e)

set_option maxRecDepth 100000 in
set_option maxHeartbeats 4000000 in
theorem refWithS_any (l : List ByteArray) (s : ByteArray) (a : Option Addr) (cap : Nat) (w : World) (h : StrsC w a l cap) (hl : l.length ≤ 1000000) :
    Calls Tryz.prog 22 #[.slice a l.length cap, .string s] w (RetStrC w (insS s l)) := by
  have HI := Box.mk h
  have hlc : l.length ≤ cap := h.2.1
  clear h
  obtain ⟨r, hr⟩ : ∃ r, insS s l = r := ⟨_, rfl⟩
  have HR := Box.mk hr
  rw [hr]
  clear hr
  go_enter Tryz.func22, Tryz.ntmps22
  go_wp2_with fail
  go_loopw [5] (fun iv wr => ∃ k : Nat, k ≤ l.length ∧ iv = .int .i64 k ∧ Box (∀ j (h : j < l.length), j < k → ltS l[j] s = true) ∧ wr = w) (fun iv _ => l.length - (intOf iv).toNat)
  case atStart => exact ⟨0, Nat.zero_le _, rfl, ⟨fun j _ h => absurd h (Nat.not_lt_zero _)⟩, rfl⟩
  case round =>
    obtain ⟨k, hk, rfl, HL, rfl⟩ := hrel
    by_cases hlt : k < l.length
    · obtain ⟨x, rfl, hc⟩ := HI.out.1 k hlt
      have HC := Box.mk hc
      by_cases hs : ltS l[k] s = true
      · have hs' := bless_t hs
        have HL2 := Box.mk (show ∀ j (h : j < l.length), j < k + 1 → ltS l[j] s = true from fun j h1 h2 => by
          rcases Nat.lt_or_ge j k with h3 | h3
          · exact HL.out j h1 h3
          · obtain rfl : j = k := by omega
            exact hs)
        clear HL hs
        go_wp2_with fail
        go_roundw
        case rel => exact ⟨k + 1, by omega, by go_num, HL2, trivial⟩
        case measure => simp [intOf]; omega
      · have hs1 : ltS l[k] s = false := by simpa using hs
        have hs' := bless_f hs1
        have HAT := Box.mk (insS_at s l k hk HL.out (fun _ => hs1))
        clear hs hs1
        by_cases he : l[k] = s
        · have he' := beqS_t he
          have HRR := Box.mk (show l = r by rw [← HR.out, HAT.out, if_pos ⟨hlt, by rw [List.getElem?_eq_getElem hlt, he]⟩])
          clear HAT he HL
          go_wp2_with fail
          go_ret
          refine retStrC_eq ⟨_, _, rfl, HI.out, Below.refl _ _⟩ HRR.out
        · have he' := beqS_f he
          have HRR := Box.mk (show l.take k ++ [s] ++ l.drop k = r by rw [← HR.out, HAT.out, if_neg (by rintro ⟨_, h⟩; rw [List.getElem?_eq_getElem hlt] at h; exact he (Option.some.inj h))])
          clear HAT he
          obtain ⟨a', c', hrun, hdrop⟩ := part_s HI.out hk
          have HRUN := Box.mk hrun
          have HDR := Box.mk hdrop
          clear hrun hdrop HL
          go_upto_region 6 with fail
          rename_i K hK
          refine wp_region_phases [7, 11] (fun ph => match ph with | 0 => [0, 1, 2, 3, 4, 5, 6, 8, 9, 10] | 1 => [8, 9, 10] | _ => [12])
            (fun ph => match ph with
              | 0 => [.own0 wr.heap.size, .val (.slice (some x) l.length cap), .val (.int .i64 k), .val (.slice (some x) k cap), .ownS wr.heap.size (l.take k), .val (.string s), .strOne s, .any, .val (.slice (some x) l.length cap), .val (.int .i64 k), .val (.slice a' (l.length - k) c'), .nopeS, .nopeS]
              | 1 => [.any, .any, .any, .any, .any, .any, .any, .ownS wr.heap.size (l.take k ++ [s]), .val (.slice (some x) l.length cap), .val (.int .i64 k), .val (.slice a' (l.length - k) c'), .any, .nopeS]
              | _ => [.any, .any, .any, .any, .any, .any, .any, .any, .any, .any, .any, .ownS wr.heap.size r, .ownS wr.heap.size r])
            (fun ph => fun wx => Below wr.heap.size wr wx)
            (by kernel_rfl) (by kernel_rfl) (by kernel_rfl) (by kernel_rfl) (by kernel_rfl) (by kernel_rfl) ?_ (Below.refl _ _) ?_ ?_ ?_
          · intro ph w1 w2 h hb
            exact below_trans h hb
          · intro ph hp
            match ph, hp with
            | 0, _ =>
              refine ⟨?_, ?_, ?_, ?_, ?_, ?_, ?_, ?_, ?_, ?_, trivial⟩ <;> intro a1 w1 hv hf hd
              · exact ⟨wanted_none rfl, loc_build0S rfl hv.size fun v w' h => h⟩
              · exact ⟨wanted_none rfl, loc_move rfl (hf.base 0 rfl)⟩
              · exact ⟨wanted_none rfl, loc_move rfl (hf.base 5 rfl)⟩
              · exact ⟨wanted_none rfl, loc_uptoS rfl (hd 1 rfl) (hd 2 rfl) hk hlc rfl⟩
              · obtain ⟨⟨g, e1⟩, e2⟩ := hd 0 rfl
                exact ⟨wanted_none rfl, loc_append0S rfl e1 e2 ((hd 3 rfl).trans (by rw [List.length_take, Nat.min_eq_left hk])) ((HI.out.keep hv).take k) (by rw [List.length_take]; omega) hv.size fun v w' h => h⟩
              · exact ⟨wanted_none rfl, loc_move rfl (hf.base 1 rfl)⟩
              · exact ⟨wanted_none rfl, loc_build1S rfl (hd 5 rfl) fun v w' h => h⟩
              · exact ⟨wanted_none rfl, loc_move rfl (hf.base 0 rfl)⟩
              · exact ⟨wanted_none rfl, loc_move rfl (hf.base 5 rfl)⟩
              · exact ⟨wanted_none rfl, loc_fromV rfl (hd 8 rfl) HRUN.out (hd 9 rfl) rfl⟩
            | 1, _ =>
              refine ⟨?_, ?_, ?_, trivial⟩ <;> intro a1 w1 hv hf hd
              · exact ⟨wanted_none rfl, loc_move rfl (hf.base 0 rfl)⟩
              · exact ⟨wanted_none rfl, loc_move rfl (hf.base 5 rfl)⟩
              · exact ⟨wanted_none rfl, loc_fromV rfl (hd 8 rfl) HRUN.out (hd 9 rfl) rfl⟩
            | 2, _ =>
              refine ⟨?_, trivial⟩
              intro a1 w1 hv hf hd
              exact ⟨wanted_none rfl, loc_assign rfl (hd 11 rfl)⟩
          · intro ph hp
            match ph, hp with
            | 0, _ =>
              intro a2 w2 hv hf hd
              obtain ⟨b, cb, e1, e2⟩ := hd 6 rfl
              have hown : OwnS wr.heap.size w2 (a2.eval (.tmp 37)) (l.take k) := hd 4 rfl
              refine ⟨wanted_none rfl, wp_append_oneS rfl hown e1 e2 (by rw [List.length_take]; omega) hv.size fun v' w3 h1 hgrow => ?_⟩
              exact ⟨v', rfl, hv.grown hgrow hv.size (fun j hj => (hown.lt hj).1), h1,
                ⟨.inr fun _ _ _ => trivial, .inr fun _ _ _ => trivial, .inr fun _ _ _ => trivial, .inr fun _ _ _ => trivial, .inr fun _ _ _ => trivial, .inr fun _ _ _ => trivial, .inr fun _ _ _ => trivial, .inl rfl, .inr fun _ _ h => h, .inr fun _ _ h => h, .inr fun _ _ h => h, .inr fun _ _ h => h.elim, .inr fun _ _ h => h, trivial⟩⟩
            | 1, _ =>
              intro a2 w2 hv hf hd
              have hown : OwnS wr.heap.size w2 (a2.eval (.tmp 40)) (l.take k ++ [s]) := hd 7 rfl
              have e43 : a2.eval (.tmp 43) = .slice a' (l.drop k).length c' := (hd 10 rfl).trans (by rw [List.length_drop])
              refine ⟨wanted_none rfl, wp_append_ownSs rfl hown e43 (HDR.out.keep hv) (by rw [List.length_append, List.length_take, List.length_drop]; simp; omega) hv.size fun v' w3 h1 hgrow => ?_⟩
              exact ⟨v', rfl, hv.grown hgrow hv.size (fun j hj => (hown.lt hj).1), (by show OwnS wr.heap.size w3 v' r; rw [← HRR.out]; exact h1),
                ⟨.inr fun _ _ _ => trivial, .inr fun _ _ _ => trivial, .inr fun _ _ _ => trivial, .inr fun _ _ _ => trivial, .inr fun _ _ _ => trivial, .inr fun _ _ _ => trivial, .inr fun _ _ _ => trivial, .inr fun _ _ _ => trivial, .inr fun _ _ _ => trivial, .inr fun _ _ _ => trivial, .inr fun _ _ _ => trivial, .inl rfl, .inr fun _ _ h => h.elim, trivial⟩⟩
          · intro a2 w2 hv hf hh
            obtain ⟨ra, rc, e4, hrs⟩ := (show OwnS wr.heap.size w2 (a2.eval (.tmp 4)) r from hh 12 (by decide)).shape
            refine hK _ _ ?_
            go_wp2_with fail
            exact local_ret rfl hf.defers e4 ⟨ra, rc, rfl, hrs, hv⟩
    · have HAT := Box.mk (insS_at s l k hk HL.out (fun h => absurd h hlt))
      have HRR := Box.mk (show l.take k ++ [s] ++ l.drop k = r by rw [← HR.out, HAT.out, if_neg (by rintro ⟨h, _⟩; exact hlt h)])
      clear HAT
      obtain ⟨a', c', hrun, hdrop⟩ := part_s HI.out hk
      have HRUN := Box.mk hrun
      have HDR := Box.mk hdrop
      clear hrun hdrop HL
      go_upto_region 6 with fail
      rename_i K hK
      refine wp_region_phases [7, 11] (fun ph => match ph with | 0 => [0, 1, 2, 3, 4, 5, 6, 8, 9, 10] | 1 => [8, 9, 10] | _ => [12])
        (fun ph => match ph with
          | 0 => [.own0 wr.heap.size, .val (.slice a l.length cap), .val (.int .i64 k), .val (.slice a k cap), .ownS wr.heap.size (l.take k), .val (.string s), .strOne s, .any, .val (.slice a l.length cap), .val (.int .i64 k), .val (.slice a' (l.length - k) c'), .nopeS, .nopeS]
          | 1 => [.any, .any, .any, .any, .any, .any, .any, .ownS wr.heap.size (l.take k ++ [s]), .val (.slice a l.length cap), .val (.int .i64 k), .val (.slice a' (l.length - k) c'), .any, .nopeS]
          | _ => [.any, .any, .any, .any, .any, .any, .any, .any, .any, .any, .any, .ownS wr.heap.size r, .ownS wr.heap.size r])
        (fun ph => fun wx => Below wr.heap.size wr wx)
        (by kernel_rfl) (by kernel_rfl) (by kernel_rfl) (by kernel_rfl) (by kernel_rfl) (by kernel_rfl) ?_ (Below.refl _ _) ?_ ?_ ?_
      · intro ph w1 w2 h hb
        exact below_trans h hb
      · intro ph hp
        match ph, hp with
        | 0, _ =>
          refine ⟨?_, ?_, ?_, ?_, ?_, ?_, ?_, ?_, ?_, ?_, trivial⟩ <;> intro a1 w1 hv hf hd
          · exact ⟨wanted_none rfl, loc_build0S rfl hv.size fun v w' h => h⟩
          · exact ⟨wanted_none rfl, loc_move rfl (hf.base 0 rfl)⟩
          · exact ⟨wanted_none rfl, loc_move rfl (hf.base 5 rfl)⟩
          · exact ⟨wanted_none rfl, loc_uptoS rfl (hd 1 rfl) (hd 2 rfl) hk hlc rfl⟩
          · obtain ⟨⟨g, e1⟩, e2⟩ := hd 0 rfl
            exact ⟨wanted_none rfl, loc_append0S rfl e1 e2 ((hd 3 rfl).trans (by rw [List.length_take, Nat.min_eq_left hk])) ((HI.out.keep hv).take k) (by rw [List.length_take]; omega) hv.size fun v w' h => h⟩
          · exact ⟨wanted_none rfl, loc_move rfl (hf.base 1 rfl)⟩
          · exact ⟨wanted_none rfl, loc_build1S rfl (hd 5 rfl) fun v w' h => h⟩
          · exact ⟨wanted_none rfl, loc_move rfl (hf.base 0 rfl)⟩
          · exact ⟨wanted_none rfl, loc_move rfl (hf.base 5 rfl)⟩
          · exact ⟨wanted_none rfl, loc_fromV rfl (hd 8 rfl) HRUN.out (hd 9 rfl) rfl⟩
        | 1, _ =>
          refine ⟨?_, ?_, ?_, trivial⟩ <;> intro a1 w1 hv hf hd
          · exact ⟨wanted_none rfl, loc_move rfl (hf.base 0 rfl)⟩
          · exact ⟨wanted_none rfl, loc_move rfl (hf.base 5 rfl)⟩
          · exact ⟨wanted_none rfl, loc_fromV rfl (hd 8 rfl) HRUN.out (hd 9 rfl) rfl⟩
        | 2, _ =>
          refine ⟨?_, trivial⟩
          intro a1 w1 hv hf hd
          exact ⟨wanted_none rfl, loc_assign rfl (hd 11 rfl)⟩
      · intro ph hp
        match ph, hp with
        | 0, _ =>
          intro a2 w2 hv hf hd
          obtain ⟨b, cb, e1, e2⟩ := hd 6 rfl
          have hown : OwnS wr.heap.size w2 (a2.eval (.tmp 37)) (l.take k) := hd 4 rfl
          refine ⟨wanted_none rfl, wp_append_oneS rfl hown e1 e2 (by rw [List.length_take]; omega) hv.size fun v' w3 h1 hgrow => ?_⟩
          exact ⟨v', rfl, hv.grown hgrow hv.size (fun j hj => (hown.lt hj).1), h1,
            ⟨.inr fun _ _ _ => trivial, .inr fun _ _ _ => trivial, .inr fun _ _ _ => trivial, .inr fun _ _ _ => trivial, .inr fun _ _ _ => trivial, .inr fun _ _ _ => trivial, .inr fun _ _ _ => trivial, .inl rfl, .inr fun _ _ h => h, .inr fun _ _ h => h, .inr fun _ _ h => h, .inr fun _ _ h => h.elim, .inr fun _ _ h => h, trivial⟩⟩
        | 1, _ =>
          intro a2 w2 hv hf hd
          have hown : OwnS wr.heap.size w2 (a2.eval (.tmp 40)) (l.take k ++ [s]) := hd 7 rfl
          have e43 : a2.eval (.tmp 43) = .slice a' (l.drop k).length c' := (hd 10 rfl).trans (by rw [List.length_drop])
          refine ⟨wanted_none rfl, wp_append_ownSs rfl hown e43 (HDR.out.keep hv) (by rw [List.length_append, List.length_take, List.length_drop]; simp; omega) hv.size fun v' w3 h1 hgrow => ?_⟩
          exact ⟨v', rfl, hv.grown hgrow hv.size (fun j hj => (hown.lt hj).1), (by show OwnS wr.heap.size w3 v' r; rw [← HRR.out]; exact h1),
            ⟨.inr fun _ _ _ => trivial, .inr fun _ _ _ => trivial, .inr fun _ _ _ => trivial, .inr fun _ _ _ => trivial, .inr fun _ _ _ => trivial, .inr fun _ _ _ => trivial, .inr fun _ _ _ => trivial, .inr fun _ _ _ => trivial, .inr fun _ _ _ => trivial, .inr fun _ _ _ => trivial, .inr fun _ _ _ => trivial, .inl rfl, .inr fun _ _ h => h.elim, trivial⟩⟩
      · intro a2 w2 hv hf hh
        obtain ⟨ra, rc, e4, hrs⟩ := (show OwnS wr.heap.size w2 (a2.eval (.tmp 4)) r from hh 12 (by decide)).shape
        refine hK _ _ ?_
        go_wp2_with fail
        exact local_ret rfl hf.defers e4 ⟨ra, rc, rfl, hrs, hv⟩
theorem refWithS_eq {l r : List ByteArray} {s : ByteArray} {a : Option Addr} {cap : Nat} (w : World) (h : StrsC w a l cap) (hl : l.length ≤ 1000000) (hr : insS s l = r) :
    Calls Tryz.prog 22 #[.slice a l.length cap, .string s] w (RetStrC w r) := by subst hr; exact refWithS_any l s a cap w h hl

set_option maxRecDepth 10000 in
set_option maxHeartbeats 2000000 in
theorem refNames_any (l : List Fld) (a : Option Addr) (cap : Nat) (w : World) (h : FldsIn w a l) (hl : l.length ≤ 1000000) :
    Calls Tryz.prog 11 #[.slice a l.length cap] w (RetStrC w (namesS (l.map (·.1)))) := by
  have HI := Box.mk h
  clear h
  go_enter Tryz.func11, Tryz.ntmps11
  go_wp2_with fail
  go_loopw [3, 4] (fun ov iv wr => ∃ (k : Nat) (g : List ByteArray) (ga : Option Addr) (gc : Nat), k ≤ l.length ∧ ov = .slice ga g.length gc ∧ iv = .int .i64 k ∧ g.length ≤ k ∧ Box (g = namesS ((l.map (·.1)).take k)) ∧ Box (StrsC wr ga g gc) ∧ Box (Below w.heap.size w wr)) (fun _ iv _ => l.length - (intOf iv).toNat)
  case atStart => exact ⟨0, [], none, 0, Nat.zero_le _, rfl, rfl, Nat.le_refl _, ⟨rfl⟩, ⟨StrsIn.nil _ _, Nat.le_refl _, fun _ => rfl⟩, ⟨Below.refl _ _⟩⟩
  case round =>
    obtain ⟨k, g, ga, gc, hk, rfl, rfl, hgl, HG, HS, HB⟩ := hrel
    by_cases hlt : k < l.length
    · obtain ⟨x, rfl, hc1, hc2⟩ := (HI.out.keep HB.out) k hlt
      have HN := Box.mk (namesS_snoc (l.map (·.1)) k (by simpa using hlt))
      have HE := Box.mk (show (l.map (·.1))[k]'(by simpa using hlt) = l[k].1 by simp)
      obtain ⟨r, hr⟩ : ∃ r, insS l[k].1 g = r := ⟨_, rfl⟩
      have HR := Box.mk hr
      have HLN := Box.mk (show r.length ≤ k + 1 by rw [← hr]; have := insS_len l[k].1 g; omega)
      have HNX := Box.mk (show r = namesS ((l.map (·.1)).take (k + 1)) by rw [HN.out, HE.out, ← HG.out, hr])
      clear hr HN HE HG hc2
      generalize l[k].1 = nm at *
      go_wp2_with fail
      refine (refWithS_eq (l := g) (s := nm) wr HS.out (by omega) HR.out).mono ?_
      rintro e w2 ⟨ra, rc, rfl, hrs, hb⟩
      have HS2 := Box.mk hrs
      have HB2 := Box.mk (below_trans HB.out hb)
      clear hrs hb hc1
      go_wp2_with fail
      go_roundw
      case rel => exact ⟨k + 1, r, ra, rc, by omega, rfl, by go_num, HLN.out, HNX, HS2, HB2⟩
      case measure => simp [intOf]; omega
    · have HX := Box.mk (show g = namesS (l.map (·.1)) by rw [HG.out, List.take_of_length_le (by simp; omega)])
      clear HG
      go_wp2_with fail
      go_ret
      exact retStrC_eq ⟨_, _, rfl, HS.out, HB.out⟩ HX.out
end Go.Proofs.YtnpbnaapbimjaaaGreatDoor
namespace Go.Proofs.YtnpbnaapbimjaaaGreatDoor
open Go.RowKit

theorem joinX : Builder.Extra Tryz.prog Tryz.lays156_ren where -- 17
  sizeBuilder := by kernel_rfl
  liesBuilder := by kernel_rfl
  t5 := Tryz.underlying5
  a5 := Tryz.isAgg5
  z5 := Tryz.sizeOf5
  v5 := Tryz.zeroValue5
  infoByte := Tryz.info5
  cellsByte := by kernel_rfl
  sizeByte := by kernel_rfl
  neB5 := by decide
theorem tailB_lib : ∀ l : List ByteArray, Lib.joinTail [44, 32] (l.map (·.data.toList)) = tailB l
  | [] => rfl
  | x :: r => by
    have ih := tailB_lib r
    unfold Lib.joinTail tailB at *
    rw [List.map_cons, List.map_cons, List.flatten_cons, List.flatMap_cons, ih]
theorem joinB_lib (l : List ByteArray) : Lib.join (l.map (·.data.toList)) [44, 32] = joinB l := by
  cases l with
  | nil => rfl
  | cons x r => rw [List.map_cons, Lib.join_cons, tailB_lib]; rfl
theorem sJoin_any (l : List ByteArray) (g cap : Nat) (w : World) (h : StrsAt w (some ⟨g, 0, none⟩) l) (hg : g < w.heap.size) (hc : l.length ≤ cap) (ht : total l ≤ 70000000000000) :
    Calls Tryz.prog 17 #[.slice (some ⟨g, 0, none⟩) l.length cap, .string sepP] w fun e w' => e = .returned (.string (joinS l)) ∧ Below w.heap.size w w' := by
  have hl := total_len l
  have hj := joinB_len l
  refine (Any.strings_Join Tryz.lays156 joinX g 0 cap l sepP w ?_ hg (by omega) hc ?_).mono ?_
  · intro j x hx
    obtain ⟨hj, rfl⟩ := List.getElem?_eq_some_iff.1 hx
    obtain ⟨b, off, e, hc⟩ := h j hj
    have e2 := Option.some.inj e
    injection e2 with e3 e4
    subst e3 e4
    exact hc
  · show (Lib.join (l.map (·.data.toList)) [44, 32]).length ≤ _
    rw [joinB_lib]; omega
  · rintro e w' ⟨he, hb⟩
    refine ⟨he.trans ?_, hb⟩
    show Ending.returned (.string ⟨(Lib.join (l.map (·.data.toList)) [44, 32]).toArray⟩) = _
    rw [joinB_lib]; rfl
theorem join_first (l : List ByteArray) (h : 0 < l.length) : joinS (l.take 1) = l[0] := by
  cases l with
  | nil => exact absurd h (by decide)
  | cons x r => exact joinS_one x
theorem join_step (l : List ByteArray) (k : Nat) (h : k < l.length) (h0 : 0 < k) : joinS (l.take (k + 1)) = joinS (l.take k) ++ sepP ++ l[k] := by
  rw [List.take_succ_eq_append_getElem h]
  refine joinS_snoc (fun e => ?_) _
  have := congrArg List.length e
  rw [List.length_take] at this
  simp only [List.length_nil] at this
  omega

set_option maxRecDepth 100000 in
set_option maxHeartbeats 2000000 in
theorem refJoin_any (l : List ByteArray) (a : Option Addr) (cap : Nat) (w : World) (h : StrsAt w a l) (ht : total l ≤ 70000000000000) :
    Calls Tryz.prog 23 #[.slice a l.length cap, .string sepP] w fun e w' => e = .returned (.string (joinS l)) ∧ Below w.heap.size w w' := by
  have H0 := Box.mk h
  have HT := Box.mk ht
  have hl := total_len l
  clear h
  go_enter Tryz.func23, Tryz.ntmps23
  go_wp2_with fail
  go_loopw [5, 6] (fun v iv wr => ∃ k : Nat, k ≤ l.length ∧ iv = .int .i64 k ∧ ∃ s : ByteArray, v = .string s ∧ s.size ≤ 140000000000000 ∧ Box (s = joinS (l.take k) ∧ Below w.heap.size w wr)) (fun _ iv _ => l.length - (intOf iv).toNat)
  case atStart => exact ⟨0, Nat.zero_le _, rfl, ⟨#[]⟩, rfl, Nat.zero_le _, ⟨rfl, Below.refl _ _⟩⟩
  case round =>
    obtain ⟨k, hk, rfl, s, rfl, hs, HM⟩ := hrel
    by_cases hlt : k < l.length
    · obtain ⟨b, off, rfl, hc⟩ := (H0.out.keep HM.out.2) k hlt
      have HSZ := Box.mk (show (joinS (l.take (k + 1))).size ≤ 140000000000000 by
        have h1 := joinS_size (l.take (k + 1)); have h2 := total_take l (k + 1); have h3 := HT.out; omega)
      have hx : l[k].size ≤ 70000000000000 := by have h1 := total_mem (List.getElem_mem hlt); have h3 := HT.out; omega
      by_cases h0 : 0 < k
      · have HNEW := Box.mk (show s ++ sepP ++ l[k] = joinS (l.take (k + 1)) by rw [join_step l k hlt h0, HM.out.1])
        have HB := Box.mk HM.out.2
        clear HM
        generalize l[k] = f at *
        have g1 : (s ++ sepP).size = s.size + 2 := by rw [ByteArray.size_append]; rfl
        have gp : sepP.size = 2 := rfl
        have HN2 := Box.mk (show (s ++ sepP ++ f).size ≤ 140000000000000 by rw [HNEW.out]; exact HSZ.out)
        go_wp2_with fail
        go_roundw
        case rel => exact ⟨k + 1, by omega, by go_num, _, rfl, HN2.out, ⟨HNEW.out, HB.out⟩⟩
        case measure => simp [intOf]; omega
      · obtain rfl : k = 0 := by omega
        rw [Nat.add_zero] at hc
        have HNEW := Box.mk (show (⟨#[]⟩ : ByteArray) ++ l[0] = joinS (l.take (0 + 1)) by rw [Nat.zero_add, join_first l hlt]; exact ba_ext (by rw [ba_app_list]; rfl))
        have HB := Box.mk HM.out.2
        have hse : s = ⟨#[]⟩ := HM.out.1
        subst hse
        clear HM h0
        generalize l[0] = f at *
        have HN2 := Box.mk (show ((⟨#[]⟩ : ByteArray) ++ f).size ≤ 140000000000000 by rw [HNEW.out]; exact HSZ.out)
        go_wp2_with fail
        go_roundw
        case rel => exact ⟨0 + 1, by omega, by go_num, _, rfl, HN2.out, ⟨HNEW.out, HB.out⟩⟩
        case measure => simp [intOf]; omega
    · have HE := Box.mk (show s = joinS l by have := HM.out.1; rw [List.take_of_length_le (by omega)] at this; exact this)
      go_wp2_with fail
      go_ret
      exact ⟨ret_str HE.out, HM.out.2⟩
end Go.Proofs.YtnpbnaapbimjaaaGreatDoor
namespace Go.Proofs.YtnpbnaapbimjaaaGreatDoor
open Go.RowKit

section
variable {P : Program} {Q : Exit → Act → World → Prop} {act : Act} {w : World} {o : Oper} {s : Spec}
/-- The address of an element. -/
theorem loc_index_G {x y : Operand} {ty : TypeId} (n : Nat) (ho : o.op = .indexAddr ty x y) {ad : Addr} {len c k : Nat} (hx : act.eval x = .slice (some ad) len c) (hy : act.eval y = .int .i64 k) (hk : k < len)
    (hsl : P.underlying ty = some (.slice (P.elem ty))) (es : (P.info? (P.elem ty)).map (·.size) = some n) (hs : s.p (.pointer (some (ad.add (k * n)))) w) :
    o.wp P act w (fun a' w' => ∃ v, a' = act.put o.dst v ∧ Below w.heap.size w w' ∧ s.p v w') Q :=
  loc_run (v := .pointer (some (ad.add (k * n)))) (by
    have es' : (sizeOf (P.elem ty)).run P w = .ok n w := by
      cases hq : P.info? (P.elem ty) with
      | none => rw [hq] at es; cases es
      | some i => rw [hq] at es; simp at es; simp [sizeOf, typeInfo, hq, es]
    have h := run_indexAt_slice (P := P) (w := w) ty ad len c .i64 (k : Int) hsl
    rw [if_pos ⟨by omega, by omega⟩, es'] at h
    simp only [Result.andThen_ok, Int.toNat_natCast] at h
    unfold execOp
    simp only [ho, hx, hy, Sem.run_bind, h, Result.andThen_ok, Sem.run_pure]) (Below.refl _ _) hs
/-- The address of a field. -/
theorem loc_field_G {x : Operand} {ty : TypeId} {i : Nat} (ho : o.op = .fieldAddr ty x i) {v u : Value} (hx : act.eval x = v) (h : (Instr.fieldAt ty v i).run P w = .ok u w) (hs : s.p u w) :
    o.wp P act w (fun a' w' => ∃ v, a' = act.put o.dst v ∧ Below w.heap.size w w' ∧ s.p v w') Q :=
  loc_run (v := u) (by unfold execOp; rw [ho]; simp only [hx, Sem.run_bind, h, Result.andThen_ok, Sem.run_pure]) (Below.refl _ _) hs
/-- One cell, loaded. -/
theorem loc_load_cellG {x : Operand} {ty : TypeId} (ho : o.op = .load ty x) {p : Addr} {v : Value} (hx : act.eval x = .pointer (some p)) (hc : w.cell? p = some v) (ht : ∀ w, (isAgg ty).run P w = .ok false w) (hs : s.p v w) :
    o.wp P act w (fun a' w' => ∃ v, a' = act.put o.dst v ∧ Below w.heap.size w w' ∧ s.p v w') Q :=
  loc_load ho (v := v) (by rw [hx]; simp [Instr.loadAt, Instr.sureAddr, loadVar, hc, ht]) hs
end
end Go.Proofs.YtnpbnaapbimjaaaGreatDoor
namespace Go.Proofs.YtnpbnaapbimjaaaGreatDoor
open Go.RowKit

/-- Slot k is written by an operation that need not wait for operation i. -/
def isDstI (ops : Array Oper) (i k : Nat) : Bool := (List.range ops.size).any fun j => ((ops[j]?).bind (·.dst) == some k) && (!decide (j = i) && !(match ops[j]? with | some o => waitsFor o i | none => false))
/-- The frame when operation i comes up. -/
structure FrW (ops : Array Oper) (i : Nat) (a0 a : Act) : Prop where
  defers : a.defers = a0.defers
  size : a.tmps.size = a0.tmps.size
  base : ∀ k, isDstI ops i k = false → a.eval (.tmp k) = a0.eval (.tmp k)
/-- The frame after the operations that m marks. -/
structure FrM (ops : Array Oper) (m : Array Bool) (a0 a : Act) : Prop where
  defers : a.defers = a0.defers
  size : a.tmps.size = a0.tmps.size
  base : ∀ k, (∀ j o, ops[j]? = some o → o.dst = some k → m.getD j false = false) → a.eval (.tmp k) = a0.eval (.tmp k)
theorem FrM.plain {ops : Array Oper} {m : Array Bool} {a0 a : Act} (h : FrM ops m a0 a) : Fr ops a0 a := ⟨h.defers, h.size, fun k hk => h.base k fun j o ho hd => by
  have : isDst ops k = true := by
    unfold isDst
    exact List.any_eq_true.2 ⟨o, Array.mem_toList_iff.2 (Array.mem_of_getElem? ho), by rw [hd]; simp⟩
  rw [hk] at this; cases this⟩
theorem FrM.at {ops : Array Oper} {m : Array Bool} {a0 a : Act} {i : Nat} (h : FrM ops m a0 a) (hmi : m.getD i false = false) (hcl : ∀ j o, ops[j]? = some o → m.getD j false = true → ∀ i, waitsFor o i = true → m.getD i false = true) : FrW ops i a0 a :=
  ⟨h.defers, h.size, fun k hk => h.base k fun j o ho hd => by
    by_cases hji : j = i
    · subst hji; exact hmi
    · by_cases hw : waitsFor o i = true
      · cases hm : m.getD j false with
        | false => rfl
        | true => rw [hcl j o ho hm i hw] at hmi; cases hmi
      · exfalso
        have : isDstI ops i k = true := by
          unfold isDstI
          exact List.any_eq_true.2 ⟨j, List.mem_range.2 (Array.getElem?_eq_some_iff.1 ho).1, by simp only [ho, Option.bind_some, hd]; simp [hji, hw]⟩
        rw [hk] at this; cases this⟩
theorem frM_put {ops : Array Oper} {m : Array Bool} {a0 a : Act} {o : Oper} {i : Nat} (ho : ops[i]? = some o) (him : i < m.size) (h : FrM ops m a0 a) (v : Value) : FrM ops (m.setIfInBounds i true) a0 (a.put o.dst v) := by
  refine ⟨?_, ?_, fun k hk => ?_⟩
  · have := h.defers
    cases o.dst <;> simpa [Act.put] using this
  · have := h.size
    cases o.dst <;> simpa [Act.put] using this
  · have hne : o.dst ≠ some k := fun e => by
      have := hk i o ho e
      simp [him] at this
    rw [eval_put_other hne, h.base k fun j oj hoj hd => by
      have h2 := hk j oj hoj hd
      by_cases hji : j = i
      · subst hji
        obtain rfl := Option.some.inj (ho.symm.trans hoj)
        exact absurd hd hne
      · rwa [getD_set_ne false (fun e => hji e.symm)] at h2]
def StepIW (P : Program) (Q : Exit → Act → World → Prop) (ops : Array Oper) (S : List Spec) (Inv : World → Prop) (a0 : Act) (i : Nat) (o : Oper) (s : Spec) : Prop :=
  ∀ a w, Inv w → FrW ops i a0 a → (∀ j, waitsFor o j = true → Holds ops S a w j) →
    Region.wanted o (yielded ops a.tmps) = true ∧ o.wp P a w (fun a' w' => ∃ v, a' = a.put o.dst v ∧ Below w.heap.size w w' ∧ s.p v w') Q
def SidesIW (P : Program) (Q : Exit → Act → World → Prop) (ops : Array Oper) (S : List Spec) (Inv : World → Prop) (a0 : Act) : List Nat → Prop
  | i :: r => (match ops[i]?, S[i]? with | some o, some s => StepIW P Q ops S Inv a0 i o s | _, _ => False) ∧ SidesIW P Q ops S Inv a0 r
  | [] => True
def ChainIW (P : Program) (Q : Exit → Act → World → Prop) (ops : Array Oper) (S S' : List Spec) (Inv Inv' : World → Prop) (a0 : Act) (c : Nat) : Prop :=
  match ops[c]?, S'[c]? with
  | some o, some s => ∀ a w, Inv w → FrW ops c a0 a → (∀ j, waitsFor o j = true → Holds ops S a w j) →
      Region.wanted o (yielded ops a.tmps) = true ∧ o.wp P a w (fun a' w' => ∃ v, a' = a.put o.dst v ∧ Inv' w' ∧ s.p v w' ∧ Over ops a w w' c 0 S S') Q
  | _, _ => False
section
variable {P : Program} {Q : Exit → Act → World → Prop} {ops : Array Oper} {a0 : Act} {w0 : World}
theorem sidesIW_at {S : List Spec} {Inv : World → Prop} : ∀ {l : List Nat}, SidesIW P Q ops S Inv a0 l → ∀ i, i ∈ l → ∀ o, ops[i]? = some o → ∃ s, S[i]? = some s ∧ StepIW P Q ops S Inv a0 i o s
  | k :: r, h, i, hi, o, ho => by
    rcases List.mem_cons.1 hi with rfl | hi
    · have := h.1
      rw [ho] at this
      cases hs : S[i]? with
      | none => rw [hs] at this; exact this.elim
      | some s => rw [hs] at this; exact ⟨s, rfl, this⟩
    · exact sidesIW_at h.2 i hi o ho
theorem wp_region_phasesW {id : Nat} (chain : List Nat) (sides : Nat → List Nat) (S : Nat → List Spec) (Inv : Nat → World → Prop) (hm : P.follows .mixedOrders = true)
    (hB : (List.range ops.size).all (fun i => match ops[i]? with | some x => x.after.all (fun e => !Region.binds .any e || decide (e.on < i)) | none => true) = true)
    (hd : dstsOk ops a0.tmps.size = true) (hc : chainB ops chain = true) (hlt : chain.all (fun c => decide (c < ops.size)) = true) (hsB : (List.range (chain.length + 1)).all (fun p => sidesB ops chain chain.length (sides p) p) = true)
    (hI : ∀ p w w', Inv p w → Below w.heap.size w w' → Inv p w') (h0 : Inv 0 w0) (hS : ∀ p, p ≤ chain.length → SidesIW P Q ops (S p) (Inv p) a0 (sides p))
    (hC : ∀ p (hp : p < chain.length), ChainIW P Q ops (S p) (S (p + 1)) (Inv p) (Inv (p + 1)) a0 chain[p])
    (hQ : ∀ a w, Inv chain.length w → Fr ops a0 a → (∀ j, j < ops.size → Holds ops (S chain.length) a w j) → Q .normal a w) : (Code.region id ops true).wp P Q a0 w0 := by
  have hchain : ∀ p q (hp : p < chain.length) (hq : q < chain.length), p < q → beforeB ops ops.size chain[q] chain[p] = true ∧ chain[p] ≠ chain[q] := fun p q hp hq hpq => by
    have h1 := List.all_eq_true.1 (List.all_eq_true.1 hc p (List.mem_range.2 hp)) q (List.mem_range.2 hq)
    simp only [List.getElem?_eq_getElem hp, List.getElem?_eq_getElem hq, Bool.or_eq_true, Bool.and_eq_true, decide_eq_true_eq] at h1
    rcases h1 with h1 | h1
    · omega
    · exact ⟨h1.1.1.1, h1.1.1.2⟩
  refine wp_region_inv hm (fun m a w => FrM ops m a0 a ∧ (∀ j o, ops[j]? = some o → m.getD j false = true → ∀ i, waitsFor o i = true → m.getD i false = true) ∧
    ∃ p, p ≤ chain.length ∧ (∀ q (hq : q < chain.length), m.getD chain[q] false = decide (q < p)) ∧ Inv p w ∧ ∀ j, m.getD j false = true → Holds ops (S p) a w j) ?_ ?_ ?_
  · rintro m a w hs ⟨hf, hcl, p, hp, hph, hinv, hh⟩ i hi
    obtain ⟨h1, o, ho, hall⟩ := mem_ready.1 hi
    have hil : i < ops.size := (Array.getElem?_eq_some_iff.1 ho).1
    have him : i < m.size := by rw [hs]; exact hil
    have hmi : m.getD i false = false := by simp [him] at h1 ⊢; exact h1
    have hdeps : ∀ j, waitsFor o j = true → m.getD j false = true := fun j hj => by
      obtain ⟨e, he, h2⟩ := List.any_eq_true.1 hj
      simp only [Bool.and_eq_true, beq_iff_eq] at h2
      obtain ⟨h3, rfl⟩ := h2
      exact hall e (Array.mem_toList_iff.1 he) h3
    have hcl' : ∀ j o, ops[j]? = some o → (m.setIfInBounds i true).getD j false = true → ∀ k, waitsFor o k = true → (m.setIfInBounds i true).getD k false = true := fun j oj hoj hj k hk => by
      by_cases hji : j = i
      · subst hji
        obtain rfl : o = oj := Option.some.inj (ho.symm.trans hoj)
        exact getD_set_true (hdeps k hk)
      · rw [getD_set_ne false (fun e => hji e.symm)] at hj
        exact getD_set_true (hcl j oj hoj hj k hk)
    unfold wpOp
    simp only [ho]
    by_cases hic : i ∈ chain
    · obtain ⟨q, hq, rfl⟩ := List.getElem_of_mem hic
      have hqp : p ≤ q := by
        have := hph q hq
        rw [hmi] at this
        have := of_decide_eq_false this.symm
        omega
      have hqe : q = p := by
        rcases Nat.lt_or_ge p q with h2 | h2
        · exfalso
          have h3 := before_ready hcl ho hdeps (hchain p q (by omega) hq h2).1
          rw [hph p (by omega)] at h3
          simp at h3
        · omega
      subst hqe
      have hCp := hC q hq
      unfold ChainIW at hCp
      rw [ho] at hCp
      cases hsc : (S (q + 1))[chain[q]]? with
      | none => rw [hsc] at hCp; exact hCp.elim
      | some s =>
        rw [hsc] at hCp
        simp only at hCp
        obtain ⟨hw, hwp⟩ := hCp a w hinv (hf.at hmi hcl) fun j hj => hh j (hdeps j hj)
        rw [if_pos hw]
        refine .inl (Oper.wp_mono ?_ hwp)
        rintro a' w' ⟨v, rfl, hinv', hsp, hov⟩
        refine ⟨frM_put ho him hf v, hcl', q + 1, hq, fun r hr => ?_, hinv', fun j hj => ?_⟩
        · by_cases hrq : r = q
          · subst hrq
            simp [him]
          · have hne : chain[q] ≠ chain[r] := by
              rcases Nat.lt_or_ge q r with h2 | h2
              · exact (hchain q r hq hr h2).2
              · exact fun e => (hchain r q hr hq (by omega)).2 e.symm
            rw [getD_set_ne false hne, hph r hr]
            by_cases hrl : r < q
            · simp [hrl, show r < q + 1 by omega]
            · simp [hrl, show ¬ r < q + 1 by omega]
        · by_cases hji : j = chain[q]
          · subst hji
            unfold Holds
            simp only [ho, hsc]
            cases hdo : o.dst with
            | none => trivial
            | some d =>
              show s.p ((a.put (some d) v).eval (.tmp d)) w'
              rw [eval_put_same]
              · exact hsp
              · rw [hf.size]; exact (dsts_lt hd ho hdo).1
          · have hj' : m.getD j false = true := by rw [getD_set_ne false (fun e => hji e.symm)] at hj; exact hj
            have h5 := holds_put (a := a) (v := v) hd ho hji (hh j hj')
            unfold Holds at *
            cases hoj : ops[j]? with
            | none => simp
            | some o' =>
              cases hsj : (S (q + 1))[j]? with
              | none => simp
              | some s' =>
                obtain ⟨s0, hs0, himp⟩ := over_at hov j s' hsj (by omega)
                simp only [hoj, hs0] at h5
                simp only
                cases hdo : o'.dst with
                | none => trivial
                | some d =>
                  simp only [hdo] at h5
                  refine himp _ (fun o2 d2 ho2 hd2 => ?_) h5
                  rw [Nat.zero_add, hoj] at ho2
                  obtain rfl := Option.some.inj ho2
                  rw [hdo] at hd2
                  obtain rfl := Option.some.inj hd2
                  exact eval_put_other fun e => (dsts_lt hd ho e).2 j o' hoj hji hdo
    · have hside : i ∈ sides p := by
        have := List.all_eq_true.1 (List.all_eq_true.1 hsB p (List.mem_range.2 (by omega))) i (List.mem_range.2 hil)
        simp only [Bool.or_eq_true, List.contains_iff_mem, List.any_eq_true] at this
        rcases this with (h2 | h2) | ⟨q, hq, h2⟩
        · exact absurd h2 hic
        · exact h2
        · exfalso
          have hql := List.mem_range.1 hq
          rw [List.getElem?_eq_getElem hql] at h2
          simp only at h2
          by_cases hqp : q < p
          · rw [if_pos hqp] at h2
            have h3 := before_marked hcl _ _ _ h2 (by rw [hph q hql]; simp [hqp])
            rw [hmi] at h3; cases h3
          · rw [if_neg hqp] at h2
            have h3 := before_ready hcl ho hdeps h2
            rw [hph q hql] at h3
            simp [hqp] at h3
      obtain ⟨s, hsi, hstep⟩ := sidesIW_at (hS p hp) i hside o ho
      obtain ⟨hw, hwp⟩ := hstep a w hinv (hf.at hmi hcl) fun j hj => hh j (hdeps j hj)
      rw [if_pos hw]
      refine .inl (Oper.wp_mono ?_ hwp)
      rintro a' w' ⟨v, rfl, hb', hsp⟩
      refine ⟨frM_put ho him hf v, hcl', p, hp, fun r hr => ?_, hI p w w' hinv hb', fun j hj => ?_⟩
      · rw [getD_set_ne false (fun e => hic (by rw [e]; exact List.getElem_mem hr)), hph r hr]
      · by_cases hji : j = i
        · subst hji
          unfold Holds
          simp only [ho, hsi]
          cases hdo : o.dst with
          | none => trivial
          | some d =>
            show s.p ((a.put (some d) v).eval (.tmp d)) w'
            rw [eval_put_same]
            · exact hsp
            · rw [hf.size]; exact (dsts_lt hd ho hdo).1
        · have hj' : m.getD j false = true := by rw [getD_set_ne false (fun e => hji e.symm)] at hj; exact hj
          exact holds_put hd ho hji (holds_mono (hh j hj') hb')
  · rintro m a w hs ⟨hf, hcl, p, hp, hph, hinv, hh⟩ hr
    have hmarked : ∀ j, j < ops.size → m.getD j false = true := fun j => by
      induction j using Nat.strongRecOn with
      | _ j ih =>
        intro hj
        cases hmj : m.getD j false with
        | true => rfl
        | false =>
          exfalso
          have hoj : ops[j]? = some ops[j] := Array.getElem?_eq_getElem hj
          have hbk := List.all_eq_true.1 hB j (List.mem_range.2 hj)
          rw [hoj] at hbk
          simp only [Array.all_eq_true_iff_forall_mem, Bool.or_eq_true, Bool.not_eq_true', decide_eq_true_eq] at hbk
          have hlt : ∀ e ∈ ops[j].after, Region.binds .any e = true → e.on < j := fun e he hbd => by
            rcases hbk e he with h | h
            · rw [hbd] at h; cases h
            · exact h
          have : j ∈ Region.ready .any ops m := mem_ready.2 ⟨by
            have hs' : j < m.size := by rw [hs]; exact hj
            simp [hs'] at hmj ⊢; exact hmj, ops[j], hoj, fun e he hbd => ih _ (hlt e he hbd) (by have := hlt e he hbd; omega)⟩
          rw [hr] at this; cases this
    have hpe : p = chain.length := by
      rcases Nat.lt_or_ge p chain.length with h2 | h2
      · exfalso
        have h3 := hph p h2
        have h4 := hmarked chain[p] (of_decide_eq_true (List.all_eq_true.1 hlt _ (List.getElem_mem h2)))
        rw [h4] at h3
        simp at h3
      · omega
    subst hpe
    exact hQ a w hinv hf.plain fun j hj => hh j (hmarked j hj)
  · have hz : ∀ j, (Array.replicate ops.size false).getD j false = false := fun j => by
      simp only [Array.getD_eq_getD_getElem?, Array.getElem?_replicate]; split <;> rfl
    refine ⟨⟨rfl, rfl, fun _ _ => rfl⟩, fun j o _ hj => (by rw [hz] at hj; cases hj), 0, Nat.zero_le _, fun q _ => by rw [hz]; rfl, hI 0 w0 _ h0 (Below.refl _ _).drew, fun j hj => (by rw [hz] at hj; cases hj)⟩

end
end Go.Proofs.YtnpbnaapbimjaaaGreatDoor
namespace Go.Proofs.YtnpbnaapbimjaaaGreatDoor
open Go.RowKit
set_option linter.unusedSimpArgs false
set_option linter.unusedVariables false

/-- The call returns a slice that reads as the fields l. -/
def RetFldC (w : World) (l : List Fld) (e : Ending) (w' : World) : Prop := ∃ a c, e = .returned (.slice a l.length c) ∧ FldsC w' a l c ∧ l.length ≤ c ∧ Below w.heap.size w w'
def Spec.fslN (f : Fld) : Spec := ⟨fun v w => ∃ b c, v = .slice (some ⟨b, 0, none⟩) 1 c ∧ w.cell? ⟨b, 0, none⟩ = some (.string f.1) ∧ w.cell? ⟨b, 1, none⟩ = some (.string f.2), fun _ _ _ h hb => by
  obtain ⟨b, c, h1, h2, h3⟩ := h
  exact ⟨b, c, h1, below_cell hb h2, below_cell hb h3⟩⟩
def Spec.ownFN (B : Nat) (l : List Fld) : Spec := ⟨fun v w => OwnF B w v l, fun _ _ _ h hb => h.keep hb⟩
section
variable {Q : Exit → Act → World → Prop} {act : Act} {w : World} {o : Oper} {s : Spec} {K : Act → World → Prop}
theorem loc_slice1N {x : Operand} (ho : o.op = .buildSlice 23 1 #[(0, x)]) {f : Fld} (hx : act.eval x = .agg #[.string f.1, .string f.2]) (hs : ∀ v w', (∃ b c, v = .slice (some ⟨b, 0, none⟩) 1 c ∧ w'.cell? ⟨b, 0, none⟩ = some (.string f.1) ∧ w'.cell? ⟨b, 1, none⟩ = some (.string f.2)) → s.p v w') :
    o.wp Tryz.prog act w (fun a' w' => ∃ v, a' = act.put o.dst v ∧ Below w.heap.size w w' ∧ s.p v w') Q := by
  obtain ⟨i0, hi, hz0, hz1, hz2⟩ := info_parts Tryz.info34
  have hrun := run_buildSlice (P := Tryz.prog) w 23 34 1 #[(0, .agg #[.string f.1, .string f.2])] #[.string f.1, .string f.2] i0 _ Tryz.underlying23 hi hz0 (by rw [hz1]; decide) (by rw [hz1]; decide) (by rw [hz1]; simp [Instr.fill, Value.cells, Array.range_succ, show Array.range 0 = #[] from rfl])
  refine loc_run (v := .slice (some ⟨w.heap.size, 0, none⟩) 1 1) (w' := w.alloc (.cells #[.string f.1, .string f.2] 34)) ?_ (below_oneF _ _) (hs _ _ ⟨_, _, rfl, by rw [new_cellF]; rfl, by rw [new_cellF]; rfl⟩)
  unfold execOp
  simp only [ho, List.map_toArray, List.map_cons, List.map_nil, hx]
  rw [Sem.run_bind, hrun]; rfl
theorem loc_buildN {x y : Operand} (ho : o.op = .build 34 #[(0, x), (1, y)]) {b c : ByteArray} (hx : act.eval x = .string b) (hy : act.eval y = .string c) (hs : s.p (.agg #[.string b, .string c]) w) :
    o.wp Tryz.prog act w (fun a' w' => ∃ v, a' = act.put o.dst v ∧ Below w.heap.size w w' ∧ s.p v w') Q := by
  refine loc_run (v := .agg #[.string b, .string c]) ?_ (Below.refl _ _) hs
  have hb := run_build (P := Tryz.prog) w 34 #[(0, .string b), (1, .string c)] #[.string b, .string c] (by kernel_rfl)
  unfold execOp
  simp only [ho, List.map_toArray, List.map_cons, List.map_nil, hx, hy, Sem.run_bind, hb, Result.andThen_ok, Sem.run_pure]
theorem wp_append_oneN {x y : Operand} (ho : o.op = .call { callee := .builtin .append, args := #[x, y], argTypes := #[23, 23] }) {B : Nat} {l : List Fld} (hx : OwnF B w (act.eval x) l) {b c : Nat} {f : Fld} (hy : act.eval y = .slice (some ⟨b, 0, none⟩) 1 c)
    (h0 : w.cell? ⟨b, 0, none⟩ = some (.string f.1)) (h1 : w.cell? ⟨b, 1, none⟩ = some (.string f.2)) (hn : l.length + 1 ≤ 4398046511104) (hB : B ≤ w.heap.size)
    (h : ∀ v' w', OwnF B w' v' (l ++ [f]) → w.grownBy w' (act.eval x).ownBlock → K (act.put o.dst v') w') : o.wp Tryz.prog act w K Q := by
  obtain ⟨i0, hi, hz0, hz1, hz2⟩ := info_parts Tryz.info34
  refine wp_append_lies w x y 23 ho B 34 i0 _ 2 32 Tryz.underlying23 hi hz0 hz1 hz2 rfl (by decide) (act.eval x) l.length (cellsF l) rfl hx ⟨b, 0, none⟩ 1 c [.string f.1, .string f.2] hy rfl ?_ ?_ (by decide) (by unfold maxLen; omega) (by omega) hB w.heap.size rfl ?_
  · intro j u hj
    match j, hj with
    | 0, hj => simp at hj; subst hj; rw [Addr.add_lit]; exact h0
    | 1, hj => simp at hj; subst hj; rw [Addr.add_lit]; exact h1
    | j + 2, hj => simp at hj
  · intro u hu; simp at hu; rcases hu with rfl | rfl <;> rfl
  · intro g cap w' hown hgrow hg hlt
    refine h _ w' ?_ hgrow
    unfold OwnF
    rw [List.length_append, cellsF_app]; exact hown
theorem agg_strN (w : World) : (isAgg 9).run Tryz.prog w = .ok false w := by
  simp [isAgg, run_underlying Tryz.underlying9]
theorem strsIn_viaDate (w : World) (t : TypeId) : StrsIn (w.alloc (.cells #[.string ⟨#[118, 105, 97]⟩, .string ⟨#[100, 97, 116, 101]⟩] t)) (some ⟨w.heap.size, 0, none⟩) viaDate := fun j hj => by
  match j, hj with
  | 0, _ => exact ⟨_, rfl, by rw [Addr.add_lit, new_cellF]; rfl⟩
  | 1, _ => exact ⟨_, rfl, by rw [Addr.add_lit, new_cellF]; rfl⟩
  | j + 2, hj => exact absurd hj (by unfold viaDate; simp)
end
theorem total_without (l : List Fld) (ns : List ByteArray) (n : ByteArray) : total (valuesL (withoutL l ns) n) ≤ total (valuesL l n) := by
  cases h : inFoldL ns n
  · rw [valuesL_kept l ns n h]; exact Nat.le_refl _
  · rw [valuesL_gone l ns n h]; exact Nat.zero_le _
theorem total_kept (l : List Fld) (ig : List ByteArray) (n : ByteArray) : total (valuesL (keptN l ig) n) ≤ total (valuesL l n) :=
  Nat.le_trans (total_without _ _ _) (Nat.le_trans (total_without _ _ _) (total_without _ _ _))
theorem outN_len (k : List Fld) : (outN k).length ≤ k.length := by
  unfold outN
  rw [List.length_map]
  have := namesS_len (k.map fun f => lowS f.1)
  rwa [List.length_map] at this
theorem refValues_eqN {l : List Fld} {n : ByteArray} {r : List ByteArray} {a : Option Addr} {cap : Nat} {v u : Value} (w : World) (hv : v = .slice a l.length cap) (hu : u = .string n) (h : FldsIn w a l) (hz : ShortF l) (hn : n.size ≤ maxLen) (hl : l.length ≤ 1000000) (hr : valuesL l n = r) :
    Calls Tryz.prog 24 #[v, u] w fun e w' => ∃ v', e = .returned v' ∧ Below w.heap.size w w' ∧ ∃ a c, v' = .slice a r.length c ∧ StrsAt w' a r := by
  subst hv hu hr
  refine (refValues_any l n a cap w h hz hn hl).mono ?_
  rintro e w' ⟨b, c, rfl, h1, h2⟩
  exact ⟨_, rfl, h2, b, c, rfl, h1⟩
theorem refJoin_eqN {l : List ByteArray} {r : ByteArray} {a : Option Addr} {cap : Nat} {v u : Value} (w : World) (hv : v = .slice a l.length cap) (hu : u = .string sepP) (h : StrsAt w a l) (ht : total l ≤ 70000000000000) (hr : joinS l = r) :
    Calls Tryz.prog 23 #[v, u] w fun e w' => ∃ v', e = .returned v' ∧ Below w.heap.size w w' ∧ v' = .string r := by
  subst hv hu hr
  refine (refJoin_any l a cap w h ht).mono ?_
  rintro e w' ⟨rfl, h2⟩
  exact ⟨_, rfl, h2, rfl⟩
def Spec.strsAtN (l : List ByteArray) : Spec := ⟨fun v w => ∃ a c, v = .slice a l.length c ∧ StrsAt w a l, fun _ _ _ h hb => by
  obtain ⟨a, c, h1, h2⟩ := h
  exact ⟨a, c, h1, h2.keep hb⟩⟩

set_option maxRecDepth 100000 in
set_option maxHeartbeats 8000000 in
theorem refFields_any (l : List Fld) (ig : List ByteArray) (a b : Option Addr) (cap cb : Nat) (w : World) (h : FldsIn w a l) (hz : ShortF l) (hl : l.length ≤ 1000000) (ht : total (valuesL l cnN) ≤ 3000000000) (htv : ∀ n, total (valuesL l n) ≤ 70000000000000)
    (hi : StrsIn w b ig) (hiz : ∀ x ∈ ig, x.size ≤ maxLen) (hil : ig.length ≤ 4000000000) :
    Calls Tryz.prog 8 #[.slice a l.length cap, .slice b ig.length cb] w (RetFldC w (fieldsN l ig)) := by
  have HI := Box.mk (And.intro h (And.intro hz (And.intro hi hiz)))
  have HT := Box.mk (And.intro ht htv)
  clear h hz hi hiz ht htv
  obtain ⟨r, hr⟩ : ∃ r, fieldsN l ig = r := ⟨_, rfl⟩
  have HR := Box.mk hr
  rw [hr]
  clear hr
  go_enter Tryz.func8, Tryz.ntmps8
  go_wp2_with fail
  refine (refStrip_any l a cap w HI.out.1 HI.out.2.1 hl HT.out.1).mono ?_
  rintro e w1 ⟨v, rfl, hacc⟩
  obtain ⟨sa, sc, rfl, hsf⟩ := hacc.shapeC
  have HB1 := Box.mk hacc.2
  obtain ⟨W1, hW1⟩ : ∃ W1, W1 = w1.alloc (.cells #[.string ⟨#[118, 105, 97]⟩, .string ⟨#[100, 97, 116, 101]⟩] 9) := ⟨_, rfl⟩
  have HV1 := Box.mk (show StrsIn W1 (some ⟨w1.heap.size, 0, none⟩) viaDate by rw [hW1]; exact strsIn_viaDate w1 _)
  have HBW := Box.mk (show Below w1.heap.size w1 W1 by rw [hW1]; exact below_oneF w1 _)
  have HS1 := Box.mk (hsf.1.keep HBW.out)
  have HBB := Box.mk (below_trans HB1.out HBW.out)
  clear hacc hsf HB1
  have hl1 : (stripL l).length ≤ 1000000 := Nat.le_trans (stripL_len l) hl
  obtain ⟨m1, hm1⟩ : ∃ x, stripL l = x := ⟨_, rfl⟩
  have HM1 := Box.mk hm1
  have HZ1 := Box.mk (show ShortF m1 by rw [← hm1]; exact stripL_short HI.out.2.1)
  rw [hm1] at HS1 hl1 ⊢
  clear hm1
  go_wp2_with fail
  change Calls _ _ #[.slice sa m1.length sc, .slice (some ⟨w1.heap.size, 0, none⟩) viaDate.length 2] (w1.alloc (.cells #[.string ⟨#[118, 105, 97]⟩, .string ⟨#[100, 97, 116, 101]⟩] 9)) _
  rw [← hW1]
  clear hW1
  refine (refWithout_acc m1 viaDate sa (some ⟨w1.heap.size, 0, none⟩) sc 2 W1 HS1.out HZ1.out HV1.out (by unfold viaDate maxLen; decide) hl1 (by decide)).mono ?_
  rintro e w2 ⟨v, rfl, hacc⟩
  obtain ⟨ta, tc, rfl, htf⟩ := hacc.shapeC
  have HB2 := Box.mk (below_trans HBB.out hacc.2)
  have hl2 : (withoutL m1 viaDate).length ≤ 1000000 := Nat.le_trans (withoutL_len _ _) hl1
  obtain ⟨m2, hm2⟩ : ∃ x, withoutL m1 viaDate = x := ⟨_, rfl⟩
  have HM2 := Box.mk hm2
  have HZ2 := Box.mk (show ShortF m2 by rw [← hm2]; exact withoutL_short HZ1.out _)
  rw [hm2] at htf hl2 ⊢
  have HS2 := Box.mk htf.1
  clear hm2 hacc htf HBB HBW HV1 HS1
  go_wp2_with fail
  refine (refWithout_acc m2 ig ta b tc cb w2 HS2.out HZ2.out (HI.out.2.2.1.keep HB2.out) HI.out.2.2.2 hl2 hil).mono ?_
  rintro e w3 ⟨v, rfl, hacc⟩
  obtain ⟨ka, kc, rfl, hkf⟩ := hacc.shapeC
  have HB3 := Box.mk (below_trans HB2.out hacc.2)
  have hl3 : (withoutL m2 ig).length ≤ 1000000 := Nat.le_trans (withoutL_len _ _) hl2
  obtain ⟨kp, hkp⟩ : ∃ x, withoutL m2 ig = x := ⟨_, rfl⟩
  have HKP := Box.mk (show keptN l ig = kp by unfold keptN; rw [HM1.out, HM2.out, hkp])
  have HZ3 := Box.mk (show ShortF kp by rw [← hkp]; exact withoutL_short HZ2.out _)
  rw [hkp] at hkf hl3 ⊢
  have HS3 := Box.mk hkf.1
  have HTK := Box.mk (show ∀ n, total (valuesL kp n) ≤ 70000000000000 from fun n => by rw [← HKP.out]; exact Nat.le_trans (total_kept l ig n) (HT.out.2 n))
  have HRK := Box.mk (show outN kp = r by rw [← HR.out, ← HKP.out]; rfl)
  clear hkp hacc hkf HM1 HM2 HZ1 HZ2 HS2 HB2 HT HI HR HKP hl1 hl2
  go_wp2_with fail
  go_loopw [6, 7] (fun ov iv wr => ∃ (k : Nat) (g : List ByteArray) (ga : Option Addr) (gc : Nat), k ≤ kp.length ∧ ov = .slice ga g.length gc ∧ iv = .int .i64 k ∧ g.length ≤ k ∧ Box (g = namesS ((kp.map fun f => lowS f.1).take k)) ∧ Box (StrsC wr ga g gc) ∧ Box (Below w3.heap.size w3 wr)) (fun _ iv _ => kp.length - (intOf iv).toNat)
  case atStart => exact ⟨0, [], none, 0, Nat.zero_le _, rfl, rfl, Nat.le_refl _, ⟨rfl⟩, ⟨StrsIn.nil _ _, Nat.le_refl _, fun _ => rfl⟩, ⟨Below.refl _ _⟩⟩
  case round =>
    obtain ⟨k, g, ga, gc, hk, rfl, rfl, hgl, HG, HS, HB⟩ := hrel
    by_cases hlt : k < kp.length
    · obtain ⟨x, rfl, hc1, hc2⟩ := (HS3.out.keep HB.out) k hlt
      have HN := Box.mk (namesS_snoc (kp.map fun f => lowS f.1) k (by simpa using hlt))
      have HE := Box.mk (show (kp.map fun f => lowS f.1)[k]'(by simpa using hlt) = lowS kp[k].1 by simp)
      have HSZ := Box.mk (HZ3.out kp[k] (List.getElem_mem _)).1
      obtain ⟨r1, hr1⟩ : ∃ r, insS (lowS kp[k].1) g = r := ⟨_, rfl⟩
      have HR1 := Box.mk hr1
      have HLN := Box.mk (show r1.length ≤ k + 1 by rw [← hr1]; have := insS_len (lowS kp[k].1) g; omega)
      have HNX := Box.mk (show r1 = namesS ((kp.map fun f => lowS f.1).take (k + 1)) by rw [HN.out, HE.out, ← HG.out, hr1])
      clear hr1 HN HE HG hc2
      generalize kp[k].1 = nm at *
      go_wp2_with fail
      refine (refLower_any nm wr HSZ.out).mono ?_
      rintro e w4 ⟨rfl, hb⟩
      have HS4 := Box.mk (HS.out.keep hb)
      have HB4 := Box.mk (below_trans HB.out hb)
      clear hb HS HB HSZ hc1
      generalize lowS nm = lnm at *
      go_wp2_with fail
      refine (refWithS_eq (l := g) (s := lnm) w4 HS4.out (by omega) HR1.out).mono ?_
      rintro e w5 ⟨ra, rc, rfl, hrs, hb⟩
      have HS5 := Box.mk hrs
      have HB5 := Box.mk (below_trans HB4.out hb)
      clear hrs hb HS4 HB4
      go_wp2_with fail
      go_roundw
      case rel => exact ⟨k + 1, r1, ra, rc, by omega, rfl, by go_num, HLN.out, HNX, HS5, HB5⟩
      case measure => simp [intOf]; omega
    · have HGN := Box.mk (show namesS (kp.map fun f => lowS f.1) = g by rw [HG.out, List.take_of_length_le (by simp; omega)])
      have hg1 : g.length ≤ 1000000 := by omega
      have HGS := Box.mk (show ∀ x ∈ g, x.size ≤ maxLen from fun x hx => by
        rw [← HGN.out, namesS_mem, List.mem_map] at hx
        obtain ⟨f, hf, rfl⟩ := hx
        rw [lowS_size]
        exact (HZ3.out f hf).1)
      have HRG := Box.mk (show g.map (fun n => (n, joinS (valuesL kp n))) = r by rw [← HRK.out]; unfold outN; rw [HGN.out])
      have HSW := Box.mk (HS3.out.keep HB.out)
      have HBW := Box.mk (below_trans HB3.out HB.out)
      clear HG HGN HS3 HB3 HB HRK hgl
      go_wp2_with fail
      obtain ⟨wo, hwo⟩ : ∃ x, x = wr := ⟨_, rfl⟩
      subst hwo
      go_loopw [8, 9] (fun ov iv WS => ∃ (j : Nat) (v : Value), j ≤ g.length ∧ v = ov ∧ iv = .int .i64 j ∧ Box (OwnF wo.heap.size WS v (r.take j)) ∧ Box (Below wo.heap.size wo WS)) (fun _ iv _ => g.length - (intOf iv).toNat)
      case atStart => exact ⟨0, _, Nat.zero_le _, rfl, rfl, ⟨OwnF.start _ _⟩, ⟨Below.refl _ _⟩⟩
      case round =>
        clear hk hlt
        obtain ⟨j, ov, hj, rfl, rfl, HO, HBJ⟩ := hrel
        by_cases hlt : j < g.length
        · obtain ⟨x, rfl, hcx⟩ := HS.out.1 j hlt
          have HCX := Box.mk hcx
          have HNS := Box.mk (HGS.out g[j] (List.getElem_mem _))
          obtain ⟨vs, hvs⟩ : ∃ y, valuesL kp g[j] = y := ⟨_, rfl⟩
          obtain ⟨jn, hjn⟩ : ∃ y, joinS vs = y := ⟨_, rfl⟩
          have HVS := Box.mk hvs
          have HJN := Box.mk hjn
          have HTV := Box.mk (show total vs ≤ 70000000000000 by rw [← hvs]; exact HTK.out _)
          have HRX := Box.mk (show r.take j ++ [(g[j], jn)] = r.take (j + 1) by
            have hjr : j < r.length := by rw [← HRG.out, List.length_map]; exact hlt
            rw [List.take_succ_eq_append_getElem hjr]
            congr 2
            have : r[j] = (g[j], joinS (valuesL kp g[j])) := by
              have h1 : r[j]? = some (g[j], joinS (valuesL kp g[j])) := by rw [← HRG.out, List.getElem?_map, List.getElem?_eq_getElem hlt]; rfl
              rw [List.getElem?_eq_getElem hjr] at h1
              exact Option.some.inj h1
            rw [this, hvs, hjn])
          have hrl : (r.take j).length ≤ j := by rw [List.length_take]; omega
          clear hvs hjn hcx
          generalize g[j] = nm at *
          go_upto_region 11 with fail
          rename_i K hK
          refine wp_region_phasesW [14] (fun ph => match ph with | 0 => [0, 1, 2, 3, 4, 5, 6, 7, 8, 9, 10, 11, 12, 13] | _ => [15])
            (fun ph => match ph with
              | 0 => [.ownFN wo.heap.size (r.take j), .val (.slice (some x) g.length gc), .val (.int .i64 j), .val (.pointer (some (x.add (j * 1)))), .val (.string nm), .val (.slice ka kp.length kc), .val (.slice (some x) g.length gc), .val (.int .i64 j), .val (.pointer (some (x.add (j * 1)))), .val (.string nm), .strsAtN vs, .val (.string jn), .val (.agg #[.string nm, .string jn]), .fslN (nm, jn), .any, .nopeS]
              | _ => [.any, .any, .any, .any, .any, .any, .any, .any, .any, .any, .any, .any, .any, .any, .ownFN wo.heap.size (r.take (j + 1)), .ownFN wo.heap.size (r.take (j + 1))])
            (fun ph => match ph with | 0 => fun wx => Below wo.heap.size wo wx ∧ OwnF wo.heap.size wx ov (r.take j) | _ => fun wx => Below wo.heap.size wo wx)
            (by kernel_rfl) (by kernel_rfl) (by kernel_rfl) (by kernel_rfl) (by kernel_rfl) (by kernel_rfl) ?_ ⟨HBJ.out, HO.out⟩ ?_ ?_ ?_
          · intro ph w6 w7 h hb
            match ph, h with
            | 0, h => exact ⟨below_trans h.1 hb, h.2.keep hb⟩
            | (_ + 1), h => exact below_trans h hb
          · intro ph hp
            match ph, hp with
            | 0, _ =>
              refine ⟨?_, ?_, ?_, ?_, ?_, ?_, ?_, ?_, ?_, ?_, ?_, ?_, ?_, ?_, trivial⟩ <;> intro a1 w6 hv hf hd
              · exact ⟨wanted_none rfl, loc_move rfl (by show OwnF wo.heap.size w6 (a1.eval (.tmp 8)) (r.take j); rw [show a1.eval (.tmp 8) = ov from hf.base 8 rfl]; exact hv.2)⟩
              · exact ⟨wanted_none rfl, loc_move rfl (hf.base 6 rfl)⟩
              · exact ⟨wanted_none rfl, loc_move rfl (hf.base 9 rfl)⟩
              · exact ⟨wanted_none rfl, loc_index_G 1 rfl (hd 1 rfl) (hd 2 rfl) hlt (by kernel_rfl) (by kernel_rfl) rfl⟩
              · exact ⟨wanted_none rfl, loc_load_cellG rfl (hd 3 rfl) (by rw [Nat.mul_one]; exact below_cell hv.1 HCX.out) agg_strN rfl⟩
              · exact ⟨wanted_none rfl, loc_move rfl (hf.base 5 rfl)⟩
              · exact ⟨wanted_none rfl, loc_move rfl (hf.base 6 rfl)⟩
              · exact ⟨wanted_none rfl, loc_move rfl (hf.base 9 rfl)⟩
              · exact ⟨wanted_none rfl, loc_index_G 1 rfl (hd 6 rfl) (hd 7 rfl) hlt (by kernel_rfl) (by kernel_rfl) rfl⟩
              · exact ⟨wanted_none rfl, loc_load_cellG rfl (hd 8 rfl) (by rw [Nat.mul_one]; exact below_cell hv.1 HCX.out) agg_strN rfl⟩
              · exact ⟨wanted_none rfl, loc_call rfl (by kernel_rfl) (refValues_eqN w6 (hd 5 rfl) (hd 9 rfl) (HSW.out.keep hv.1) HZ3.out HNS.out hl3 HVS.out)⟩
              · obtain ⟨va, vc, e1, e2⟩ := hd 10 rfl
                exact ⟨wanted_none rfl, loc_call rfl (by kernel_rfl) (refJoin_eqN w6 e1 rfl e2 HTV.out HJN.out)⟩
              · exact ⟨wanted_none rfl, loc_buildN rfl (hd 4 rfl) (hd 11 rfl) rfl⟩
              · exact ⟨wanted_none rfl, loc_slice1N (f := (nm, jn)) rfl (hd 12 rfl) fun v w' h => h⟩
            | 1, _ =>
              refine ⟨?_, trivial⟩
              intro a1 w6 hv hf hd
              exact ⟨wanted_none rfl, loc_assign rfl (hd 14 rfl)⟩
          · intro ph hp
            match ph, hp with
            | 0, _ =>
              intro a2 w6 hv hf hd
              obtain ⟨b1, c1, e1, e2, e3⟩ := hd 13 rfl
              have hown : OwnF wo.heap.size w6 (a2.eval (.tmp 36)) (r.take j) := hd 0 rfl
              refine ⟨wanted_none rfl, wp_append_oneN (f := (nm, jn)) rfl hown e1 e2 e3 (by omega) hv.1.size fun v' w7 h1 hgrow => ?_⟩
              exact ⟨v', rfl, hv.1.grown hgrow hv.1.size (fun m hm => (hown.lt hm).1), (by show OwnF wo.heap.size w7 v' (r.take (j + 1)); rw [← HRX.out]; exact h1), ⟨.inr fun _ _ _ => trivial, .inr fun _ _ _ => trivial, .inr fun _ _ _ => trivial, .inr fun _ _ _ => trivial, .inr fun _ _ _ => trivial, .inr fun _ _ _ => trivial, .inr fun _ _ _ => trivial, .inr fun _ _ _ => trivial, .inr fun _ _ _ => trivial, .inr fun _ _ _ => trivial, .inr fun _ _ _ => trivial, .inr fun _ _ _ => trivial, .inr fun _ _ _ => trivial, .inr fun _ _ _ => trivial, .inl rfl, .inr fun _ _ h => h.elim, trivial⟩⟩
          · intro a2 w6 hv hf hh
            have HOX := Box.mk (show OwnF wo.heap.size w6 (a2.eval (.tmp 8)) (r.take (j + 1)) from hh 15 (by decide))
            have HBX := Box.mk hv
            refine hK _ _ ?_
            rw [fr_putAll hf]
            clear hf hK hv hh
            simp only [putAll]
            generalize a2.eval (.tmp 36) = u36
            generalize a2.eval (.tmp 37) = u37
            generalize a2.eval (.tmp 38) = u38
            generalize a2.eval (.tmp 39) = u39
            generalize a2.eval (.tmp 40) = u40
            generalize a2.eval (.tmp 41) = u41
            generalize a2.eval (.tmp 42) = u42
            generalize a2.eval (.tmp 43) = u43
            generalize a2.eval (.tmp 44) = u44
            generalize a2.eval (.tmp 45) = u45
            generalize a2.eval (.tmp 46) = u46
            generalize a2.eval (.tmp 47) = u47
            generalize a2.eval (.tmp 48) = u48
            generalize a2.eval (.tmp 49) = u49
            generalize a2.eval (.tmp 50) = u50
            generalize a2.eval (.tmp 8) = ov2 at *
            clear a2
            simp only [Act.put, List.setIfInBounds_toArray, List.set_cons_succ, List.set_cons_zero]
            go_wp2_with fail
            go_roundw
            case rel => exact ⟨j + 1, ov2, by omega, rfl, by go_num, HOX, HBX⟩
            case measure => simp [intOf]; omega
        · have HRL := Box.mk (show r.take j = r by
            rw [List.take_of_length_le]
            rw [← HRG.out, List.length_map]; omega)
          rw [HRL.out] at HO
          obtain ⟨oa, oc, rfl, hfc, hle⟩ := HO.out.shape
          have HFC := Box.mk hfc
          have HBF := Box.mk (below_trans HBW.out HBJ.out)
          clear hfc HO HRL HRG
          go_wp2_with fail
          go_ret
          exact ⟨_, _, rfl, HFC.out, hle, HBF.out⟩
end Go.Proofs.YtnpbnaapbimjaaaGreatDoor
