/- Parse of package field: the index of a colon, strings.Cut. A region that draws its order, in phases: between its breaking operations the others come in whatever order. Parse of the reference. The source of numbers of the laws: Within, Next, Of. The fields that the laws make: Field, Fields, fields, name. Fields of the source; fields and name of the laws. The plain mathematics of numerals: digits, their value with a limit, and that a numeral is read as its number. Contracts of the functions that read a number, of package number and of its reference. Contracts of the reference's functions that write a number. Targets and versions, in the reference. Split at the question mark, the version of a line, spoil; in the reference and the laws. Words of a line, rune by rune and byte by byte: plain mathematics. strings.Cut at any byte, strings.HasPrefix, strings.CutPrefix; Split and the versions, of package startline. Targets, reasons and versions, of package startline. -/
import Derived.Test.YteoadfckcilalaaGreatDoorPk1
import Derived.Test.YteoadfckcilalaaGreatDoorPk2
import Derived.Test.YteoadfckcilalaaGreatDoorRows
import Derived.WalkKit
import Derived.WalkSpells
import Derived.WalkLawsBesides
import Derived.BigQuiet
import Derived.Deep.QuietTactic
import Derived.Lib.Bytealg
import Derived.Lib.IndexLaws
import Derived.Lib.Hide
import Derived.Laws.IdiomStrings
import Derived.Lib.SlTrimSet
import Derived.Lib.IndexBytes
import Derived.Lib.Split
import Derived.Deep.AppendLies
import Derived.Shelf.Strings.SlTrimAscii
import Derived.Shelf.Strings.SplitShaped
import Derived.Shelf.LaysM
import Derived.Shelf.Strings.BuilderK
import Derived.Shelf.Strconv.Itoa4
import Derived.Shelf.Strings.Prefix
import Derived.Shelf.Bytes.SlIndexWhole
import Derived.Test.YteoadfckcilalaaGreatDoorProg
import Derived.Lib.SplitLaws
import Derived.WalkSmall
import Derived.ProofKit
import Derived.OpenShut
import Derived.Lib.Strings
import Derived.SliceStrings
import Derived.Deep.Quiet
import Derived.Tactics
import Derived.KernelRfl
import Derived.Below
import Derived.Laws.Bits64
import Derived.Lib.SlBytesConst
import Derived.Maps.AppendAt
import Derived.Laws.AppendOwnNone
import Derived.Great.BuildSlice
import Derived.Laws.Rows
import Derived.Laws.BitsAllLaws
import Derived.Laws.Shifts
import Derived.Maps.OwnOps
import Derived.Maps.OwnSet
import Derived.Deep.SlicePairs
import Derived.Lib.AppendZerosOnto
import Derived.Lib.AppendStr
import Derived.Laws.CopyOwn
import Derived.OwnWalk
import Derived.Laws.Strings3
import Derived.Laws.Concat
import Derived.Lib.ItoaMem
import Derived.IntWalk
import Derived.Laws.RangeAny
import Derived.LoopTactic
namespace Go.Proofs.YteoadfckcilalaaGreatDoor
open Go.RowKit

def colonI (s : ByteArray) : Int := Lib.indexByte s.data.toList 58
theorem colonI_one (s : ByteArray) (h : (⟨#[58]⟩ : ByteArray) = s) : colonI s = 0 := by subst h; rfl

set_option maxRecDepth 100000 in
set_option maxHeartbeats 2000000 in
theorem idxLite_any (s c : ByteArray) (w : World) (hz : c.size = 1) (h0 : ∀ h, c[0]'h = (58 : UInt8)) (hc : c = ⟨#[58]⟩) :
    Calls Tryz.prog 231 #[.string s, .string c] w fun e w' => e = .returned (.int .i64 (colonI s)) ∧ w = w' := by
  by_cases he : c = s
  · have HE := Box.mk (colonI_one s (by rw [← hc]; exact he))
    have h1 : (c.toList == s.toList) = true := by rw [toList_eq]; simp [he]
    clear he hc
    go_enter Tryz.func231, Tryz.ntmps231
    go_wp2_with fail
    go_ret
    exact ⟨ret_int HE.out.symm, rfl⟩
  · have h1 : (c.toList == s.toList) = false := by rw [toList_eq]; simp [he]
    clear he hc
    go_enter Tryz.func231, Tryz.ntmps231
    go_wp2_with fail
    refine (indexByteLite_any s 58 _).mono ?_
    rintro e w1 ⟨rfl, rfl⟩
    go_wp2_with fail
    go_ret
    exact ⟨rfl, rfl⟩

theorem colonI_ge (s : ByteArray) : -1 ≤ colonI s := Lib.indexByte_ge _ _
theorem colonI_lt (s : ByteArray) {k : Nat} (h : colonI s = k) : k < s.size := by
  have := (Lib.indexByte_some h).1
  have := (List.getElem?_eq_some_iff.1 this).1
  simpa using this

set_option maxRecDepth 100000 in
set_option maxHeartbeats 2000000 in
theorem liteCut_yes (s c : ByteArray) (k : Nat) (w : World) (hs : s.size ≤ maxLen) (hz : c.size = 1) (h0 : ∀ h, c[0]'h = (58 : UInt8)) (hc : c = ⟨#[58]⟩) (hk : colonI s = k) :
    Calls Tryz.prog 219 #[.string s, .string c] w fun e w' => e = .returned (.tuple #[.string (s.extract 0 k), .string (s.extract (k + 1) s.size), .bool true]) ∧ Below w.heap.size w w' := by
  have hlt := colonI_lt s hk
  unfold maxLen at hs
  have HK := Box.mk hk
  have H0 := Box.mk (And.intro h0 hc)
  clear hk h0 hc
  go_enter Tryz.func219, Tryz.ntmps219
  go_wp2_with fail
  refine (idxLite_any s c _ hz H0.out.1 H0.out.2).mono ?_
  rintro e w1 ⟨he, rfl⟩
  rw [HK.out] at he
  subst he
  go_wp2_with fail
  go_quiet (fail)
  go_wp2
  go_ret3
  exact ⟨rfl, below_drewN (Below.refl _ _) _⟩

set_option maxRecDepth 100000 in
set_option maxHeartbeats 2000000 in
theorem liteCut_no (s c : ByteArray) (w : World) (hz : c.size = 1) (h0 : ∀ h, c[0]'h = (58 : UInt8)) (hc : c = ⟨#[58]⟩) (hk : colonI s = -1) :
    Calls Tryz.prog 219 #[.string s, .string c] w fun e w' => e = .returned (.tuple #[.string s, .string ⟨#[]⟩, .bool false]) ∧ Below w.heap.size w w' := by
  have HK := Box.mk hk
  have H0 := Box.mk (And.intro h0 hc)
  clear hk h0 hc
  go_enter Tryz.func219, Tryz.ntmps219
  go_wp2_with fail
  refine (idxLite_any s c _ hz H0.out.1 H0.out.2).mono ?_
  rintro e w1 ⟨he, rfl⟩
  rw [HK.out] at he
  subst he
  go_wp2_with fail
  go_ret3
  exact ⟨rfl, Below.refl _ _⟩

set_option maxHeartbeats 2000000 in
theorem cut_yes (s : ByteArray) (k : Nat) (w : World) (hs : s.size ≤ maxLen) (hk : colonI s = k) :
    Calls Tryz.prog 199 #[.string s, .string ⟨#[58]⟩] w fun e w' => e = .returned (.tuple #[.string (s.extract 0 k), .string (s.extract (k + 1) s.size), .bool true]) ∧ Below w.heap.size w w' := by
  have HK := Box.mk hk
  clear hk
  go_enter Tryz.func199, Tryz.ntmps199
  go_wp2_with fail
  refine (liteCut_yes s _ k _ hs rfl (fun _ => rfl) rfl HK.out).mono ?_
  rintro e w1 ⟨rfl, hb⟩
  have HB := Box.mk hb
  clear hb
  go_wp2_with fail
  go_ret3
  exact ⟨rfl, HB.out⟩
set_option maxHeartbeats 2000000 in
theorem cut_no (s : ByteArray) (w : World) (hk : colonI s = -1) :
    Calls Tryz.prog 199 #[.string s, .string ⟨#[58]⟩] w fun e w' => e = .returned (.tuple #[.string s, .string ⟨#[]⟩, .bool false]) ∧ Below w.heap.size w w' := by
  have HK := Box.mk hk
  clear hk
  go_enter Tryz.func199, Tryz.ntmps199
  go_wp2_with fail
  refine (liteCut_no s _ _ rfl (fun _ => rfl) rfl HK.out).mono ?_
  rintro e w1 ⟨rfl, hb⟩
  have HB := Box.mk hb
  clear hb
  go_wp2_with fail
  go_ret3
  exact ⟨rfl, HB.out⟩

/-- What Parse returns. -/
def parseF (s : ByteArray) : Option Fld :=
  if 0 ≤ colonI s then
    (if fldB (s.extract 0 (colonI s).toNat) (trimBA (s.extract ((colonI s).toNat + 1) s.size)) then some (s.extract 0 (colonI s).toNat, trimBA (s.extract ((colonI s).toNat + 1) s.size)) else none)
  else none
def parseV : Option Fld → Value
  | some f => .tuple #[.agg #[.string f.1, .string f.2], .int .i64 0]
  | none => .tuple #[.agg #[.string ⟨#[]⟩, .string ⟨#[]⟩], .int .i64 2]
theorem parseF_no {s : ByteArray} (h : colonI s = -1) : parseF s = none := by unfold parseF; rw [h]; rfl
theorem parseF_at {s : ByteArray} {k : Nat} (h : colonI s = k) : parseF s = if fldB (s.extract 0 k) (trimBA (s.extract (k + 1) s.size)) then some (s.extract 0 k, trimBA (s.extract (k + 1) s.size)) else none := by
  unfold parseF; rw [h]; simp
theorem extract_le (s : ByteArray) (i j : Nat) : (s.extract i j).size ≤ s.size := by
  rw [ByteArray.size_extract]; omega

theorem results_row_tmpF {P : Program} {fn : Func} {q p : Tmp} {ty : TypeId} (h : fn.results = #[.cell p ty, .tmp q]) (tmps : Array Value) (w : World) (g : Nat) (t : TypeId) (cs : Array Value) (fr : Nat × Nat) (d : TypeDesc)
    (hp : tmps.getD p undef = .pointer (some ⟨g, 0, none⟩)) (hg : w.heap[g]? = some (.cells cs t fr))
    (hu : P.underlying ty = some d) (hd : (match d with | .struct _ | .array _ _ => true | _ => false) = true) (hi : (P.info? ty).map (·.size) = some cs.size) :
    (results fn tmps).run P w = .ok (.tuple #[.agg cs, tmps.getD q undef]) w := by
  have hp' : tmps[p]?.getD undef = .pointer (some ⟨g, 0, none⟩) := by simpa using hp
  simp [results, h, hp', asAddr, run_loadVar_row w g t ty cs fr d hg hu hd hi]
theorem sizeF : (Tryz.prog.info? 88).map (·.size) = some 2 := by kernel_rfl
theorem oneF (a b : ByteArray) : (#[Value.string a, .string b] : Array Value).all (·.oneCell') = true := by simp [Value.oneCell']
/-- A field's variable. -/
def FVar (w : World) (g : Nat) (n v : ByteArray) : Prop := w.heap[g]? = some (.cells #[.string n, .string v] 88 (0, 0))
theorem FVar.keep {w w' : World} {g : Nat} {n v : ByteArray} (h : FVar w g n v) (hb : Below w.heap.size w w') : FVar w' g n v := by
  unfold FVar at *
  rw [hb.block g (Array.getElem?_eq_some_iff.1 h).1]; exact h
theorem FVar.new (w : World) (n v : ByteArray) : FVar (w.alloc (.cells #[.string n, .string v] 88)) w.heap.size n v := heap_alloc_new _ _
theorem FVar.c0 {w : World} {g : Nat} {n v : ByteArray} (h : FVar w g n v) : w.cell? ⟨g, 0, none⟩ = some (.string n) := by rw [cell_of_row _ _ _ _ _ _ h]; rfl
theorem FVar.c1 {w : World} {g : Nat} {n v : ByteArray} (h : FVar w g n v) : w.cell? ⟨g, 1, none⟩ = some (.string v) := by rw [cell_of_row _ _ _ _ _ _ h]; rfl
theorem FVar.run {w : World} {g : Nat} {n v : ByteArray} (h : FVar w g n v) : (Instr.loadAt 88 (.pointer (some ⟨g, 0, none⟩))).run Tryz.prog w = .ok (.agg #[.string n, .string v]) w :=
  run_loadF w _ _ _ h.c0 h.c1
theorem FVar.lt {w : World} {g : Nat} {n v : ByteArray} (h : FVar w g n v) : g < w.heap.size := (Array.getElem?_eq_some_iff.1 h).1

set_option maxRecDepth 100000 in
set_option maxHeartbeats 2000000 in
theorem fParse_any (s : ByteArray) (w : World) (hs : s.size ≤ maxLen) :
    Calls Tryz.prog 190 #[.string s] w fun e w' => e = .returned (parseV (parseF s)) ∧ Below w.heap.size w w' := by
  have hge := colonI_ge s
  by_cases hc : colonI s = -1
  · have HP := Box.mk (parseF_no hc)
    have HC := Box.mk hc
    clear hc hge
    go_enter Tryz.func190, Tryz.ntmps190
    go_wp2_with fail
    refine (cut_no s _ HC.out).mono ?_
    rintro e w1 ⟨rfl, hb1⟩
    have HB1 := Box.mk (below_trans (below_oneF w (.cells #[.string ⟨#[]⟩, .string ⟨#[]⟩] 88)) hb1)
    have HR1 := Box.mk ((FVar.new w ⟨#[]⟩ ⟨#[]⟩).keep hb1)
    clear hb1
    go_wp2_with fail
    refine (trim_any _ _ (by decide)).mono ?_
    rintro e w2 ⟨rfl, hb2⟩
    have hb3 := below_trans hb2 (below_oneF w2 (.cells #[.string s, .string (trimBA ⟨#[]⟩)] 161))
    have HB2 := Box.mk (below_trans HB1.out hb3)
    have HR2 := Box.mk (HR1.out.keep hb3)
    clear hb2 hb3 HB1 HR1
    go_wp2_with (refine wpList_store_row rfl 88 _ _ rfl w.heap.size #[.string ⟨#[]⟩, .string ⟨#[]⟩] rfl rfl 88 _ HR2.out sizeF rfl (oneF _ _) ?_)
    (try simp only [Exit.inBlock, Exit.then])
    refine bodyPost_ret (results_row_tmpF rfl _ _ w.heap.size _ _ _ _ rfl (setRow_heap _ _ _ _ _ _ HR2.out) Tryz.underlying88 rfl sizeF) rfl ?_
    exact ⟨by rw [HP.out]; rfl, below_setRow HB2.out (Nat.le_refl _) _⟩
  · obtain ⟨k, hk⟩ : ∃ k : Nat, colonI s = k := ⟨(colonI s).toNat, by omega⟩
    have HC := Box.mk hk
    have HP0 := Box.mk (parseF_at hk)
    have HZ := Box.mk (And.intro (Nat.le_trans (extract_le s 0 k) hs) (Nat.le_trans (extract_le s (k + 1) s.size) hs))
    clear hc hge hk
    go_enter Tryz.func190, Tryz.ntmps190
    go_wp2_with fail
    refine (cut_yes s k _ hs HC.out).mono ?_
    rintro e w1 ⟨rfl, hb1⟩
    have HB1 := Box.mk (below_trans (below_oneF w (.cells #[.string ⟨#[]⟩, .string ⟨#[]⟩] 88)) hb1)
    have HR1 := Box.mk ((FVar.new w ⟨#[]⟩ ⟨#[]⟩).keep hb1)
    clear hb1
    generalize s.extract 0 k = n at *
    generalize s.extract (k + 1) s.size = v0 at *
    go_wp2_with fail
    refine (trim_any v0 _ HZ.out.2).mono ?_
    rintro e w2 ⟨rfl, hb2⟩
    have hvz := Box.mk (Nat.le_trans (trimBA_size v0) HZ.out.2)
    generalize trimBA v0 = v at *
    have hb3 := below_trans hb2 (below_oneF w2 (.cells #[.string n, .string v] 161))
    have HB2 := Box.mk (below_trans HB1.out hb3)
    have HR2 := Box.mk (HR1.out.keep hb3)
    clear hb2 hb3 HB1 HR1
    by_cases hv : fldB n v = true
    · have HP := Box.mk (show parseF s = some (n, v) by rw [HP0.out, if_pos hv])
      have HV := Box.mk hv
      clear hv HP0
      go_wp2_with fail
      refine (hdrValid_any n v _ HZ.out.1 hvz.out).mono ?_
      rintro e w3 ⟨he, hb3⟩
      rw [HV.out] at he
      subst he
      have HB3 := Box.mk (below_trans HB2.out hb3)
      have HR3 := Box.mk (HR2.out.keep hb3)
      have hc0 : w3.cell? ⟨w2.heap.size, 0, none⟩ = some (.string n) := below_cell hb3 (by rw [new_cellF]; rfl)
      have hc1 : w3.cell? ⟨w2.heap.size, 1, none⟩ = some (.string v) := below_cell hb3 (by rw [new_cellF]; rfl)
      clear hb3 HB2 HR2
      go_wp2_with (refine wpList_store_row rfl 88 _ _ rfl w.heap.size #[.string n, .string v] rfl rfl 88 _ HR3.out sizeF rfl (oneF _ _) ?_)
      (try simp only [Exit.inBlock, Exit.then])
      refine bodyPost_ret (results_row_tmpF rfl _ _ w.heap.size _ _ _ _ rfl (setRow_heap _ _ _ _ _ _ HR3.out) Tryz.underlying88 rfl sizeF) rfl ?_
      exact ⟨by rw [HP.out]; rfl, below_setRow HB3.out (Nat.le_refl _) _⟩
    · have HP := Box.mk (show parseF s = none by rw [HP0.out, if_neg hv])
      have HV := Box.mk (show fldB n v = false by simpa using hv)
      clear hv HP0
      go_wp2_with fail
      refine (hdrValid_any n v _ HZ.out.1 hvz.out).mono ?_
      rintro e w3 ⟨he, hb3⟩
      rw [HV.out] at he
      subst he
      have HB3 := Box.mk (below_trans HB2.out hb3)
      have HR3 := Box.mk (HR2.out.keep hb3)
      clear hb3 HB2 HR2
      go_wp2_with (refine wpList_store_row rfl 88 _ _ rfl w.heap.size #[.string ⟨#[]⟩, .string ⟨#[]⟩] rfl rfl 88 _ HR3.out sizeF rfl (oneF _ _) ?_)
      (try simp only [Exit.inBlock, Exit.then])
      refine bodyPost_ret (results_row_tmpF rfl _ _ w.heap.size _ _ _ _ rfl (setRow_heap _ _ _ _ _ _ HR3.out) Tryz.underlying88 rfl sizeF) rfl ?_
      exact ⟨by rw [HP.out]; rfl, below_setRow HB3.out (Nat.le_refl _) _⟩
end Go.Proofs.YteoadfckcilalaaGreatDoor
namespace Go.Proofs.YteoadfckcilalaaGreatDoor
open Go.RowKit

/-- c waits for i, by others too. -/
def beforeB (ops : Array Oper) : Nat → Nat → Nat → Bool
  | 0, _, _ => false
  | f + 1, c, i => match ops[c]? with
    | some o => waitsFor o i || (List.range c).any fun k => waitsFor o k && beforeB ops f k i
    | none => false
def StepP (P : Program) (Q : Exit → Act → World → Prop) (ops : Array Oper) (S : List Spec) (Inv : World → Prop) (a0 : Act) (o : Oper) (s : Spec) : Prop :=
  ∀ a w, Inv w → Fr ops a0 a → (∀ j, waitsFor o j = true → Holds ops S a w j) →
    Region.wanted o (yielded ops a.tmps) = true ∧ o.wp P a w (fun a' w' => ∃ v, a' = a.put o.dst v ∧ Below w.heap.size w w' ∧ s.p v w') Q
def SidesOK (P : Program) (Q : Exit → Act → World → Prop) (ops : Array Oper) (S : List Spec) (Inv : World → Prop) (a0 : Act) : List Nat → Prop
  | i :: r => (match ops[i]?, S[i]? with | some o, some s => StepP P Q ops S Inv a0 o s | _, _ => False) ∧ SidesOK P Q ops S Inv a0 r
  | [] => True
/-- What is known in one phase stays known in the next. -/
def Over (ops : Array Oper) (a : Act) (w w' : World) (c : Nat) : Nat → List Spec → List Spec → Prop
  | k, s :: ss, t :: ts => (k = c ∨ ∀ v, (∀ o d, ops[k]? = some o → o.dst = some d → v = a.eval (.tmp d)) → s.p v w → t.p v w') ∧ Over ops a w w' c (k + 1) ss ts
  | _, [], [] => True
  | _, _, _ => False
def ChainOK (P : Program) (Q : Exit → Act → World → Prop) (ops : Array Oper) (S S' : List Spec) (Inv Inv' : World → Prop) (a0 : Act) (c : Nat) : Prop :=
  match ops[c]?, S'[c]? with
  | some o, some s => ∀ a w, Inv w → Fr ops a0 a → (∀ j, waitsFor o j = true → Holds ops S a w j) →
      Region.wanted o (yielded ops a.tmps) = true ∧ o.wp P a w (fun a' w' => ∃ v, a' = a.put o.dst v ∧ Inv' w' ∧ s.p v w' ∧ Over ops a w w' c 0 S S') Q
  | _, _ => False
/-- The operations outside the chain that may come up in phase p are those listed. -/
def sidesB (ops : Array Oper) (chain : List Nat) (M : Nat) (sides : List Nat) (p : Nat) : Bool :=
  (List.range ops.size).all fun i => chain.contains i || sides.contains i || (List.range M).any fun q => match chain[q]? with
    | some c => if q < p then beforeB ops ops.size c i else beforeB ops ops.size i c
    | none => false
def chainB (ops : Array Oper) (chain : List Nat) : Bool :=
  (List.range chain.length).all fun p => (List.range chain.length).all fun q => decide (q ≤ p) || (match chain[p]?, chain[q]? with | some c, some d => beforeB ops ops.size d c && decide (c ≠ d) && decide (d < ops.size) && decide (c < ops.size) | _, _ => false)

section
variable {P : Program} {Q : Exit → Act → World → Prop} {ops : Array Oper} {a0 : Act} {w0 : World}
theorem sidesOK_at {S : List Spec} {Inv : World → Prop} : ∀ {l : List Nat}, SidesOK P Q ops S Inv a0 l → ∀ i, i ∈ l → ∀ o, ops[i]? = some o → ∃ s, S[i]? = some s ∧ StepP P Q ops S Inv a0 o s
  | k :: r, h, i, hi, o, ho => by
    rcases List.mem_cons.1 hi with rfl | hi
    · have := h.1
      rw [ho] at this
      cases hs : S[i]? with
      | none => rw [hs] at this; exact this.elim
      | some s => rw [hs] at this; exact ⟨s, rfl, this⟩
    · exact sidesOK_at h.2 i hi o ho
theorem over_at {a : Act} {w w' : World} {c : Nat} : ∀ {ss ts : List Spec} {k : Nat}, Over ops a w w' c k ss ts → ∀ j t, ts[j]? = some t → k + j ≠ c → ∃ s, ss[j]? = some s ∧ ∀ v, (∀ o d, ops[k + j]? = some o → o.dst = some d → v = a.eval (.tmp d)) → s.p v w → t.p v w'
  | s :: ss, t :: ts, k, h, 0, t', ht, hne => by
    simp at ht; subst ht
    rcases h.1 with h1 | h1
    · exact absurd h1 (by simpa using hne)
    · exact ⟨s, rfl, h1⟩
  | s :: ss, t :: ts, k, h, j + 1, t', ht, hne => by
    have e : k + 1 + j = k + (j + 1) := by omega
    have := over_at (k := k + 1) h.2 j t' (by simpa using ht) (by omega)
    rw [e] at this; exact this
  | [], [], _, _, j, t', ht, _ => by simp at ht
  | s :: ss, [], _, h, j, t', ht, _ => by simp at ht
  | [], t :: ts, _, h, j, t', ht, _ => h.elim
theorem before_marked {m : Array Bool} (hcl : ∀ j o, ops[j]? = some o → m.getD j false = true → ∀ i, waitsFor o i = true → m.getD i false = true) :
    ∀ (f c i : Nat), beforeB ops f c i = true → m.getD c false = true → m.getD i false = true
  | 0, _, _, h, _ => by simp [beforeB] at h
  | f + 1, c, i, h, hc => by
    unfold beforeB at h
    cases ho : ops[c]? with
    | none => rw [ho] at h; cases h
    | some o =>
      rw [ho] at h
      simp only [Bool.or_eq_true, List.any_eq_true, Bool.and_eq_true] at h
      rcases h with h | ⟨k, _, h1, h2⟩
      · exact hcl c o ho hc i h
      · exact before_marked hcl f k i h2 (hcl c o ho hc k h1)
/-- What is ready waits for marked ones alone. -/
theorem before_ready {m : Array Bool} (hcl : ∀ j o, ops[j]? = some o → m.getD j false = true → ∀ i, waitsFor o i = true → m.getD i false = true) {c i : Nat} {o : Oper} (ho : ops[c]? = some o)
    (hd : ∀ j, waitsFor o j = true → m.getD j false = true) {f : Nat} (h : beforeB ops f c i = true) : m.getD i false = true := by
  cases f with
  | zero => simp [beforeB] at h
  | succ f =>
    unfold beforeB at h
    rw [ho] at h
    simp only [Bool.or_eq_true, List.any_eq_true, Bool.and_eq_true] at h
    rcases h with h | ⟨k, _, h1, h2⟩
    · exact hd i h
    · exact before_marked hcl f k i h2 (hd k h1)

theorem wp_region_phases {id : Nat} (chain : List Nat) (sides : Nat → List Nat) (S : Nat → List Spec) (Inv : Nat → World → Prop) (hm : P.follows .mixedOrders = true)
    (hB : (List.range ops.size).all (fun i => match ops[i]? with | some x => x.after.all (fun e => !Region.binds .any e || decide (e.on < i)) | none => true) = true)
    (hd : dstsOk ops a0.tmps.size = true) (hc : chainB ops chain = true) (hlt : chain.all (fun c => decide (c < ops.size)) = true) (hsB : (List.range (chain.length + 1)).all (fun p => sidesB ops chain chain.length (sides p) p) = true)
    (hI : ∀ p w w', Inv p w → Below w.heap.size w w' → Inv p w') (h0 : Inv 0 w0) (hS : ∀ p, p ≤ chain.length → SidesOK P Q ops (S p) (Inv p) a0 (sides p))
    (hC : ∀ p (hp : p < chain.length), ChainOK P Q ops (S p) (S (p + 1)) (Inv p) (Inv (p + 1)) a0 chain[p])
    (hQ : ∀ a w, Inv chain.length w → Fr ops a0 a → (∀ j, j < ops.size → Holds ops (S chain.length) a w j) → Q .normal a w) : (Code.region id ops true).wp P Q a0 w0 := by
  have hchain : ∀ p q (hp : p < chain.length) (hq : q < chain.length), p < q → beforeB ops ops.size chain[q] chain[p] = true ∧ chain[p] ≠ chain[q] := fun p q hp hq hpq => by
    have h1 := List.all_eq_true.1 (List.all_eq_true.1 hc p (List.mem_range.2 hp)) q (List.mem_range.2 hq)
    simp only [List.getElem?_eq_getElem hp, List.getElem?_eq_getElem hq, Bool.or_eq_true, Bool.and_eq_true, decide_eq_true_eq] at h1
    rcases h1 with h1 | h1
    · omega
    · exact ⟨h1.1.1.1, h1.1.1.2⟩
  refine wp_region_inv hm (fun m a w => Fr ops a0 a ∧ (∀ j o, ops[j]? = some o → m.getD j false = true → ∀ i, waitsFor o i = true → m.getD i false = true) ∧
    ∃ p, p ≤ chain.length ∧ (∀ q (hq : q < chain.length), m.getD chain[q] false = decide (q < p)) ∧ Inv p w ∧ ∀ j, m.getD j false = true → Holds ops (S p) a w j) ?_ ?_ ?_
  · rintro m a w hs ⟨hf, hcl, p, hp, hph, hinv, hh⟩ i hi
    obtain ⟨h1, o, ho, hall⟩ := mem_ready.1 hi
    have hil : i < ops.size := (Array.getElem?_eq_some_iff.1 ho).1
    have him : i < m.size := by rw [hs]; exact hil
    have hmi : m.getD i false = false := by simp [him] at h1 ⊢; exact h1
    have hdeps : ∀ j, waitsFor o j = true → m.getD j false = true := fun j hj => by
      obtain ⟨e, he, h2⟩ := List.any_eq_true.1 hj
      simp only [Bool.and_eq_true, beq_iff_eq] at h2
      obtain ⟨h3, rfl⟩ := h2
      exact hall e (Array.mem_toList_iff.1 he) h3
    have hcl' : ∀ j o, ops[j]? = some o → (m.setIfInBounds i true).getD j false = true → ∀ k, waitsFor o k = true → (m.setIfInBounds i true).getD k false = true := fun j oj hoj hj k hk => by
      by_cases hji : j = i
      · subst hji
        obtain rfl : o = oj := Option.some.inj (ho.symm.trans hoj)
        exact getD_set_true (hdeps k hk)
      · rw [getD_set_ne false (fun e => hji e.symm)] at hj
        exact getD_set_true (hcl j oj hoj hj k hk)
    unfold wpOp
    simp only [ho]
    by_cases hic : i ∈ chain
    · obtain ⟨q, hq, rfl⟩ := List.getElem_of_mem hic
      have hqp : p ≤ q := by
        have := hph q hq
        rw [hmi] at this
        have := of_decide_eq_false this.symm
        omega
      have hqe : q = p := by
        rcases Nat.lt_or_ge p q with h2 | h2
        · exfalso
          have h3 := before_ready hcl ho hdeps (hchain p q (by omega) hq h2).1
          rw [hph p (by omega)] at h3
          simp at h3
        · omega
      subst hqe
      have hCp := hC q hq
      unfold ChainOK at hCp
      rw [ho] at hCp
      cases hsc : (S (q + 1))[chain[q]]? with
      | none => rw [hsc] at hCp; exact hCp.elim
      | some s =>
        rw [hsc] at hCp
        simp only at hCp
        obtain ⟨hw, hwp⟩ := hCp a w hinv hf fun j hj => hh j (hdeps j hj)
        rw [if_pos hw]
        refine .inl (Oper.wp_mono ?_ hwp)
        rintro a' w' ⟨v, rfl, hinv', hsp, hov⟩
        refine ⟨fr_put ho hf v, hcl', q + 1, hq, fun r hr => ?_, hinv', fun j hj => ?_⟩
        · by_cases hrq : r = q
          · subst hrq
            simp [him]
          · have hne : chain[q] ≠ chain[r] := by
              rcases Nat.lt_or_ge q r with h2 | h2
              · exact (hchain q r hq hr h2).2
              · exact fun e => (hchain r q hr hq (by omega)).2 e.symm
            rw [getD_set_ne false hne, hph r hr]
            by_cases hrl : r < q
            · simp [hrl, show r < q + 1 by omega]
            · simp [hrl, show ¬ r < q + 1 by omega]
        · by_cases hji : j = chain[q]
          · subst hji
            unfold Holds
            simp only [ho, hsc]
            cases hdo : o.dst with
            | none => trivial
            | some d =>
              show s.p ((a.put (some d) v).eval (.tmp d)) w'
              rw [eval_put_same]
              · exact hsp
              · rw [hf.size]; exact (dsts_lt hd ho hdo).1
          · have hj' : m.getD j false = true := by rw [getD_set_ne false (fun e => hji e.symm)] at hj; exact hj
            have h5 := holds_put (a := a) (v := v) hd ho hji (hh j hj')
            unfold Holds at *
            cases hoj : ops[j]? with
            | none => simp
            | some o' =>
              cases hsj : (S (q + 1))[j]? with
              | none => simp
              | some s' =>
                obtain ⟨s0, hs0, himp⟩ := over_at hov j s' hsj (by omega)
                simp only [hoj, hs0] at h5
                simp only
                cases hdo : o'.dst with
                | none => trivial
                | some d =>
                  simp only [hdo] at h5
                  refine himp _ (fun o2 d2 ho2 hd2 => ?_) h5
                  rw [Nat.zero_add, hoj] at ho2
                  obtain rfl := Option.some.inj ho2
                  rw [hdo] at hd2
                  obtain rfl := Option.some.inj hd2
                  exact eval_put_other fun e => (dsts_lt hd ho e).2 j o' hoj hji hdo
    · have hside : i ∈ sides p := by
        have := List.all_eq_true.1 (List.all_eq_true.1 hsB p (List.mem_range.2 (by omega))) i (List.mem_range.2 hil)
        simp only [Bool.or_eq_true, List.contains_iff_mem, List.any_eq_true] at this
        rcases this with (h2 | h2) | ⟨q, hq, h2⟩
        · exact absurd h2 hic
        · exact h2
        · exfalso
          have hql := List.mem_range.1 hq
          rw [List.getElem?_eq_getElem hql] at h2
          simp only at h2
          by_cases hqp : q < p
          · rw [if_pos hqp] at h2
            have h3 := before_marked hcl _ _ _ h2 (by rw [hph q hql]; simp [hqp])
            rw [hmi] at h3; cases h3
          · rw [if_neg hqp] at h2
            have h3 := before_ready hcl ho hdeps h2
            rw [hph q hql] at h3
            simp [hqp] at h3
      obtain ⟨s, hsi, hstep⟩ := sidesOK_at (hS p hp) i hside o ho
      obtain ⟨hw, hwp⟩ := hstep a w hinv hf fun j hj => hh j (hdeps j hj)
      rw [if_pos hw]
      refine .inl (Oper.wp_mono ?_ hwp)
      rintro a' w' ⟨v, rfl, hb', hsp⟩
      refine ⟨fr_put ho hf v, hcl', p, hp, fun r hr => ?_, hI p w w' hinv hb', fun j hj => ?_⟩
      · rw [getD_set_ne false (fun e => hic (by rw [e]; exact List.getElem_mem hr)), hph r hr]
      · by_cases hji : j = i
        · subst hji
          unfold Holds
          simp only [ho, hsi]
          cases hdo : o.dst with
          | none => trivial
          | some d =>
            show s.p ((a.put (some d) v).eval (.tmp d)) w'
            rw [eval_put_same]
            · exact hsp
            · rw [hf.size]; exact (dsts_lt hd ho hdo).1
        · have hj' : m.getD j false = true := by rw [getD_set_ne false (fun e => hji e.symm)] at hj; exact hj
          exact holds_put hd ho hji (holds_mono (hh j hj') hb')
  · rintro m a w hs ⟨hf, hcl, p, hp, hph, hinv, hh⟩ hr
    have hmarked : ∀ j, j < ops.size → m.getD j false = true := fun j => by
      induction j using Nat.strongRecOn with
      | _ j ih =>
        intro hj
        cases hmj : m.getD j false with
        | true => rfl
        | false =>
          exfalso
          have hoj : ops[j]? = some ops[j] := Array.getElem?_eq_getElem hj
          have hbk := List.all_eq_true.1 hB j (List.mem_range.2 hj)
          rw [hoj] at hbk
          simp only [Array.all_eq_true_iff_forall_mem, Bool.or_eq_true, Bool.not_eq_true', decide_eq_true_eq] at hbk
          have hlt : ∀ e ∈ ops[j].after, Region.binds .any e = true → e.on < j := fun e he hbd => by
            rcases hbk e he with h | h
            · rw [hbd] at h; cases h
            · exact h
          have : j ∈ Region.ready .any ops m := mem_ready.2 ⟨by
            have hs' : j < m.size := by rw [hs]; exact hj
            simp [hs'] at hmj ⊢; exact hmj, ops[j], hoj, fun e he hbd => ih _ (hlt e he hbd) (by have := hlt e he hbd; omega)⟩
          rw [hr] at this; cases this
    have hpe : p = chain.length := by
      rcases Nat.lt_or_ge p chain.length with h2 | h2
      · exfalso
        have h3 := hph p h2
        have h4 := hmarked chain[p] (of_decide_eq_true (List.all_eq_true.1 hlt _ (List.getElem_mem h2)))
        rw [h4] at h3
        simp at h3
      · omega
    subst hpe
    exact hQ a w hinv hf fun j hj => hh j (hmarked j hj)
  · have hz : ∀ j, (Array.replicate ops.size false).getD j false = false := fun j => by
      simp only [Array.getD_eq_getD_getElem?, Array.getElem?_replicate]; split <;> rfl
    refine ⟨⟨rfl, rfl, fun _ _ => rfl⟩, fun j o _ hj => (by rw [hz] at hj; cases hj), 0, Nat.zero_le _, fun q _ => by rw [hz]; rfl, hI 0 w0 _ h0 (Below.refl _ _).drew, fun j hj => (by rw [hz] at hj; cases hj)⟩

/-- The frame behind a region, out of the frame before it. -/
def putAll (a : Act) : List Oper → Act → Act
  | o :: os, b => putAll a os (match o.dst with | some d => b.put (some d) (a.eval (.tmp d)) | none => b)
  | [], b => b
theorem putAll_size (a : Act) : ∀ (l : List Oper) (b : Act), (putAll a l b).tmps.size = b.tmps.size
  | [], _ => rfl
  | o :: os, b => by
    unfold putAll
    rw [putAll_size a os]
    cases o.dst <;> simp [Act.put]
theorem putAll_defers (a : Act) : ∀ (l : List Oper) (b : Act), (putAll a l b).defers = b.defers
  | [], _ => rfl
  | o :: os, b => by
    unfold putAll
    rw [putAll_defers a os]
    cases o.dst <;> simp [Act.put]
theorem putAll_eval (a : Act) (k : Nat) : ∀ (l : List Oper) (b : Act), b.tmps.size = a.tmps.size → (b.eval (.tmp k) = a.eval (.tmp k) ∨ (l.any fun o => o.dst == some k) = true) → (putAll a l b).eval (.tmp k) = a.eval (.tmp k)
  | [], b, _, h => by
    rcases h with h | h
    · exact h
    · cases h
  | o :: os, b, hs, h => by
    unfold putAll
    refine putAll_eval a k os _ (by cases o.dst <;> simpa [Act.put] using hs) ?_
    cases hd : o.dst with
    | none =>
      rcases h with h | h
      · exact .inl h
      · simp [hd] at h; exact .inr (by simpa using h)
    | some d =>
      by_cases hdk : d = k
      · subst hdk
        by_cases hlt : d < b.tmps.size
        · exact .inl (eval_put_same hlt)
        · left
          have h1 : ¬ d < a.tmps.size := by rw [← hs]; exact hlt
          simp [Act.put, Act.eval, hlt, h1]
      · have e : (b.put (some d) (a.eval (.tmp d))).eval (.tmp k) = b.eval (.tmp k) := eval_put_other fun e => hdk (Option.some.inj e)
        rcases h with h | h
        · exact .inl (e.trans h)
        · simp [hd, hdk] at h; exact .inr (by simpa using h)
theorem fr_putAll {a : Act} (h : Fr ops a0 a) : a = putAll a ops.toList a0 := by
  have h1 := putAll_size a ops.toList a0
  have h2 := putAll_defers a ops.toList a0
  have h3 : ∀ k, (putAll a ops.toList a0).eval (.tmp k) = a.eval (.tmp k) := fun k => putAll_eval a k _ _ h.size.symm (by
    cases hk : isDst ops k with
    | true => exact .inr hk
    | false => exact .inl (h.base k hk).symm)
  generalize putAll a ops.toList a0 = p at *
  rw [act_eq (a := a) (a0 := a0) h.size h.defers, act_eq (a := p) (a0 := a0) h1 h2]
  congr 2
  exact List.map_congr_left fun k _ => (h3 k).symm
end
end Go.Proofs.YteoadfckcilalaaGreatDoor
namespace Go.Proofs.YteoadfckcilalaaGreatDoor
open Go.RowKit

theorem colonI_at (s : ByteArray) (k : Nat) (hk : k < s.size) (h : s[k] = (58 : UInt8)) (hp : ∀ j, j < k → s.data.toList[j]? ≠ some 58) : colonI s = k := by
  have hge := colonI_ge s
  have hkk : s.data.toList[k]? = some 58 := by
    rw [List.getElem?_eq_getElem (by simpa using hk)]
    exact congrArg some h
  by_cases h1 : colonI s = -1
  · exact absurd hkk (Lib.indexByte_none h1 k)
  · obtain ⟨o, ho⟩ : ∃ o : Nat, colonI s = o := ⟨(colonI s).toNat, by omega⟩
    have h2 := Lib.indexByte_some ho
    rw [ho]
    congr 1
    rcases Nat.lt_trichotomy o k with h3 | h3 | h3
    · exact absurd h2.1 (hp o h3)
    · exact h3
    · exact absurd hkk (h2.2 k h3)
section
variable {Q : Exit → Act → World → Prop} {a : Act} {w : World} {o : Oper} {s : Spec}
theorem loc_buildF {x y : Operand} (ho : o.op = .build 88 #[(0, x), (1, y)]) {b c : ByteArray} (hx : a.eval x = .string b) (hy : a.eval y = .string c) (hs : s.p (.agg #[.string b, .string c]) w) :
    o.wp Tryz.prog a w (fun a' w' => ∃ v, a' = a.put o.dst v ∧ Below w.heap.size w w' ∧ s.p v w') Q := by
  refine loc_run (v := .agg #[.string b, .string c]) ?_ (Below.refl _ _) hs
  have hb := run_build (P := Tryz.prog) w 88 #[(0, .string b), (1, .string c)] #[.string b, .string c] (by kernel_rfl)
  unfold execOp
  simp only [ho, List.map_toArray, List.map_cons, List.map_nil, hx, hy, Sem.run_bind, hb, Result.andThen_ok, Sem.run_pure]
end

end Go.Proofs.YteoadfckcilalaaGreatDoor
namespace Go.Proofs.YteoadfckcilalaaGreatDoor
open Go.RowKit

def IntsF (w : World) (a : Option Addr) (n : Nat) : Prop :=
  ∀ j, j < n → ∃ x z, a = some x ∧ w.cell? (x.add j) = some (.int .i64 z) ∧ -9223372036854775808 ≤ z ∧ z ≤ 9223372036854775807
theorem IntsF.keep {w w' : World} {a : Option Addr} {n : Nat} (h : IntsF w a n) (hb : Below w.heap.size w w') : IntsF w' a n := fun j hj => by
  obtain ⟨x, z, e, h1, h2⟩ := h j hj
  exact ⟨x, z, e, below_cell hb h1, h2⟩
/-- Block g is the source's variable: its numbers are the n at a, which lie elsewhere. -/
def Src (w : World) (g : Nat) (a : Option Addr) (n c : Nat) : Prop :=
  (∃ i : Nat, i ≤ n ∧ w.heap[g]? = some (.cells #[.slice a n c, .int .i64 i] 56 (0, 0))) ∧ n ≤ maxLen ∧ IntsF w a n ∧ ∀ x, a = some x → 0 < n → x.block ≠ g
theorem Src.lt {w : World} {g : Nat} {a : Option Addr} {n c : Nat} (h : Src w g a n c) : g < w.heap.size := by
  obtain ⟨⟨i, _, h⟩, _⟩ := h
  exact (Array.getElem?_eq_some_iff.1 h).1
theorem add_blockF (x : Addr) (j : Nat) : (x.add j).block = x.block := by unfold Addr.add; split <;> rfl
theorem IntsF.grown {w w' : World} {a : Option Addr} {n : Nat} {row : Option Nat} (h : IntsF w a n) (hg : w.grownBy w' row) (hne : ∀ x, a = some x → 0 < n → some x.block ≠ row) : IntsF w' a n := fun j hj => by
  obtain ⟨x, z, e, h1, h2⟩ := h j hj
  refine ⟨x, z, e, ?_, h2⟩
  have hlt := lt_cell h1
  rw [World.cell?_of_block (hg.block _ hlt (by rw [add_blockF]; exact hne x e (by omega)))]
  exact h1
theorem Src.grown {w w' : World} {g : Nat} {a : Option Addr} {n c : Nat} {row : Option Nat} (h : Src w g a n c) (hg : w.grownBy w' row) (hne : some g ≠ row) (hne2 : ∀ x, a = some x → 0 < n → some x.block ≠ row) : Src w' g a n c := by
  have hlt := h.lt
  obtain ⟨⟨i, hi, hr⟩, h2, h3, h4⟩ := h
  exact ⟨⟨i, hi, by rw [hg.block g hlt hne]; exact hr⟩, h2, h3.grown hg hne2, h4⟩
theorem Src.keep {w w' : World} {g : Nat} {a : Option Addr} {n c : Nat} (h : Src w g a n c) (hb : Below w.heap.size w w') : Src w' g a n c := by
  have hlt := h.lt
  obtain ⟨⟨i, hi, hr⟩, h2, h3, h4⟩ := h
  exact ⟨⟨i, hi, by rw [hb.block g hlt]; exact hr⟩, h2, h3.keep hb, h4⟩
theorem grownBy_trans {w w1 w2 : World} {row : Option Nat} (h : w.grownBy w1 row) (k : w1.grownBy w2 row) : w.grownBy w2 row :=
  ⟨k.os.trans h.os, k.tape.trans h.tape, k.output.trans h.output, Nat.le_trans h.size k.size, fun i hi hne => (k.block i (Nat.lt_of_lt_of_le hi h.size) hne).trans (h.block i hi hne)⟩
theorem grownBy_below {w w1 : World} {row : Option Nat} (h : Below w.heap.size w w1) : w.grownBy w1 row :=
  ⟨h.os, h.tape, h.output, h.size, fun i hi _ => h.block i hi⟩
/-- A row that is new is nobody's. -/
theorem grownBy_new {w w1 w2 : World} {row : Option Nat} {q : Option Nat} (h : w.grownBy w1 row) (k : w1.grownBy w2 q) (hq : ∀ i, q = some i → w.heap.size ≤ i) : w.grownBy w2 row :=
  ⟨k.os.trans h.os, k.tape.trans h.tape, k.output.trans h.output, Nat.le_trans h.size k.size, fun i hi hne => (k.block i (Nat.lt_of_lt_of_le hi h.size) (fun e => by have := hq i e.symm; omega)).trans (h.block i hi hne)⟩

def withI (z : Int) (n : Nat) : Int := (wrap64 (z.tmod n + n)).tmod n
theorem withI_range (z : Int) (n : Nat) (h0 : 0 < n) (hn : n ≤ 1000000000) : ∃ k : Nat, k < n ∧ withI z n = (k : Int) := by
  have h1 : z.tmod n < n := Int.tmod_lt_of_pos z (by omega)
  have h2 : -(n : Int) < z.tmod n := Int.lt_tmod_of_pos z (by omega)
  unfold withI
  generalize z.tmod n = y at *
  have e : wrap64 (y + n) = y + n := by simp only [wrap64]; omega
  rw [e, Int.tmod_eq_emod_of_nonneg (by omega)]
  exact ⟨((y + n) % n).toNat, by have := Int.emod_lt_of_pos (y + n) (show (0 : Int) < n by omega); have := Int.emod_nonneg (y + n) (show (n : Int) ≠ 0 by omega); omega, by have := Int.emod_nonneg (y + n) (show (n : Int) ≠ 0 by omega); omega⟩
theorem withinF (z : Int) (n : Nat) (w : World) (h0 : 0 < n) (hn : n ≤ 1000000000) :
    Calls Tryz.prog 10 #[.int .i64 z, .int .i64 n] w fun e w' => e = .returned (.int .i64 (withI z n)) ∧ w' = w := by
  go_enter Tryz.func10, Tryz.ntmps10
  go_wp2
  go_ret
  exact ⟨rfl, rfl⟩

set_option maxRecDepth 100000 in
set_option maxHeartbeats 2000000 in
theorem next_any (g m : Nat) (a : Option Addr) (n c : Nat) (w : World) (h : Src w g a n c) (h0 : 0 < m) (hm : m ≤ 1000000000) :
    Calls Tryz.prog 33 #[.pointer (some ⟨g, 0, none⟩), .int .i64 m] w fun e w' => ∃ k : Nat, k < m ∧ e = .returned (.int .i64 k) ∧ Src w' g a n c ∧ w.grownBy w' (some g) := by
  have H0 := Box.mk h
  obtain ⟨⟨i, hi, hr⟩, hn, h2, h3⟩ := h
  have HR := Box.mk hr
  have HI := Box.mk h2
  have HA := Box.mk h3
  have HN := Box.mk hn
  have hc0 : w.cell? ⟨g, 0, none⟩ = some (.slice a n c) := by rw [cell_of_row _ _ _ _ _ _ hr]; rfl
  have hc1 : w.cell? ⟨g, 1, none⟩ = some (.int .i64 i) := by rw [cell_of_row _ _ _ _ _ _ hr]; rfl
  unfold maxLen at hn
  clear hr h2 h3
  go_enter Tryz.func33, Tryz.ntmps33
  by_cases hlt : i < n
  · obtain ⟨x, z, rfl, hz, z0, z1⟩ := HI.out i hlt
    have hne := HA.out x rfl (by omega)
    have HNE := Box.mk hne
    clear hne
    have hd : decide (n ≤ i) = false := by simp; omega
    have HZ := Box.mk hz
    clear hz
    go_wp2_with fail
    go_quiet (fail)
    clear hd
    obtain ⟨W, hW⟩ : ∃ W, W = w.drewN nq := ⟨_, rfl⟩
    have HRW := Box.mk (show W.heap[g]? = some (.cells #[.slice (some x) n c, .int .i64 i] 56 (0, 0)) by rw [hW]; exact HR.out)
    rw [← hW]
    have hf := frozen_of_row W g 1 _ _ HRW.out
    have hc0 : W.cell? ⟨g, 0, none⟩ = some (.slice (some x) n c) := by rw [cell_of_row _ _ _ _ _ _ HRW.out]; rfl
    have hc1 : W.cell? ⟨g, 1, none⟩ = some (.int .i64 i) := by rw [cell_of_row _ _ _ _ _ _ HRW.out]; rfl
    have HGW := Box.mk (show w.grownBy W (some g) by rw [hW]; exact ⟨rfl, rfl, rfl, Nat.le_refl _, fun _ _ _ => rfl⟩)
    clear hW
    go_wp2_with fail
    obtain ⟨W2, hW2⟩ : ∃ W2, W2 = W.setCell ⟨g, 1, none⟩ (.int .i64 ((i : Int) + 1)) := ⟨_, rfl⟩
    have HR2 := Box.mk (show W2.heap[g]? = some (.cells #[.slice (some x) n c, .int .i64 ((i : Int) + 1)] 56 (0, 0)) by rw [hW2, heap_setCell_same _ _ _ _ _ _ HRW.out]; simp)
    have HG2 := Box.mk (show w.grownBy W2 (some g) from grownBy_trans HGW.out (by
      rw [hW2]
      exact ⟨rfl, rfl, rfl, by simp [World.setCell], fun k _ hne => heap_setCell_other W ⟨g, 1, none⟩ k _ (fun e => hne (by rw [e]))⟩))
    change Code.wp _ _ _ _ (W.setCell ⟨g, 1, none⟩ (.int .i64 ((i : Int) + 1)))
    rw [← hW2]
    clear hW2 hf hc0 hc1 HGW HRW
    have hc0 : W2.cell? ⟨g, 0, none⟩ = some (.slice (some x) n c) := by rw [cell_of_row _ _ _ _ _ _ HR2.out]; rfl
    have hc1 : W2.cell? ⟨g, 1, none⟩ = some (.int .i64 ((i : Int) + 1)) := by rw [cell_of_row _ _ _ _ _ _ HR2.out]; rfl
    have hz2 : W2.cell? (x.add i) = some (.int .i64 z) := by
      rw [World.cell?_of_block (HG2.out.block _ (lt_cell HZ.out) (by rw [add_blockF]; exact fun e => HNE.out (Option.some.inj e)))]
      exact HZ.out
    have HS := Box.mk (show Src W2 g (some x) n c from ⟨⟨i + 1, hlt, HR2.out⟩, HN.out, HI.out.grown HG2.out (fun y e h e2 => HA.out y e h (Option.some.inj e2)), HA.out⟩)
    obtain ⟨k, hk, hwk⟩ := withI_range z m h0 hm
    have HWK := Box.mk hwk
    clear hwk
    go_quiet ((go_at_call 10; exact Calls.quiet_of_same (withinF _ _ _ h0 hm)))
    go_wp2
    go_ret
    exact ⟨k, hk, ret_int HWK.out, HS.out.keep (below_drewN (Below.refl _ _) _), grownBy_trans HG2.out ⟨rfl, rfl, rfl, Nat.le_refl _, fun _ _ _ => rfl⟩⟩
  · have hd : decide (n ≤ i) = true := by simp; omega
    go_wp2_with fail
    go_quiet (fail)
    go_wp2
    go_ret
    exact ⟨0, h0, rfl, H0.out.keep (below_drewN (Below.refl _ _) _), ⟨rfl, rfl, rfl, Nat.le_refl _, fun _ _ _ => rfl⟩⟩

set_option maxHeartbeats 1000000 in
theorem of_any (g b : Nat) (l : List ByteArray) (cb : Nat) (a : Option Addr) (n c : Nat) (w : World) (h : Src w g a n c) (hl : StrsIn w (some ⟨b, 0, none⟩) l) (hb : b ≠ g) (h0 : 0 < l.length) (h1 : l.length ≤ 1000) :
    Calls Tryz.prog 34 #[.pointer (some ⟨g, 0, none⟩), .slice (some ⟨b, 0, none⟩) l.length cb] w fun e w' => ∃ s ∈ l, e = .returned (.string s) ∧ Src w' g a n c ∧ w.grownBy w' (some g) := by
  have HL := Box.mk hl
  have HB := Box.mk hb
  clear hl hb
  go_enter Tryz.func34, Tryz.ntmps34
  go_wp2_with fail
  refine (next_any g l.length a n c w h h0 (by omega)).mono ?_
  rintro e w1 ⟨k, hk, rfl, hs, hg⟩
  obtain ⟨x, hx, hc⟩ := HL.out k hk
  obtain rfl := Option.some.inj hx
  have hc1 : w1.cell? ((⟨b, 0, none⟩ : Addr).add k) = some (.string l[k]) := by
    rw [World.cell?_of_block (hg.block _ (lt_cell hc) (by rw [add_blockF]; exact fun e => HB.out (Option.some.inj e)))]
    exact hc
  rw [Addr.add_lit, Nat.zero_add] at hc1
  have HS := Box.mk hs
  have HG := Box.mk hg
  have HMEM := Box.mk (List.getElem_mem hk)
  clear hs hg hc hx
  go_wp2_with fail
  go_ret
  exact ⟨_, HMEM.out, rfl, HS.out, HG.out⟩
end Go.Proofs.YteoadfckcilalaaGreatDoor
namespace Go.Proofs.YteoadfckcilalaaGreatDoor
open Go.RowKit

def namesF : List ByteArray := [⟨#[88, 45, 65]⟩, ⟨#[120, 45, 97]⟩, ⟨#[88, 45, 66]⟩, ⟨#[65, 99, 99, 101, 112, 116]⟩, ⟨#[67, 111, 110, 110, 101, 99, 116, 105, 111, 110]⟩, ⟨#[86, 105, 97]⟩, ⟨#[67, 111, 111, 107, 105, 101]⟩, ⟨#[84, 69]⟩, ⟨#[75, 101, 101, 112, 45, 65, 108, 105, 118, 101]⟩, ⟨#[88, 45, 70, 111, 114, 119, 97, 114, 100, 101, 100, 45, 70, 111, 114]⟩, ⟨#[68, 97, 116, 101]⟩, ⟨#[69, 84, 97, 103]⟩, ⟨#[85, 112, 103, 114, 97, 100, 101]⟩, ⟨#[88, 45, 83, 104, 97, 100, 111, 119]⟩]
def valsF : List ByteArray := [⟨#[]⟩, ⟨#[49]⟩, ⟨#[97, 44, 32, 98]⟩, ⟨#[120, 45, 97]⟩, ⟨#[99, 108, 111, 115, 101]⟩, ⟨#[107, 101, 101, 112, 45, 97, 108, 105, 118, 101]⟩, ⟨#[88, 45, 66, 44, 32, 116, 101]⟩, ⟨#[99, 111, 104, 111, 114, 116, 61, 48, 49, 50, 51, 52, 53, 54, 55, 56, 57, 97, 98, 99, 100, 101, 102]⟩, ⟨#[107, 61, 118, 59, 32, 99, 111, 104, 111, 114, 116, 61, 48, 48, 48, 48, 48, 48, 48, 48, 48, 48, 48, 48, 48, 48, 102, 102]⟩, ⟨#[49, 46, 49, 32, 111, 116, 104, 101, 114]⟩, ⟨#[9, 63, 128, 59, 61]⟩]
theorem namesF_ok : (namesF.all fun s => tokS s && decide (s.size ≤ 1000)) = true := by decide +kernel
theorem valsF_ok : (valsF.all fun s => valS (trimBA s) && decide (s.size ≤ 1000)) = true := by decide +kernel
theorem strsIn_newF (w : World) (l : List ByteArray) (t : TypeId) : StrsIn (w.alloc (.cells (l.map Value.string).toArray t)) (some ⟨w.heap.size, 0, none⟩) l := fun j hj =>
  ⟨_, rfl, by rw [Addr.add_lit, Nat.zero_add, new_cellF]; simp [hj]⟩
theorem Src.low {w : World} {g : Nat} {a : Option Addr} {n c : Nat} (h : Src w g a n c) : ∀ x, a = some x → 0 < n → x.block < w.heap.size := fun x e h0 => by
  obtain ⟨y, z, e2, hc, _⟩ := h.2.2.1 0 h0
  rw [e] at e2
  obtain rfl := Option.some.inj e2
  have := lt_cell hc
  rw [add_blockF] at this; exact this
theorem Src.other {w w' : World} {g q : Nat} {a : Option Addr} {n c : Nat} (h : Src w g a n c) (hg : w.grownBy w' (some q)) (hq : g ≠ q) (hx : ∀ x, a = some x → 0 < n → x.block ≠ q) : Src w' g a n c :=
  h.grown hg (fun e => hq (Option.some.inj e)) (fun x e h0 e2 => hx x e h0 (Option.some.inj e2))
theorem grownBy_setRowF (w : World) (g : Nat) (cs : Array Value) : w.grownBy (w.setRow g cs) (some g) :=
  ⟨rfl, rfl, rfl, by simp [World.setRow], fun k _ hne => setRow_other w g k cs (fun e => hne (by rw [e]))⟩
theorem FVar.grown {w w' : World} {g : Nat} {n v : ByteArray} {row : Option Nat} (h : FVar w g n v) (hg : w.grownBy w' row) (hne : some g ≠ row) : FVar w' g n v := by
  have hlt := h.lt
  unfold FVar at *
  rw [hg.block g hlt hne]; exact h
theorem of_n (g b m : Nat) (l : List ByteArray) (cb : Nat) (a : Option Addr) (n c : Nat) (w : World) (h : Src w g a n c) (hl : StrsIn w (some ⟨b, 0, none⟩) l) (hb : b ≠ g) (hm : l.length = m) (h0 : 0 < m) (h1 : m ≤ 1000) :
    Calls Tryz.prog 34 #[.pointer (some ⟨g, 0, none⟩), .slice (some ⟨b, 0, none⟩) m cb] w fun e w' => ∃ s ∈ l, e = .returned (.string s) ∧ Src w' g a n c ∧ w.grownBy w' (some g) := by
  subst hm
  exact of_any g b l cb a n c w h hl hb h0 h1

/-- A field that the laws make: valid, and small. -/
def MadeF (f : Fld) : Prop := fldB f.1 f.2 = true ∧ f.1.size ≤ 1000 ∧ f.2.size ≤ 1000
theorem made_of {s v : ByteArray} (hs : s ∈ namesF) (hv : v ∈ valsF) : MadeF (s, trimBA v) := by
  have h1 := List.all_eq_true.1 namesF_ok s hs
  have h2 := List.all_eq_true.1 valsF_ok v hv
  simp only [Bool.and_eq_true, decide_eq_true_eq] at h1 h2
  exact ⟨by rw [fldB_val h1.1]; exact h2.1, h1.2, Nat.le_trans (trimBA_size v) h2.2⟩

/-- A field of the source. -/
def SrcF (f : Fld) : Prop := ∃ s ∈ namesF, ∃ v ∈ valsF, f = (s, trimBA v)
theorem SrcF.made {f : Fld} (h : SrcF f) : MadeF f := by
  obtain ⟨s, hs, v, hv, rfl⟩ := h
  exact made_of hs hv

set_option maxRecDepth 100000 in
set_option maxHeartbeats 2000000 in
theorem srcFieldS_any (g : Nat) (a : Option Addr) (n c : Nat) (w : World) (h : Src w g a n c) :
    Calls Tryz.prog 66 #[.pointer (some ⟨g, 0, none⟩)] w fun e w' => ∃ f, e = .returned (.agg #[.string f.1, .string f.2]) ∧ SrcF f ∧ Src w' g a n c ∧ w.grownBy w' (some g) := by
  have H0 := Box.mk h
  have HLOW := Box.mk h.low
  have hlt := h.lt
  clear h
  go_enter Tryz.func66, Tryz.ntmps66
  go_wp2_with fail
  obtain ⟨W, hW⟩ : ∃ W, W = (w.alloc (.cells #[.string ⟨#[]⟩, .string ⟨#[]⟩] 88)).alloc (.cells (namesF.map Value.string).toArray 9) := ⟨_, rfl⟩
  have HBW := Box.mk (show Below w.heap.size w W by rw [hW]; exact below_twoF (below_oneF w _) _)
  have HQ := Box.mk (show FVar W w.heap.size ⟨#[]⟩ ⟨#[]⟩ by rw [hW]; exact (FVar.new w ⟨#[]⟩ ⟨#[]⟩).keep (below_oneF _ _))
  have HL := Box.mk (show StrsIn W (some ⟨w.heap.size + 1, 0, none⟩) namesF by
    have h1 := strsIn_newF (w.alloc (.cells #[.string ⟨#[]⟩, .string ⟨#[]⟩] 88)) namesF 9
    rw [World.size_alloc] at h1
    rw [hW]; exact h1)
  have HS := Box.mk (H0.out.keep HBW.out)
  change Calls _ _ _ ((w.alloc (.cells #[.string ⟨#[]⟩, .string ⟨#[]⟩] 88)).alloc (.cells (namesF.map Value.string).toArray 9)) _
  rw [← hW]
  clear hW
  refine (of_n g (w.heap.size + 1) 14 namesF 14 a n c W HS.out HL.out (by omega) rfl (by decide) (by decide)).mono ?_
  rintro e w1 ⟨s, hs, rfl, hsrc, hg1⟩
  have HNM := Box.mk hs
  have HS1 := Box.mk hsrc
  have HG1 := Box.mk (show w.grownBy w1 (some g) from grownBy_trans (grownBy_below HBW.out) hg1)
  have HQ1 := Box.mk (HQ.out.grown hg1 (fun e => by have := Option.some.inj e; omega))
  clear hs hsrc hg1 HS HL HQ HBW H0
  go_wp2_with fail
  obtain ⟨W, hW⟩ : ∃ W, W = w1.alloc (.cells (valsF.map Value.string).toArray 9) := ⟨_, rfl⟩
  have HBW := Box.mk (show Below w1.heap.size w1 W by rw [hW]; exact below_oneF w1 _)
  have HL := Box.mk (show StrsIn W (some ⟨w1.heap.size, 0, none⟩) valsF by rw [hW]; exact strsIn_newF w1 valsF 9)
  have HS2 := Box.mk (HS1.out.keep HBW.out)
  have hlt1 := HS1.out.lt
  change Calls _ _ _ (w1.alloc (.cells (valsF.map Value.string).toArray 9)) _
  rw [← hW]
  clear hW
  refine (of_n g w1.heap.size 11 valsF 11 a n c W HS2.out HL.out (by omega) rfl (by decide) (by decide)).mono ?_
  rintro e w2 ⟨v, hv, rfl, hsrc, hg2⟩
  have HVL := Box.mk hv
  have HS3 := Box.mk hsrc
  have HG3 := Box.mk (show w.grownBy w2 (some g) from grownBy_trans HG1.out (grownBy_trans (grownBy_below HBW.out) hg2))
  have HQ3 := Box.mk ((HQ1.out.keep HBW.out).grown hg2 (fun e => by have := Option.some.inj e; omega))
  have HMD := Box.mk (show SrcF (s, trimBA v) from ⟨s, HNM.out, v, hv, rfl⟩)
  have HVZ := Box.mk (show v.size ≤ maxLen by
    have h2 := List.all_eq_true.1 valsF_ok v hv
    simp only [Bool.and_eq_true, decide_eq_true_eq] at h2
    unfold maxLen; omega)
  clear hv hsrc hg2 HS2 HL HQ1 HBW HS1 HG1 HNM HVL
  go_wp2_with fail
  refine (refTrim_any v _ HVZ.out).mono ?_
  rintro e w3 ⟨rfl, rfl⟩
  generalize trimBA v = v' at *
  go_wp2_with (refine wpList_store_row rfl 88 _ _ rfl w.heap.size #[.string s, .string v'] rfl rfl 88 _ HQ3.out sizeF rfl (oneF _ _) ?_)
  (try simp only [Exit.inBlock, Exit.then])
  refine bodyPost_ret (results_cell_row rfl _ _ w.heap.size _ _ _ _ rfl (setRow_heap _ _ _ _ _ _ HQ3.out) Tryz.underlying88 rfl sizeF) rfl ?_
  have hnew := grownBy_setRowF w2 w.heap.size #[.string s, .string v']
  exact ⟨(s, v'), rfl, HMD.out, HS3.out.other hnew (by omega) (fun x e h0 => by have := HLOW.out x e h0; omega), grownBy_new HG3.out hnew (fun i e => by have := Option.some.inj e; omega)⟩
end Go.Proofs.YteoadfckcilalaaGreatDoor
namespace Go.Proofs.YteoadfckcilalaaGreatDoor
open Go.RowKit

/-- v is a slice with the fields l in a block of its own, at B or beyond. -/
def OwnF (B : Nat) (w : World) (v : Value) (l : List Fld) : Prop := w.ownsRow B 88 2 v l.length (cellsF l)
theorem OwnF.start (B : Nat) (w : World) : OwnF B w (.slice none 0 0) [] := World.ownsRow_nil _ _ _ _
theorem OwnF.lt {B : Nat} {w : World} {v : Value} {l : List Fld} (h : OwnF B w v l) {k : Nat} (hk : v.ownBlock = some k) : B ≤ k ∧ k < w.heap.size := World.ownsRow.lt h k hk
theorem OwnF.same {B : Nat} {w w' : World} {v : Value} {l : List Fld} (h : OwnF B w v l) (hs : ∀ k, v.ownBlock = some k → w'.heap[k]? = w.heap[k]?) : OwnF B w' v l := by
  obtain ⟨h1, h2⟩ := h
  refine ⟨h1, ?_⟩
  rcases h2 with h2 | ⟨g, cap, cur, hv, hg, hc, r⟩
  · exact .inl h2
  · exact .inr ⟨g, cap, cur, hv, hg, by rw [hs g (by rw [hv]; rfl)]; exact hc, r⟩
theorem OwnF.keep {B : Nat} {w w' : World} {v : Value} {l : List Fld} (h : OwnF B w v l) (hb : Below w.heap.size w w') : OwnF B w' v l :=
  h.same fun k hk => hb.block k (h.lt hk).2
theorem OwnF.grown {B : Nat} {w w' : World} {v : Value} {l : List Fld} {row : Option Nat} (h : OwnF B w v l) (hg : w.grownBy w' row) (hne : ∀ k, v.ownBlock = some k → some k ≠ row) : OwnF B w' v l :=
  h.same fun k hk => hg.block k (h.lt hk).2 (hne k hk)
theorem OwnF.shape {B : Nat} {w : World} {v : Value} {l : List Fld} (h : OwnF B w v l) : ∃ a cap, v = .slice a l.length cap ∧ FldsC w a l cap ∧ l.length ≤ cap := by
  obtain ⟨h1, h2⟩ := h
  rcases h2 with ⟨rfl, h2⟩ | ⟨g, cap, cur, rfl, hg, hc, hcap, hm, hsz, ht⟩
  · have : l = [] := List.eq_nil_of_length_eq_zero h2
    subst this
    exact ⟨none, 0, rfl, ⟨FldsIn.nil _ _, fun _ => ⟨rfl, rfl⟩⟩, Nat.le_refl _⟩
  · refine ⟨_, cap, rfl, ⟨FldsIn.of_cells fun j u hj => ?_, fun e => by cases e⟩, hcap⟩
    have e := congrArg (fun x => x[j]?) ht
    have hlt : j < l.length * 2 := by rw [← cellsF_len]; exact (List.getElem?_eq_some_iff.1 hj).1
    rw [hj, List.getElem?_take_of_lt hlt] at e
    rw [Addr.add_lit]
    simp only [World.cell?, hc, Nat.zero_add]
    simpa using e
section
variable {ops : Array Oper} {rest : List Oper} {o : Oper} {act : Act} {Q : Exit → Act → World → Prop}
theorem wpList_append_ownf (w : World) (hgd : o.guard = none) (s x : Operand) (ho : o.op = .call { callee := .builtin .append, args := #[s, x], argTypes := #[27, 27] })
    {B : Nat} {v : Value} {l : List Fld} (hs : act.eval s = v) (h : OwnF B w v l) {b c : Nat} (hx : act.eval x = .slice (some ⟨b, 0, none⟩) 1 c) {y : Fld} (hy : w.cell? ⟨b, 0, none⟩ = some (.string y.1)) (hy2 : w.cell? ⟨b, 1, none⟩ = some (.string y.2))
    (hn : l.length + 1 ≤ 4398046511104) (hB : B ≤ w.heap.size)
    (K : ∀ v' w', OwnF B w' v' (l ++ [y]) → w.grownBy w' v.ownBlock → wpList Tryz.prog ops Q rest (act.put o.dst v') w') : wpList Tryz.prog ops Q (o :: rest) act w := by
  obtain ⟨i0, hi, hz0, hz1, hz2⟩ := info_parts Tryz.info88
  refine wpList_append_lies w hgd s x 27 ho B 88 i0 _ 2 32 Tryz.underlying27 hi hz0 hz1 hz2 rfl (by decide) v l.length (cellsF l) hs h ⟨b, 0, none⟩ 1 c [.string y.1, .string y.2] hx rfl ?_ ?_ (by decide) (by unfold maxLen; omega) (by omega) hB w.heap.size rfl ?_
  · intro j u hj
    match j, hj with
    | 0, hj => simp at hj; subst hj; rw [Addr.add_lit]; exact hy
    | 1, hj => simp at hj; subst hj; rw [Addr.add_lit]; exact hy2
    | j + 2, hj => simp at hj
  · intro u hu; simp at hu; rcases hu with rfl | rfl <;> rfl
  · intro g cap w' hown hgrow hg hlt
    refine K _ w' ?_ hgrow
    unfold OwnF
    rw [List.length_append, cellsF_app]; exact hown
end

set_option maxRecDepth 100000 in
set_option maxHeartbeats 2000000 in
theorem srcFieldsS_any (g m : Nat) (a : Option Addr) (n c : Nat) (w : World) (h : Src w g a n c) (hm : m ≤ 1000) :
    Calls Tryz.prog 43 #[.pointer (some ⟨g, 0, none⟩), .int .i64 m] w fun e w' => ∃ v l, e = .returned v ∧ OwnF w.heap.size w' v l ∧ l.length ≤ m ∧ (∀ f ∈ l, SrcF f) ∧ Src w' g a n c ∧ w.grownBy w' (some g) := by
  have H0 := Box.mk h
  have HLOW := Box.mk h.low
  have hlt := h.lt
  clear h
  go_enter Tryz.func43, Tryz.ntmps43
  go_wp2_with fail
  refine (next_any g (m + 1) a n c w H0.out (by omega) (by omega)).mono ?_
  rintro e w1 ⟨k, hk, rfl, hsrc, hg1⟩
  have HS1 := Box.mk hsrc
  have HG1 := Box.mk hg1
  clear hsrc hg1 H0
  go_wp2_with fail
  go_loopw [5, 6] (fun v iv wr => ∃ j : Nat, j ≤ m ∧ iv = .int .i64 j ∧ ∃ l : List Fld, l.length + j ≤ m ∧ Box (OwnF w.heap.size wr v l ∧ (∀ f ∈ l, SrcF f) ∧ Src wr g a n c ∧ w.grownBy wr (some g))) (fun _ iv _ => (intOf iv).toNat)
  case atStart => exact ⟨k, by omega, rfl, [], by simp; omega, ⟨OwnF.start _ _, by simp, HS1.out, HG1.out⟩⟩
  case round =>
    clear HS1 HG1
    obtain ⟨j, hj, rfl, l, hl, HM⟩ := hrel
    by_cases hpos : 0 < j
    · go_wp2_with fail
      refine (srcFieldS_any g a n c wr HM.out.2.2.1).mono ?_
      rintro e w2 ⟨f, rfl, hmd, hsrc, hg2⟩
      have HO2 := Box.mk (HM.out.1.grown hg2 (fun q e e2 => by have := (HM.out.1.lt e).1; have := Option.some.inj e2; omega))
      have HS2 := Box.mk hsrc
      have HG2 := Box.mk (grownBy_trans HM.out.2.2.2 hg2)
      have HALL := Box.mk (show ∀ y ∈ l ++ [f], SrcF y from fun y hy => by
        rcases List.mem_append.1 hy with h1 | h1
        · exact HM.out.2.1 y h1
        · simp at h1; rw [h1]; exact hmd)
      have hsz := HG2.out.size
      clear hmd hsrc hg2 HM
      go_wp2_with (at_builtin; refine wpList_append_ownf _ rfl _ _ rfl rfl (HO2.out.keep ((Below.refl _ _).alloc (Nat.le_refl _) _)) rfl (y := f) ?c1 ?c2 (by omega) (by simp; omega) ?c3)
      case c1 => simp
      case c2 => simp
      case c3 =>
        intro v' w3 hown hgrow
        have HO3 := Box.mk hown
        have hgrow2 : w2.grownBy w3 u5.ownBlock := ⟨hgrow.os, hgrow.tape, hgrow.output, Nat.le_trans (by simp) hgrow.size, fun k hk hne => by
          rw [hgrow.block k (by simp; omega) hne]
          exact (below_oneF w2 _).block k hk⟩
        have HS3 := Box.mk (HS2.out.grown hgrow2 (fun e => by have := (HO2.out.lt e.symm).1; omega) (fun x e h0 e2 => by have := (HO2.out.lt e2.symm).1; have := HLOW.out x e h0; omega))
        have HG3 := Box.mk (grownBy_new HG2.out hgrow2 (fun i e => (HO2.out.lt e).1))
        clear hown hgrow hgrow2 HO2 HS2 HG2
        go_wp2_with fail
        go_roundw
        case rel => exact ⟨j - 1, by omega, by go_num, l ++ [f], by simp; omega, ⟨HO3.out, HALL.out, HS3.out, HG3.out⟩⟩
        case measure => simp [intOf]; omega
    · obtain rfl : j = 0 := by omega
      go_wp2_with fail
      go_ret
      exact ⟨_, l, rfl, HM.out.1, by omega, HM.out.2.1, HM.out.2.2.1, HM.out.2.2.2⟩
end Go.Proofs.YteoadfckcilalaaGreatDoor
namespace Go.Proofs.YteoadfckcilalaaGreatDoor
open Go.RowKit

/-- The value of a digit; 16 for any other byte. -/
def dv (c : Int) : Int := if 48 ≤ c ∧ c ≤ 57 then c - 48 else if 97 ≤ c ∧ c ≤ 102 then c - 87 else if 65 ≤ c ∧ c ≤ 70 then c - 55 else 16
theorem dv_bd (c : Int) : 0 ≤ dv c ∧ dv c ≤ 16 := by unfold dv; (repeat' split) <;> omega
def numB (b : Int) (c : UInt8) : Bool := decide (dv c.toNat < b)
def numS (b : Int) (s : ByteArray) : Bool := s.data.toList.all (numB b) && !s.data.toList.isEmpty
/-- What is read of the digits, from acc on, with the limit most. -/
def pgo (b most : Int) : Int → List UInt8 → Int × Int
  | acc, [] => (acc, 0)
  | acc, c :: r => if dv c.toNat > most ∨ acc > (most - dv c.toNat) / b then (0, 3) else pgo b most (acc * b + dv c.toNat) r
def parseS (b most : Int) (s : ByteArray) : Int × Int := if numS b s then pgo b most 0 s.data.toList else (0, 2)
theorem pgo_no {b most acc : Int} {c : UInt8} {r : List UInt8} (h : dv c.toNat > most ∨ acc > (most - dv c.toNat) / b) : pgo b most acc (c :: r) = (0, 3) := by rw [pgo, if_pos h]
theorem pgo_go {b most acc : Int} {c : UInt8} {r : List UInt8} (h1 : dv c.toNat ≤ most) (h2 : acc ≤ (most - dv c.toNat) / b) : pgo b most acc (c :: r) = pgo b most (acc * b + dv c.toNat) r := by rw [pgo, if_neg (by omega)]
theorem drop_cons (s : ByteArray) (k : Nat) (h : k < s.size) : s.data.toList.drop k = s[k] :: s.data.toList.drop (k + 1) := by
  rw [List.drop_eq_getElem_cons (by simpa using h)]; rfl

/-- The value of digits. -/
def vgo (b : Int) : Int → List UInt8 → Int
  | acc, [] => acc
  | acc, c :: r => vgo b (acc * b + dv c.toNat) r
theorem mul_ge (b acc : Int) (hb : 1 ≤ b) (ha : 0 ≤ acc) : acc ≤ acc * b := by
  have := Int.mul_le_mul_of_nonneg_left hb ha; omega
theorem vgo_ge (b : Int) (hb : 1 ≤ b) : ∀ (l : List UInt8) (acc : Int), 0 ≤ acc → acc ≤ vgo b acc l
  | [], acc, _ => Int.le_refl _
  | c :: l, acc, ha => by
    have h1 := mul_ge b acc hb ha
    have h2 := dv_bd c.toNat
    have h3 := vgo_ge b hb l (acc * b + dv c.toNat) (by omega)
    rw [vgo]; omega
theorem pgo_eq (b most : Int) (hb : 1 ≤ b) : ∀ (l : List UInt8) (acc : Int), 0 ≤ acc → (acc ≤ most ∨ l ≠ []) → pgo b most acc l = if vgo b acc l ≤ most then (vgo b acc l, 0) else (0, 3)
  | [], acc, ha, h => by
    rcases h with h | h
    · rw [pgo, vgo, if_pos h]
    · exact absurd rfl h
  | c :: l, acc, ha, _ => by
    have h1 := mul_ge b acc hb ha
    have h2 := dv_bd c.toNat
    have hge := vgo_ge b hb l (acc * b + dv c.toNat) (by omega)
    have hiff : acc ≤ (most - dv c.toNat) / b ↔ acc * b ≤ most - dv c.toNat := Int.le_ediv_iff_mul_le (by omega)
    rw [pgo, vgo]
    by_cases h : dv c.toNat > most ∨ acc > (most - dv c.toNat) / b
    · rw [if_pos h, if_neg]
      rcases h with h | h
      · omega
      · have : ¬ acc * b ≤ most - dv c.toNat := fun hh => by have := hiff.2 hh; omega
        omega
    · have hm : acc * b ≤ most - dv c.toNat := hiff.1 (by omega)
      rw [if_neg h]
      exact pgo_eq b most hb l _ (by omega) (.inl (by omega))

/-- The byte of a digit. -/
def dgc (d : Nat) : UInt8 := if d < 10 then UInt8.ofNat (48 + d) else UInt8.ofNat (87 + d)
/-- The digits of n to base b (the step: f is fuel that is never used up). -/
def digsF (b : Nat) : Nat → Nat → List UInt8
  | 0, n => [dgc (n % b)]
  | f + 1, n => if n < b then [dgc n] else digsF b f (n / b) ++ [dgc (n % b)]
def digs (b n : Nat) : List UInt8 := digsF b n n
theorem digsF_fuel (b : Nat) (hb : 2 ≤ b) : ∀ (f n : Nat), n ≤ f → digsF b f n = digsF b n n
  | 0, n, h => by obtain rfl : n = 0 := by omega
                  rfl
  | f + 1, n, h => by
    match n with
    | 0 => simp [digsF, show 0 < b by omega]
    | n + 1 =>
      have hd : (n + 1) / b ≤ n := by
        have : (n + 1) / b < n + 1 := Nat.div_lt_self (by omega) (by omega)
        omega
      simp only [digsF]
      rw [digsF_fuel b hb f _ (by omega), digsF_fuel b hb n _ hd]
theorem digs_small {b n : Nat} (h : n < b) : digs b n = [dgc n] := by
  unfold digs
  match n with
  | 0 => rw [digsF, Nat.zero_mod]
  | n + 1 => rw [digsF, if_pos h]
theorem digs_big {b n : Nat} (hb : 2 ≤ b) (h : ¬ n < b) : digs b n = digs b (n / b) ++ [dgc (n % b)] := by
  unfold digs
  match n with
  | 0 => omega
  | n + 1 =>
    have hd : (n + 1) / b ≤ n := by
      have : (n + 1) / b < n + 1 := Nat.div_lt_self (by omega) (by omega)
      omega
    rw [digsF, if_neg h, digsF_fuel b hb n _ hd]
theorem digs_dec (n : Nat) : digs 10 n = Lib.decDigits n := by
  induction n using Nat.strongRecOn with
  | _ n ih =>
    by_cases h : n < 10
    · rw [digs_small h, Lib.decDigits, dif_pos h]; unfold dgc; rw [if_pos h]
    · rw [digs_big (by omega) h, Lib.decDigits, dif_neg h, ih _ (by omega)]
      congr 1; unfold dgc; rw [if_pos (by omega)]
def numeral (b n : Nat) : ByteArray := ⟨(digs b n).toArray⟩
end Go.Proofs.YteoadfckcilalaaGreatDoor
namespace Go.Proofs.YteoadfckcilalaaGreatDoor
open Go.RowKit

theorem ret_pair {k : IntKind} {a b : Int} {p : Int × Int} (h : p = (a, b)) : Ending.returned (.tuple #[.int .i64 a, .int k b]) = .returned (.tuple #[.int .i64 p.1, .int k p.2]) := by rw [h]

set_option maxHeartbeats 400000 in
theorem numDigit_any (c : Int) (w : World) (h0 : 0 ≤ c) (h1 : c ≤ 255) :
    Calls Tryz.prog 236 #[.int .u8 c] w fun e w' => e = .returned (.int .i64 (dv c)) ∧ w = w' := by
  go_enter Tryz.func236, Tryz.ntmps236
  go_wp2
  all_goals go_ret
  all_goals exact ⟨ret_int (by unfold dv; (repeat' split) <;> omega), rfl⟩

theorem numS_no {b : Int} {s : ByteArray} {k : Nat} (hlt : k < s.size) (hc : numB b s[k] = false) : numS b s = false := by
  unfold numS
  have : s.data.toList.all (numB b) = false := by
    rw [Bool.eq_false_iff]; intro h
    have := List.all_eq_true.1 h _ (mem_at s k hlt); rw [hc] at this; cases this
  rw [this]; rfl
theorem numS_yes {b : Int} {s : ByteArray} {k : Nat} (hk : k ≤ s.size) (hlt : ¬ k < s.size) (h : (s.data.toList.take k).all (numB b) = true) : numS b s = !s.data.toList.isEmpty := by
  rw [take_all s k hk hlt] at h; unfold numS; rw [h]; rfl

set_option maxHeartbeats 400000 in
theorem isNumeral_any (s : ByteArray) (b : Int) (w : World) (hs : s.size ≤ maxLen) :
    Calls Tryz.prog 235 #[.string s, .int .i64 b] w fun e w' => e = .returned (.bool (numS b s)) ∧ w = w' := by
  unfold maxLen at hs
  go_enter Tryz.func235, Tryz.ntmps235
  go_wp2
  go_loop [8] (fun i => ∃ k : Nat, k ≤ s.size ∧ i = .int .i64 k ∧ Hid ((s.data.toList.take k).all (numB b) = true)) (fun i => s.size - (intOf i).toNat)
  case atStart => exact ⟨0, Nat.zero_le _, rfl, Lib.hid (by simp)⟩
  case round =>
    obtain ⟨k, hk, rfl, HP⟩ := hrel
    by_cases hlt : k < s.size
    · have b1 : (s[k].toNat : Int) ≤ 255 := by have := s[k].toNat_lt; omega
      by_cases hc : b ≤ dv s[k].toNat
      · go_wp2_with (go_at_call 236; refine (numDigit_any _ _ (by omega) (by omega)).mono ?_; rintro e w' ⟨rfl, rfl⟩)
        go_ret
        exact ⟨ret_bool (numS_no hlt (by unfold numB; simpa using hc)).symm, rfl⟩
      · go_wp2_with (go_at_call 236; refine (numDigit_any _ _ (by omega) (by omega)).mono ?_; rintro e w' ⟨rfl, rfl⟩)
        go_round
        case rel => exact ⟨k + 1, by omega, by go_num, Lib.hid (by rw [take_snoc s k hlt, List.all_append, HP.out]; unfold numB; simpa using hc)⟩
        case measure => simp [intOf]; omega
    · go_wp2
      go_ret
      exact ⟨ret_bool (by rw [numS_yes hk hlt HP.out]; simp [toList_isEmpty]), rfl⟩

set_option maxHeartbeats 1000000 in
theorem numParse_yes10 (s : ByteArray) (most : Int) (w : World) (hs : s.size ≤ maxLen) (hn : numS 10 s = true) (hm0 : -9223372036854775808 ≤ most) (hm1 : most ≤ 9223372036854775807) :
    Calls Tryz.prog 218 #[.string s, .int .i64 10, .int .i64 most] w fun e w' => e = .returned (.tuple #[.int .i64 (parseS 10 most s).1, .int .i64 (parseS 10 most s).2]) ∧ w = w' := by
  unfold maxLen at hs
  have hp : parseS 10 most s = pgo 10 most 0 s.data.toList := by unfold parseS; rw [if_pos hn]
  have HP := Lib.hid hp
  clear hp
  go_enter Tryz.func218, Tryz.ntmps218
  go_wp2_with (go_at_call 235; refine (isNumeral_any _ _ _ (by unfold maxLen; omega)).mono ?_; rintro e w' ⟨rfl, rfl⟩)
  go_loop [8, 17] (fun n i => ∃ (k : Nat) (acc : Int), k ≤ s.size ∧ i = .int .i64 k ∧ n = .int .i64 acc ∧ 0 ≤ acc ∧ acc ≤ 9223372036854775807 ∧ Hid (parseS 10 most s = pgo 10 most acc (s.data.toList.drop k))) (fun _ i => s.size - (intOf i).toNat)
  case atStart => exact ⟨0, 0, Nat.zero_le _, rfl, rfl, by omega, by omega, Lib.hid (by rw [HP.out]; rfl)⟩
  case round =>
    obtain ⟨k, acc, hk, rfl, rfl, ha0, ha1, HG⟩ := hrel
    by_cases hlt : k < s.size
    · have b1 : (s[k].toNat : Int) ≤ 255 := by have := s[k].toNat_lt; omega
      have b2 := dv_bd s[k].toNat
      obtain ⟨b20, b21⟩ := b2
      by_cases hd : dv s[k].toNat ≤ most
      · by_cases hq : acc ≤ (most - dv s[k].toNat) / 10
        · go_wp2_with (go_at_call 236; refine (numDigit_any _ _ (by omega) (by omega)).mono ?_; rintro e w' ⟨rfl, rfl⟩)
          go_round
          case rel => exact ⟨k + 1, _, by omega, by go_num, rfl, by omega, by omega, Lib.hid (by rw [HG.out, drop_cons s k hlt, pgo_go hd hq])⟩
          case measure => simp [intOf]; omega
        · go_wp2_with (go_at_call 236; refine (numDigit_any _ _ (by omega) (by omega)).mono ?_; rintro e w' ⟨rfl, rfl⟩)
          go_ret2
          exact ⟨ret_pair (by rw [HG.out, drop_cons s k hlt, pgo_no (.inr (by omega))]), rfl⟩
      · go_wp2_with (go_at_call 236; refine (numDigit_any _ _ (by omega) (by omega)).mono ?_; rintro e w' ⟨rfl, rfl⟩)
        go_ret2
        exact ⟨ret_pair (by rw [HG.out, drop_cons s k hlt, pgo_no (.inl (by omega))]), rfl⟩
    · go_wp2
      go_ret2
      exact ⟨ret_pair (by rw [HG.out, List.drop_of_length_le (by simp; omega)]; rfl), rfl⟩

set_option maxHeartbeats 1000000 in
theorem numParse_yes16 (s : ByteArray) (most : Int) (w : World) (hs : s.size ≤ maxLen) (hn : numS 16 s = true) (hm0 : -9223372036854775808 ≤ most) (hm1 : most ≤ 9223372036854775807) :
    Calls Tryz.prog 218 #[.string s, .int .i64 16, .int .i64 most] w fun e w' => e = .returned (.tuple #[.int .i64 (parseS 16 most s).1, .int .i64 (parseS 16 most s).2]) ∧ w = w' := by
  unfold maxLen at hs
  have hp : parseS 16 most s = pgo 16 most 0 s.data.toList := by unfold parseS; rw [if_pos hn]
  have HP := Lib.hid hp
  clear hp
  go_enter Tryz.func218, Tryz.ntmps218
  go_wp2_with (go_at_call 235; refine (isNumeral_any _ _ _ (by unfold maxLen; omega)).mono ?_; rintro e w' ⟨rfl, rfl⟩)
  go_loop [8, 17] (fun n i => ∃ (k : Nat) (acc : Int), k ≤ s.size ∧ i = .int .i64 k ∧ n = .int .i64 acc ∧ 0 ≤ acc ∧ acc ≤ 9223372036854775807 ∧ Hid (parseS 16 most s = pgo 16 most acc (s.data.toList.drop k))) (fun _ i => s.size - (intOf i).toNat)
  case atStart => exact ⟨0, 0, Nat.zero_le _, rfl, rfl, by omega, by omega, Lib.hid (by rw [HP.out]; rfl)⟩
  case round =>
    obtain ⟨k, acc, hk, rfl, rfl, ha0, ha1, HG⟩ := hrel
    by_cases hlt : k < s.size
    · have b1 : (s[k].toNat : Int) ≤ 255 := by have := s[k].toNat_lt; omega
      have b2 := dv_bd s[k].toNat
      obtain ⟨b20, b21⟩ := b2
      by_cases hd : dv s[k].toNat ≤ most
      · by_cases hq : acc ≤ (most - dv s[k].toNat) / 16
        · go_wp2_with (go_at_call 236; refine (numDigit_any _ _ (by omega) (by omega)).mono ?_; rintro e w' ⟨rfl, rfl⟩)
          go_round
          case rel => exact ⟨k + 1, _, by omega, by go_num, rfl, by omega, by omega, Lib.hid (by rw [HG.out, drop_cons s k hlt, pgo_go hd hq])⟩
          case measure => simp [intOf]; omega
        · go_wp2_with (go_at_call 236; refine (numDigit_any _ _ (by omega) (by omega)).mono ?_; rintro e w' ⟨rfl, rfl⟩)
          go_ret2
          exact ⟨ret_pair (by rw [HG.out, drop_cons s k hlt, pgo_no (.inr (by omega))]), rfl⟩
      · go_wp2_with (go_at_call 236; refine (numDigit_any _ _ (by omega) (by omega)).mono ?_; rintro e w' ⟨rfl, rfl⟩)
        go_ret2
        exact ⟨ret_pair (by rw [HG.out, drop_cons s k hlt, pgo_no (.inl (by omega))]), rfl⟩
    · go_wp2
      go_ret2
      exact ⟨ret_pair (by rw [HG.out, List.drop_of_length_le (by simp; omega)]; rfl), rfl⟩

set_option maxHeartbeats 1000000 in
theorem numParse_any (s : ByteArray) (b most : Int) (w : World) (hs : s.size ≤ maxLen) (hb : b = 10 ∨ b = 16) (hm0 : -9223372036854775808 ≤ most) (hm1 : most ≤ 9223372036854775807) :
    Calls Tryz.prog 218 #[.string s, .int .i64 b, .int .i64 most] w fun e w' => e = .returned (.tuple #[.int .i64 (parseS b most s).1, .int .i64 (parseS b most s).2]) ∧ w = w' := by
  by_cases hn : numS b s = true
  · rcases hb with rfl | rfl
    · exact numParse_yes10 s most w hs hn hm0 hm1
    · exact numParse_yes16 s most w hs hn hm0 hm1
  · unfold maxLen at hs
    have hn' : numS b s = false := by simpa using hn
    clear hn
    have hp : parseS b most s = (0, 2) := by unfold parseS; rw [hn']; rfl
    have HP := Lib.hid hp
    clear hp
    go_enter Tryz.func218, Tryz.ntmps218
    go_wp2_with (go_at_call 235; refine (isNumeral_any _ _ _ (by unfold maxLen; omega)).mono ?_; rintro e w' ⟨rfl, rfl⟩)
    go_ret2
    exact ⟨ret_pair HP.out, rfl⟩

theorem parseDecimal_any (s : ByteArray) (most : Int) (w : World) (hs : s.size ≤ maxLen) (hm0 : -9223372036854775808 ≤ most) (hm1 : most ≤ 9223372036854775807) :
    Calls Tryz.prog 198 #[.string s, .int .i64 most] w fun e w' => e = .returned (.tuple #[.int .i64 (parseS 10 most s).1, .int .i64 (parseS 10 most s).2]) ∧ w = w' := by
  go_enter Tryz.func198, Tryz.ntmps198
  go_wp2_with (go_at_call 218; refine (numParse_any _ _ _ _ hs (by omega) hm0 hm1).mono ?_; rintro e w' ⟨rfl, rfl⟩)
  go_ret2
  exact ⟨rfl, rfl⟩
theorem parseHex_any (s : ByteArray) (most : Int) (w : World) (hs : s.size ≤ maxLen) (hm0 : -9223372036854775808 ≤ most) (hm1 : most ≤ 9223372036854775807) :
    Calls Tryz.prog 221 #[.string s, .int .i64 most] w fun e w' => e = .returned (.tuple #[.int .i64 (parseS 16 most s).1, .int .i64 (parseS 16 most s).2]) ∧ w = w' := by
  go_enter Tryz.func221, Tryz.ntmps221
  go_wp2_with (go_at_call 218; refine (numParse_any _ _ _ _ hs (by omega) hm0 hm1).mono ?_; rintro e w' ⟨rfl, rfl⟩)
  go_ret2
  exact ⟨rfl, rfl⟩
end Go.Proofs.YteoadfckcilalaaGreatDoor
namespace Go.Proofs.YteoadfckcilalaaGreatDoor
open Go.RowKit

def hexS : ByteArray := ⟨#[48, 49, 50, 51, 52, 53, 54, 55, 56, 57, 97, 98, 99, 100, 101, 102]⟩
theorem hexS_piece_fin : ∀ d : Fin 16, (hexS.extract d.val (d.val + 1)).data.toList = [dgc d.val] := by decide +kernel
theorem hexS_piece {d : Nat} (h : d < 16) : (⟨#[48, 49, 50, 51, 52, 53, 54, 55, 56, 57, 97, 98, 99, 100, 101, 102]⟩ : ByteArray).extract d (d + 1) = ⟨#[dgc d]⟩ := by
  have := hexS_piece_fin ⟨d, h⟩
  apply ByteArray.ext
  apply Array.toList_inj.1
  exact this
theorem one_cat (c : UInt8) (t : List UInt8) : (⟨#[c]⟩ : ByteArray) ++ ⟨t.toArray⟩ = ⟨(c :: t).toArray⟩ := by
  apply ByteArray.ext; simp

set_option maxHeartbeats 1000000 in
theorem refBase10 (n : Nat) (w : World) (hn : (n : Int) ≤ 9223372036854775807) :
    Calls Tryz.prog 79 #[.int .i64 n, .int .i64 10] w fun e w' => e = .returned (.string (numeral 10 n)) ∧ ∃ j, w' = w.drewN j := by
  go_enter Tryz.func79, Tryz.ntmps79
  go_wp2
  go_loopw [5, 0] (fun s m wr => ∃ (k : Nat) (t : List UInt8) (j : Nat), (t.length : Int) + k ≤ n ∧ (t = [] ∨ 0 < k) ∧ m = .int .i64 k ∧ s = .string ⟨t.toArray⟩ ∧ wr = w.drewN j ∧ Hid (digs 10 n = digs 10 k ++ t)) (fun _ m _ => (intOf m).toNat)
  case atStart => exact ⟨n, [], 0, by simp, .inl rfl, rfl, rfl, by simp [World.drewN_zero], Lib.hid (by simp)⟩
  case round =>
    obtain ⟨k, t, j, hk, hne, rfl, rfl, rfl, HD⟩ := hrel
    have HNE := Lib.hid hne
    have hlen : t.length + 1 ≤ 9223372036854775807 := by
      rcases hne with rfl | h
      · simp
      · omega
    clear hne
    obtain ⟨d, hd⟩ : ∃ d : Nat, k % 10 = d := ⟨_, rfl⟩
    have hd9 : d < 10 := by omega
    have HDD := Lib.hid hd
    have hr : ((k : Int).tmod 10) = (d : Int) := by rw [Int.tmod_eq_emod_of_nonneg (by omega)]; omega
    clear hd
    have hw1 : IntKind.i64.wrap (d : Int) = (d : Int) := IntWalk.i64_in _ (by omega)
    have hw2 : IntKind.i64.wrap ((d : Int) + 1) = (d : Int) + 1 := IntWalk.i64_in _ (by omega)
    have hn1 : ((d : Int) + 1).toNat = d + 1 := by omega
    have hi1 : (0 : Int) ≤ d := by omega
    have hi2 : (0 : Int) ≤ d + 1 := by omega
    have hi3 : (d : Int) + 1 ≤ 16 := by omega
    have hi4 : d + 1 ≤ 16 := by omega
    have hi5 : (d : Int) ≤ d + 1 := by omega
    have hp := hexS_piece (d := d) (by omega)
    have hadd : ∀ W, (Op.stringOp .add ⟨#[dgc d]⟩ ⟨t.toArray⟩).run Tryz.prog W = .ok (.string ⟨(dgc d :: t).toArray⟩) W := fun W => by
      have h := run_string_add_sum (P := Tryz.prog) (w := W) ⟨#[dgc d]⟩ ⟨t.toArray⟩ (by show 1 + (t.toArray).size ≤ _; simp; omega)
      rw [one_cat] at h; exact h
    go_wp2_with fail
    go_quiet (fail)
    clear hr hw1 hw2 hn1 hp hadd hi4
    have hq : (k : Int) / 10 = ((k / 10 : Nat) : Int) := by omega
    by_cases hz : k / 10 = 0
    · have hz1 : (k : Int) / 10 = 0 := by omega
      have HZ := Lib.hid hz
      clear hz hq
      go_wp2
      go_ret
      refine ⟨ret_str ?_, _, rfl⟩
      have hs : k < 10 := by have := HZ.out; omega
      unfold numeral
      rw [HD.out, digs_small hs]
      have : k % 10 = k := Nat.mod_eq_of_lt hs
      rw [← HDD.out, this]; rfl
    · have HZ := Lib.hid hz
      have hz2 : ¬ (k : Int) / 10 = 0 := by omega
      clear hz hq
      go_wp2
      go_roundw
      case rel =>
        have hz := HZ.out
        refine ⟨k / 10, dgc d :: t, _, by simp; omega, .inr (by omega), by first | rfl | simp, rfl, rfl, Lib.hid ?_⟩
        rw [HD.out, digs_big (by omega) (show ¬ k < 10 by omega), ← HDD.out]; simp
      case measure => have hz := HZ.out; simp [intOf]; omega

set_option maxHeartbeats 1000000 in
theorem refBase16 (n : Nat) (w : World) (hn : (n : Int) ≤ 9223372036854775807) :
    Calls Tryz.prog 79 #[.int .i64 n, .int .i64 16] w fun e w' => e = .returned (.string (numeral 16 n)) ∧ ∃ j, w' = w.drewN j := by
  go_enter Tryz.func79, Tryz.ntmps79
  go_wp2
  go_loopw [5, 0] (fun s m wr => ∃ (k : Nat) (t : List UInt8) (j : Nat), (t.length : Int) + k ≤ n ∧ (t = [] ∨ 0 < k) ∧ m = .int .i64 k ∧ s = .string ⟨t.toArray⟩ ∧ wr = w.drewN j ∧ Hid (digs 16 n = digs 16 k ++ t)) (fun _ m _ => (intOf m).toNat)
  case atStart => exact ⟨n, [], 0, by simp, .inl rfl, rfl, rfl, by simp [World.drewN_zero], Lib.hid (by simp)⟩
  case round =>
    obtain ⟨k, t, j, hk, hne, rfl, rfl, rfl, HD⟩ := hrel
    have HNE := Lib.hid hne
    have hlen : t.length + 1 ≤ 9223372036854775807 := by
      rcases hne with rfl | h
      · simp
      · omega
    clear hne
    obtain ⟨d, hd⟩ : ∃ d : Nat, k % 16 = d := ⟨_, rfl⟩
    have hd9 : d < 16 := by omega
    have HDD := Lib.hid hd
    have hr : ((k : Int).tmod 16) = (d : Int) := by rw [Int.tmod_eq_emod_of_nonneg (by omega)]; omega
    clear hd
    have hw1 : IntKind.i64.wrap (d : Int) = (d : Int) := IntWalk.i64_in _ (by omega)
    have hw2 : IntKind.i64.wrap ((d : Int) + 1) = (d : Int) + 1 := IntWalk.i64_in _ (by omega)
    have hn1 : ((d : Int) + 1).toNat = d + 1 := by omega
    have hi1 : (0 : Int) ≤ d := by omega
    have hi2 : (0 : Int) ≤ d + 1 := by omega
    have hi3 : (d : Int) + 1 ≤ 16 := by omega
    have hi4 : d + 1 ≤ 16 := by omega
    have hi5 : (d : Int) ≤ d + 1 := by omega
    have hp := hexS_piece (d := d) (by omega)
    have hadd : ∀ W, (Op.stringOp .add ⟨#[dgc d]⟩ ⟨t.toArray⟩).run Tryz.prog W = .ok (.string ⟨(dgc d :: t).toArray⟩) W := fun W => by
      have h := run_string_add_sum (P := Tryz.prog) (w := W) ⟨#[dgc d]⟩ ⟨t.toArray⟩ (by show 1 + (t.toArray).size ≤ _; simp; omega)
      rw [one_cat] at h; exact h
    go_wp2_with fail
    go_quiet (fail)
    clear hr hw1 hw2 hn1 hp hadd hi4
    have hq : (k : Int) / 16 = ((k / 16 : Nat) : Int) := by omega
    by_cases hz : k / 16 = 0
    · have hz1 : (k : Int) / 16 = 0 := by omega
      have HZ := Lib.hid hz
      clear hz hq
      go_wp2
      go_ret
      refine ⟨ret_str ?_, _, rfl⟩
      have hs : k < 16 := by have := HZ.out; omega
      unfold numeral
      rw [HD.out, digs_small hs]
      have : k % 16 = k := Nat.mod_eq_of_lt hs
      rw [← HDD.out, this]; rfl
    · have HZ := Lib.hid hz
      have hz2 : ¬ (k : Int) / 16 = 0 := by omega
      clear hz hq
      go_wp2
      go_roundw
      case rel =>
        have hz := HZ.out
        refine ⟨k / 16, dgc d :: t, _, by simp; omega, .inr (by omega), by first | rfl | simp, rfl, rfl, Lib.hid ?_⟩
        rw [HD.out, digs_big (by omega) (show ¬ k < 16 by omega), ← HDD.out]; simp
      case measure => have hz := HZ.out; simp [intOf]; omega

def fmtS (b : Nat) (n : Int) : ByteArray := if n < 0 then ⟨#[]⟩ else numeral b n.toNat
theorem below_drewN0 (w : World) (j : Nat) : Below w.heap.size w (w.drewN j) := ⟨rfl, rfl, rfl, Nat.le_refl _, fun _ _ => rfl⟩
theorem refBase_neg (n b : Int) (w : World) (hn : n < 0) :
    Calls Tryz.prog 79 #[.int .i64 n, .int .i64 b] w fun e w' => e = .returned (.string ⟨#[]⟩) ∧ w = w' := by
  go_enter Tryz.func79, Tryz.ntmps79
  go_wp2
  go_ret
  exact ⟨rfl, rfl⟩

theorem refDecimal_any (n : Int) (w : World) (h0 : -9223372036854775808 ≤ n) (h1 : n ≤ 9223372036854775807) :
    Calls Tryz.prog 54 #[.int .i64 n] w fun e w' => e = .returned (.string (fmtS 10 n)) ∧ Below w.heap.size w w' := by
  by_cases hn : n < 0
  · go_enter Tryz.func54, Tryz.ntmps54
    go_wp2_with (go_at_call 79; refine (refBase_neg _ _ _ hn).mono ?_; rintro e w' ⟨rfl, rfl⟩)
    go_ret
    exact ⟨ret_str (by unfold fmtS; rw [if_pos hn]), Below.refl _ _⟩
  · obtain ⟨k, rfl⟩ : ∃ k : Nat, n = k := ⟨n.toNat, by omega⟩
    go_enter Tryz.func54, Tryz.ntmps54
    go_wp2_with (go_at_call 79; refine (refBase10 _ _ (by omega)).mono ?_; rintro e w' ⟨rfl, j, rfl⟩)
    go_ret
    exact ⟨ret_str (by unfold fmtS; rw [if_neg (by omega)]; rfl), below_drewN0 _ _⟩
theorem refHex_any (n : Int) (w : World) (h0 : -9223372036854775808 ≤ n) (h1 : n ≤ 9223372036854775807) :
    Calls Tryz.prog 78 #[.int .i64 n] w fun e w' => e = .returned (.string (fmtS 16 n)) ∧ Below w.heap.size w w' := by
  by_cases hn : n < 0
  · go_enter Tryz.func78, Tryz.ntmps78
    go_wp2_with (go_at_call 79; refine (refBase_neg _ _ _ hn).mono ?_; rintro e w' ⟨rfl, rfl⟩)
    go_ret
    exact ⟨ret_str (by unfold fmtS; rw [if_pos hn]), Below.refl _ _⟩
  · obtain ⟨k, rfl⟩ : ∃ k : Nat, n = k := ⟨n.toNat, by omega⟩
    go_enter Tryz.func78, Tryz.ntmps78
    go_wp2_with (go_at_call 79; refine (refBase16 _ _ (by omega)).mono ?_; rintro e w' ⟨rfl, j, rfl⟩)
    go_ret
    exact ⟨ret_str (by unfold fmtS; rw [if_neg (by omega)]; rfl), below_drewN0 _ _⟩
end Go.Proofs.YteoadfckcilalaaGreatDoor
namespace Go.Proofs.YteoadfckcilalaaGreatDoor
open Go.RowKit

def tgB (c : UInt8) : Bool := decide (33 ≤ (c.toNat : Int)) && decide ((c.toNat : Int) ≤ 126) && !decide ((c.toNat : Int) = 35)
def targetS (s : ByteArray) : Bool := s.data.toList.all tgB && (s.data.toList.head? == some 47)
theorem targetS_no {s : ByteArray} {k : Nat} (hlt : k < s.size) (hc : tgB s[k] = false) : targetS s = false := by
  unfold targetS
  have : s.data.toList.all tgB = false := by
    rw [Bool.eq_false_iff]; intro h
    have := List.all_eq_true.1 h _ (mem_at s k hlt); rw [hc] at this; cases this
  rw [this]; rfl
theorem head_at (s : ByteArray) (h : 0 < s.size) : s.data.toList.head? = some s[0] := by
  rw [List.head?_eq_getElem?, List.getElem?_eq_getElem (by simpa using h)]; rfl
theorem targetS_end {s : ByteArray} {k : Nat} (hk : k ≤ s.size) (hlt : ¬ k < s.size) (h : (s.data.toList.take k).all tgB = true) : targetS s = (s.data.toList.head? == some 47) := by
  unfold targetS
  rw [take_all s k hk hlt] at h
  rw [h]; rfl

set_option maxRecDepth 100000 in
set_option maxHeartbeats 1000000 in
theorem refTarget_any (s : ByteArray) (w : World) (hs : s.size ≤ maxLen) :
    Calls Tryz.prog 101 #[.string s] w fun e w' => e = .returned (.bool (targetS s)) ∧ w = w' := by
  unfold maxLen at hs
  go_enter Tryz.func101, Tryz.ntmps101
  go_wp2
  go_loop [3] (fun i => ∃ k : Nat, k ≤ s.size ∧ i = .int .i64 k ∧ Box ((s.data.toList.take k).all tgB = true)) (fun i => s.size - (intOf i).toNat)
  case atStart => exact ⟨0, Nat.zero_le _, rfl, ⟨by simp⟩⟩
  case round =>
    obtain ⟨k, hk, rfl, HP⟩ := hrel
    by_cases hlt : k < s.size
    · have b1 : (s[k].toNat : Int) ≤ 255 := by have := s[k].toNat_lt; omega
      have hcase : Box (tgB s[k] = true) ∧ 33 ≤ (s[k].toNat : Int) ∧ (s[k].toNat : Int) ≤ 126 ∧ ((s[k].toNat : Int) == 35) = false ∨ Box (tgB s[k] = false) ∧ (s[k].toNat : Int) < 33
          ∨ Box (tgB s[k] = false) ∧ 33 ≤ (s[k].toNat : Int) ∧ 126 < (s[k].toNat : Int) ∨ Box (tgB s[k] = false) ∧ 33 ≤ (s[k].toNat : Int) ∧ (s[k].toNat : Int) ≤ 126 ∧ ((s[k].toNat : Int) == 35) = true := by
        by_cases h1 : 33 ≤ (s[k].toNat : Int)
        · by_cases h2 : (s[k].toNat : Int) ≤ 126
          · by_cases h3 : (s[k].toNat : Int) = 35
            · exact .inr (.inr (.inr ⟨⟨by simp [tgB, h3]⟩, h1, h2, by simp [h3]⟩))
            · exact .inl ⟨⟨by simp [tgB, h1, h2, h3]⟩, h1, h2, by rw [beq_eq_false_iff_ne]; exact h3⟩
          · exact .inr (.inr (.inl ⟨⟨by simp [tgB, h2]⟩, h1, by omega⟩))
        · exact .inr (.inl ⟨⟨by simp [tgB, h1]⟩, by omega⟩)
      rcases hcase with ⟨HC, h1, h2, h3⟩ | ⟨HC, h1⟩ | ⟨HC, h1, h2⟩ | ⟨HC, h1, h2, h3⟩
      · go_wp2
        go_round
        case rel => exact ⟨k + 1, by omega, by go_num, ⟨by rw [take_snoc s k hlt, List.all_append, HP.out]; simpa using HC.out⟩⟩
        case measure => simp [intOf]; omega
      all_goals
        go_wp2
        go_ret
        exact ⟨ret_bool (targetS_no hlt HC.out).symm, rfl⟩
    · have HE := Box.mk (targetS_end hk hlt HP.out)
      by_cases h0 : 0 < s.size
      · have HH := Box.mk (head_at s h0)
        have hne : s.toList.isEmpty = false := by rw [ByteArray.toList_eq]; cases hq : s.data.toList with
          | nil => have h9 : s.data.toList.length = 0 := by rw [hq]; rfl
                   rw [Array.length_toList] at h9
                   exact absurd h0 (by show ¬ 0 < s.data.size; omega)
          | cons _ _ => rfl
        by_cases h47 : s[0] = 47
        · have hb : ((s[0].toNat : Int) == 47) = true := by rw [h47]; rfl
          have HR := Box.mk (show targetS s = true by rw [HE.out, HH.out, h47]; rfl)
          clear h47
          go_wp2
          go_ret
          exact ⟨ret_bool HR.out.symm, rfl⟩
        · have hb : ((s[0].toNat : Int) == 47) = false := by
            rw [Bool.eq_false_iff]; intro h; exact h47 (UInt8.toNat_inj.1 (by simp at h; show s[0].toNat = 47; omega))
          have HR := Box.mk (show targetS s = false by rw [HE.out, HH.out, Bool.eq_false_iff]; intro h; simp at h; exact h47 h)
          clear h47
          go_wp2
          go_ret
          exact ⟨ret_bool HR.out.symm, rfl⟩
      · have he : s = ⟨#[]⟩ := ba_ext (by
          have : s.data.toList.length = 0 := by rw [Array.length_toList]; show s.size = 0; omega
          rw [List.eq_nil_of_length_eq_zero this])
        subst he
        go_wp2
        go_ret
        exact ⟨ret_bool (by decide +kernel), rfl⟩
end Go.Proofs.YteoadfckcilalaaGreatDoor
namespace Go.Proofs.YteoadfckcilalaaGreatDoor
open Go.RowKit

def idxI (c : UInt8) (s : ByteArray) : Int := Lib.indexByte s.data.toList c
theorem idxI_ge (c : UInt8) (s : ByteArray) : -1 ≤ idxI c s := Lib.indexByte_ge _ _
theorem idxI_lt (c : UInt8) (s : ByteArray) {k : Nat} (h : idxI c s = k) : k < s.size := by
  have := (Lib.indexByte_some h).1
  have := (List.getElem?_eq_some_iff.1 this).1
  simpa using this
theorem idxI_at (c : UInt8) (s : ByteArray) (k : Nat) (hk : k < s.size) (h : s[k] = c) (hp : ∀ j, j < k → s.data.toList[j]? ≠ some c) : idxI c s = k := by
  have hge := idxI_ge c s
  have hkk : s.data.toList[k]? = some c := by
    rw [List.getElem?_eq_getElem (by simpa using hk)]
    exact congrArg some h
  by_cases h1 : idxI c s = -1
  · exact absurd hkk (Lib.indexByte_none h1 k)
  · obtain ⟨o, ho⟩ : ∃ o : Nat, idxI c s = o := ⟨(idxI c s).toNat, by omega⟩
    have h2 := Lib.indexByte_some ho
    rw [ho]
    congr 1
    rcases Nat.lt_trichotomy o k with h3 | h3 | h3
    · exact absurd h2.1 (hp o h3)
    · exact h3
    · exact absurd hkk (h2.2 k h3)
def v10 : ByteArray := ⟨#[72, 84, 84, 80, 47, 49, 46, 48]⟩
def v11 : ByteArray := ⟨#[72, 84, 84, 80, 47, 49, 46, 49]⟩
theorem lit10 : ([72, 84, 84, 80, 47, 49, 46, 48] : List UInt8) = v10.toList := by rw [ByteArray.toList_eq]; rfl
theorem lit11 : ([72, 84, 84, 80, 47, 49, 46, 49] : List UInt8) = v11.toList := by rw [ByteArray.toList_eq]; rfl
def minorZ (s : ByteArray) : Int := if s = v10 then 0 else if s = v11 then 1 else -1
end Go.Proofs.YteoadfckcilalaaGreatDoor
namespace Go.Proofs.YteoadfckcilalaaGreatDoor
open Go.RowKit

theorem splitB_lim (sep : ByteArray) (h1 : 1 ≤ sep.size) (save : Nat) : ∀ (k : Nat) (s : ByteArray), Lib.countB s sep ≤ k → Lib.splitB sep save k s = Lib.splitB sep save (Lib.countB s sep) s
  | 0, s, h => by rw [Nat.le_zero.1 h]
  | k + 1, s, h => by
    rcases Lib.indexB_cases s sep with hix | ⟨i, hix, _⟩
    · rw [Lib.splitB_miss sep save _ s hix, Lib.splitB_miss sep save _ s hix]
    · have hc := Lib.countB_hit s sep i h1 hix
      rw [hc, Nat.add_comm 1, Lib.splitB_hit sep save _ s i hix, Lib.splitB_hit sep save _ s i hix, splitB_lim sep h1 save k _ (by omega)]
theorem splitB_more (sep : ByteArray) (h1 : 1 ≤ sep.size) (save : Nat) : ∀ (k : Nat) (s : ByteArray), k ≤ Lib.countB s sep → (Lib.splitB sep save k s).length = k + 1
  | 0, _, _ => rfl
  | k + 1, s, h => by
    rcases Lib.indexB_cases s sep with hix | ⟨i, hix, _⟩
    · rw [Lib.countB_miss s sep hix] at h; omega
    · have hc := Lib.countB_hit s sep i h1 hix
      rw [Lib.splitB_hit sep save _ s i hix, List.length_cons, splitB_more sep h1 save k _ (by omega)]
/-- At most four pieces at blanks. -/
def wordsS (s : ByteArray) : List ByteArray := Lib.splitB ⟨#[32]⟩ 0 (min 4 (s.size + 1) - 1) s
theorem wordsS_eq (s : ByteArray) : wordsS s = splitS 32 s ∨ (wordsS s).length = 4 ∧ (splitS 32 s).length ≠ 3 := by
  unfold wordsS
  rw [← splitB_eq]
  have hz : 1 ≤ (⟨#[32]⟩ : ByteArray).size := by decide
  have hle := Lib.countB_le ⟨#[32]⟩ hz s.size s (Nat.le_refl _)
  by_cases h : Lib.countB s ⟨#[32]⟩ ≤ min 4 (s.size + 1) - 1
  · exact .inl (splitB_lim _ hz _ _ s h)
  · right
    have e : min 4 (s.size + 1) - 1 = 3 := by omega
    rw [e]
    refine ⟨splitB_more _ hz _ 3 s (by omega), ?_⟩
    rw [splitB_more _ hz _ _ s (Nat.le_refl _)]; omega
/-- Bytes that a rune of more than one byte, or a byte that is none, takes: all are at 128 or beyond. -/
theorem decode_skip (s : ByteArray) (pos : Nat) (h : pos < s.size) (ha : 128 ≤ (s[pos]'h).toNat) : pos + (Utf8.decode s pos).2 ≤ s.size ∧ ∀ k, k < (Utf8.decode s pos).2 → ∀ hk : pos + k < s.size, 128 ≤ (s[pos + k]'hk).toNat := by
  have hn : ¬ (s[pos]'h).toNat < 128 := by omega
  have hcont : ∀ k, (decide (pos + k < s.size) && ((s.get! (pos + k)).toNat / 64 == 2)) = true → ∃ hk : pos + k < s.size, 128 ≤ (s[pos + k]'hk).toNat := fun k hk => by
    simp only [Bool.and_eq_true, decide_eq_true_eq, beq_iff_eq] at hk
    obtain ⟨h1, h2⟩ := hk
    refine ⟨h1, ?_⟩
    have e : s.get! (pos + k) = s[pos + k]'h1 := by
      have := get_at s (pos + k) h1
      simpa using this
    rw [e] at h2; omega
  have one : pos + 1 ≤ s.size ∧ ∀ k, k < 1 → ∀ hk : pos + k < s.size, 128 ≤ (s[pos + k]'hk).toNat := ⟨by omega, fun k hk hk2 => by
    obtain rfl : k = 0 := by omega
    exact ha⟩
  simp only [Utf8.decode, get_at s pos h, hn, if_false]
  split
  · rename_i h1
    have h1' := (Bool.and_eq_true _ _ ▸ h1 : _ ∧ _).2
    obtain ⟨k1, g1⟩ := hcont 1 h1'
    split
    · refine ⟨by show pos + 2 ≤ _; omega, fun k hk hk2 => ?_⟩
      have hk' : k < 2 := hk
      match k, hk' with
      | 0, _ => exact ha
      | 1, _ => exact g1
    · exact one
  · split
    · rename_i h1
      simp only [Bool.and_eq_true] at h1
      obtain ⟨k1, g1⟩ := hcont 1 (by simpa using h1.1.2)
      obtain ⟨k2, g2⟩ := hcont 2 (by simpa using h1.2)
      split
      · refine ⟨by show pos + 3 ≤ _; omega, fun k hk hk2 => ?_⟩
        have hk' : k < 3 := hk
        match k, hk' with
        | 0, _ => exact ha
        | 1, _ => exact g1
        | 2, _ => exact g2
      · exact one
    · split
      · rename_i h1
        simp only [Bool.and_eq_true] at h1
        obtain ⟨k1, g1⟩ := hcont 1 (by simpa using h1.1.1.2)
        obtain ⟨k2, g2⟩ := hcont 2 (by simpa using h1.1.2)
        obtain ⟨k3, g3⟩ := hcont 3 (by simpa using h1.2)
        split
        · refine ⟨by show pos + 4 ≤ _; omega, fun k hk hk2 => ?_⟩
          have hk' : k < 4 := hk
          match k, hk' with
          | 0, _ => exact ha
          | 1, _ => exact g1
          | 2, _ => exact g2
          | 3, _ => exact g3
        · exact one
      · exact one

/-- A string at the first of a byte. -/
def cutS (d : UInt8) (s : ByteArray) : ByteArray × ByteArray :=
  if 0 ≤ idxI d s then (s.extract 0 (idxI d s).toNat, s.extract ((idxI d s).toNat + 1) s.size) else (s, ⟨#[]⟩)
theorem cutS_at {d : UInt8} {s : ByteArray} {k : Nat} (h : idxI d s = k) : cutS d s = (s.extract 0 k, s.extract (k + 1) s.size) := by unfold cutS; rw [h]; simp
theorem cutS_no {d : UInt8} {s : ByteArray} (h : idxI d s = -1) : cutS d s = (s, ⟨#[]⟩) := by unfold cutS; rw [h]; rfl
theorem idxI_cases (d : UInt8) (s : ByteArray) : idxI d s = -1 ∨ ∃ k : Nat, idxI d s = k ∧ k < s.size := by
  have := idxI_ge d s
  by_cases h : idxI d s = -1
  · exact .inl h
  · refine .inr ⟨(idxI d s).toNat, by omega, idxI_lt d s (by omega)⟩
theorem cutS_size1 (d : UInt8) (s : ByteArray) : (cutS d s).1.size ≤ s.size := by
  rcases idxI_cases d s with h | ⟨k, h, hk⟩
  · rw [cutS_no h]; exact Nat.le_refl _
  · rw [cutS_at h]; exact extract_le _ _ _
theorem cutS_size2 (d : UInt8) (s : ByteArray) : (cutS d s).2.size ≤ s.size := by
  rcases idxI_cases d s with h | ⟨k, h, hk⟩
  · rw [cutS_no h]; exact Nat.zero_le _
  · rw [cutS_at h]; exact extract_le _ _ _
end Go.Proofs.YteoadfckcilalaaGreatDoor
namespace Go.Proofs.YteoadfckcilalaaGreatDoor
open Go.RowKit

theorem idxI_one (d : UInt8) (s : ByteArray) (h : (⟨#[d]⟩ : ByteArray) = s) : idxI d s = 0 := by
  subst h
  exact idxI_at d ⟨#[d]⟩ 0 (show 0 < 1 by decide) rfl (fun j hj => absurd hj (Nat.not_lt_zero _))

set_option maxRecDepth 100000 in
set_option maxHeartbeats 2000000 in
theorem idxLiteC_any (d : UInt8) (s c : ByteArray) (w : World) (hz : c.size = 1) (h0 : ∀ h, c[0]'h = d) (hc : c = ⟨#[d]⟩) :
    Calls Tryz.prog 231 #[.string s, .string c] w fun e w' => e = .returned (.int .i64 (idxI d s)) ∧ w = w' := by
  by_cases he : c = s
  · have HE := Box.mk (idxI_one d s (by rw [← hc]; exact he))
    have h1 : (c.toList == s.toList) = true := by rw [toList_eq]; simp [he]
    clear he hc
    go_enter Tryz.func231, Tryz.ntmps231
    go_wp2_with fail
    go_ret
    exact ⟨ret_int HE.out.symm, rfl⟩
  · have h1 : (c.toList == s.toList) = false := by rw [toList_eq]; simp [he]
    clear he hc
    go_enter Tryz.func231, Tryz.ntmps231
    go_wp2_with fail
    refine (indexByteLite_any s d _).mono ?_
    rintro e w1 ⟨rfl, rfl⟩
    go_wp2_with fail
    go_ret
    exact ⟨rfl, rfl⟩

set_option maxRecDepth 100000 in
set_option maxHeartbeats 2000000 in
theorem liteCutC_yes (d : UInt8) (s c : ByteArray) (k : Nat) (w : World) (hs : s.size ≤ maxLen) (hz : c.size = 1) (h0 : ∀ h, c[0]'h = d) (hc : c = ⟨#[d]⟩) (hk : idxI d s = k) :
    Calls Tryz.prog 219 #[.string s, .string c] w fun e w' => e = .returned (.tuple #[.string (s.extract 0 k), .string (s.extract (k + 1) s.size), .bool true]) ∧ Below w.heap.size w w' := by
  have hlt := idxI_lt d s hk
  unfold maxLen at hs
  have HK := Box.mk hk
  have H0 := Box.mk (And.intro h0 hc)
  clear hk h0 hc
  go_enter Tryz.func219, Tryz.ntmps219
  go_wp2_with fail
  refine (idxLiteC_any d s c _ hz H0.out.1 H0.out.2).mono ?_
  rintro e w1 ⟨he, rfl⟩
  rw [HK.out] at he
  subst he
  go_wp2_with fail
  go_quiet (fail)
  go_wp2
  go_ret3
  exact ⟨rfl, below_drewN (Below.refl _ _) _⟩

set_option maxRecDepth 100000 in
set_option maxHeartbeats 2000000 in
theorem liteCutC_no (d : UInt8) (s c : ByteArray) (w : World) (hz : c.size = 1) (h0 : ∀ h, c[0]'h = d) (hc : c = ⟨#[d]⟩) (hk : idxI d s = -1) :
    Calls Tryz.prog 219 #[.string s, .string c] w fun e w' => e = .returned (.tuple #[.string s, .string ⟨#[]⟩, .bool false]) ∧ Below w.heap.size w w' := by
  have HK := Box.mk hk
  have H0 := Box.mk (And.intro h0 hc)
  clear hk h0 hc
  go_enter Tryz.func219, Tryz.ntmps219
  go_wp2_with fail
  refine (idxLiteC_any d s c _ hz H0.out.1 H0.out.2).mono ?_
  rintro e w1 ⟨he, rfl⟩
  rw [HK.out] at he
  subst he
  go_wp2_with fail
  go_ret3
  exact ⟨rfl, Below.refl _ _⟩

set_option maxHeartbeats 2000000 in
theorem cutC_any (d : UInt8) (s : ByteArray) (w : World) (hs : s.size ≤ maxLen) :
    Calls Tryz.prog 199 #[.string s, .string ⟨#[d]⟩] w fun e w' => ∃ b, e = .returned (.tuple #[.string (cutS d s).1, .string (cutS d s).2, .bool b]) ∧ Below w.heap.size w w' := by
  rcases idxI_cases d s with hk | ⟨k, hk, _⟩
  · have HK := Box.mk hk
    have HC := Box.mk (cutS_no hk)
    clear hk
    go_enter Tryz.func199, Tryz.ntmps199
    go_wp2_with fail
    refine (liteCutC_no d s _ _ rfl (fun _ => rfl) rfl HK.out).mono ?_
    rintro e w1 ⟨rfl, hb⟩
    have HB := Box.mk hb
    clear hb
    go_wp2_with fail
    go_ret3
    exact ⟨false, by rw [HC.out]; rfl, HB.out⟩
  · have HK := Box.mk hk
    have HC := Box.mk (cutS_at hk)
    clear hk
    go_enter Tryz.func199, Tryz.ntmps199
    go_wp2_with fail
    refine (liteCutC_yes d s _ k _ hs rfl (fun _ => rfl) rfl HK.out).mono ?_
    rintro e w1 ⟨rfl, hb⟩
    have HB := Box.mk hb
    clear hb
    go_wp2_with fail
    go_ret3
    exact ⟨true, by rw [HC.out]; rfl, HB.out⟩

def versionS (z : Int) : ByteArray := if z = 0 then v10 else if z = 1 then v11 else ⟨#[]⟩
theorem fmtVersion_any (z : Int) (w : World) :
    Calls Tryz.prog 97 #[.int .i64 z] w fun e w' => e = .returned (.string (versionS z)) ∧ w = w' := by
  have hcase : z = 0 ∨ z = 1 ∨ (¬ z = 0 ∧ ¬ z = 1) := by omega
  rcases hcase with rfl | rfl | ⟨h0, h1⟩
  · go_enter Tryz.func97, Tryz.ntmps97
    go_wp2
    go_ret
    exact ⟨rfl, rfl⟩
  · go_enter Tryz.func97, Tryz.ntmps97
    go_wp2
    go_ret
    exact ⟨rfl, rfl⟩
  · have HR := Box.mk (show versionS z = ⟨#[]⟩ by unfold versionS; rw [if_neg h0, if_neg h1])
    have e0 : (z == 0) = false := by rw [beq_eq_false_iff_ne]; exact h0
    have e1 : (z == 1) = false := by rw [beq_eq_false_iff_ne]; exact h1
    clear h0 h1
    go_enter Tryz.func97, Tryz.ntmps97
    go_wp2
    go_ret
    exact ⟨ret_str HR.out.symm, rfl⟩

theorem projDigit_any (c : Int) (w : World) (h0 : 0 ≤ c) (h1 : c ≤ 255) :
    Calls Tryz.prog 234 #[.int .u8 c] w fun e w' => e = .returned (.bool (digB c)) ∧ w = w' := by
  go_enter Tryz.func234, Tryz.ntmps234
  go_wp2
  all_goals go_ret
  all_goals exact ⟨ret_bool (by unfold digB; rw [Bool.eq_iff_iff]; simp; omega), rfl⟩
def statB (n : Int) : Bool := decide (100 ≤ n) && decide (n ≤ 599)
theorem isStatus_any (n : Int) (w : World) :
    Calls Tryz.prog 103 #[.int .i64 n] w fun e w' => e = .returned (.bool (statB n)) ∧ w = w' := by
  go_enter Tryz.func103, Tryz.ntmps103
  go_wp2
  all_goals go_ret
  all_goals exact ⟨ret_bool (by unfold statB; rw [Bool.eq_iff_iff]; simp; omega), rfl⟩
end Go.Proofs.YteoadfckcilalaaGreatDoor
namespace Go.Proofs.YteoadfckcilalaaGreatDoor
open Go.RowKit

def pfxB (p s : ByteArray) : Bool := decide (p.size ≤ s.size ∧ s.extract 0 p.size = p)
set_option maxHeartbeats 1000000 in
theorem litePrefix_any (p s : ByteArray) (w : World) :
    Calls Tryz.prog 162 #[.string s, .string p] w fun e w' => e = .returned (.bool (pfxB p s)) ∧ w = w' := by
  by_cases h1 : p.size ≤ s.size
  · by_cases h2 : s.extract 0 p.size = p
    · have HR := Box.mk (show pfxB p s = true by unfold pfxB; simp [h1, h2])
      have hb : ((s.extract 0 p.size).toList == p.toList) = true := by rw [toList_eq]; simp [h2]
      clear h2
      go_enter Tryz.func162, Tryz.ntmps162
      go_wp2_with fail
      go_ret
      exact ⟨ret_bool HR.out.symm, rfl⟩
    · have HR := Box.mk (show pfxB p s = false by unfold pfxB; simp [h2])
      have hb : ((s.extract 0 p.size).toList == p.toList) = false := by rw [toList_eq]; simp [h2]
      clear h2
      go_enter Tryz.func162, Tryz.ntmps162
      go_wp2_with fail
      go_ret
      exact ⟨ret_bool HR.out.symm, rfl⟩
  · have HR := Box.mk (show pfxB p s = false by unfold pfxB; simp [h1])
    have h1' : s.size < p.size := by omega
    clear h1
    go_enter Tryz.func162, Tryz.ntmps162
    go_wp2_with fail
    go_ret
    exact ⟨ret_bool HR.out.symm, rfl⟩
theorem prefix_any (p s : ByteArray) (w : World) :
    Calls Tryz.prog 136 #[.string s, .string p] w fun e w' => e = .returned (.bool (pfxB p s)) ∧ w = w' := by
  go_enter Tryz.func136, Tryz.ntmps136
  go_wp2_with fail
  refine (litePrefix_any p s _).mono ?_
  rintro e w1 ⟨rfl, rfl⟩
  go_wp2_with fail
  go_ret
  exact ⟨rfl, rfl⟩
set_option maxHeartbeats 1000000 in
theorem liteCutPrefix_yes (p s : ByteArray) (w : World) (h : pfxB p s = true) :
    Calls Tryz.prog 243 #[.string s, .string p] w fun e w' => e = .returned (.tuple #[.string (s.extract p.size s.size), .bool true]) ∧ w = w' := by
  have HP := Box.mk h
  have hle : p.size ≤ s.size := by unfold pfxB at h; simp at h; exact h.1
  clear h
  go_enter Tryz.func243, Tryz.ntmps243
  go_wp2_with fail
  refine (litePrefix_any p s _).mono ?_
  rintro e w1 ⟨he, rfl⟩
  rw [HP.out] at he
  subst he
  go_wp2_with fail
  go_ret2
  exact ⟨rfl, rfl⟩
set_option maxHeartbeats 1000000 in
theorem liteCutPrefix_no (p s : ByteArray) (w : World) (h : pfxB p s = false) :
    Calls Tryz.prog 243 #[.string s, .string p] w fun e w' => e = .returned (.tuple #[.string s, .bool false]) ∧ w = w' := by
  have HP := Box.mk h
  clear h
  go_enter Tryz.func243, Tryz.ntmps243
  go_wp2_with fail
  refine (litePrefix_any p s _).mono ?_
  rintro e w1 ⟨he, rfl⟩
  rw [HP.out] at he
  subst he
  go_wp2_with fail
  go_ret2
  exact ⟨rfl, rfl⟩
theorem cutPrefix_yes (p s : ByteArray) (w : World) (h : pfxB p s = true) :
    Calls Tryz.prog 233 #[.string s, .string p] w fun e w' => e = .returned (.tuple #[.string (s.extract p.size s.size), .bool true]) ∧ w = w' := by
  have HP := Box.mk h
  clear h
  go_enter Tryz.func233, Tryz.ntmps233
  go_wp2_with fail
  refine (liteCutPrefix_yes p s _ HP.out).mono ?_
  rintro e w1 ⟨rfl, rfl⟩
  go_wp2_with fail
  go_ret2
  exact ⟨rfl, rfl⟩
theorem cutPrefix_no (p s : ByteArray) (w : World) (h : pfxB p s = false) :
    Calls Tryz.prog 233 #[.string s, .string p] w fun e w' => e = .returned (.tuple #[.string s, .bool false]) ∧ w = w' := by
  have HP := Box.mk h
  clear h
  go_enter Tryz.func233, Tryz.ntmps233
  go_wp2_with fail
  refine (liteCutPrefix_no p s _ HP.out).mono ?_
  rintro e w1 ⟨rfl, rfl⟩
  go_wp2_with fail
  go_ret2
  exact ⟨rfl, rfl⟩

theorem pfx_slash (s : ByteArray) : pfxB ⟨#[47]⟩ s = (s.data.toList.head? == some 47) := by
  unfold pfxB
  have h1 : (⟨#[47]⟩ : ByteArray).size = 1 := rfl
  rw [h1]
  by_cases h : 0 < s.size
  · rw [head_at s h]
    have hl : s.data.toList.length = s.size := by rw [Array.length_toList]; rfl
    have e : (s.extract 0 1).data.toList = [s[0]] := by
      rw [Lib.extract_from_zero]
      cases hq : s.data.toList with
      | nil => rw [hq] at hl; simp at hl; omega
      | cons a t =>
        have : s.data.toList.head? = some s[0] := head_at s h
        rw [hq] at this
        simp at this
        simp [this]
    rw [Bool.eq_iff_iff]
    simp only [decide_eq_true_eq, beq_iff_eq, Option.some.injEq]
    constructor
    · rintro ⟨_, h2⟩
      rw [h2] at e
      simpa using e.symm
    · intro h2
      exact ⟨h, ba_ext (by rw [e, h2])⟩
  · have hl : s.data.toList.length = s.size := by rw [Array.length_toList]; rfl
    have e : s.data.toList = [] := List.eq_nil_of_length_eq_zero (by omega)
    rw [e, Bool.eq_iff_iff]
    simp only [decide_eq_true_eq]
    constructor
    · rintro ⟨h2, _⟩; omega
    · intro h2; simp at h2

theorem take_more (P : UInt8 → Bool) (s : ByteArray) (pos : Nat) (h : (s.data.toList.take pos).all P = true) : ∀ n, pos + n ≤ s.size → (∀ k, k < n → ∀ hk : pos + k < s.size, P (s[pos + k]'hk) = true) → (s.data.toList.take (pos + n)).all P = true
  | 0, _, _ => h
  | n + 1, hle, hk => by
    have ih := take_more P s pos h n (by omega) (fun k hk1 hk2 => hk k (by omega) hk2)
    rw [← Nat.add_assoc, take_snoc s (pos + n) (by omega), List.all_append, ih]
    simpa using hk n (by omega) (by omega)
theorem valB_high {c : UInt8} (h : 128 ≤ c.toNat) : valB c = true := by
  unfold valB; simp; right; omega

set_option maxRecDepth 100000 in
set_option maxHeartbeats 2000000 in
theorem projTarget_any (s : ByteArray) (w : World) :
    Calls Tryz.prog 99 #[.string s] w fun e w' => e = .returned (.bool (targetS s)) ∧ Below w.heap.size w w' := by
  go_enter Tryz.func99, Tryz.ntmps99
  go_wp2_with fail
  go_loopw [] (fun w' => ∃ pos : Nat, w' = w.iter s pos ∧ pos ≤ s.size ∧ Box ((s.data.toList.take pos).all tgB = true)) (fun w' => s.size - w'.iterPos w.heap.size)
  case atStart => exact ⟨0, rfl, Nat.zero_le _, ⟨by simp⟩⟩
  case round =>
    obtain ⟨pos, rfl, hk, HP⟩ := hrel
    by_cases hp : pos < s.size
    · by_cases ha : s[pos].toNat < 128
      · have hnx : ∀ ty, (Instr.next (.pointer (some ⟨w.heap.size, 0, none⟩)) true ty).run Tryz.prog (w.iter s pos) = _ := fun ty => run_next_ascii w s pos ty hp ha
        have hcase : Box (tgB s[pos] = true) ∧ 33 ≤ (s[pos].toNat : Int) ∧ (s[pos].toNat : Int) ≤ 126 ∧ ((s[pos].toNat : Int) == 35) = false ∨ Box (tgB s[pos] = false) ∧ (s[pos].toNat : Int) < 33
            ∨ Box (tgB s[pos] = false) ∧ 33 ≤ (s[pos].toNat : Int) ∧ 126 < (s[pos].toNat : Int) ∨ Box (tgB s[pos] = false) ∧ 33 ≤ (s[pos].toNat : Int) ∧ (s[pos].toNat : Int) ≤ 126 ∧ ((s[pos].toNat : Int) == 35) = true := by
          by_cases h1 : 33 ≤ (s[pos].toNat : Int)
          · by_cases h2 : (s[pos].toNat : Int) ≤ 126
            · by_cases h3 : (s[pos].toNat : Int) = 35
              · exact .inr (.inr (.inr ⟨⟨by simp [tgB, h3]⟩, h1, h2, by simp [h3]⟩))
              · exact .inl ⟨⟨by simp [tgB, h1, h2, h3]⟩, h1, h2, by rw [beq_eq_false_iff_ne]; exact h3⟩
            · exact .inr (.inr (.inl ⟨⟨by simp [tgB, h2]⟩, h1, by omega⟩))
          · exact .inr (.inl ⟨⟨by simp [tgB, h1]⟩, by omega⟩)
        rcases hcase with ⟨HC, h1, h2, h3⟩ | ⟨HC, h1⟩ | ⟨HC, h1, h2⟩ | ⟨HC, h1, h2, h3⟩
        · go_wp2_with fail
          go_roundw
          case rel => exact ⟨pos + 1, rfl, by omega, ⟨by rw [take_snoc s pos hp, List.all_append, HP.out]; simpa using HC.out⟩⟩
          case measure => simp; omega
        all_goals
          go_wp2_with fail
          go_ret
          exact ⟨ret_bool (targetS_no hp HC.out).symm, below_oneF w _⟩
      · have hd := (decode_high s pos hp (by omega)).1
        have hnx : ∀ ty, (Instr.next (.pointer (some ⟨w.heap.size, 0, none⟩)) true ty).run Tryz.prog (w.iter s pos) = _ := fun ty => run_next_any w s pos ty hp
        have HC := Box.mk (show tgB s[pos] = false by unfold tgB; simp; omega)
        generalize (Utf8.decode s pos).1 = r at *
        generalize (Utf8.decode s pos).2 = wd at *
        clear ha
        have h1 : 33 ≤ (r : Int) := by omega
        have h2 : 126 < (r : Int) := by omega
        go_wp2_with fail
        go_ret
        exact ⟨ret_bool (targetS_no hp HC.out).symm, below_oneF w _⟩
    · have hnx : ∀ ty, (Instr.next (.pointer (some ⟨w.heap.size, 0, none⟩)) true ty).run Tryz.prog (w.iter s pos) = _ := fun ty => run_next_end w s pos ty hp
      have HE := Box.mk (targetS_end hk hp HP.out)
      go_wp2_with fail
      refine (prefix_any ⟨#[47]⟩ s _).mono ?_
      rintro e w1 ⟨rfl, rfl⟩
      go_wp2_with fail
      go_ret
      exact ⟨ret_bool (by rw [HE.out]; exact pfx_slash s), below_oneF w _⟩

set_option maxRecDepth 100000 in
set_option maxHeartbeats 2000000 in
theorem isReason_any (s : ByteArray) (w : World) :
    Calls Tryz.prog 104 #[.string s] w fun e w' => e = .returned (.bool (visS s)) ∧ Below w.heap.size w w' := by
  go_enter Tryz.func104, Tryz.ntmps104
  go_wp2_with fail
  go_loopw [] (fun w' => ∃ pos : Nat, w' = w.iter s pos ∧ pos ≤ s.size ∧ Box ((s.data.toList.take pos).all valB = true)) (fun w' => s.size - w'.iterPos w.heap.size)
  case atStart => exact ⟨0, rfl, Nat.zero_le _, ⟨by simp⟩⟩
  case round =>
    obtain ⟨pos, rfl, hk, HP⟩ := hrel
    by_cases hp : pos < s.size
    · by_cases ha : s[pos].toNat < 128
      · have hnx : ∀ ty, (Instr.next (.pointer (some ⟨w.heap.size, 0, none⟩)) true ty).run Tryz.prog (w.iter s pos) = _ := fun ty => run_next_ascii w s pos ty hp ha
        have hcase : Box (valB s[pos] = true) ∧ ((s[pos].toNat : Int) != 9) = false ∧ ((s[pos].toNat : Int) == 127) = false ∨ Box (valB s[pos] = true) ∧ ((s[pos].toNat : Int) != 9) = true ∧ 32 ≤ (s[pos].toNat : Int) ∧ ((s[pos].toNat : Int) == 127) = false
            ∨ Box (valB s[pos] = false) ∧ ((s[pos].toNat : Int) != 9) = true ∧ (s[pos].toNat : Int) < 32 ∨ Box (valB s[pos] = false) ∧ ((s[pos].toNat : Int) != 9) = true ∧ 32 ≤ (s[pos].toNat : Int) ∧ ((s[pos].toNat : Int) == 127) = true := by
          by_cases h9 : (s[pos].toNat : Int) = 9
          · exact .inl ⟨⟨by simp [valB, h9]⟩, by simp [h9], by simp [h9]⟩
          · have e9 : ((s[pos].toNat : Int) != 9) = true := by rw [bne_iff_ne]; exact h9
            by_cases h32 : 32 ≤ (s[pos].toNat : Int)
            · by_cases h127 : (s[pos].toNat : Int) = 127
              · exact .inr (.inr (.inr ⟨⟨by simp [valB, h127]⟩, e9, h32, by simp [h127]⟩))
              · exact .inr (.inl ⟨⟨by simp [valB, h127, h32]⟩, e9, h32, by rw [beq_eq_false_iff_ne]; exact h127⟩)
            · exact .inr (.inr (.inl ⟨⟨by simp [valB, h9, h32]⟩, e9, by omega⟩))
        rcases hcase with ⟨HC, h1, h2⟩ | ⟨HC, h1, h2, h3⟩ | ⟨HC, h1, h2⟩ | ⟨HC, h1, h2, h3⟩
        · go_wp2_with fail
          go_roundw
          case rel => exact ⟨pos + 1, rfl, by omega, ⟨by rw [take_snoc s pos hp, List.all_append, HP.out]; simpa using HC.out⟩⟩
          case measure => simp; omega
        · go_wp2_with fail
          go_roundw
          case rel => exact ⟨pos + 1, rfl, by omega, ⟨by rw [take_snoc s pos hp, List.all_append, HP.out]; simpa using HC.out⟩⟩
          case measure => simp; omega
        all_goals
          go_wp2_with fail
          go_ret
          exact ⟨ret_bool (visS_no hp HC.out).symm, below_oneF w _⟩
      · obtain ⟨hd, hwd⟩ := decode_high s pos hp (by omega)
        obtain ⟨hsk, hby⟩ := decode_skip s pos hp (by omega)
        have hnx : ∀ ty, (Instr.next (.pointer (some ⟨w.heap.size, 0, none⟩)) true ty).run Tryz.prog (w.iter s pos) = _ := fun ty => run_next_any w s pos ty hp
        have HN := Box.mk (take_more valB s pos HP.out _ hsk (fun k h1 h2 => valB_high (hby k h1 h2)))
        clear hby
        generalize (Utf8.decode s pos).1 = r at *
        generalize (Utf8.decode s pos).2 = wd at *
        clear ha
        have h1 : ((r : Int) != 9) = true := by rw [bne_iff_ne]; omega
        have h2 : 32 ≤ (r : Int) := by omega
        have h3 : ((r : Int) == 127) = false := by rw [beq_eq_false_iff_ne]; omega
        go_wp2_with fail
        go_roundw
        case rel => exact ⟨pos + wd, rfl, hsk, HN⟩
        case measure => simp; omega
    · have hnx : ∀ ty, (Instr.next (.pointer (some ⟨w.heap.size, 0, none⟩)) true ty).run Tryz.prog (w.iter s pos) = _ := fun ty => run_next_end w s pos ty hp
      have HE := Box.mk (visS_yes hk hp HP.out)
      go_wp2_with fail
      go_ret
      exact ⟨ret_bool HE.out.symm, below_oneF w _⟩
end Go.Proofs.YteoadfckcilalaaGreatDoor
