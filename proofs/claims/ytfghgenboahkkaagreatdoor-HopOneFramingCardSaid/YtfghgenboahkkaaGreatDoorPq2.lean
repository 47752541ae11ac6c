/- A region that draws its order and stores once, by what each operation leaves. SHA-256 in plain words, over words of 32 bits; how the arithmetic of the translated code is spelt at them. Fields: Valid of package field and of its reference; a field's line. A set of names in a map: setOf, and whether a field's name is in it. Slices of fields in memory: read, appended to, opened among the arguments. Values, Has and Without, in the reference. Values, Without and Has of package field. Has of package field (a closure), Elements, SameFields. With: appends of whole slices of fields, slices.Grow and slices.Concat. slices.Concat, With of package field and of its reference, SameFields. Format, by the library's Builder and in the reference. Parse of package field: the index of a colon, strings.Cut. A region that draws its order, in phases: between its breaking operations the others come in whatever order. Parse of the reference. The source of numbers of the laws: Within, Next, Of. -/
import Derived.Test.YtfghgenboahkkaaGreatDoorPq1
import Derived.Laws.BitsAllLaws
import Derived.Laws.Shifts
import Derived.Maps.OwnOps
import Derived.Maps.OwnSet
import Derived.Deep.SlicePairs
import Derived.Lib.AppendZerosOnto
import Derived.Lib.AppendStr
import Derived.Laws.CopyOwn
import Derived.OwnWalk
import Derived.Laws.Strings3
import Derived.Laws.Concat
namespace Go.Proofs.YtfghgenboahkkaaGreatDoor
open Go.RowKit
structure SpecQ extends Spec where
 q : Value → Prop
 weak : ∀ v w, p v w → q v
def SpecQ.val (v : Value) : SpecQ := ⟨.val v, fun x => x = v, fun _ _ h => h⟩
def SpecQ.of (s : Spec) : SpecQ := ⟨s, fun _ => True, fun _ _ _ => trivial⟩
def specAt (S : List (Option SpecQ)) : List Spec := S.map fun | some s => s.toSpec | none => .any
def HoldsW (ops : Array Oper) (S : List (Option SpecQ)) (a : Act) (j : Nat) : Prop :=
 match ops[j]?, S[j]? with
 | some o, some (some s) => (match o.dst with | some d => s.q (a.eval (.tmp d)) | none => True)
 | _, _ => True
def StepW (P : Program) (Q : Exit → Act → World → Prop) (ops : Array Oper) (S : List (Option SpecQ)) (a0 : Act) (o : Oper) (s : SpecQ) : Prop :=
 ∀ a w, Fr ops a0 a → (∀ j, waitsFor o j = true → HoldsW ops S a j) →
  Region.wanted o (yielded ops a.tmps) = true ∧ o.wp P a w (fun a' w' => w' = w ∧ ∃ v, a' = a.put o.dst v ∧ s.q v) Q
def StepsS (P : Program) (Q : Exit → Act → World → Prop) (ops : Array Oper) (S : List (Option SpecQ)) (a0 : Act) (w0 : World) : List Oper → List (Option SpecQ) → Prop
 | o :: os, some s :: ss => StepOK P Q ops (specAt S) a0 w0 o s.toSpec ∧ StepsS P Q ops S a0 w0 os ss
 | _ :: os, none :: ss => StepsS P Q ops S a0 w0 os ss
 | [], [] => True
 | _, _ => False
def LateOK (P : Program) (Q : Exit → Act → World → Prop) (ops : Array Oper) (S : List (Option SpecQ)) (a0 : Act) : List Nat → Prop
 | i :: r => (match ops[i]?, S[i]? with | some o, some (some s) => StepW P Q ops S a0 o s | _, _ => True) ∧ LateOK P Q ops S a0 r
 | [] => True
def lateB (ops : Array Oper) (st : Nat) (late : List Nat) : Bool :=
 (List.range ops.size).all fun i => decide (i = st) || late.contains i || (match ops[st]? with | some o => waitsFor o i | none => false)
def StoreOK (P : Program) (Q : Exit → Act → World → Prop) (ops : Array Oper) (S : List (Option SpecQ)) (a0 : Act) (w0 : World) (st : Nat) (Post : World → Prop) : Prop :=
 match ops[st]? with
 | some o => o.dst = none ∧ ∀ a w, Below w0.heap.size w0 w → Fr ops a0 a → (∀ j, waitsFor o j = true → Holds ops (specAt S) a w j) → Region.wanted o (yielded ops a.tmps) = true ∧ o.wp P a w (fun a' w' => a' = a ∧ Post w') Q
 | none => False
section
variable {P : Program} {Q : Exit → Act → World → Prop} {ops : Array Oper} {S : List (Option SpecQ)} {a0 : Act} {w0 : World}
theorem stepsS_at : ∀ {os : List Oper} {ss : List (Option SpecQ)}, StepsS P Q ops S a0 w0 os ss → ∀ (i : Nat) (o : Oper), os[i]? = some o → ∃ s, ss[i]? = some s ∧ ∀ s', s = some s' → StepOK P Q ops (specAt S) a0 w0 o s'.toSpec
 | o :: os, some s :: ss, h, 0, _, rfl => ⟨some s, rfl, fun s' e => by obtain rfl := Option.some.inj e; exact h.1⟩
 | o :: os, some s :: ss, h, i + 1, o', ho => stepsS_at (os := os) (ss := ss) h.2 i o' ho
 | o :: os, none :: ss, h, 0, _, rfl => ⟨none, rfl, fun s' e => by cases e⟩
 | o :: os, none :: ss, h, i + 1, o', ho => stepsS_at (os := os) (ss := ss) h i o' ho
 | [], _, _, i, _, ho => by simp at ho
theorem lateOK_at : ∀ {late : List Nat}, LateOK P Q ops S a0 late → ∀ i, i ∈ late → ∀ o s, ops[i]? = some o → S[i]? = some (some s) → StepW P Q ops S a0 o s
 | k :: r, h, i, hi, o, s, ho, hs => by
  rcases List.mem_cons.1 hi with rfl | hi
  · have := h.1; simp only [ho, hs] at this; exact this
  · exact lateOK_at h.2 i hi o s ho hs
theorem specAt_get {j : Nat} {s : SpecQ} (h : S[j]? = some (some s)) : (specAt S)[j]? = some s.toSpec := by unfold specAt; rw [List.getElem?_map, h]; rfl
theorem holds_weak {a : Act} {w : World} {j : Nat} (h : Holds ops (specAt S) a w j) : HoldsW ops S a j := by
 unfold HoldsW
 split
 · rename_i o s ho hs
   unfold Holds at h
   rw [ho, specAt_get hs] at h
   cases hd : o.dst with
   | none => trivial
   | some d => simp only [hd] at h; exact s.weak _ _ h
 · trivial
theorem fr_put {a : Act} {o : Oper} {i : Nat} (ho : ops[i]? = some o) (hf : Fr ops a0 a) (v : Value) : Fr ops a0 (a.put o.dst v) := by
 refine ⟨?_, ?_, fun k hk => ?_⟩
 · have := hf.defers
   cases o.dst <;> simpa [Act.put] using this
 · have := hf.size
   cases o.dst <;> simpa [Act.put] using this
 · rw [eval_put_other, hf.base k hk]
   intro hk2
   have : isDst ops k = true := by
    unfold isDst
    exact List.any_eq_true.2 ⟨o, Array.mem_toList_iff.2 (Array.mem_of_getElem? ho), by rw [hk2]; simp⟩
   rw [hk] at this; cases this
theorem holds_put {a : Act} {o : Oper} {i j : Nat} {w : World} {T : List Spec} (hd : dstsOk ops a0.tmps.size = true) (ho : ops[i]? = some o) (hji : j ≠ i) {v : Value} (h : Holds ops T a w j) : Holds ops T (a.put o.dst v) w j := by
 unfold Holds at *
 cases hoj : ops[j]? with
 | none => simp
 | some o' =>
  cases hsj : T[j]? with
  | none => simp
  | some s' =>
   simp only [hoj, hsj] at h ⊢
   cases hdo : o'.dst with
   | none => trivial
   | some d =>
    simp only [hdo] at h ⊢
    show s'.p ((a.put o.dst v).eval (.tmp d)) w
    rw [eval_put_other]
    · exact h
    · intro e
      exact (dsts_lt hd ho e).2 j o' hoj hji hdo
theorem holdsW_put {a : Act} {o : Oper} {i j : Nat} (hd : dstsOk ops a0.tmps.size = true) (ho : ops[i]? = some o) (hji : j ≠ i) {v : Value} (h : HoldsW ops S a j) : HoldsW ops S (a.put o.dst v) j := by
 unfold HoldsW at *
 cases hoj : ops[j]? with
 | none => simp
 | some o' =>
  cases hsj : S[j]? with
  | none => simp
  | some s' =>
   cases s' with
   | none => simp
   | some s' =>
    simp only [hoj, hsj] at h ⊢
    cases hdo : o'.dst with
    | none => trivial
    | some d =>
     simp only [hdo] at h ⊢
     show s'.q ((a.put o.dst v).eval (.tmp d))
     rw [eval_put_other]
     · exact h
     · intro e
       exact (dsts_lt hd ho e).2 j o' hoj hji hdo
theorem wp_region_store {id : Nat} (S : List (Option SpecQ)) (st : Nat) (late : List Nat) (Post : World → Prop) (hm : P.follows .mixedOrders = true)
  (hB : (List.range ops.size).all (fun i => match ops[i]? with | some x => x.after.all (fun e => !Region.binds .any e || decide (e.on < i)) | none => true) = true)
  (hd : dstsOk ops a0.tmps.size = true) (hl : lateB ops st late = true) (hst : S[st]? = some none) (hlen : S.length = ops.size) (hone : (List.range S.length).all (fun i => decide (i = st) || (match S[i]? with | some (some _) => true | _ => false)) = true)
  (h : StepsS P Q ops S a0 w0 ops.toList S) (hL : LateOK P Q ops S a0 late) (hS : StoreOK P Q ops S a0 w0 st Post)
  (hQ : ∀ a w, Post w → Fr ops a0 a → (∀ j, j < ops.size → HoldsW ops S a j) → Q .normal a w) : (Code.region id ops true).wp P Q a0 w0 := by
 have hstlt : st < ops.size := by rw [← hlen]; exact (List.getElem?_eq_some_iff.1 hst).1
 have hosto : ops[st]? = some ops[st] := Array.getElem?_eq_getElem hstlt
 unfold StoreOK at hS
 rw [hosto] at hS
 simp only at hS
 refine wp_region_inv hm (fun m a w => Fr ops a0 a ∧ ((m.getD st false = false ∧ Below w0.heap.size w0 w ∧ ∀ j, m.getD j false = true → Holds ops (specAt S) a w j) ∨
  (m.getD st false = true ∧ Post w ∧ (∀ j, m.getD j false = true → HoldsW ops S a j) ∧ ∀ j, waitsFor ops[st] j = true → m.getD j false = true))) ?_ ?_ ?_
 · rintro m a w hs ⟨hf, hh⟩ i hi
   obtain ⟨h1, o, ho, hall⟩ := mem_ready.1 hi
   have hil : i < ops.size := (Array.getElem?_eq_some_iff.1 ho).1
   have hmi : m.getD i false = false := by
    have hs' : i < m.size := by rw [hs]; exact hil
    simp [hs'] at h1 ⊢; exact h1
   have hdeps : ∀ j, waitsFor o j = true → m.getD j false = true := fun j hj => by
    obtain ⟨e, he, h2⟩ := List.any_eq_true.1 hj
    simp only [Bool.and_eq_true, beq_iff_eq] at h2
    obtain ⟨h3, rfl⟩ := h2
    exact hall e (Array.mem_toList_iff.1 he) h3
   unfold wpOp
   simp only [ho]
   by_cases hist : i = st
   · subst hist
     have hoe : o = ops[i] := Option.some.inj (ho.symm.trans hosto)
     subst hoe
     rcases hh with ⟨_, hb, hh⟩ | ⟨h2, _⟩
     · obtain ⟨hdn, hS⟩ := hS
       obtain ⟨hw, hwp⟩ := hS a w hb hf fun j hj => hh j (hdeps j hj)
       rw [if_pos hw]
       refine .inl (Oper.wp_mono ?_ hwp)
       rintro a' w' ⟨rfl, hp⟩
       have hsz : i < m.size := by rw [hs]; exact hil
       refine ⟨hf, .inr ⟨by simp [hsz], hp, fun j hj => ?_, fun j hj => getD_set_true (hdeps j hj)⟩⟩
       by_cases hji : j = i
       · subst hji
         unfold HoldsW
         rw [hosto, hst]; trivial
       · rw [getD_set_ne false (fun e => hji e.symm)] at hj
         exact holds_weak (hh j hj)
     · rw [hmi] at h2; cases h2
   · have hsi : ∃ s, S[i]? = some (some s) := by
      have := List.all_eq_true.1 hone i (List.mem_range.2 (by rw [hlen]; exact hil))
      cases hq : S[i]? with
      | none => rw [hq] at this; simp [hist] at this
      | some x =>
       cases x with
       | none => rw [hq] at this; simp [hist] at this
       | some s => exact ⟨s, rfl⟩
     obtain ⟨s, hsi⟩ := hsi
     rcases hh with ⟨h2, hb, hh⟩ | ⟨h2, hp, hh, hall2⟩
     · obtain ⟨s', hs', hstep⟩ := stepsS_at h i o (by simpa using ho)
       obtain rfl : s' = some s := Option.some.inj (hs'.symm.trans hsi)
       obtain ⟨hw, hwp⟩ := hstep s rfl a w hb hf fun j hj => hh j (hdeps j hj)
       rw [if_pos hw]
       refine .inl (Oper.wp_mono ?_ hwp)
       rintro a' w' ⟨v, rfl, hb', hsp⟩
       refine ⟨fr_put ho hf v, .inl ⟨by rw [getD_set_ne false hist]; exact h2, hb.trans (hb'.mono hb.size), fun j hj => ?_⟩⟩
       by_cases hji : j = i
       · subst hji
         unfold Holds
         simp only [ho, specAt_get hsi]
         cases hdo : o.dst with
         | none => trivial
         | some d =>
          show s.p ((a.put (some d) v).eval (.tmp d)) w'
          rw [eval_put_same]
          · exact hsp
          · rw [hf.size]; exact (dsts_lt hd ho hdo).1
       · have hj' : m.getD j false = true := by rw [getD_set_ne false (fun e => hji e.symm)] at hj; exact hj
         exact holds_put hd ho hji (holds_mono (hh j hj') hb')
     · have hlate : i ∈ late := by
        have := List.all_eq_true.1 hl i (List.mem_range.2 hil)
        rw [hosto] at this
        simp only [Bool.or_eq_true, decide_eq_true_eq, List.contains_iff_mem] at this
        rcases this with (h3 | h3) | h3
        · exact absurd h3 hist
        · exact h3
        · have := hall2 i h3; rw [hmi] at this; cases this
       obtain ⟨hw, hwp⟩ := lateOK_at hL i hlate o s ho hsi a w hf fun j hj => hh j (hdeps j hj)
       rw [if_pos hw]
       refine .inl (Oper.wp_mono ?_ hwp)
       rintro a' w' ⟨rfl, v, rfl, hq⟩
       refine ⟨fr_put ho hf v, .inr ⟨getD_set_true h2, hp, fun j hj => ?_, fun j hj => getD_set_true (hall2 j hj)⟩⟩
       by_cases hji : j = i
       · subst hji
         unfold HoldsW
         simp only [ho, hsi]
         cases hdo : o.dst with
         | none => trivial
         | some d =>
          show s.q ((a.put (some d) v).eval (.tmp d))
          rw [eval_put_same]
          · exact hq
          · rw [hf.size]; exact (dsts_lt hd ho hdo).1
       · have hj' : m.getD j false = true := by rw [getD_set_ne false (fun e => hji e.symm)] at hj; exact hj
         exact holdsW_put hd ho hji (hh j hj')
 · rintro m a w hs ⟨hf, hh⟩ hr
   have hmarked : ∀ j, j < ops.size → m.getD j false = true := fun j => by
    induction j using Nat.strongRecOn with
    | _ j ih =>
     intro hj
     cases hmj : m.getD j false with
     | true => rfl
     | false =>
      exfalso
      have hoj : ops[j]? = some ops[j] := Array.getElem?_eq_getElem hj
      have hbk := List.all_eq_true.1 hB j (List.mem_range.2 hj)
      rw [hoj] at hbk
      simp only [Array.all_eq_true_iff_forall_mem, Bool.or_eq_true, Bool.not_eq_true', decide_eq_true_eq] at hbk
      have hlt : ∀ e ∈ ops[j].after, Region.binds .any e = true → e.on < j := fun e he hbd => by
       rcases hbk e he with h | h
       · rw [hbd] at h; cases h
       · exact h
      have : j ∈ Region.ready .any ops m := mem_ready.2 ⟨by
       have hs' : j < m.size := by rw [hs]; exact hj
       simp [hs'] at hmj ⊢; exact hmj, ops[j], hoj, fun e he hbd => ih _ (hlt e he hbd) (by have := hlt e he hbd; omega)⟩
      rw [hr] at this; cases this
   rcases hh with ⟨h2, _⟩ | ⟨_, hp, hh, _⟩
   · rw [hmarked st hstlt] at h2; cases h2
   · exact hQ a w hp hf fun j hj => hh j (hmarked j hj)
 · refine ⟨⟨rfl, rfl, fun _ _ => rfl⟩, .inl ⟨?_, (Below.refl _ _).drew, fun j hj => ?_⟩⟩
   · simp only [Array.getD_eq_getD_getElem?, Array.getElem?_replicate]; split <;> rfl
   · exfalso
     simp only [Array.getD_eq_getD_getElem?, Array.getElem?_replicate] at hj
     split at hj <;> simp at hj
end
section
variable {P : Program} {Q : Exit → Act → World → Prop} {ops : Array Oper} {a : Act} {w : World} {o : Oper} {s : SpecQ}
end
end Go.Proofs.YtfghgenboahkkaaGreatDoor
namespace Go.Proofs.YtfghgenboahkkaaGreatDoor
structure Box (p : Prop) : Prop where
 out : p
def w4 (l : List UInt8) : UInt32 := l.foldl (fun x c => (x <<< 8) ||| c.toUInt32) 0
end Go.Proofs.YtfghgenboahkkaaGreatDoor
namespace Go.Proofs.YtfghgenboahkkaaGreatDoor
open Go.RowKit
theorem below_oneF (w : World) (o : Obj) : Below w.heap.size w (w.alloc o) := (Below.refl _ _).alloc (Nat.le_refl _) _
def fldB (n v : ByteArray) : Bool := tokS n && valS v
theorem fldB_val {n v : ByteArray} (h : tokS n = true) : fldB n v = valS v := by unfold fldB; rw [h]; rfl
end Go.Proofs.YtfghgenboahkkaaGreatDoor
namespace Go.Proofs.YtfghgenboahkkaaGreatDoor
open Go.RowKit
open Go.Maps (Keyed string_keyed)
theorem keyedF : Keyed Tryz.prog 9 := string_keyed Tryz.underlying9
theorem zeroBF (w : World) : (zeroValue 4).run Tryz.prog w = .ok (.bool false) w := by kernel_rfl
def inS (s : ByteArray) (S : List ByteArray) : Bool := S.any fun x => x.toList == s.toList
def SetIn (w : World) (b n : Nat) (S : List ByteArray) : Prop :=
 ∃ D : DataW Unit, w.ownsMap Tryz.prog 9 (plainElem Tryz.prog 4) b n D ∧ ∀ s : ByteArray, D.atKey (.string s.data.toList) (.lit (.bool false)) = .lit (.bool (inS s S))
theorem SetIn.keep {w w' : World} {b n : Nat} {S : List ByteArray} (h : SetIn w b n S) (hb : Below w.heap.size w w') : SetIn w' b n S := by
 obtain ⟨D, h1, h2⟩ := h
 have hlt := h1.lt
 obtain ⟨es, clock, hbk, F, hs, hD⟩ := h1
 exact ⟨D, ⟨es, clock, by rw [hb.block b hlt]; exact hbk, F, hs, hD⟩, h2⟩
theorem SetIn.lt {w : World} {b n : Nat} {S : List ByteArray} (h : SetIn w b n S) : b < w.heap.size := by
 obtain ⟨D, h1, _⟩ := h; exact h1.lt
theorem SetIn.made (w : World) : SetIn (w.alloc (.map #[] 0)) w.heap.size 0 [] :=
 ⟨.map [], World.ownsMap_made _ _ _ _, fun s => by simp [DataW.atKey, inS]⟩
section
variable {ops : Array Oper} {rest : List Oper} {o : Oper} {act : Act} {Q : Exit → Act → World → Prop}
set_option maxRecDepth 100000 in
theorem SetIn.run {w : World} {b n : Nat} {S : List ByteArray} (h : SetIn w b n S) (s : ByteArray) (hs : s.size ≤ maxLen) :
  (Instr.lookup 103 (.map (some b)) (.string s) false).run Tryz.prog w = .ok (.bool (inS s S)) w := by
 obtain ⟨D, h1, h2⟩ := h
 obtain ⟨v, ps, hrun, hv⟩ := h1.lookup (t := 103) (e := 4) keyedF Tryz.underlying103 (zeroBF w) (plainElem_bool Tryz.underlying4 false) (key := .string s) (kl := .string s.data.toList) (WideMaps.keyOf_string_mk Tryz.underlying9 hs)
 rw [h2 s] at hv
 have : v = .bool (inS s S) := by
  unfold plainElem at hv
  rw [Tryz.underlying4] at hv
  generalize inS s S = r at *
  cases v <;> simp at hv
  rw [hv.1]
 rw [hrun, this]
theorem wpList_update_set (w : World) (hg : o.guard = none) (m x : Operand) (hop : o.op = Op.mapUpdate 103 m x (.const (.bool true))) {b n : Nat} {S : List ByteArray} {s : ByteArray}
  (hm : act.eval m = .map (some b)) (hS : SetIn w b n S) (hn : n < maxLen) (hx : act.eval x = .string s) (hs : s.size ≤ maxLen)
  (hK : ∀ w', SetIn w' b (n + 1) (S ++ [s]) → w.grownBy w' (some b) → wpList Tryz.prog ops Q rest (act.put o.dst undef) w') : wpList Tryz.prog ops Q (o :: rest) act w := by
 obtain ⟨D, h1, h2⟩ := hS
 refine wpList_mapUpdate_own w hg m x (.const (.bool true)) 103 hop 9 4 keyedF Tryz.underlying103 _ b n D hm h1 hn (.string s) (.bool true) (.string s.data.toList) hx rfl (WideMaps.keyOf_string_mk Tryz.underlying9 hs)
  (.lit (.bool true)) [] (plainElem_bool Tryz.underlying4 true) ?_
 intro w' h3 h4
 refine hK w' ⟨_, h3, fun s' => ?_⟩ h4
 by_cases he : s' = s
 · subst he
   rw [Maps.atKey_put_same (h1.isMap) (show WideAt.IsKeyLit (.string s'.data.toList) from trivial)]
   simp [inS]
 · rw [Maps.atKey_put_other (fun e => he (ba_ext (by injection e)))]
   rw [h2 s']
   have : (s.toList == s'.toList) = false := by rw [toList_eq]; simp; exact fun e => he e.symm
   simp [inS, this]
end
theorem lowS_sizeF (s : ByteArray) : (lowS s).size = s.size := by
 show (lowS s).data.size = s.data.size
 simp [lowS]
def RetSet (w : World) (S : List ByteArray) (e : Ending) (w' : World) : Prop :=
 ∃ b n, e = .returned (.map (some b)) ∧ SetIn w' b n S ∧ Below w.heap.size w w'
set_option maxRecDepth 100000 in
set_option maxHeartbeats 1000000 in
theorem setOf_any (l : List ByteArray) (a : Option Addr) (cap : Nat) (w : World) (h : StrsIn w a l) (hz : ∀ s ∈ l, s.size ≤ maxLen) (hl : l.length ≤ 140737488355328) :
  Calls Tryz.prog 62 #[.slice a l.length cap] w (RetSet w (l.map lowS)) := by
 have H0 := Box.mk h
 have HZ := Box.mk hz
 clear h hz
 have hmm := @run_makeMap Tryz.prog
 go_enter Tryz.func62, Tryz.ntmps62
 go_wp2_with fail
 obtain ⟨W, hW⟩ : ∃ W, W = w.alloc (.map #[] 0) := ⟨_, rfl⟩
 have HS := Box.mk (SetIn.made w)
 have HB := Box.mk (below_oneF w (.map #[] 0))
 rw [← hW] at HS HB ⊢
 clear hW
 generalize hb : w.heap.size = b at HS ⊢
 have HBS := Box.mk hb
 clear hb
 go_loopw [9] (fun iv wr => ∃ k : Nat, k ≤ l.length ∧ iv = .int .i64 k ∧ Box (SetIn wr b k ((l.take k).map lowS) ∧ Below w.heap.size w wr)) (fun iv _ => l.length - (intOf iv).toNat)
 case atStart => exact ⟨0, Nat.zero_le _, rfl, ⟨by simpa using HS.out, HB.out⟩⟩
 case round =>
  clear HS HB
  obtain ⟨k, hk, rfl, HM⟩ := hrel
  by_cases hlt : k < l.length
  · obtain ⟨x, rfl, hx⟩ := (H0.out.keep HM.out.2) k hlt
    have HT := Box.mk (show (l.take (k + 1)).map lowS = (l.take k).map lowS ++ [lowS l[k]] by rw [List.take_succ_eq_append_getElem hlt, List.map_append]; rfl)
    have HSZ := Box.mk (HZ.out _ (List.getElem_mem hlt))
    generalize l[k] = s at *
    go_wp2_with fail
    refine (lower_any s _ HSZ.out).mono ?_
    rintro e w1 ⟨rfl, hb1⟩
    have HS1 := Box.mk (HM.out.1.keep hb1)
    have HB1 := Box.mk (below_trans HM.out.2 hb1)
    have HLZ := Box.mk (show (lowS s).size ≤ maxLen by rw [lowS_sizeF]; exact HSZ.out)
    clear hb1
    go_wp2_with (at_mapUpdate; refine wpList_update_set _ rfl _ _ rfl rfl HS1.out (by unfold maxLen; omega) rfl HLZ.out ?c1)
    case c1 =>
     intro w2 hs2 hg2
     have HM2 := Box.mk (show SetIn w2 b (k + 1) ((l.take (k + 1)).map lowS) ∧ Below w.heap.size w w2 from ⟨by rw [HT.out, List.map_take]; exact hs2, HB1.out.grown hg2 HB1.out.size (fun j hj => by injection hj with hj; have := HBS.out; omega)⟩)
     clear hs2 hg2 HS1 HB1 HT
     go_wp2_with fail
     go_roundw
     case rel => exact ⟨k + 1, by omega, by go_num, HM2⟩
     case measure => simp [intOf]; omega
  · have HE := Box.mk (show SetIn wr b k (l.map lowS) by have := HM.out.1; rw [List.take_of_length_le (by omega)] at this; exact this)
    go_wp2_with fail
    go_ret
    exact ⟨b, k, rfl, HE.out, HM.out.2⟩
set_option maxHeartbeats 1000000 in
theorem hdrIn_any (n v : ByteArray) (b m : Nat) (S : List ByteArray) (w : World) (h : SetIn w b m S) (hn : n.size ≤ maxLen) :
  Calls Tryz.prog 63 #[.agg #[.string n, .string v], .map (some b)] w fun e w' => e = .returned (.bool (inS (lowS n) S)) ∧ Below w.heap.size w w' := by
 have H0 := Box.mk (h.keep (below_oneF w (.cells #[.string n, .string v] 106)))
 clear h
 go_enter Tryz.func63, Tryz.ntmps63
 go_wp2_with fail
 refine (lower_any n _ hn).mono ?_
 rintro e w1 ⟨rfl, hb⟩
 have hrun := (H0.out.keep hb).run (lowS n) (by rw [lowS_sizeF]; exact hn)
 have HB := Box.mk (below_trans (below_oneF w (.cells #[.string n, .string v] 106)) hb)
 clear hb
 generalize hr : inS (lowS n) S = r at *
 have HR := Box.mk hr
 clear hr
 go_wp2_with fail
 go_ret
 exact ⟨ret_bool HR.out.symm, HB.out⟩
end Go.Proofs.YtfghgenboahkkaaGreatDoor
namespace Go.Proofs.YtfghgenboahkkaaGreatDoor
open Go.ChangeShapes Go.WideShapes Go.ChangeAt Go.RowKit
abbrev Fld := ByteArray × ByteArray
def cellsF (l : List Fld) : List Value := l.flatMap fun f => [.string f.1, .string f.2]
theorem cellsF_len (l : List Fld) : (cellsF l).length = l.length * 2 := by
 induction l with
 | nil => rfl
 | cons a t ih =>
  have : cellsF (a :: t) = .string a.1 :: .string a.2 :: cellsF t := rfl
  rw [this]; simp only [List.length_cons, ih]; omega
theorem cellsF_app (a b : List Fld) : cellsF (a ++ b) = cellsF a ++ cellsF b := by unfold cellsF; rw [List.flatMap_append]
theorem cellsF_get : ∀ (l : List Fld) (j : Nat) (hj : j < l.length), (cellsF l)[j * 2]? = some (.string l[j].1) ∧ (cellsF l)[j * 2 + 1]? = some (.string l[j].2)
 | a :: t, 0, _ => ⟨rfl, rfl⟩
 | a :: t, j + 1, hj => by
  have ih := cellsF_get t j (by simpa using hj)
  have e : cellsF (a :: t) = .string a.1 :: .string a.2 :: cellsF t := rfl
  rw [e, show (j + 1) * 2 = j * 2 + 1 + 1 by omega, show j * 2 + 1 + 1 + 1 = (j * 2 + 1) + 1 + 1 by omega]
  simpa using ih
theorem cellsF_one (l : List Fld) : ∀ u ∈ cellsF l, u.oneCell' = true := by
 intro u hu
 unfold cellsF at hu
 obtain ⟨f, _, hf⟩ := List.mem_flatMap.1 hu
 simp at hf
 rcases hf with rfl | rfl <;> rfl
theorem cell_next {w : World} {x : Addr} {i : Nat} {v : Value} (h : w.cell? (x.add (i + 1)) = some v) : w.cell? ⟨(x.add i).block, (x.add i).off + 1, none⟩ = some v := by
 rw [← Go.Deep.add_add] at h
 rw [← h]; rfl
def FldsIn (w : World) (a : Option Addr) (l : List Fld) : Prop :=
 ∀ j (hj : j < l.length), ∃ x, a = some x ∧ w.cell? (x.add (j * 2)) = some (.string l[j].1) ∧ w.cell? (x.add (j * 2 + 1)) = some (.string l[j].2)
theorem FldsIn.keep {w w' : World} {a : Option Addr} {l : List Fld} (h : FldsIn w a l) (hb : Below w.heap.size w w') : FldsIn w' a l := fun j hj => by
 obtain ⟨x, e, h1, h2⟩ := h j hj
 exact ⟨x, e, below_cell hb h1, below_cell hb h2⟩
theorem FldsIn.nil (w : World) (a : Option Addr) : FldsIn w a [] := fun _ hj => absurd hj (Nat.not_lt_zero _)
theorem FldsIn.cells {w : World} {x : Addr} {l : List Fld} (h : FldsIn w (some x) l) : ∀ j u, (cellsF l)[j]? = some u → w.cell? (x.add j) = some u := fun j u hj => by
 have hlt : j < l.length * 2 := by rw [← cellsF_len]; exact (List.getElem?_eq_some_iff.1 hj).1
 have hk : j / 2 < l.length := by omega
 obtain ⟨y, e, h1, h2⟩ := h (j / 2) hk
 obtain rfl := Option.some.inj e
 obtain ⟨g1, g2⟩ := cellsF_get l (j / 2) hk
 rcases Nat.mod_two_eq_zero_or_one j with hm | hm
 · have : j / 2 * 2 = j := by omega
   rw [this] at h1 g1
   rw [hj] at g1; rw [h1, ← g1]
 · have : j / 2 * 2 + 1 = j := by omega
   rw [this] at h2 g2
   rw [hj] at g2; rw [h2, ← g2]
theorem FldsIn.of_cells {w : World} {x : Addr} {l : List Fld} (h : ∀ j u, (cellsF l)[j]? = some u → w.cell? (x.add j) = some u) : FldsIn w (some x) l := fun j hj =>
 ⟨x, rfl, h _ _ (cellsF_get l j hj).1, h _ _ (cellsF_get l j hj).2⟩
theorem Tryz.info69 : (Tryz.prog.info? 69).map (fun i => (i.zero, i.size, i.bytes)) = some (some (.agg #[.string ⟨#[]⟩, .string ⟨#[]⟩]), 2, 32) := by kernel_rfl
def AccF (w0 w : World) (v : Value) (l : List Fld) : Prop :=
 w.ownsRow w0.heap.size 69 2 v l.length (cellsF l) ∧ Below w0.heap.size w0 w
theorem AccF.start (w : World) : AccF w w (.slice none 0 0) [] := ⟨World.ownsRow_nil _ _ _ _, Below.refl _ _⟩
theorem AccF.keep {w0 w w' : World} {v : Value} {l : List Fld} (h : AccF w0 w v l) (hb : Below w.heap.size w w') : AccF w0 w' v l :=
 ⟨ownsRow_keep h.1 hb, h.2.trans (hb.mono h.2.size)⟩
theorem AccF.shape {w0 w : World} {v : Value} {l : List Fld} (h : AccF w0 w v l) : ∃ a cap, v = .slice a l.length cap ∧ FldsIn w a l := by
 obtain ⟨⟨h1, h2⟩, _⟩ := h
 rcases h2 with ⟨rfl, h2⟩ | ⟨g, cap, cur, rfl, hg, hc, hcap, hm, hsz, ht⟩
 · have : l = [] := List.eq_nil_of_length_eq_zero h2
   subst this
   exact ⟨none, 0, rfl, FldsIn.nil _ _⟩
 · refine ⟨_, cap, rfl, FldsIn.of_cells fun j u hj => ?_⟩
   have e := congrArg (fun x => x[j]?) ht
   have hlt : j < l.length * 2 := by rw [← cellsF_len]; exact (List.getElem?_eq_some_iff.1 hj).1
   rw [hj, List.getElem?_take_of_lt hlt] at e
   rw [Addr.add_lit]
   simp only [World.cell?, hc, Nat.zero_add]
   simpa using e
section
variable {ops : Array Oper} {rest : List Oper} {o : Oper} {act : Act} {Q : Exit → Act → World → Prop}
theorem wpList_append_accf (w : World) (hgd : o.guard = none) (s x : Operand) (ho : o.op = .call { callee := .builtin .append, args := #[s, x], argTypes := #[23, 23] })
  {w0 : World} {v : Value} {l : List Fld} (hs : act.eval s = v) (h : AccF w0 w v l) {b c : Nat} (hx : act.eval x = .slice (some ⟨b, 0, none⟩) 1 c) {y : Fld} (hy : w.cell? ⟨b, 0, none⟩ = some (.string y.1)) (hy2 : w.cell? ⟨b, 1, none⟩ = some (.string y.2))
  (hn : l.length + 1 ≤ 4398046511104)
  (K : ∀ g cap w', AccF w0 w' (.slice (some ⟨g, 0, none⟩) (l.length + 1) cap) (l ++ [y]) →
   wpList Tryz.prog ops Q rest (act.put o.dst (.slice (some ⟨g, 0, none⟩) (l.length + 1) cap)) w') : wpList Tryz.prog ops Q (o :: rest) act w := by
 obtain ⟨i0, hi, hz0, hz1, hz2⟩ := info_parts Tryz.info69
 refine wpList_append_lies w hgd s x 23 ho w0.heap.size 69 i0 _ 2 32 Tryz.underlying23 hi hz0 hz1 hz2 rfl (by decide) v l.length (cellsF l) hs h.1 ⟨b, 0, none⟩ 1 c [.string y.1, .string y.2] hx rfl ?_ ?_ (by decide) (by unfold maxLen; omega) (by omega) h.2.size w.heap.size rfl ?_
 · intro j u hj
   match j, hj with
   | 0, hj => simp at hj; subst hj; rw [Addr.add_lit]; exact hy
   | 1, hj => simp at hj; subst hj; rw [Addr.add_lit]; exact hy2
   | j + 2, hj => simp at hj
 · intro u hu; simp at hu; rcases hu with rfl | rfl <;> rfl
 · intro g cap w' hown hgrow hg hlt
   refine K g cap w' ⟨?_, h.2.grown hgrow h.2.size fun k hk => ?_⟩
   · rw [List.length_append, cellsF_app]; exact hown
   · exact (World.ownsRow.lt h.1 k hk).1
end
def ShortF (l : List Fld) : Prop := ∀ f ∈ l, f.1.size ≤ maxLen ∧ f.2.size ≤ maxLen
theorem bulk_mem {H : Type} {x : DataW H} : ∀ {l : List (DataW H)}, x ∈ l → Rows.uptoBulk x ≤ Rows.uptoBulkAll l
 | y :: r, h => by
  simp only [Rows.uptoBulkAll]
  rcases List.mem_cons.1 h with rfl | h
  · omega
  · have := bulk_mem h; omega
def strF : Value → ByteArray | .string s => s | _ => ⟨#[]⟩
theorem open_fields {H : Type} {enc : TypeId × Value → H} {W : World} {a : Option Addr} {len cap : Nat} {d : DataW H} {ps : List MemPlace} {base : Nat}
  (h : DataW.Trod enc Tryz.prog W base (fun _ => true) true 23 (.slice a len cap) d ps) :
  ∃ l : List Fld, len = l.length ∧ FldsIn W a l ∧ l.length ≤ cap ∧ cap ≤ maxLen ∧ ShortF l ∧ ∀ f ∈ l, f.1.size ≤ Rows.uptoBulk d ∧ f.2.size ≤ Rows.uptoBulk d := by
 obtain ⟨fuel, hf⟩ := h
 rcases Go.Deep.open_slice_pairs Tryz.underlying23 Tryz.underlying69 (by kernel_rfl) (by kernel_rfl) (by kernel_rfl) (by kernel_rfl) (by kernel_rfl) hf with ⟨hcs, _⟩ | ⟨x, n, c, m, k, V0, V1, D0, D1, P0, P1, hcs, _, hl, hm, hmm, hx, hi⟩
 · simp [Value.cells] at hcs
   obtain ⟨rfl, rfl, rfl⟩ := hcs
   exact ⟨[], rfl, FldsIn.nil _ _, Nat.le_refl _, Nat.zero_le _, (fun f hf => by cases hf), (fun f hf => by cases hf)⟩
 · simp [Value.cells] at hcs
   obtain ⟨rfl, rfl, rfl⟩ := hcs
   have hlm : len ≤ m := by rw [hmm]; split <;> omega
   have each : ∀ i, i < m → ∃ s t : ByteArray, V0 i = .string s ∧ V1 i = .string t ∧ s.size ≤ maxLen ∧ t.size ≤ maxLen ∧ D0 i = .lit (.string s.data.toList) ∧ D1 i = .lit (.string t.data.toList) := fun i him => by
    obtain ⟨_, _, h3, h4⟩ := hi i him
    obtain ⟨s, e1, e2, e3⟩ := DataW.trod_string Tryz.underlying9 h3
    obtain ⟨t, f1, f2, f3⟩ := DataW.trod_string Tryz.underlying9 h4
    injection e1 with e1; injection f1 with f1
    exact ⟨s, t, e1, f1, e3, f3, congrArg Prod.fst e2, congrArg Prod.fst f2⟩
   have hlen : ((List.range len).map fun i => ((strF (V0 i), strF (V1 i)) : Fld)).length = len := by simp
   have hd : d = .slice ((List.range len).map fun i => .agg [D0 i, D1 i]) ((List.range (m - len)).map fun j => .agg [D0 (len + j), D1 (len + j)]) := congrArg Prod.fst hx
   refine ⟨(List.range len).map fun i => (strF (V0 i), strF (V1 i)), hlen.symm, fun j hj => ?_, by rw [hlen]; exact hl, hm, fun f hf => ?_, fun f hf => ?_⟩
   · rw [hlen] at hj
     obtain ⟨h1, h2, _⟩ := hi j (by omega)
     obtain ⟨s, t, e1, e2, _⟩ := each j (by omega)
     refine ⟨x, rfl, ?_, ?_⟩
     · rw [h1, e1]; simp [strF, e1]
     · rw [h2, e2]; simp [strF, e2]
   · obtain ⟨i, hi', rfl⟩ := List.mem_map.1 hf
     obtain ⟨s, t, e1, e2, e3, e4, _⟩ := each i (by have := List.mem_range.1 hi'; omega)
     rw [e1, e2]; exact ⟨e3, e4⟩
   · obtain ⟨i, hi', rfl⟩ := List.mem_map.1 hf
     obtain ⟨s, t, e1, e2, e3, e4, e5, e6⟩ := each i (by have := List.mem_range.1 hi'; omega)
     have hb := bulk_mem (x := (.agg [D0 i, D1 i] : DataW H)) (l := (List.range len).map fun i => .agg [D0 i, D1 i]) (List.mem_map.2 ⟨i, hi', rfl⟩)
     rw [e5, e6] at hb
     simp only [Rows.uptoBulk, Rows.uptoBulkAll] at hb
     have g1 : s.data.toList.length = s.size := by rw [Array.length_toList]; rfl
     have g2 : t.data.toList.length = t.size := by rw [Array.length_toList]; rfl
     rw [e1, e2, hd]
     simp only [strF, Rows.uptoBulk]
     omega
end Go.Proofs.YtfghgenboahkkaaGreatDoor
namespace Go.Proofs.YtfghgenboahkkaaGreatDoor
open Go.RowKit
def valuesL (l : List Fld) (n : ByteArray) : List ByteArray := (l.filter fun f => foldS f.1 n).map (·.2)
theorem valuesL_yes (l : List Fld) (n : ByteArray) (k : Nat) (h : k < l.length) (hf : foldS l[k].1 n = true) : valuesL (l.take (k + 1)) n = valuesL (l.take k) n ++ [l[k].2] := by
 unfold valuesL
 rw [List.take_succ_eq_append_getElem h, List.filter_append, List.map_append]; simp [hf]
theorem valuesL_no (l : List Fld) (n : ByteArray) (k : Nat) (h : k < l.length) (hf : foldS l[k].1 n = false) : valuesL (l.take (k + 1)) n = valuesL (l.take k) n := by
 unfold valuesL
 rw [List.take_succ_eq_append_getElem h, List.filter_append, List.map_append]; simp [hf]
theorem valuesL_len (l : List Fld) (n : ByteArray) : (valuesL l n).length ≤ l.length := by
 unfold valuesL; rw [List.length_map]; exact List.length_filter_le _ _
set_option maxRecDepth 100000 in
set_option maxHeartbeats 1000000 in
theorem refValues_any (l : List Fld) (n : ByteArray) (a : Option Addr) (cap : Nat) (w : World) (h : FldsIn w a l) (hz : ShortF l) (hn : n.size ≤ maxLen) (hl : l.length ≤ 1000000) :
  Calls Tryz.prog 20 #[.slice a l.length cap, .string n] w (RetStrs w (valuesL l n)) := by
 have H0 := Box.mk h
 have HZ := Box.mk hz
 clear h hz
 go_enter Tryz.func20, Tryz.ntmps20
 go_wp2_with fail
 go_loopw [5, 6] (fun v iv wr => ∃ k : Nat, k ≤ l.length ∧ iv = .int .i64 k ∧ Box (Acc w wr v (valuesL (l.take k) n))) (fun _ iv _ => l.length - (intOf iv).toNat)
 case atStart => exact ⟨0, Nat.zero_le _, rfl, ⟨Acc.start w⟩⟩
 case round =>
  obtain ⟨k, hk, rfl, HM⟩ := hrel
  by_cases hlt : k < l.length
  · obtain ⟨x, rfl, hx1, hx2⟩ := (H0.out.keep HM.out.2) k hlt
    have HSZ := Box.mk (HZ.out _ (List.getElem_mem hlt))
    have hVL := valuesL_len (l.take k) n
    have hVL2 : (l.take k).length ≤ k := List.length_take_le _ _
    by_cases hf : foldS l[k].1 n = true
    · have HT := Box.mk (valuesL_yes l n k hlt hf)
      have HC2 := Box.mk hx2
      generalize l[k] = f at *
      go_wp2_with fail
      refine (refFold_any f.1 n _ HSZ.out.1 hn).mono ?_
      rintro e w1 ⟨rfl, hb1⟩
      have hc2 := cell_next (below_cell hb1 HC2.out)
      have HM1 := Box.mk (HM.out.keep hb1)
      clear hb1 hx2
      go_wp2_with (at_builtin; refine wpList_append_acc _ rfl _ _ rfl rfl (HM1.out.keep ((Below.refl _ _).alloc (Nat.le_refl _) _)) rfl (y := f.2) ?c1 ?c2 ?c3)
      case c1 => simp
      case c2 => omega
      case c3 =>
       intro g cap' w' hacc _
       have HACC := Box.mk (show Acc w w' (.slice (some ⟨g, 0, none⟩) ((valuesL (l.take k) n).length + 1) cap') (valuesL (l.take (k + 1)) n) by rw [HT.out]; exact hacc)
       clear hacc HM1 HT
       go_wp2_with fail
       go_roundw
       case rel => exact ⟨k + 1, by omega, by go_num, HACC⟩
       case measure => simp [intOf]; omega
    · have hf' : foldS l[k].1 n = false := by simpa using hf
      have HT := Box.mk (valuesL_no l n k hlt hf')
      clear hf
      generalize l[k] = f at *
      go_wp2_with fail
      refine (refFold_any f.1 n _ HSZ.out.1 hn).mono ?_
      rintro e w1 ⟨rfl, hb1⟩
      have HM1 := Box.mk (show Acc w w1 _ (valuesL (l.take (k + 1)) n) by rw [HT.out]; exact HM.out.keep hb1)
      clear hb1
      go_wp2_with fail
      go_roundw
      case rel => exact ⟨k + 1, by omega, by go_num, HM1⟩
      case measure => simp [intOf]; omega
  · have HE := Box.mk (show Acc w wr _ (valuesL l n) by have := HM.out; rw [List.take_of_length_le (by omega)] at this; exact this)
    go_wp2_with fail
    obtain ⟨a', cap', rfl, hs⟩ := HE.out.shape
    go_ret
    exact ⟨a', cap', rfl, hs, HE.out.2⟩
theorem valuesL_any (l : List Fld) (n : ByteArray) : (decide (0 < (valuesL l n).length)) = l.any fun f => foldS f.1 n := by
 unfold valuesL
 rw [List.length_map, Bool.eq_iff_iff, decide_eq_true_eq, List.any_eq_true]
 constructor
 · intro h
   have h' : 0 < (l.filter fun f => foldS f.1 n).length := by omega
   obtain ⟨f, hf⟩ := List.exists_mem_of_length_pos h'
   rw [List.mem_filter] at hf
   exact ⟨f, hf.1, hf.2⟩
 · rintro ⟨f, h1, h2⟩
   have : f ∈ l.filter fun f => foldS f.1 n := List.mem_filter.2 ⟨h1, h2⟩
   have := List.length_pos_of_mem this
   omega
def hasL (l : List Fld) (n : ByteArray) : Bool := l.any fun f => foldS f.1 n
def inFoldL (l : List ByteArray) (s : ByteArray) : Bool := l.any fun x => foldS x s
theorem inFoldL_no {l : List ByteArray} {s : ByteArray} {k : Nat} (h1 : k ≤ l.length) (h2 : ¬ k < l.length) (h : ∀ x ∈ l.take k, foldS x s = false) : inFoldL l s = false := by
 unfold inFoldL
 rw [List.take_of_length_le (by omega)] at h
 rw [List.any_eq_false]
 intro x hx
 rw [h x hx]; simp
set_option maxRecDepth 100000 in
set_option maxHeartbeats 1000000 in
theorem inFold_big (l : List ByteArray) (s : ByteArray) (a : Option Addr) (cap : Nat) (w : World) (h : StrsIn w a l) (hz : ∀ x ∈ l, x.size ≤ maxLen) (hs : s.size ≤ maxLen) (hl : l.length ≤ 4000000000) :
  Calls Tryz.prog 68 #[.slice a l.length cap, .string s] w fun e w' => e = .returned (.bool (inFoldL l s)) ∧ Below w.heap.size w w' := by
 have H0 := Box.mk h
 have HZ := Box.mk hz
 clear h hz
 go_enter Tryz.func68, Tryz.ntmps68
 go_wp2_with fail
 go_loopw [5] (fun iv wr => ∃ k : Nat, k ≤ l.length ∧ iv = .int .i64 k ∧ Box (Below w.heap.size w wr ∧ ∀ x ∈ l.take k, foldS x s = false)) (fun iv _ => l.length - (intOf iv).toNat)
 case atStart => exact ⟨0, Nat.zero_le _, rfl, ⟨Below.refl _ _, by simp⟩⟩
 case round =>
  obtain ⟨k, hk, rfl, HM⟩ := hrel
  by_cases hlt : k < l.length
  · obtain ⟨x, rfl, hx⟩ := (H0.out.keep HM.out.1) k hlt
    have HSZ := Box.mk (HZ.out _ (List.getElem_mem hlt))
    by_cases hf : foldS l[k] s = true
    · have HT := Box.mk (show inFoldL l s = true by unfold inFoldL; exact List.any_eq_true.2 ⟨_, List.getElem_mem hlt, hf⟩)
      generalize l[k] = f at *
      go_wp2_with fail
      refine (refFold_any f s _ HSZ.out hs).mono ?_
      rintro e w1 ⟨rfl, hb1⟩
      have HB1 := Box.mk (below_trans HM.out.1 hb1)
      clear hb1
      go_wp2_with fail
      go_ret
      exact ⟨ret_bool HT.out.symm, HB1.out⟩
    · have hf' : foldS l[k] s = false := by simpa using hf
      have HT := Box.mk (show ∀ x ∈ l.take (k + 1), foldS x s = false by
       rw [List.take_succ_eq_append_getElem hlt]
       intro x hx
       rcases List.mem_append.1 hx with h | h
       · exact HM.out.2 x h
       · simp at h; rw [h]; exact hf')
      clear hf
      generalize l[k] = f at *
      go_wp2_with fail
      refine (refFold_any f s _ HSZ.out hs).mono ?_
      rintro e w1 ⟨rfl, hb1⟩
      have HM1 := Box.mk (And.intro (below_trans HM.out.1 hb1) HT.out)
      clear hb1 HT
      go_wp2_with fail
      go_roundw
      case rel => exact ⟨k + 1, by omega, by go_num, HM1⟩
      case measure => simp [intOf]; omega
  · have HE := Box.mk (inFoldL_no hk hlt HM.out.2)
    go_wp2_with fail
    go_ret
    exact ⟨ret_bool HE.out.symm, HM.out.1⟩
def withoutL (l : List Fld) (ns : List ByteArray) : List Fld := l.filter fun f => !inFoldL ns f.1
theorem withoutL_yes (l : List Fld) (ns : List ByteArray) (k : Nat) (h : k < l.length) (hf : inFoldL ns l[k].1 = false) : withoutL (l.take (k + 1)) ns = withoutL (l.take k) ns ++ [l[k]] := by
 unfold withoutL
 rw [List.take_succ_eq_append_getElem h, List.filter_append]; simp [hf]
theorem withoutL_no (l : List Fld) (ns : List ByteArray) (k : Nat) (h : k < l.length) (hf : inFoldL ns l[k].1 = true) : withoutL (l.take (k + 1)) ns = withoutL (l.take k) ns := by
 unfold withoutL
 rw [List.take_succ_eq_append_getElem h, List.filter_append]; simp [hf]
theorem withoutL_len (l : List Fld) (ns : List ByteArray) : (withoutL l ns).length ≤ l.length := by
 unfold withoutL; exact List.length_filter_le _ _
theorem withoutL_short {l : List Fld} (h : ShortF l) (ns : List ByteArray) : ShortF (withoutL l ns) := fun f hf => h f (List.mem_filter.1 hf).1
def RetAccF (w : World) (l : List Fld) (e : Ending) (w' : World) : Prop := ∃ v, e = .returned v ∧ AccF w w' v l
theorem AccF.lift {w w1 w2 : World} {v : Value} {l : List Fld} (h : Below w.heap.size w w1) (k : AccF w1 w2 v l) : AccF w w2 v l := by
 refine ⟨?_, below_trans h k.2⟩
 obtain ⟨⟨h1, h2⟩, _⟩ := k
 refine ⟨h1, ?_⟩
 rcases h2 with h2 | ⟨g, cap, cur, hv, hg, r⟩
 · exact .inl h2
 · exact .inr ⟨g, cap, cur, hv, Nat.le_trans h.size hg, r⟩
set_option maxRecDepth 100000 in
set_option maxHeartbeats 1000000 in
theorem refWithout_acc (l : List Fld) (ns : List ByteArray) (a b : Option Addr) (cap cb : Nat) (w : World) (h : FldsIn w a l) (hz : ShortF l) (hn : StrsIn w b ns) (hnz : ∀ x ∈ ns, x.size ≤ maxLen) (hl : l.length ≤ 1000000) (hnl : ns.length ≤ 4000000000) :
  Calls Tryz.prog 38 #[.slice a l.length cap, .slice b ns.length cb] w (RetAccF w (withoutL l ns)) := by
 have H0 := Box.mk h
 have HZ := Box.mk hz
 have HN := Box.mk hn
 have HNZ := Box.mk hnz
 clear h hz hn hnz
 go_enter Tryz.func38, Tryz.ntmps38
 go_wp2_with fail
 go_loopw [5, 6] (fun v iv wr => ∃ k : Nat, k ≤ l.length ∧ iv = .int .i64 k ∧ Box (AccF w wr v (withoutL (l.take k) ns))) (fun _ iv _ => l.length - (intOf iv).toNat)
 case atStart => exact ⟨0, Nat.zero_le _, rfl, ⟨AccF.start w⟩⟩
 case round =>
  obtain ⟨k, hk, rfl, HM⟩ := hrel
  by_cases hlt : k < l.length
  · obtain ⟨x, rfl, hx1, hx2⟩ := (H0.out.keep HM.out.2) k hlt
    have HSZ := Box.mk (HZ.out _ (List.getElem_mem hlt))
    have hVL := withoutL_len (l.take k) ns
    have hVL2 : (l.take k).length ≤ k := List.length_take_le _ _
    have HN1 := Box.mk (HN.out.keep HM.out.2)
    by_cases hf : inFoldL ns l[k].1 = true
    · have HT := Box.mk (withoutL_no l ns k hlt hf)
      clear hx2
      generalize l[k] = f at *
      go_wp2_with fail
      refine (inFold_big ns f.1 b cb _ HN1.out HNZ.out HSZ.out.1 hnl).mono ?_
      rintro e w1 ⟨rfl, hb1⟩
      have HM1 := Box.mk (show AccF w w1 _ (withoutL (l.take (k + 1)) ns) by rw [HT.out]; exact HM.out.keep hb1)
      clear hb1
      go_wp2_with fail
      go_roundw
      case rel => exact ⟨k + 1, by omega, by go_num, HM1⟩
      case measure => simp [intOf]; omega
    · have hf' : inFoldL ns l[k].1 = false := by simpa using hf
      have HT := Box.mk (withoutL_yes l ns k hlt hf')
      have HC1 := Box.mk hx1
      have HC2 := Box.mk hx2
      clear hf hx2
      generalize l[k] = f at *
      go_wp2_with fail
      refine (inFold_big ns f.1 b cb _ HN1.out HNZ.out HSZ.out.1 hnl).mono ?_
      rintro e w1 ⟨rfl, hb1⟩
      have hc1 := below_cell hb1 HC1.out
      have hc2 := cell_next (below_cell hb1 HC2.out)
      clear hx1
      have HM1 := Box.mk (HM.out.keep hb1)
      clear hb1
      go_wp2_with (at_builtin; refine wpList_append_accf _ rfl _ _ rfl rfl (HM1.out.keep ((Below.refl _ _).alloc (Nat.le_refl _) _)) rfl (y := f) ?c1 ?c2 ?c3 ?c4)
      case c1 => simp
      case c2 => simp
      case c3 => omega
      case c4 =>
       intro g cap' w' hacc
       have HACC := Box.mk (show AccF w w' (.slice (some ⟨g, 0, none⟩) ((withoutL (l.take k) ns).length + 1) cap') (withoutL (l.take (k + 1)) ns) by rw [HT.out]; exact hacc)
       clear hacc HM1 HT
       go_wp2_with fail
       go_roundw
       case rel => exact ⟨k + 1, by omega, by go_num, HACC⟩
       case measure => simp [intOf]; omega
  · have HE := Box.mk (show AccF w wr _ (withoutL l ns) by have := HM.out; rw [List.take_of_length_le (by omega)] at this; exact this)
    go_wp2_with fail
    go_ret
    exact ⟨_, rfl, HE.out⟩
theorem inS_map (s : ByteArray) (ns : List ByteArray) : inS (lowS s) (ns.map lowS) = inFoldL ns s := by
 unfold inS inFoldL foldS
 rw [List.any_map]; rfl
theorem inS_one (s n : ByteArray) : inS (lowS s) ([n].map lowS) = foldS s n := by
 rw [inS_map]
 unfold inFoldL foldS
 simp only [List.any_cons, List.any_nil, Bool.or_false]
 exact Bool.beq_comm
theorem new_cellF (w : World) (cs : Array Value) (t : TypeId) (j : Nat) : (w.alloc (.cells cs t (0, 0))).cell? ⟨w.heap.size, j, none⟩ = cs[j]? :=
 cell_of_row _ _ _ _ _ _ (heap_alloc_new w (.cells cs t (0, 0)))
theorem strsIn_one (w : World) (n : ByteArray) (t : TypeId) : StrsIn (w.alloc (.cells #[.string n] t)) (some ⟨w.heap.size, 0, none⟩) [n] := fun j hj => by
 obtain rfl : j = 0 := by simpa using hj
 exact ⟨_, rfl, by rw [Addr.add_lit, new_cellF]; rfl⟩
theorem below_twoF {w w1 : World} (h : Below w.heap.size w w1) (o : Obj) : Below w.heap.size w (w1.alloc o) := below_trans h (below_oneF w1 o)
theorem SetIn.grown {w w' : World} {b n : Nat} {S : List ByteArray} {row : Option Nat} (h : SetIn w b n S) (hg : w.grownBy w' row) (hne : row ≠ some b) : SetIn w' b n S := by
 obtain ⟨D, h1, h2⟩ := h
 exact ⟨D, h1.kept hg (fun e => hne e.symm), h2⟩
section
variable {ops : Array Oper} {rest : List Oper} {o : Oper} {act : Act} {Q : Exit → Act → World → Prop}
theorem wpList_append_accset (w : World) (hgd : o.guard = none) (s x : Operand) (ho : o.op = .call { callee := .builtin .append, args := #[s, x], argTypes := #[45, 45] })
  {w0 : World} {v : Value} {l : List ByteArray} (hs : act.eval s = v) (h : Acc w0 w v l) {b c : Nat} (hx : act.eval x = .slice (some ⟨b, 0, none⟩) 1 c) {y : ByteArray} (hy : w.cell? ⟨b, 0, none⟩ = some (.string y))
  {q m : Nat} {S : List ByteArray} (hS : SetIn w q m S) (hne : v.ownBlock ≠ some q) (hn : l.length + 1 ≤ 8796093022208)
  (K : ∀ v' w', Acc w0 w' v' (l ++ [y]) → SetIn w' q m S → v'.ownBlock ≠ some q → wpList Tryz.prog ops Q rest (act.put o.dst v') w') : wpList Tryz.prog ops Q (o :: rest) act w := by
 obtain ⟨i0, hi, hz0, hz1, hz2⟩ := info_parts Tryz.info9
 refine wpList_append_lies w hgd s x 45 ho w0.heap.size 9 i0 (.string ⟨#[]⟩) 1 16 Tryz.underlying45 hi hz0 hz1 hz2 rfl (by decide) v l.length (l.map Value.string) hs h.1 ⟨b, 0, none⟩ 1 c [.string y] hx rfl ?_ ?_ (by decide) (by unfold maxLen; omega) (by omega) h.2.size w.heap.size rfl ?_
 · intro j u hj
   match j, hj with
   | 0, hj => simp at hj; subst hj; rw [Addr.add_lit]; exact hy
   | j + 1, hj => simp at hj
 · intro u hu; simp at hu; subst hu; rfl
 · intro g cap w' hown hgrow hg hlt
   refine K _ w' ⟨by simpa using hown, h.2.grown hgrow h.2.size fun k hk => (World.ownsRow.lt h.1 k hk).1⟩ (hS.grown hgrow hne) (fun e => ?_)
   have : g = q := by simpa [Value.ownBlock] using e
   subst this
   rcases hg with hg | hg
   · exact hne hg
   · have := hS.lt; omega
theorem wpList_append_accfset (w : World) (hgd : o.guard = none) (s x : Operand) (ho : o.op = .call { callee := .builtin .append, args := #[s, x], argTypes := #[23, 23] })
  {w0 : World} {v : Value} {l : List Fld} (hs : act.eval s = v) (h : AccF w0 w v l) {b c : Nat} (hx : act.eval x = .slice (some ⟨b, 0, none⟩) 1 c) {y : Fld} (hy : w.cell? ⟨b, 0, none⟩ = some (.string y.1)) (hy2 : w.cell? ⟨b, 1, none⟩ = some (.string y.2))
  {q m : Nat} {S : List ByteArray} (hS : SetIn w q m S) (hne : v.ownBlock ≠ some q) (hn : l.length + 1 ≤ 4398046511104)
  (K : ∀ v' w', AccF w0 w' v' (l ++ [y]) → SetIn w' q m S → v'.ownBlock ≠ some q → wpList Tryz.prog ops Q rest (act.put o.dst v') w') : wpList Tryz.prog ops Q (o :: rest) act w := by
 obtain ⟨i0, hi, hz0, hz1, hz2⟩ := info_parts Tryz.info69
 refine wpList_append_lies w hgd s x 23 ho w0.heap.size 69 i0 _ 2 32 Tryz.underlying23 hi hz0 hz1 hz2 rfl (by decide) v l.length (cellsF l) hs h.1 ⟨b, 0, none⟩ 1 c [.string y.1, .string y.2] hx rfl ?_ ?_ (by decide) (by unfold maxLen; omega) (by omega) h.2.size w.heap.size rfl ?_
 · intro j u hj
   match j, hj with
   | 0, hj => simp at hj; subst hj; rw [Addr.add_lit]; exact hy
   | 1, hj => simp at hj; subst hj; rw [Addr.add_lit]; exact hy2
   | j + 2, hj => simp at hj
 · intro u hu; simp at hu; rcases hu with rfl | rfl <;> rfl
 · intro g cap w' hown hgrow hg hlt
   refine K _ w' ⟨by rw [List.length_append, cellsF_app]; exact hown, h.2.grown hgrow h.2.size fun k hk => (World.ownsRow.lt h.1 k hk).1⟩ (hS.grown hgrow hne) (fun e => ?_)
   have : g = q := by simpa [Value.ownBlock] using e
   subst this
   rcases hg with hg | hg
   · exact hne hg
   · have := hS.lt; omega
end
theorem one_short (n : ByteArray) : ([n] : List ByteArray).length ≤ 140737488355328 := by show 1 ≤ 140737488355328; decide
set_option maxRecDepth 100000 in
set_option maxHeartbeats 2000000 in
theorem fValues_any (l : List Fld) (n : ByteArray) (a : Option Addr) (cap : Nat) (w : World) (h : FldsIn w a l) (hz : ShortF l) (hn : n.size ≤ maxLen) (hl : l.length ≤ 1000000) :
  Calls Tryz.prog 75 #[.slice a l.length cap, .string n] w (RetStrs w (valuesL l n)) := by
 have H0 := Box.mk h
 have HZ := Box.mk hz
 clear h hz
 go_enter Tryz.func75, Tryz.ntmps75
 go_wp2_with fail
 refine (setOf_any [n] _ _ _ (strsIn_one w n _) (by simpa using hn) (one_short n)).mono ?_
 rintro e w1 ⟨b, m, rfl, hS, hb⟩
 have HS := Box.mk hS
 have HB := Box.mk (below_trans (below_oneF w (.cells #[.string n] 9)) hb)
 clear hS hb
 have HA0 := Box.mk (show Acc w w1 (.slice none 0 0) (valuesL (l.take 0) n) from ⟨World.ownsRow_nil _ _ _ _, HB.out⟩)
 go_wp2_with fail
 go_loopw [5, 14] (fun v iv wr => ∃ k : Nat, k ≤ l.length ∧ iv = .int .i64 k ∧ Box (Acc w wr v (valuesL (l.take k) n) ∧ SetIn wr b m ([n].map lowS) ∧ v.ownBlock ≠ some b)) (fun _ iv _ => l.length - (intOf iv).toNat)
 case atStart => exact ⟨0, Nat.zero_le _, rfl, ⟨HA0.out, HS.out, by simp [Value.ownBlock]⟩⟩
 case round =>
  clear HS HB HA0
  obtain ⟨k, hk, rfl, HM⟩ := hrel
  by_cases hlt : k < l.length
  · obtain ⟨x, rfl, hx1, hx2⟩ := (H0.out.keep HM.out.1.2) k hlt
    have hx2 := cell_next hx2
    have HSZ := Box.mk (HZ.out _ (List.getElem_mem hlt))
    have hVL := valuesL_len (l.take k) n
    have hVL2 : (l.take k).length ≤ k := List.length_take_le _ _
    by_cases hf : foldS l[k].1 n = true
    · have HT := Box.mk (valuesL_yes l n k hlt hf)
      have HIN := Box.mk (show inS (lowS l[k].1) ([n].map lowS) = true by rw [inS_one]; exact hf)
      clear hf
      generalize l[k] = f at *
      go_wp2_with fail
      refine (hdrIn_any f.1 f.2 b m _ _ (HM.out.2.1.keep (below_oneF wr (.cells #[.string f.1, .string f.2] 69))) HSZ.out.1).mono ?_
      rintro e w2 ⟨he, hb1⟩
      rw [HIN.out] at he
      subst he
      have hc2 : w2.cell? ⟨wr.heap.size, 1, none⟩ = some (.string f.2) := below_cell hb1 (by rw [new_cellF]; rfl)
      have HB2 := Box.mk (below_trans (below_oneF wr (.cells #[.string f.1, .string f.2] 69)) hb1)
      have HA2 := Box.mk (HM.out.1.keep HB2.out)
      have HS2 := Box.mk (HM.out.2.1.keep HB2.out)
      clear hb1 HIN
      go_wp2_with (at_builtin; refine wpList_append_accset _ rfl _ _ rfl rfl (HA2.out.keep ((Below.refl _ _).alloc (Nat.le_refl _) _)) rfl (y := f.2) ?c1 (HS2.out.keep ((Below.refl _ _).alloc (Nat.le_refl _) _)) HM.out.2.2 ?c2 ?c3)
      case c1 => simp
      case c2 => omega
      case c3 =>
       intro v' w' hacc hs' hne
       have HACC := Box.mk (show Acc w w' v' (valuesL (l.take (k + 1)) n) ∧ SetIn w' b m ([n].map lowS) ∧ v'.ownBlock ≠ some b by rw [HT.out]; exact ⟨hacc, hs', hne⟩)
       clear hacc hs' hne HT HA2 HS2 HB2 HM
       go_wp2_with fail
       go_roundw
       case rel => exact ⟨k + 1, by omega, by go_num, HACC⟩
       case measure => simp [intOf]; omega
    · have hf' : foldS l[k].1 n = false := by simpa using hf
      have HT := Box.mk (valuesL_no l n k hlt hf')
      have HIN := Box.mk (show inS (lowS l[k].1) ([n].map lowS) = false by rw [inS_one]; exact hf')
      clear hf hf'
      generalize l[k] = f at *
      go_wp2_with fail
      refine (hdrIn_any f.1 f.2 b m _ _ (HM.out.2.1.keep (below_oneF wr (.cells #[.string f.1, .string f.2] 69))) HSZ.out.1).mono ?_
      rintro e w2 ⟨he, hb1⟩
      rw [HIN.out] at he
      subst he
      have HB2 := Box.mk (below_trans (below_oneF wr (.cells #[.string f.1, .string f.2] 69)) hb1)
      have HM2 := Box.mk (show Acc w w2 _ (valuesL (l.take (k + 1)) n) ∧ SetIn w2 b m ([n].map lowS) ∧ _ by rw [HT.out]; exact ⟨HM.out.1.keep HB2.out, HM.out.2.1.keep HB2.out, HM.out.2.2⟩)
      clear hb1 HIN HT HB2
      go_wp2_with fail
      go_roundw
      case rel => exact ⟨k + 1, by omega, by go_num, HM2⟩
      case measure => simp [intOf]; omega
  · have HE := Box.mk (show Acc w wr _ (valuesL l n) by have := HM.out.1; rw [List.take_of_length_le (by omega)] at this; exact this)
    go_wp2_with fail
    obtain ⟨a', cap', rfl, hs⟩ := HE.out.shape
    go_ret
    exact ⟨a', cap', rfl, hs, HE.out.2⟩
set_option maxRecDepth 100000 in
set_option maxHeartbeats 2000000 in
theorem fWithout_acc (l : List Fld) (ns : List ByteArray) (a d : Option Addr) (cap cd : Nat) (w : World) (h : FldsIn w a l) (hz : ShortF l) (hn : StrsIn w d ns) (hnz : ∀ x ∈ ns, x.size ≤ maxLen) (hl : l.length ≤ 1000000) (hnl : ns.length ≤ 4000000000) :
  Calls Tryz.prog 34 #[.slice a l.length cap, .slice d ns.length cd] w (RetAccF w (withoutL l ns)) := by
 have H0 := Box.mk h
 have HZ := Box.mk hz
 have HN := Box.mk hn
 have HNZ := Box.mk hnz
 clear h hz hn hnz
 go_enter Tryz.func34, Tryz.ntmps34
 go_wp2_with fail
 refine (setOf_any ns _ _ _ HN.out HNZ.out (by omega)).mono ?_
 rintro e w1 ⟨b, m, rfl, hS, hb⟩
 have HS := Box.mk hS
 have HB := Box.mk hb
 clear hS hb
 have HA0 := Box.mk (show AccF w w1 (.slice none 0 0) (withoutL (l.take 0) ns) from ⟨World.ownsRow_nil _ _ _ _, HB.out⟩)
 go_wp2_with fail
 go_loopw [5, 13] (fun v iv wr => ∃ k : Nat, k ≤ l.length ∧ iv = .int .i64 k ∧ Box (AccF w wr v (withoutL (l.take k) ns) ∧ SetIn wr b m (ns.map lowS) ∧ v.ownBlock ≠ some b)) (fun _ iv _ => l.length - (intOf iv).toNat)
 case atStart => exact ⟨0, Nat.zero_le _, rfl, ⟨HA0.out, HS.out, by simp [Value.ownBlock]⟩⟩
 case round =>
  clear HS HB HA0
  obtain ⟨k, hk, rfl, HM⟩ := hrel
  by_cases hlt : k < l.length
  · obtain ⟨x, rfl, hx1, hx2⟩ := (H0.out.keep HM.out.1.2) k hlt
    have hx2 := cell_next hx2
    have HSZ := Box.mk (HZ.out _ (List.getElem_mem hlt))
    have hVL := withoutL_len (l.take k) ns
    have hVL2 : (l.take k).length ≤ k := List.length_take_le _ _
    by_cases hf' : inFoldL ns l[k].1 = false
    · have HT := Box.mk (withoutL_yes l ns k hlt hf')
      have HIN := Box.mk (show inS (lowS l[k].1) (ns.map lowS) = false by rw [inS_map]; exact hf')
      clear hf'
      generalize l[k] = f at *
      go_wp2_with fail
      refine (hdrIn_any f.1 f.2 b m _ _ (HM.out.2.1.keep (below_oneF wr (.cells #[.string f.1, .string f.2] 69))) HSZ.out.1).mono ?_
      rintro e w2 ⟨he, hb1⟩
      rw [HIN.out] at he
      subst he
      have hc1 : w2.cell? ⟨wr.heap.size, 0, none⟩ = some (.string f.1) := below_cell hb1 (by rw [new_cellF]; rfl)
      have hc2 : w2.cell? ⟨wr.heap.size, 1, none⟩ = some (.string f.2) := below_cell hb1 (by rw [new_cellF]; rfl)
      have HB2 := Box.mk (below_trans (below_oneF wr (.cells #[.string f.1, .string f.2] 69)) hb1)
      have HA2 := Box.mk (HM.out.1.keep HB2.out)
      have HS2 := Box.mk (HM.out.2.1.keep HB2.out)
      clear hb1 HIN
      go_wp2_with (at_builtin; refine wpList_append_accfset _ rfl _ _ rfl rfl (HA2.out.keep ((Below.refl _ _).alloc (Nat.le_refl _) _)) rfl (y := f) ?c1 ?c1b (HS2.out.keep ((Below.refl _ _).alloc (Nat.le_refl _) _)) HM.out.2.2 ?c2 ?c3)
      case c1 => simp
      case c1b => simp
      case c2 => omega
      case c3 =>
       intro v' w' hacc hs' hne
       have HACC := Box.mk (show AccF w w' v' (withoutL (l.take (k + 1)) ns) ∧ SetIn w' b m (ns.map lowS) ∧ v'.ownBlock ≠ some b by rw [HT.out]; exact ⟨hacc, hs', hne⟩)
       clear hacc hs' hne HT HA2 HS2 HB2 HM
       go_wp2_with fail
       go_roundw
       case rel => exact ⟨k + 1, by omega, by go_num, HACC⟩
       case measure => simp [intOf]; omega
    · have hf : inFoldL ns l[k].1 = true := by simpa using hf'
      have HT := Box.mk (withoutL_no l ns k hlt hf)
      have HIN := Box.mk (show inS (lowS l[k].1) (ns.map lowS) = true by rw [inS_map]; exact hf)
      clear hf hf'
      generalize l[k] = f at *
      go_wp2_with fail
      refine (hdrIn_any f.1 f.2 b m _ _ (HM.out.2.1.keep (below_oneF wr (.cells #[.string f.1, .string f.2] 69))) HSZ.out.1).mono ?_
      rintro e w2 ⟨he, hb1⟩
      rw [HIN.out] at he
      subst he
      have HB2 := Box.mk (below_trans (below_oneF wr (.cells #[.string f.1, .string f.2] 69)) hb1)
      have HM2 := Box.mk (show AccF w w2 _ (withoutL (l.take (k + 1)) ns) ∧ SetIn w2 b m (ns.map lowS) ∧ _ by rw [HT.out]; exact ⟨HM.out.1.keep HB2.out, HM.out.2.1.keep HB2.out, HM.out.2.2⟩)
      clear hb1 HIN HT HB2
      go_wp2_with fail
      go_roundw
      case rel => exact ⟨k + 1, by omega, by go_num, HM2⟩
      case measure => simp [intOf]; omega
  · have HE := Box.mk (show AccF w wr _ (withoutL l ns) by have := HM.out.1; rw [List.take_of_length_le (by omega)] at this; exact this)
    go_wp2_with fail
    go_ret
    exact ⟨_, rfl, HE.out⟩
end Go.Proofs.YtfghgenboahkkaaGreatDoor
namespace Go.Proofs.YtfghgenboahkkaaGreatDoor
open Go.RowKit
set_option maxHeartbeats 1000000 in
theorem hasClosure_any (f : Fld) (c b m : Nat) (S : List ByteArray) (w : World) (hc : w.cell? ⟨c, 0, none⟩ = some (.map (some b))) (h : SetIn w b m S) (hn : f.1.size ≤ maxLen) :
  Calls Tryz.prog 106 #[.agg #[.string f.1, .string f.2], .pointer (some ⟨c, 0, none⟩)] w fun e w' => e = .returned (.bool (inS (lowS f.1) S)) ∧ Below w.heap.size w w' := by
 have H0 := Box.mk (h.keep (below_oneF w (.cells #[.string f.1, .string f.2] 69)))
 have hc' := below_cell (below_oneF w (.cells #[.string f.1, .string f.2] 69)) hc
 clear h hc
 go_enter Tryz.func106, Tryz.ntmps106
 go_wp2_with fail
 refine (hdrIn_any f.1 f.2 b m S _ H0.out hn).mono ?_
 rintro e w1 ⟨rfl, hb⟩
 have HB := Box.mk (below_trans (below_oneF w (.cells #[.string f.1, .string f.2] 69)) hb)
 clear hb
 generalize hr : inS (lowS f.1) S = r at *
 have HR := Box.mk hr
 clear hr
 go_wp2_with fail
 go_ret
 exact ⟨ret_bool HR.out.symm, HB.out⟩
set_option maxRecDepth 100000 in
set_option maxHeartbeats 2000000 in
theorem indexFunc_any (l : List Fld) (S : List ByteArray) (a : Option Addr) (cap c b m : Nat) (w : World) (h : FldsIn w a l) (hz : ShortF l) (hc : w.cell? ⟨c, 0, none⟩ = some (.map (some b))) (hS : SetIn w b m S) (hl : l.length ≤ 1000000) :
  Calls Tryz.prog 134 #[.slice a l.length cap, .func (.func 106) #[] #[.pointer (some ⟨c, 0, none⟩)]] w
   fun e w' => ∃ i : Int, e = .returned (.int .i64 i) ∧ decide (0 ≤ i) = l.any (fun f => inS (lowS f.1) S) ∧ Below w.heap.size w w' := by
 have H0 := Box.mk h
 have HZ := Box.mk hz
 have HC := Box.mk hc
 have HS := Box.mk hS
 clear h hz hc hS
 go_enter Tryz.func134, Tryz.ntmps134
 go_wp2_with fail
 go_loopw [8] (fun iv wr => ∃ k : Nat, k ≤ l.length ∧ iv = .int .i64 k ∧ Box (Below w.heap.size w wr ∧ ∀ f ∈ l.take k, inS (lowS f.1) S = false)) (fun iv _ => l.length - (intOf iv).toNat)
 case atStart => exact ⟨0, Nat.zero_le _, rfl, ⟨Below.refl _ _, by simp⟩⟩
 case round =>
  obtain ⟨k, hk, rfl, HM⟩ := hrel
  by_cases hlt : k < l.length
  · obtain ⟨x, rfl, hx1, hx2⟩ := (H0.out.keep HM.out.1) k hlt
    have hx2 := cell_next hx2
    have HSZ := Box.mk (HZ.out _ (List.getElem_mem hlt))
    have HMEM := Box.mk (List.getElem_mem hlt)
    have HTK := Box.mk (show l.take (k + 1) = l.take k ++ [l[k]] from List.take_succ_eq_append_getElem hlt)
    generalize l[k] = f at *
    have HC1 := Box.mk (below_cell HM.out.1 HC.out)
    by_cases hin : inS (lowS f.1) S = true
    · have HIN := Box.mk hin
      have HR := Box.mk (show l.any (fun f => inS (lowS f.1) S) = true from List.any_eq_true.2 ⟨f, HMEM.out, hin⟩)
      clear hin
      go_wp2_with fail
      refine (hasClosure_any f c b m S _ HC1.out (HS.out.keep HM.out.1) HSZ.out.1).mono ?_
      rintro e w1 ⟨he, hb1⟩
      rw [HIN.out] at he
      subst he
      have HB1 := Box.mk (below_trans HM.out.1 hb1)
      clear hb1
      go_wp2_with fail
      go_ret
      exact ⟨(k : Int), rfl, by rw [HR.out]; simp, HB1.out⟩
    · have HIN := Box.mk (show inS (lowS f.1) S = false by simpa using hin)
      clear hin
      go_wp2_with fail
      refine (hasClosure_any f c b m S _ HC1.out (HS.out.keep HM.out.1) HSZ.out.1).mono ?_
      rintro e w1 ⟨he, hb1⟩
      rw [HIN.out] at he
      subst he
      have HM1 := Box.mk (show Below w.heap.size w w1 ∧ ∀ f ∈ l.take (k + 1), inS (lowS f.1) S = false from ⟨below_trans HM.out.1 hb1, by
       rw [HTK.out]
       intro y hy
       rcases List.mem_append.1 hy with h | h
       · exact HM.out.2 y h
       · simp at h; rw [h]; exact HIN.out⟩)
      clear hb1
      go_wp2_with fail
      go_roundw
      case rel => exact ⟨k + 1, by omega, by go_num, HM1⟩
      case measure => simp [intOf]; omega
  · have HR := Box.mk (show l.any (fun f => inS (lowS f.1) S) = false by
     have := HM.out.2
     rw [List.take_of_length_le (by omega)] at this
     rw [List.any_eq_false]
     intro y hy; rw [this y hy]; simp)
    go_wp2_with fail
    go_ret
    exact ⟨-1, rfl, by rw [HR.out]; rfl, HM.out.1⟩
set_option maxHeartbeats 1000000 in
theorem containsFunc_any (l : List Fld) (S : List ByteArray) (a : Option Addr) (cap c b m : Nat) (w : World) (h : FldsIn w a l) (hz : ShortF l) (hc : w.cell? ⟨c, 0, none⟩ = some (.map (some b))) (hS : SetIn w b m S) (hl : l.length ≤ 1000000) :
  Calls Tryz.prog 105 #[.slice a l.length cap, .func (.func 106) #[] #[.pointer (some ⟨c, 0, none⟩)]] w
   fun e w' => e = .returned (.bool (l.any (fun f => inS (lowS f.1) S))) ∧ Below w.heap.size w w' := by
 have H0 := Box.mk h
 have HC := Box.mk hc
 clear h hc
 go_enter Tryz.func105, Tryz.ntmps105
 go_wp2_with fail
 refine (indexFunc_any l S a cap c b m _ H0.out hz HC.out hS hl).mono ?_
 rintro e w1 ⟨i, rfl, hi, hb⟩
 have HI := Box.mk hi
 clear hi
 go_wp2_with fail
 go_ret
 exact ⟨ret_bool HI.out, hb⟩
theorem hasL_set (l : List Fld) (n : ByteArray) : (l.any fun f => inS (lowS f.1) ([n].map lowS)) = hasL l n := by
 unfold hasL
 congr 1
 funext f
 rw [inS_one]
set_option maxHeartbeats 1000000 in
theorem fHas_any (l : List Fld) (n : ByteArray) (a : Option Addr) (cap : Nat) (w : World) (h : FldsIn w a l) (hz : ShortF l) (hn : n.size ≤ maxLen) (hl : l.length ≤ 1000000) :
  Calls Tryz.prog 76 #[.slice a l.length cap, .string n] w fun e w' => e = .returned (.bool (hasL l n)) ∧ Below w.heap.size w w' := by
 have H0 := Box.mk h
 clear h
 go_enter Tryz.func76, Tryz.ntmps76
 go_wp2_with fail
 refine (setOf_any [n] _ _ _ (strsIn_one w n _) (by simpa using hn) (one_short n)).mono ?_
 rintro e w1 ⟨b, m, rfl, hS, hb⟩
 have HB1 := Box.mk (below_trans (below_oneF w (.cells #[.string n] 9)) hb)
 have HS := Box.mk hS
 clear hS hb
 go_wp2_with fail
 have HB2 := Box.mk (below_trans HB1.out (below_oneF w1 (.cells #[.map (some b)] 103)))
 have hcn : (w1.alloc (.cells #[.map (some b)] 103)).cell? ⟨w1.heap.size, 0, none⟩ = some (.map (some b)) := by rw [new_cellF]; rfl
 have HS2 := Box.mk (HS.out.keep (below_oneF w1 (.cells #[.map (some b)] 103)))
 have HH := Box.mk (hasL_set l n)
 generalize [n].map lowS = S at *
 refine (containsFunc_any l S a cap _ b m _ (H0.out.keep HB2.out) hz hcn HS2.out hl).mono ?_
 rintro e w3 ⟨he, hb3⟩
 rw [HH.out] at he
 subst he
 have HB3 := Box.mk (below_trans HB2.out hb3)
 clear hb3 hcn
 go_wp2_with fail
 go_ret
 exact ⟨rfl, HB3.out⟩
section
variable (w : World) (m : Int)
set_option maxHeartbeats 1000000 in
theorem fElements_acc (l : List Fld) (n : ByteArray) (a : Option Addr) (cap : Nat) (h : FldsIn w a l) (hz : ShortF l) (hn : n.size ≤ maxLen) (hl : l.length ≤ 1000000) (hm : w.cell? ⟨0, 0, none⟩ = some (.int .i64 m)) (ht : total (valuesL l n) ≤ 4000000000) :
  Calls Tryz.prog 64 #[.slice a l.length cap, .string n] w (RetAcc w (listL (valuesL l n))) := by
 have H0 := Box.mk h
 have HM := Box.mk hm
 clear h hm
 go_enter Tryz.func64, Tryz.ntmps64
 go_wp2_with fail
 refine (fValues_any l n a cap _ H0.out hz hn hl).mono ?_
 rintro e w1 ⟨a', cap', rfl, hs, hb⟩
 have HB := Box.mk hb
 clear hb
 go_wp2_with fail
 refine (list_acc _ a' cap' _ m hs (below_cell HB.out HM.out) ht).mono ?_
 rintro e w2 ⟨v2, rfl, hs2⟩
 have HS2 := Box.mk (Acc.lift HB.out hs2)
 clear hs2 hs
 go_wp2_with fail
 go_ret
 exact ⟨v2, rfl, HS2.out⟩
set_option maxHeartbeats 1000000 in
theorem refElements_acc (l : List Fld) (n : ByteArray) (a : Option Addr) (cap : Nat) (h : FldsIn w a l) (hz : ShortF l) (hn : n.size ≤ maxLen) (hl : l.length ≤ 1000000) (ht : total (valuesL l n) ≤ 4000000000) :
  Calls Tryz.prog 36 #[.slice a l.length cap, .string n] w (RetAcc w (listL (valuesL l n))) := by
 have H0 := Box.mk h
 clear h
 go_enter Tryz.func36, Tryz.ntmps36
 go_wp2_with fail
 refine (refValues_any l n a cap _ H0.out hz hn hl).mono ?_
 rintro e w1 ⟨a', cap', rfl, hs, hb⟩
 have HB := Box.mk hb
 clear hb
 go_wp2_with fail
 refine (refList_acc _ a' cap' _ hs ht).mono ?_
 rintro e w2 ⟨v2, rfl, hs2⟩
 have HS2 := Box.mk (Acc.lift HB.out hs2)
 clear hs2 hs
 go_wp2_with fail
 go_ret
 exact ⟨v2, rfl, HS2.out⟩
theorem fElements_any (l : List Fld) (n : ByteArray) (a : Option Addr) (cap : Nat) (h : FldsIn w a l) (hz : ShortF l) (hn : n.size ≤ maxLen) (hl : l.length ≤ 1000000) (hm : w.cell? ⟨0, 0, none⟩ = some (.int .i64 m)) (ht : total (valuesL l n) ≤ 4000000000) :
  Calls Tryz.prog 64 #[.slice a l.length cap, .string n] w (RetStrs w (listL (valuesL l n))) :=
 (fElements_acc w m l n a cap h hz hn hl hm ht).mono fun _ _ h => h.strs
end
end Go.Proofs.YtfghgenboahkkaaGreatDoor
namespace Go.Proofs.YtfghgenboahkkaaGreatDoor
open Go.RowKit
def FldsC (w : World) (a : Option Addr) (l : List Fld) (c : Nat) : Prop := FldsIn w a l ∧ (a = none → l = [] ∧ c = 0)
theorem FldsC.keep {w w' : World} {a : Option Addr} {l : List Fld} {c : Nat} (h : FldsC w a l c) (hb : Below w.heap.size w w') : FldsC w' a l c := ⟨h.1.keep hb, h.2⟩
theorem AccF.shapeC {w0 w : World} {v : Value} {l : List Fld} (h : AccF w0 w v l) : ∃ a cap, v = .slice a l.length cap ∧ FldsC w a l cap := by
 obtain ⟨a, cap, e, hs⟩ := h.shape
 refine ⟨a, cap, e, hs, fun ha => ?_⟩
 subst ha
 obtain ⟨⟨h1, h2⟩, _⟩ := h
 rcases h2 with ⟨rfl, h2⟩ | ⟨g, cap', cur, rfl, _⟩
 · injection e with e1 e2 e3
   exact ⟨List.eq_nil_of_length_eq_zero h2, e3.symm⟩
 · injection e with e1; cases e1
section
variable {ops : Array Oper} {rest : List Oper} {o : Oper} {act : Act} {Q : Exit → Act → World → Prop}
theorem wpList_append_accfs (w : World) (hgd : o.guard = none) (s x : Operand) (ho : o.op = .call { callee := .builtin .append, args := #[s, x], argTypes := #[23, 23] })
  {w0 : World} {v : Value} {l : List Fld} (hs : act.eval s = v) (h : AccF w0 w v l) {a : Option Addr} {r : List Fld} {c : Nat} (hx : act.eval x = .slice a r.length c) (hr : FldsC w a r c)
  (hn : l.length + r.length ≤ 4398046511104)
  (K : ∀ v' w', AccF w0 w' v' (l ++ r) → wpList Tryz.prog ops Q rest (act.put o.dst v') w') : wpList Tryz.prog ops Q (o :: rest) act w := by
 obtain ⟨i0, hi, hz0, hz1, hz2⟩ := info_parts Tryz.info69
 cases a with
 | none =>
  obtain ⟨rfl, rfl⟩ := hr.2 rfl
  refine wpList_append_own_none hgd s x 23 ho w0.heap.size 69 i0 2 Tryz.underlying23 hi v l.length (cellsF l) hs h.1 hx (K _ _ ?_)
  rw [List.append_nil]; exact h
 | some ad =>
  refine wpList_append_own_at w hgd s x 23 ho w0.heap.size 69 i0 _ 2 32 Tryz.underlying23 hi hz0 hz1 hz2 rfl (by decide) v l.length (cellsF l) hs h.1 ad r.length c (cellsF r) hx (cellsF_len r) (hr.1.cells) (cellsF_one r) (by unfold maxLen; omega) (by omega) h.2.size ?_
  intro v' w' hown hgrow _ _
  refine K v' w' ⟨?_, h.2.grown hgrow h.2.size fun k hk => (World.ownsRow.lt h.1 k hk).1⟩
  rw [List.length_append, cellsF_app]; exact hown
end
theorem grow_runF (w : World) (n : Nat) (h0 : 0 < n) (hn : n ≤ 4000000) (ty : TypeId) :
  ∃ cap w', (Builtin.append_ #[23, 3] ty #[.slice none 0 0, .int .i64 (n : Int)]).run Tryz.prog w = .ok (.slice (some ⟨w.heap.size, 0, none⟩) n cap) w' ∧ n ≤ cap ∧ cap ≤ maxLen ∧ AccF w w' (.slice (some ⟨w.heap.size, 0, none⟩) 0 cap) [] := by
 obtain ⟨i0, hi, hz0, hz1, hz2⟩ := info_parts Tryz.info69
 have h := Lib.run_append_grow_zeros w 23 3 ty 69 i0 _ .i64 .i64 Tryz.underlying23 Tryz.underlying3 hi hz0 none 0 0 [] (by rw [hz1]; simp [Builtin.firstCells]) n h0 (by rw [hz1]; decide) (by omega) (by omega) (by rw [hz2]; omega) (by rw [hz2]; exact growslice_fits (by omega) (by omega))
 rw [Nat.zero_add] at h
 have hcap := grownCap_ge w n 0 69
 have hmx := grownCap_le_maxLen w n 0 69 (by unfold maxLen; omega)
 refine ⟨_, _, h, hcap, hmx, ⟨rfl, .inr ⟨w.heap.size, _, _, rfl, Nat.le_refl _, (heap_alloc_new w.drew _), Nat.zero_le _, hmx, ?_, rfl⟩⟩, ((Below.refl _ _).drew).alloc (Nat.le_refl _) _⟩
 simp only [Array.size_append, size_zeroCells, List.size_toArray, List.length_nil]
 show 0 + n * 2 + (_ - n) * 2 = _
 omega
set_option maxRecDepth 100000 in
set_option maxHeartbeats 2000000 in
theorem growF_any (n : Nat) (w : World) (hn : n ≤ 4000000) :
  Calls Tryz.prog 103 #[.slice none 0 0, .int .i64 (n : Int)] w fun e w' => ∃ v, e = .returned v ∧ AccF w w' v [] := by
 by_cases h0 : 0 < n
 · obtain ⟨cap, w', hrun, hc1, hc2, hacc⟩ := grow_runF w n h0 hn 23
   have HACC := Box.mk hacc
   clear hacc
   unfold maxLen at hc2
   go_enter Tryz.func103, Tryz.ntmps103
   go_wp2_with (at_builtin; refine Lib.wpList_append_run _ rfl _ _ _ _ rfl _ _ rfl rfl _ _ hrun ?_)
   go_ret
   exact ⟨_, rfl, HACC.out⟩
 · obtain rfl : n = 0 := by omega
   go_enter Tryz.func103, Tryz.ntmps103
   go_wp2_with fail
   go_ret
   exact ⟨_, rfl, AccF.start w⟩
end Go.Proofs.YtfghgenboahkkaaGreatDoor
namespace Go.Proofs.YtfghgenboahkkaaGreatDoor
open Go.RowKit
def TwoF (w : World) (p : Nat) (l r : List Fld) : Prop :=
 ∃ a ca b cb, w.cell? ⟨p, 0, none⟩ = some (.slice a l.length ca) ∧ w.cell? ⟨p, 1, none⟩ = some (.slice b r.length cb) ∧ FldsC w a l ca ∧ FldsC w b r cb
theorem TwoF.keep {w w' : World} {p : Nat} {l r : List Fld} (h : TwoF w p l r) (hb : Below w.heap.size w w') : TwoF w' p l r := by
 obtain ⟨a, ca, b, cb, h1, h2, h3, h4⟩ := h
 exact ⟨a, ca, b, cb, below_cell hb h1, below_cell hb h2, h3.keep hb, h4.keep hb⟩
def nthF (l r : List Fld) (k : Nat) : List Fld := if k = 0 then l else r
def sumF (l r : List Fld) (k : Nat) : Nat := if k = 0 then 0 else if k = 1 then l.length else l.length + r.length
def joinF (l r : List Fld) (k : Nat) : List Fld := if k = 0 then [] else if k = 1 then l else l ++ r
theorem TwoF.at {w : World} {p : Nat} {l r : List Fld} (h : TwoF w p l r) {k : Nat} (hk : k < 2) : ∃ a c, w.cell? ⟨p, k, none⟩ = some (.slice a (nthF l r k).length c) ∧ FldsC w a (nthF l r k) c := by
 obtain ⟨a, ca, b, cb, h1, h2, h3, h4⟩ := h
 match k, hk with
 | 0, _ => exact ⟨a, ca, h1, h3⟩
 | 1, _ => exact ⟨b, cb, h2, h4⟩
theorem sumF_step (l r : List Fld) {k : Nat} (hk : k < 2) : sumF l r (k + 1) = sumF l r k + (nthF l r k).length := by
 match k, hk with
 | 0, _ => simp [sumF, nthF]
 | 1, _ => simp [sumF, nthF]
theorem joinF_step (l r : List Fld) {k : Nat} (hk : k < 2) : joinF l r (k + 1) = joinF l r k ++ nthF l r k := by
 match k, hk with
 | 0, _ => simp [joinF, nthF]
 | 1, _ => simp [joinF, nthF]
theorem joinF_len (l r : List Fld) (k : Nat) : (joinF l r k).length ≤ l.length + r.length := by
 unfold joinF; split
 · simp
 · split <;> simp
theorem sumF_le (l r : List Fld) (k : Nat) : sumF l r k ≤ l.length + r.length := by
 unfold sumF; split
 · omega
 · split <;> omega
theorem nthF_len (l r : List Fld) (k : Nat) : (nthF l r k).length ≤ l.length + r.length := by
 unfold nthF; split <;> omega
set_option maxRecDepth 100000 in
set_option maxHeartbeats 2000000 in
theorem concatF_acc (l r : List Fld) (p : Nat) (w : World) (h : TwoF w p l r) (hl : l.length ≤ 1000000) (hr : r.length ≤ 1000000) :
  Calls Tryz.prog 72 #[.slice (some ⟨p, 0, none⟩) 2 2] w (RetAccF w (l ++ r)) := by
 have H0 := Box.mk h
 clear h
 go_enter Tryz.func72, Tryz.ntmps72
 go_wp2_with fail
 go_loop [3, 11] (fun v iv => ∃ k : Nat, k ≤ 2 ∧ iv = .int .i64 k ∧ ∃ q : Nat, v = .int .i64 q ∧ Box (q = sumF l r k) ∧ q ≤ 2000000) (fun _ iv => 2 - (intOf iv).toNat)
 case atStart => exact ⟨0, Nat.zero_le _, rfl, 0, rfl, ⟨rfl⟩, by omega⟩
 case round =>
  obtain ⟨k, hk, rfl, q, rfl, HQ, hq⟩ := hrel
  by_cases hlt : k < 2
  · obtain ⟨a, c, hc, _⟩ := H0.out.at hlt
    have HS := Box.mk (sumF_step l r hlt)
    have h1 := sumF_le l r (k + 1)
    have h2 := nthF_len l r k
    have h3 : q + (nthF l r k).length ≤ 2000000 := by have := HS.out; have := HQ.out; omega
    go_wp2_with fail
    go_round
    case rel => exact ⟨k + 1, by omega, by go_num, q + (nthF l r k).length, by go_num, ⟨by rw [HS.out, HQ.out]⟩, by omega⟩
    case measure => simp [intOf]; omega
  · obtain rfl : k = 2 := by omega
    have h0 : q ≤ 4000000 := by omega
    go_wp2_with fail
    refine (growF_any q _ h0).mono ?_
    rintro e w1 ⟨v, rfl, hacc⟩
    have HA := Box.mk hacc
    clear hacc HQ
    go_wp2_with fail
    go_loopw [6, 27] (fun v iv wr => ∃ k : Nat, k ≤ 2 ∧ iv = .int .i64 k ∧ Box (AccF w wr v (joinF l r k))) (fun _ iv _ => 2 - (intOf iv).toNat)
    case atStart => exact ⟨0, Nat.zero_le _, rfl, ⟨HA.out⟩⟩
    case round =>
     clear HA
     obtain ⟨k, hk, rfl, HM⟩ := hrel
     by_cases hlt : k < 2
     · obtain ⟨a, c, hc, hf⟩ := (H0.out.keep HM.out.2).at hlt
       have HF := Box.mk hf
       have HJ := Box.mk (joinF_step l r hlt)
       have h1 := joinF_len l r k
       have h2 := nthF_len l r k
       clear hf
       go_wp2_with (at_builtin; refine wpList_append_accfs _ rfl _ _ rfl rfl HM.out rfl HF.out (by omega) ?c1)
       case c1 =>
        intro v' w' hacc
        have HACC := Box.mk (show AccF w w' v' (joinF l r (k + 1)) by rw [HJ.out]; exact hacc)
        clear hacc HM HF HJ
        go_wp2_with fail
        go_roundw
        case rel => exact ⟨k + 1, by omega, by go_num, HACC⟩
        case measure => simp [intOf]; omega
     · obtain rfl : k = 2 := by omega
       have HE := Box.mk (show AccF w wr _ (l ++ r) from HM.out)
       clear HM
       go_wp2_with fail
       go_ret
       exact ⟨_, rfl, HE.out⟩
theorem twoF_new (w : World) (l r : List Fld) (a b : Option Addr) (ca cb : Nat) (t : TypeId) (h : FldsC w a l ca) (k : FldsC w b r cb) : TwoF (w.alloc (.cells #[.slice a l.length ca, .slice b r.length cb] t)) w.heap.size l r :=
 ⟨a, ca, b, cb, by rw [new_cellF]; rfl, by rw [new_cellF]; rfl, h.keep (below_oneF _ _), k.keep (below_oneF _ _)⟩
set_option maxHeartbeats 1000000 in
theorem fWith_acc (l r : List Fld) (a b : Option Addr) (ca cb : Nat) (w : World) (h : FldsC w a l ca) (k : FldsC w b r cb) (hl : l.length ≤ 1000000) (hr : r.length ≤ 1000000) :
  Calls Tryz.prog 43 #[.slice a l.length ca, .slice b r.length cb] w (RetAccF w (l ++ r)) := by
 have H0 := Box.mk (twoF_new w l r a b ca cb 23 h k)
 have HB := Box.mk (below_oneF w (.cells #[.slice a l.length ca, .slice b r.length cb] 23))
 clear h k
 go_enter Tryz.func43, Tryz.ntmps43
 go_wp2_with fail
 refine (concatF_acc l r _ _ H0.out hl hr).mono ?_
 rintro e w1 ⟨v, rfl, hv⟩
 have HS := Box.mk (AccF.lift HB.out hv)
 clear hv
 go_wp2_with fail
 go_ret
 exact ⟨v, rfl, HS.out⟩
def sameF (x y : List Fld) : Bool := decide (x = y)
theorem sameF_len {x y : List Fld} (h : ¬ x.length = y.length) : sameF x y = false := by
 unfold sameF; rw [decide_eq_false_iff_not]; intro e; exact h (by rw [e])
theorem sameF_no {x y : List Fld} {k : Nat} (h1 : k < x.length) (h2 : k < y.length) (h : ¬ x[k] = y[k]) : sameF x y = false := by
 unfold sameF; rw [decide_eq_false_iff_not]; intro e; subst e; exact h rfl
theorem sameF_yes {x y : List Fld} (hl : x.length = y.length) (h : ∀ j (h1 : j < x.length) (h2 : j < y.length), x[j] = y[j]) : sameF x y = true := by
 unfold sameF; rw [decide_eq_true_eq]; exact List.ext_getElem hl h
theorem sameF_self (x : List Fld) : sameF x x = true := by unfold sameF; simp
set_option maxRecDepth 100000 in
set_option maxHeartbeats 2000000 in
theorem sameFields_any (x y : List Fld) (a b : Option Addr) (ca cb : Nat) (w : World) (hx : FldsIn w a x) (hy : FldsIn w b y) (_hxl : x.length ≤ 2000000) (_hyl : y.length ≤ 2000000) :
  Calls Tryz.prog 10 #[.slice a x.length ca, .slice b y.length cb] w fun e w' => e = .returned (.bool (sameF x y)) ∧ Below w.heap.size w w' := by
 have HX := Box.mk hx
 have HY := Box.mk hy
 clear hx hy
 go_enter Tryz.func10, Tryz.ntmps10
 by_cases hl : x.length = y.length
 · have HL := Box.mk hl
   have hl1 : ((x.length : Int) != (y.length : Int)) = false := by simp [hl]
   have hl2 : x.length ≤ y.length := by omega
   clear hl
   go_wp2
   go_loopw [5] (fun i wr => ∃ k : Nat, k ≤ x.length ∧ i = .int .i64 k ∧ Box (∀ j (h1 : j < x.length) (h2 : j < y.length), j < k → x[j] = y[j]) ∧ Box (Below w.heap.size w wr)) (fun i _ => x.length - (intOf i).toNat)
   case atStart => exact ⟨0, Nat.zero_le _, rfl, ⟨by intro j _ _ h; omega⟩, ⟨Below.refl _ _⟩⟩
   case round =>
    obtain ⟨k, hk, rfl, HP, HB⟩ := hrel
    by_cases hlt : k < x.length
    · have hlt2 : k < y.length := by omega
      obtain ⟨x1, rfl, c1, c2⟩ := (HX.out.keep HB.out) k hlt
      obtain ⟨y1, rfl, d1, d2⟩ := (HY.out.keep HB.out) k hlt2
      have c2 := cell_next c2
      have d2 := cell_next d2
      by_cases he : x[k] = y[k]
      · have HE := Box.mk (show ∀ j (h1 : j < x.length) (h2 : j < y.length), j < k + 1 → x[j] = y[j] from fun j h1 h2 hj => by
         by_cases e : j = k
         · subst e; exact he
         · exact HP.out j h1 h2 (by omega))
        have e1 : (x[k].1.toList == y[k].1.toList) = true := by rw [he]; simp
        have e2 : (x[k].2.toList == y[k].2.toList) = true := by rw [he]; simp
        clear he
        generalize x[k] = f at *
        generalize y[k] = g at *
        go_wp2_with fail
        go_quiet (fail)
        go_wp2
        go_roundw
        case rel => exact ⟨k + 1, by omega, by go_num, HE, ⟨below_drewN HB.out _⟩⟩
        case measure => simp [intOf]; omega
      · have HN := Box.mk (sameF_no hlt hlt2 he)
        by_cases e1 : (x[k].1.toList == y[k].1.toList) = true
        · have e2 : (x[k].2.toList == y[k].2.toList) = false := by
           rw [toList_eq]; simp only [decide_eq_false_iff_not]
           intro h2
           rw [toList_eq] at e1
           exact he (Prod.ext (of_decide_eq_true e1) h2)
          clear he
          generalize x[k] = f at *
          generalize y[k] = g at *
          go_wp2_with fail
          go_quiet (fail)
          go_wp2
          go_ret
          exact ⟨ret_bool HN.out.symm, below_drewN HB.out _⟩
        · have e1' : (x[k].1.toList == y[k].1.toList) = false := by simpa using e1
          clear he e1
          generalize x[k] = f at *
          generalize y[k] = g at *
          go_wp2_with fail
          go_quiet (fail)
          go_wp2
          go_ret
          exact ⟨ret_bool HN.out.symm, below_drewN HB.out _⟩
    · go_wp2
      go_ret
      exact ⟨ret_bool (sameF_yes HL.out fun j h1 h2 => HP.out j h1 h2 (by omega)).symm, HB.out⟩
 · have hl1 : ((x.length : Int) != (y.length : Int)) = true := by rw [bne_iff_ne]; omega
   have HL := Box.mk hl
   clear hl
   go_wp2
   go_ret
   exact ⟨ret_bool (sameF_len HL.out).symm, Below.refl _ _⟩
theorem new_cellF2 (w : World) (o : Obj) (cs : Array Value) (t : TypeId) (j : Nat) : ((w.alloc o).alloc (.cells cs t (0, 0))).cell? ⟨w.heap.size + 1, j, none⟩ = cs[j]? := by
 have h := new_cellF (w.alloc o) cs t j
 rw [show (w.alloc o).heap.size = w.heap.size + 1 by simp] at h
 exact h
def SmallF (l : List Fld) : Prop := ∀ f ∈ l, f.1.size ≤ 1048576 ∧ f.2.size ≤ 1048576
theorem le_maxLen {n : Nat} (h : n ≤ 1048576) : n ≤ maxLen := by unfold maxLen; omega
theorem ba_app_list (a b : ByteArray) : (a ++ b).data.toList = a.data.toList ++ b.data.toList := by rw [ByteArray.data_append]; simp
theorem results_row_tmpF {P : Program} {fn : Func} {q p : Tmp} {ty : TypeId} (h : fn.results = #[.cell p ty, .tmp q]) (tmps : Array Value) (w : World) (g : Nat) (t : TypeId) (cs : Array Value) (fr : Nat × Nat) (d : TypeDesc)
  (hp : tmps.getD p undef = .pointer (some ⟨g, 0, none⟩)) (hg : w.heap[g]? = some (.cells cs t fr))
  (hu : P.underlying ty = some d) (hd : (match d with | .struct _ | .array _ _ => true | _ => false) = true) (hi : (P.info? ty).map (·.size) = some cs.size) :
  (results fn tmps).run P w = .ok (.tuple #[.agg cs, tmps.getD q undef]) w := by
 have hp' : tmps[p]?.getD undef = .pointer (some ⟨g, 0, none⟩) := by simpa using hp
 simp [results, h, hp', asAddr, run_loadVar_row w g t ty cs fr d hg hu hd hi]
theorem sizeF : (Tryz.prog.info? 69).map (·.size) = some 2 := by kernel_rfl
theorem oneF (a b : ByteArray) : (#[Value.string a, .string b] : Array Value).all (·.oneCell') = true := by simp [Value.oneCell']
def FVar (w : World) (g : Nat) (n v : ByteArray) : Prop := w.heap[g]? = some (.cells #[.string n, .string v] 69 (0, 0))
theorem FVar.keep {w w' : World} {g : Nat} {n v : ByteArray} (h : FVar w g n v) (hb : Below w.heap.size w w') : FVar w' g n v := by
 unfold FVar at *
 rw [hb.block g (Array.getElem?_eq_some_iff.1 h).1]; exact h
theorem FVar.new (w : World) (n v : ByteArray) : FVar (w.alloc (.cells #[.string n, .string v] 69)) w.heap.size n v := heap_alloc_new _ _
theorem FVar.lt {w : World} {g : Nat} {n v : ByteArray} (h : FVar w g n v) : g < w.heap.size := (Array.getElem?_eq_some_iff.1 h).1
def beforeB (ops : Array Oper) : Nat → Nat → Nat → Bool
 | 0, _, _ => false
 | f + 1, c, i => match ops[c]? with
  | some o => waitsFor o i || (List.range c).any fun k => waitsFor o k && beforeB ops f k i
  | none => false
def StepP (P : Program) (Q : Exit → Act → World → Prop) (ops : Array Oper) (S : List Spec) (Inv : World → Prop) (a0 : Act) (o : Oper) (s : Spec) : Prop :=
 ∀ a w, Inv w → Fr ops a0 a → (∀ j, waitsFor o j = true → Holds ops S a w j) →
  Region.wanted o (yielded ops a.tmps) = true ∧ o.wp P a w (fun a' w' => ∃ v, a' = a.put o.dst v ∧ Below w.heap.size w w' ∧ s.p v w') Q
def SidesOK (P : Program) (Q : Exit → Act → World → Prop) (ops : Array Oper) (S : List Spec) (Inv : World → Prop) (a0 : Act) : List Nat → Prop
 | i :: r => (match ops[i]?, S[i]? with | some o, some s => StepP P Q ops S Inv a0 o s | _, _ => False) ∧ SidesOK P Q ops S Inv a0 r
 | [] => True
def Over (ops : Array Oper) (a : Act) (w w' : World) (c : Nat) : Nat → List Spec → List Spec → Prop
 | k, s :: ss, t :: ts => (k = c ∨ ∀ v, (∀ o d, ops[k]? = some o → o.dst = some d → v = a.eval (.tmp d)) → s.p v w → t.p v w') ∧ Over ops a w w' c (k + 1) ss ts
 | _, [], [] => True
 | _, _, _ => False
def ChainOK (P : Program) (Q : Exit → Act → World → Prop) (ops : Array Oper) (S S' : List Spec) (Inv Inv' : World → Prop) (a0 : Act) (c : Nat) : Prop :=
 match ops[c]?, S'[c]? with
 | some o, some s => ∀ a w, Inv w → Fr ops a0 a → (∀ j, waitsFor o j = true → Holds ops S a w j) →
   Region.wanted o (yielded ops a.tmps) = true ∧ o.wp P a w (fun a' w' => ∃ v, a' = a.put o.dst v ∧ Inv' w' ∧ s.p v w' ∧ Over ops a w w' c 0 S S') Q
 | _, _ => False
def sidesB (ops : Array Oper) (chain : List Nat) (M : Nat) (sides : List Nat) (p : Nat) : Bool :=
 (List.range ops.size).all fun i => chain.contains i || sides.contains i || (List.range M).any fun q => match chain[q]? with
  | some c => if q < p then beforeB ops ops.size c i else beforeB ops ops.size i c
  | none => false
def chainB (ops : Array Oper) (chain : List Nat) : Bool :=
 (List.range chain.length).all fun p => (List.range chain.length).all fun q => decide (q ≤ p) || (match chain[p]?, chain[q]? with | some c, some d => beforeB ops ops.size d c && decide (c ≠ d) && decide (d < ops.size) && decide (c < ops.size) | _, _ => false)
section
variable {P : Program} {Q : Exit → Act → World → Prop} {ops : Array Oper} {a0 : Act} {w0 : World}
theorem sidesOK_at {S : List Spec} {Inv : World → Prop} : ∀ {l : List Nat}, SidesOK P Q ops S Inv a0 l → ∀ i, i ∈ l → ∀ o, ops[i]? = some o → ∃ s, S[i]? = some s ∧ StepP P Q ops S Inv a0 o s
 | k :: r, h, i, hi, o, ho => by
  rcases List.mem_cons.1 hi with rfl | hi
  · have := h.1
    rw [ho] at this
    cases hs : S[i]? with
    | none => rw [hs] at this; exact this.elim
    | some s => rw [hs] at this; exact ⟨s, rfl, this⟩
  · exact sidesOK_at h.2 i hi o ho
theorem over_at {a : Act} {w w' : World} {c : Nat} : ∀ {ss ts : List Spec} {k : Nat}, Over ops a w w' c k ss ts → ∀ j t, ts[j]? = some t → k + j ≠ c → ∃ s, ss[j]? = some s ∧ ∀ v, (∀ o d, ops[k + j]? = some o → o.dst = some d → v = a.eval (.tmp d)) → s.p v w → t.p v w'
 | s :: ss, t :: ts, k, h, 0, t', ht, hne => by
  simp at ht; subst ht
  rcases h.1 with h1 | h1
  · exact absurd h1 (by simpa using hne)
  · exact ⟨s, rfl, h1⟩
 | s :: ss, t :: ts, k, h, j + 1, t', ht, hne => by
  have e : k + 1 + j = k + (j + 1) := by omega
  have := over_at (k := k + 1) h.2 j t' (by simpa using ht) (by omega)
  rw [e] at this; exact this
 | [], [], _, _, j, t', ht, _ => by simp at ht
 | s :: ss, [], _, h, j, t', ht, _ => by simp at ht
 | [], t :: ts, _, h, j, t', ht, _ => h.elim
theorem before_marked {m : Array Bool} (hcl : ∀ j o, ops[j]? = some o → m.getD j false = true → ∀ i, waitsFor o i = true → m.getD i false = true) :
  ∀ (f c i : Nat), beforeB ops f c i = true → m.getD c false = true → m.getD i false = true
 | 0, _, _, h, _ => by simp [beforeB] at h
 | f + 1, c, i, h, hc => by
  unfold beforeB at h
  cases ho : ops[c]? with
  | none => rw [ho] at h; cases h
  | some o =>
   rw [ho] at h
   simp only [Bool.or_eq_true, List.any_eq_true, Bool.and_eq_true] at h
   rcases h with h | ⟨k, _, h1, h2⟩
   · exact hcl c o ho hc i h
   · exact before_marked hcl f k i h2 (hcl c o ho hc k h1)
theorem before_ready {m : Array Bool} (hcl : ∀ j o, ops[j]? = some o → m.getD j false = true → ∀ i, waitsFor o i = true → m.getD i false = true) {c i : Nat} {o : Oper} (ho : ops[c]? = some o)
  (hd : ∀ j, waitsFor o j = true → m.getD j false = true) {f : Nat} (h : beforeB ops f c i = true) : m.getD i false = true := by
 cases f with
 | zero => simp [beforeB] at h
 | succ f =>
  unfold beforeB at h
  rw [ho] at h
  simp only [Bool.or_eq_true, List.any_eq_true, Bool.and_eq_true] at h
  rcases h with h | ⟨k, _, h1, h2⟩
  · exact hd i h
  · exact before_marked hcl f k i h2 (hd k h1)
theorem wp_region_phases {id : Nat} (chain : List Nat) (sides : Nat → List Nat) (S : Nat → List Spec) (Inv : Nat → World → Prop) (hm : P.follows .mixedOrders = true)
  (hB : (List.range ops.size).all (fun i => match ops[i]? with | some x => x.after.all (fun e => !Region.binds .any e || decide (e.on < i)) | none => true) = true)
  (hd : dstsOk ops a0.tmps.size = true) (hc : chainB ops chain = true) (hlt : chain.all (fun c => decide (c < ops.size)) = true) (hsB : (List.range (chain.length + 1)).all (fun p => sidesB ops chain chain.length (sides p) p) = true)
  (hI : ∀ p w w', Inv p w → Below w.heap.size w w' → Inv p w') (h0 : Inv 0 w0) (hS : ∀ p, p ≤ chain.length → SidesOK P Q ops (S p) (Inv p) a0 (sides p))
  (hC : ∀ p (hp : p < chain.length), ChainOK P Q ops (S p) (S (p + 1)) (Inv p) (Inv (p + 1)) a0 chain[p])
  (hQ : ∀ a w, Inv chain.length w → Fr ops a0 a → (∀ j, j < ops.size → Holds ops (S chain.length) a w j) → Q .normal a w) : (Code.region id ops true).wp P Q a0 w0 := by
 have hchain : ∀ p q (hp : p < chain.length) (hq : q < chain.length), p < q → beforeB ops ops.size chain[q] chain[p] = true ∧ chain[p] ≠ chain[q] := fun p q hp hq hpq => by
  have h1 := List.all_eq_true.1 (List.all_eq_true.1 hc p (List.mem_range.2 hp)) q (List.mem_range.2 hq)
  simp only [List.getElem?_eq_getElem hp, List.getElem?_eq_getElem hq, Bool.or_eq_true, Bool.and_eq_true, decide_eq_true_eq] at h1
  rcases h1 with h1 | h1
  · omega
  · exact ⟨h1.1.1.1, h1.1.1.2⟩
 refine wp_region_inv hm (fun m a w => Fr ops a0 a ∧ (∀ j o, ops[j]? = some o → m.getD j false = true → ∀ i, waitsFor o i = true → m.getD i false = true) ∧
  ∃ p, p ≤ chain.length ∧ (∀ q (hq : q < chain.length), m.getD chain[q] false = decide (q < p)) ∧ Inv p w ∧ ∀ j, m.getD j false = true → Holds ops (S p) a w j) ?_ ?_ ?_
 · rintro m a w hs ⟨hf, hcl, p, hp, hph, hinv, hh⟩ i hi
   obtain ⟨h1, o, ho, hall⟩ := mem_ready.1 hi
   have hil : i < ops.size := (Array.getElem?_eq_some_iff.1 ho).1
   have him : i < m.size := by rw [hs]; exact hil
   have hmi : m.getD i false = false := by simp [him] at h1 ⊢; exact h1
   have hdeps : ∀ j, waitsFor o j = true → m.getD j false = true := fun j hj => by
    obtain ⟨e, he, h2⟩ := List.any_eq_true.1 hj
    simp only [Bool.and_eq_true, beq_iff_eq] at h2
    obtain ⟨h3, rfl⟩ := h2
    exact hall e (Array.mem_toList_iff.1 he) h3
   have hcl' : ∀ j o, ops[j]? = some o → (m.setIfInBounds i true).getD j false = true → ∀ k, waitsFor o k = true → (m.setIfInBounds i true).getD k false = true := fun j oj hoj hj k hk => by
    by_cases hji : j = i
    · subst hji
      obtain rfl : o = oj := Option.some.inj (ho.symm.trans hoj)
      exact getD_set_true (hdeps k hk)
    · rw [getD_set_ne false (fun e => hji e.symm)] at hj
      exact getD_set_true (hcl j oj hoj hj k hk)
   unfold wpOp
   simp only [ho]
   by_cases hic : i ∈ chain
   · obtain ⟨q, hq, rfl⟩ := List.getElem_of_mem hic
     have hqp : p ≤ q := by
      have := hph q hq
      rw [hmi] at this
      have := of_decide_eq_false this.symm
      omega
     have hqe : q = p := by
      rcases Nat.lt_or_ge p q with h2 | h2
      · exfalso
        have h3 := before_ready hcl ho hdeps (hchain p q (by omega) hq h2).1
        rw [hph p (by omega)] at h3
        simp at h3
      · omega
     subst hqe
     have hCp := hC q hq
     unfold ChainOK at hCp
     rw [ho] at hCp
     cases hsc : (S (q + 1))[chain[q]]? with
     | none => rw [hsc] at hCp; exact hCp.elim
     | some s =>
      rw [hsc] at hCp
      simp only at hCp
      obtain ⟨hw, hwp⟩ := hCp a w hinv hf fun j hj => hh j (hdeps j hj)
      rw [if_pos hw]
      refine .inl (Oper.wp_mono ?_ hwp)
      rintro a' w' ⟨v, rfl, hinv', hsp, hov⟩
      refine ⟨fr_put ho hf v, hcl', q + 1, hq, fun r hr => ?_, hinv', fun j hj => ?_⟩
      · by_cases hrq : r = q
        · subst hrq
          simp [him]
        · have hne : chain[q] ≠ chain[r] := by
           rcases Nat.lt_or_ge q r with h2 | h2
           · exact (hchain q r hq hr h2).2
           · exact fun e => (hchain r q hr hq (by omega)).2 e.symm
          rw [getD_set_ne false hne, hph r hr]
          by_cases hrl : r < q
          · simp [hrl, show r < q + 1 by omega]
          · simp [hrl, show ¬ r < q + 1 by omega]
      · by_cases hji : j = chain[q]
        · subst hji
          unfold Holds
          simp only [ho, hsc]
          cases hdo : o.dst with
          | none => trivial
          | some d =>
           show s.p ((a.put (some d) v).eval (.tmp d)) w'
           rw [eval_put_same]
           · exact hsp
           · rw [hf.size]; exact (dsts_lt hd ho hdo).1
        · have hj' : m.getD j false = true := by rw [getD_set_ne false (fun e => hji e.symm)] at hj; exact hj
          have h5 := holds_put (a := a) (v := v) hd ho hji (hh j hj')
          unfold Holds at *
          cases hoj : ops[j]? with
          | none => simp
          | some o' =>
           cases hsj : (S (q + 1))[j]? with
           | none => simp
           | some s' =>
            obtain ⟨s0, hs0, himp⟩ := over_at hov j s' hsj (by omega)
            simp only [hoj, hs0] at h5
            simp only
            cases hdo : o'.dst with
            | none => trivial
            | some d =>
             simp only [hdo] at h5
             refine himp _ (fun o2 d2 ho2 hd2 => ?_) h5
             rw [Nat.zero_add, hoj] at ho2
             obtain rfl := Option.some.inj ho2
             rw [hdo] at hd2
             obtain rfl := Option.some.inj hd2
             exact eval_put_other fun e => (dsts_lt hd ho e).2 j o' hoj hji hdo
   · have hside : i ∈ sides p := by
      have := List.all_eq_true.1 (List.all_eq_true.1 hsB p (List.mem_range.2 (by omega))) i (List.mem_range.2 hil)
      simp only [Bool.or_eq_true, List.contains_iff_mem, List.any_eq_true] at this
      rcases this with (h2 | h2) | ⟨q, hq, h2⟩
      · exact absurd h2 hic
      · exact h2
      · exfalso
        have hql := List.mem_range.1 hq
        rw [List.getElem?_eq_getElem hql] at h2
        simp only at h2
        by_cases hqp : q < p
        · rw [if_pos hqp] at h2
          have h3 := before_marked hcl _ _ _ h2 (by rw [hph q hql]; simp [hqp])
          rw [hmi] at h3; cases h3
        · rw [if_neg hqp] at h2
          have h3 := before_ready hcl ho hdeps h2
          rw [hph q hql] at h3
          simp [hqp] at h3
     obtain ⟨s, hsi, hstep⟩ := sidesOK_at (hS p hp) i hside o ho
     obtain ⟨hw, hwp⟩ := hstep a w hinv hf fun j hj => hh j (hdeps j hj)
     rw [if_pos hw]
     refine .inl (Oper.wp_mono ?_ hwp)
     rintro a' w' ⟨v, rfl, hb', hsp⟩
     refine ⟨fr_put ho hf v, hcl', p, hp, fun r hr => ?_, hI p w w' hinv hb', fun j hj => ?_⟩
     · rw [getD_set_ne false (fun e => hic (by rw [e]; exact List.getElem_mem hr)), hph r hr]
     · by_cases hji : j = i
       · subst hji
         unfold Holds
         simp only [ho, hsi]
         cases hdo : o.dst with
         | none => trivial
         | some d =>
          show s.p ((a.put (some d) v).eval (.tmp d)) w'
          rw [eval_put_same]
          · exact hsp
          · rw [hf.size]; exact (dsts_lt hd ho hdo).1
       · have hj' : m.getD j false = true := by rw [getD_set_ne false (fun e => hji e.symm)] at hj; exact hj
         exact holds_put hd ho hji (holds_mono (hh j hj') hb')
 · rintro m a w hs ⟨hf, hcl, p, hp, hph, hinv, hh⟩ hr
   have hmarked : ∀ j, j < ops.size → m.getD j false = true := fun j => by
    induction j using Nat.strongRecOn with
    | _ j ih =>
     intro hj
     cases hmj : m.getD j false with
     | true => rfl
     | false =>
      exfalso
      have hoj : ops[j]? = some ops[j] := Array.getElem?_eq_getElem hj
      have hbk := List.all_eq_true.1 hB j (List.mem_range.2 hj)
      rw [hoj] at hbk
      simp only [Array.all_eq_true_iff_forall_mem, Bool.or_eq_true, Bool.not_eq_true', decide_eq_true_eq] at hbk
      have hlt : ∀ e ∈ ops[j].after, Region.binds .any e = true → e.on < j := fun e he hbd => by
       rcases hbk e he with h | h
       · rw [hbd] at h; cases h
       · exact h
      have : j ∈ Region.ready .any ops m := mem_ready.2 ⟨by
       have hs' : j < m.size := by rw [hs]; exact hj
       simp [hs'] at hmj ⊢; exact hmj, ops[j], hoj, fun e he hbd => ih _ (hlt e he hbd) (by have := hlt e he hbd; omega)⟩
      rw [hr] at this; cases this
   have hpe : p = chain.length := by
    rcases Nat.lt_or_ge p chain.length with h2 | h2
    · exfalso
      have h3 := hph p h2
      have h4 := hmarked chain[p] (of_decide_eq_true (List.all_eq_true.1 hlt _ (List.getElem_mem h2)))
      rw [h4] at h3
      simp at h3
    · omega
   subst hpe
   exact hQ a w hinv hf fun j hj => hh j (hmarked j hj)
 · have hz : ∀ j, (Array.replicate ops.size false).getD j false = false := fun j => by
    simp only [Array.getD_eq_getD_getElem?, Array.getElem?_replicate]; split <;> rfl
   refine ⟨⟨rfl, rfl, fun _ _ => rfl⟩, fun j o _ hj => (by rw [hz] at hj; cases hj), 0, Nat.zero_le _, fun q _ => by rw [hz]; rfl, hI 0 w0 _ h0 (Below.refl _ _).drew, fun j hj => (by rw [hz] at hj; cases hj)⟩
def putAll (a : Act) : List Oper → Act → Act
 | o :: os, b => putAll a os (match o.dst with | some d => b.put (some d) (a.eval (.tmp d)) | none => b)
 | [], b => b
theorem putAll_size (a : Act) : ∀ (l : List Oper) (b : Act), (putAll a l b).tmps.size = b.tmps.size
 | [], _ => rfl
 | o :: os, b => by
  unfold putAll
  rw [putAll_size a os]
  cases o.dst <;> simp [Act.put]
theorem putAll_defers (a : Act) : ∀ (l : List Oper) (b : Act), (putAll a l b).defers = b.defers
 | [], _ => rfl
 | o :: os, b => by
  unfold putAll
  rw [putAll_defers a os]
  cases o.dst <;> simp [Act.put]
theorem putAll_eval (a : Act) (k : Nat) : ∀ (l : List Oper) (b : Act), b.tmps.size = a.tmps.size → (b.eval (.tmp k) = a.eval (.tmp k) ∨ (l.any fun o => o.dst == some k) = true) → (putAll a l b).eval (.tmp k) = a.eval (.tmp k)
 | [], b, _, h => by
  rcases h with h | h
  · exact h
  · cases h
 | o :: os, b, hs, h => by
  unfold putAll
  refine putAll_eval a k os _ (by cases o.dst <;> simpa [Act.put] using hs) ?_
  cases hd : o.dst with
  | none =>
   rcases h with h | h
   · exact .inl h
   · simp [hd] at h; exact .inr (by simpa using h)
  | some d =>
   by_cases hdk : d = k
   · subst hdk
     by_cases hlt : d < b.tmps.size
     · exact .inl (eval_put_same hlt)
     · left
       have h1 : ¬ d < a.tmps.size := by rw [← hs]; exact hlt
       simp [Act.put, Act.eval, hlt, h1]
   · have e : (b.put (some d) (a.eval (.tmp d))).eval (.tmp k) = b.eval (.tmp k) := eval_put_other fun e => hdk (Option.some.inj e)
     rcases h with h | h
     · exact .inl (e.trans h)
     · simp [hd, hdk] at h; exact .inr (by simpa using h)
theorem fr_putAll {a : Act} (h : Fr ops a0 a) : a = putAll a ops.toList a0 := by
 have h1 := putAll_size a ops.toList a0
 have h2 := putAll_defers a ops.toList a0
 have h3 : ∀ k, (putAll a ops.toList a0).eval (.tmp k) = a.eval (.tmp k) := fun k => putAll_eval a k _ _ h.size.symm (by
  cases hk : isDst ops k with
  | true => exact .inr hk
  | false => exact .inl (h.base k hk).symm)
 generalize putAll a ops.toList a0 = p at *
 rw [act_eq (a := a) (a0 := a0) h.size h.defers, act_eq (a := p) (a0 := a0) h1 h2]
 congr 2
 exact List.map_congr_left fun k _ => (h3 k).symm
end
end Go.Proofs.YtfghgenboahkkaaGreatDoor
namespace Go.Proofs.YtfghgenboahkkaaGreatDoor
open Go.RowKit
section
variable {Q : Exit → Act → World → Prop} {a : Act} {w : World} {o : Oper} {s : Spec}
theorem loc_buildF {x y : Operand} (ho : o.op = .build 69 #[(0, x), (1, y)]) {b c : ByteArray} (hx : a.eval x = .string b) (hy : a.eval y = .string c) (hs : s.p (.agg #[.string b, .string c]) w) :
  o.wp Tryz.prog a w (fun a' w' => ∃ v, a' = a.put o.dst v ∧ Below w.heap.size w w' ∧ s.p v w') Q := by
 refine loc_run (v := .agg #[.string b, .string c]) ?_ (Below.refl _ _) hs
 have hb := run_build (P := Tryz.prog) w 69 #[(0, .string b), (1, .string c)] #[.string b, .string c] (by kernel_rfl)
 unfold execOp
 simp only [ho, List.map_toArray, List.map_cons, List.map_nil, hx, hy, Sem.run_bind, hb, Result.andThen_ok, Sem.run_pure]
end
end Go.Proofs.YtfghgenboahkkaaGreatDoor
namespace Go.Proofs.YtfghgenboahkkaaGreatDoor
open Go.RowKit
def IntsF (w : World) (a : Option Addr) (n : Nat) : Prop :=
 ∀ j, j < n → ∃ x z, a = some x ∧ w.cell? (x.add j) = some (.int .i64 z) ∧ -9223372036854775808 ≤ z ∧ z ≤ 9223372036854775807
theorem IntsF.keep {w w' : World} {a : Option Addr} {n : Nat} (h : IntsF w a n) (hb : Below w.heap.size w w') : IntsF w' a n := fun j hj => by
 obtain ⟨x, z, e, h1, h2⟩ := h j hj
 exact ⟨x, z, e, below_cell hb h1, h2⟩
def Src (w : World) (g : Nat) (a : Option Addr) (n c : Nat) : Prop :=
 (∃ i : Nat, i ≤ n ∧ w.heap[g]? = some (.cells #[.slice a n c, .int .i64 i] 34 (0, 0))) ∧ n ≤ maxLen ∧ IntsF w a n ∧ ∀ x, a = some x → 0 < n → x.block ≠ g
theorem Src.lt {w : World} {g : Nat} {a : Option Addr} {n c : Nat} (h : Src w g a n c) : g < w.heap.size := by
 obtain ⟨⟨i, _, h⟩, _⟩ := h
 exact (Array.getElem?_eq_some_iff.1 h).1
theorem add_blockF (x : Addr) (j : Nat) : (x.add j).block = x.block := by unfold Addr.add; split <;> rfl
theorem IntsF.grown {w w' : World} {a : Option Addr} {n : Nat} {row : Option Nat} (h : IntsF w a n) (hg : w.grownBy w' row) (hne : ∀ x, a = some x → 0 < n → some x.block ≠ row) : IntsF w' a n := fun j hj => by
 obtain ⟨x, z, e, h1, h2⟩ := h j hj
 refine ⟨x, z, e, ?_, h2⟩
 have hlt := lt_cell h1
 rw [World.cell?_of_block (hg.block _ hlt (by rw [add_blockF]; exact hne x e (by omega)))]
 exact h1
theorem Src.grown {w w' : World} {g : Nat} {a : Option Addr} {n c : Nat} {row : Option Nat} (h : Src w g a n c) (hg : w.grownBy w' row) (hne : some g ≠ row) (hne2 : ∀ x, a = some x → 0 < n → some x.block ≠ row) : Src w' g a n c := by
 have hlt := h.lt
 obtain ⟨⟨i, hi, hr⟩, h2, h3, h4⟩ := h
 exact ⟨⟨i, hi, by rw [hg.block g hlt hne]; exact hr⟩, h2, h3.grown hg hne2, h4⟩
theorem Src.keep {w w' : World} {g : Nat} {a : Option Addr} {n c : Nat} (h : Src w g a n c) (hb : Below w.heap.size w w') : Src w' g a n c := by
 have hlt := h.lt
 obtain ⟨⟨i, hi, hr⟩, h2, h3, h4⟩ := h
 exact ⟨⟨i, hi, by rw [hb.block g hlt]; exact hr⟩, h2, h3.keep hb, h4⟩
theorem grownBy_trans {w w1 w2 : World} {row : Option Nat} (h : w.grownBy w1 row) (k : w1.grownBy w2 row) : w.grownBy w2 row :=
 ⟨k.os.trans h.os, k.tape.trans h.tape, k.output.trans h.output, Nat.le_trans h.size k.size, fun i hi hne => (k.block i (Nat.lt_of_lt_of_le hi h.size) hne).trans (h.block i hi hne)⟩
theorem grownBy_below {w w1 : World} {row : Option Nat} (h : Below w.heap.size w w1) : w.grownBy w1 row :=
 ⟨h.os, h.tape, h.output, h.size, fun i hi _ => h.block i hi⟩
theorem grownBy_new {w w1 w2 : World} {row : Option Nat} {q : Option Nat} (h : w.grownBy w1 row) (k : w1.grownBy w2 q) (hq : ∀ i, q = some i → w.heap.size ≤ i) : w.grownBy w2 row :=
 ⟨k.os.trans h.os, k.tape.trans h.tape, k.output.trans h.output, Nat.le_trans h.size k.size, fun i hi hne => (k.block i (Nat.lt_of_lt_of_le hi h.size) (fun e => by have := hq i e.symm; omega)).trans (h.block i hi hne)⟩
def withI (z : Int) (n : Nat) : Int := (wrap64 (z.tmod n + n)).tmod n
theorem withI_range (z : Int) (n : Nat) (h0 : 0 < n) (hn : n ≤ 1000000000) : ∃ k : Nat, k < n ∧ withI z n = (k : Int) := by
 have h1 : z.tmod n < n := Int.tmod_lt_of_pos z (by omega)
 have h2 : -(n : Int) < z.tmod n := Int.lt_tmod_of_pos z (by omega)
 unfold withI
 generalize z.tmod n = y at *
 have e : wrap64 (y + n) = y + n := by simp only [wrap64]; omega
 rw [e, Int.tmod_eq_emod_of_nonneg (by omega)]
 exact ⟨((y + n) % n).toNat, by have := Int.emod_lt_of_pos (y + n) (show (0 : Int) < n by omega); have := Int.emod_nonneg (y + n) (show (n : Int) ≠ 0 by omega); omega, by have := Int.emod_nonneg (y + n) (show (n : Int) ≠ 0 by omega); omega⟩
theorem withinF (z : Int) (n : Nat) (w : World) (h0 : 0 < n) (hn : n ≤ 1000000000) :
  Calls Tryz.prog 23 #[.int .i64 z, .int .i64 n] w fun e w' => e = .returned (.int .i64 (withI z n)) ∧ w' = w := by
 go_enter Tryz.func23, Tryz.ntmps23
 go_wp2
 go_ret
 exact ⟨rfl, rfl⟩
set_option maxRecDepth 100000 in
set_option maxHeartbeats 2000000 in
theorem next_any (g m : Nat) (a : Option Addr) (n c : Nat) (w : World) (h : Src w g a n c) (h0 : 0 < m) (hm : m ≤ 1000000000) :
  Calls Tryz.prog 32 #[.pointer (some ⟨g, 0, none⟩), .int .i64 m] w fun e w' => ∃ k : Nat, k < m ∧ e = .returned (.int .i64 k) ∧ Src w' g a n c ∧ w.grownBy w' (some g) := by
 have H0 := Box.mk h
 obtain ⟨⟨i, hi, hr⟩, hn, h2, h3⟩ := h
 have HR := Box.mk hr
 have HI := Box.mk h2
 have HA := Box.mk h3
 have HN := Box.mk hn
 have hc0 : w.cell? ⟨g, 0, none⟩ = some (.slice a n c) := by rw [cell_of_row _ _ _ _ _ _ hr]; rfl
 have hc1 : w.cell? ⟨g, 1, none⟩ = some (.int .i64 i) := by rw [cell_of_row _ _ _ _ _ _ hr]; rfl
 unfold maxLen at hn
 clear hr h2 h3
 go_enter Tryz.func32, Tryz.ntmps32
 by_cases hlt : i < n
 · obtain ⟨x, z, rfl, hz, z0, z1⟩ := HI.out i hlt
   have hne := HA.out x rfl (by omega)
   have HNE := Box.mk hne
   clear hne
   have hd : decide (n ≤ i) = false := by simp; omega
   have HZ := Box.mk hz
   clear hz
   go_wp2_with fail
   go_quiet (fail)
   clear hd
   obtain ⟨W, hW⟩ : ∃ W, W = w.drewN nq := ⟨_, rfl⟩
   have HRW := Box.mk (show W.heap[g]? = some (.cells #[.slice (some x) n c, .int .i64 i] 34 (0, 0)) by rw [hW]; exact HR.out)
   rw [← hW]
   have hf := frozen_of_row W g 1 _ _ HRW.out
   have hc0 : W.cell? ⟨g, 0, none⟩ = some (.slice (some x) n c) := by rw [cell_of_row _ _ _ _ _ _ HRW.out]; rfl
   have hc1 : W.cell? ⟨g, 1, none⟩ = some (.int .i64 i) := by rw [cell_of_row _ _ _ _ _ _ HRW.out]; rfl
   have HGW := Box.mk (show w.grownBy W (some g) by rw [hW]; exact ⟨rfl, rfl, rfl, Nat.le_refl _, fun _ _ _ => rfl⟩)
   clear hW
   go_wp2_with fail
   obtain ⟨W2, hW2⟩ : ∃ W2, W2 = W.setCell ⟨g, 1, none⟩ (.int .i64 ((i : Int) + 1)) := ⟨_, rfl⟩
   have HR2 := Box.mk (show W2.heap[g]? = some (.cells #[.slice (some x) n c, .int .i64 ((i : Int) + 1)] 34 (0, 0)) by rw [hW2, heap_setCell_same _ _ _ _ _ _ HRW.out]; simp)
   have HG2 := Box.mk (show w.grownBy W2 (some g) from grownBy_trans HGW.out (by
    rw [hW2]
    exact ⟨rfl, rfl, rfl, by simp [World.setCell], fun k _ hne => heap_setCell_other W ⟨g, 1, none⟩ k _ (fun e => hne (by rw [e]))⟩))
   change Code.wp _ _ _ _ (W.setCell ⟨g, 1, none⟩ (.int .i64 ((i : Int) + 1)))
   rw [← hW2]
   clear hW2 hf hc0 hc1 HGW HRW
   have hc0 : W2.cell? ⟨g, 0, none⟩ = some (.slice (some x) n c) := by rw [cell_of_row _ _ _ _ _ _ HR2.out]; rfl
   have hc1 : W2.cell? ⟨g, 1, none⟩ = some (.int .i64 ((i : Int) + 1)) := by rw [cell_of_row _ _ _ _ _ _ HR2.out]; rfl
   have hz2 : W2.cell? (x.add i) = some (.int .i64 z) := by
    rw [World.cell?_of_block (HG2.out.block _ (lt_cell HZ.out) (by rw [add_blockF]; exact fun e => HNE.out (Option.some.inj e)))]
    exact HZ.out
   have HS := Box.mk (show Src W2 g (some x) n c from ⟨⟨i + 1, hlt, HR2.out⟩, HN.out, HI.out.grown HG2.out (fun y e h e2 => HA.out y e h (Option.some.inj e2)), HA.out⟩)
   obtain ⟨k, hk, hwk⟩ := withI_range z m h0 hm
   have HWK := Box.mk hwk
   clear hwk
   go_quiet ((go_at_call 23; exact Calls.quiet_of_same (withinF _ _ _ h0 hm)))
   go_wp2
   go_ret
   exact ⟨k, hk, ret_int HWK.out, HS.out.keep (below_drewN (Below.refl _ _) _), grownBy_trans HG2.out ⟨rfl, rfl, rfl, Nat.le_refl _, fun _ _ _ => rfl⟩⟩
 · have hd : decide (n ≤ i) = true := by simp; omega
   go_wp2_with fail
   go_quiet (fail)
   go_wp2
   go_ret
   exact ⟨0, h0, rfl, H0.out.keep (below_drewN (Below.refl _ _) _), ⟨rfl, rfl, rfl, Nat.le_refl _, fun _ _ _ => rfl⟩⟩
set_option maxHeartbeats 1000000 in
theorem of_any (g b : Nat) (l : List ByteArray) (cb : Nat) (a : Option Addr) (n c : Nat) (w : World) (h : Src w g a n c) (hl : StrsIn w (some ⟨b, 0, none⟩) l) (hb : b ≠ g) (h0 : 0 < l.length) (h1 : l.length ≤ 1000) :
  Calls Tryz.prog 33 #[.pointer (some ⟨g, 0, none⟩), .slice (some ⟨b, 0, none⟩) l.length cb] w fun e w' => ∃ s ∈ l, e = .returned (.string s) ∧ Src w' g a n c ∧ w.grownBy w' (some g) := by
 have HL := Box.mk hl
 have HB := Box.mk hb
 clear hl hb
 go_enter Tryz.func33, Tryz.ntmps33
 go_wp2_with fail
 refine (next_any g l.length a n c w h h0 (by omega)).mono ?_
 rintro e w1 ⟨k, hk, rfl, hs, hg⟩
 obtain ⟨x, hx, hc⟩ := HL.out k hk
 obtain rfl := Option.some.inj hx
 have hc1 : w1.cell? ((⟨b, 0, none⟩ : Addr).add k) = some (.string l[k]) := by
  rw [World.cell?_of_block (hg.block _ (lt_cell hc) (by rw [add_blockF]; exact fun e => HB.out (Option.some.inj e)))]
  exact hc
 rw [Addr.add_lit, Nat.zero_add] at hc1
 have HS := Box.mk hs
 have HG := Box.mk hg
 have HMEM := Box.mk (List.getElem_mem hk)
 clear hs hg hc hx
 go_wp2_with fail
 go_ret
 exact ⟨_, HMEM.out, rfl, HS.out, HG.out⟩
end Go.Proofs.YtfghgenboahkkaaGreatDoor
