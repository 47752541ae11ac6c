/- Values, Has and Without, in the reference. Values, Without and Has of package field. With: appends of whole slices of fields, slices.Grow and slices.Concat. Format, by the library's Builder and in the reference. Parse of package field: the index of a colon, strings.Cut. A region that draws its order, in phases: between its breaking operations the others come in whatever order. Parse of the reference. The source of numbers of the laws: Within, Next, Of. The fields that the laws make: Field, Fields, fields, name. Fields of the source; fields and name of the laws. The plain mathematics of numerals: digits, their value with a limit, and that a numeral is read as its number. Contracts of the reference's functions that write a number. Split at the question mark, the version of a line, spoil; in the reference and the laws. Words of a line, rune by rune and byte by byte: plain mathematics. Cookies: what Pairs and Find answer (mathematics). strings.Cut at any byte, strings.HasPrefix, strings.CutPrefix; Split and the versions, of package startline. Slices of cookies of the call's own; parse, of package cookie. Pairs of package cookie. A region that draws its order, in phases, where an operation may read a slot that a later one writes. -/
import Derived.Test.YthgiplnidnkajaaDoorPq1
import Derived.Lib.AppendZerosOnto
import Derived.Lib.AppendStr
import Derived.Laws.CopyOwn
import Derived.OwnWalk
import Derived.Laws.Strings3
import Derived.Laws.Concat
import Derived.Lib.ItoaMem
import Derived.IntWalk
import Derived.Laws.RangeAny
namespace Go.Proofs.YthgiplnidnkajaaDoor
open Go.RowKit
def valuesL (l : List Fld) (n : ByteArray) : List ByteArray := (l.filter fun f => foldS f.1 n).map (·.2)
theorem valuesL_yes (l : List Fld) (n : ByteArray) (k : Nat) (h : k < l.length) (hf : foldS l[k].1 n = true) : valuesL (l.take (k + 1)) n = valuesL (l.take k) n ++ [l[k].2] := by
 unfold valuesL
 rw [List.take_succ_eq_append_getElem h, List.filter_append, List.map_append]; simp [hf]
theorem valuesL_no (l : List Fld) (n : ByteArray) (k : Nat) (h : k < l.length) (hf : foldS l[k].1 n = false) : valuesL (l.take (k + 1)) n = valuesL (l.take k) n := by
 unfold valuesL
 rw [List.take_succ_eq_append_getElem h, List.filter_append, List.map_append]; simp [hf]
theorem valuesL_len (l : List Fld) (n : ByteArray) : (valuesL l n).length ≤ l.length := by
 unfold valuesL; rw [List.length_map]; exact List.length_filter_le _ _
set_option maxRecDepth 100000 in
set_option maxHeartbeats 1000000 in
theorem refValues_any (l : List Fld) (n : ByteArray) (a : Option Addr) (cap : Nat) (w : World) (h : FldsIn w a l) (hz : ShortF l) (hn : n.size ≤ maxLen) (hl : l.length ≤ 1000000) :
  Calls Tryd.prog 29 #[.slice a l.length cap, .string n] w (RetStrs w (valuesL l n)) := by
 have H0 := Box.mk h
 have HZ := Box.mk hz
 clear h hz
 go_enter Tryd.func29, Tryd.ntmps29
 go_wp2_with fail
 go_loopw [5, 6] (fun v iv wr => ∃ k : Nat, k ≤ l.length ∧ iv = .int .i64 k ∧ Box (Acc w wr v (valuesL (l.take k) n))) (fun _ iv _ => l.length - (intOf iv).toNat)
 case atStart => exact ⟨0, Nat.zero_le _, rfl, ⟨Acc.start w⟩⟩
 case round =>
  obtain ⟨k, hk, rfl, HM⟩ := hrel
  by_cases hlt : k < l.length
  · obtain ⟨x, rfl, hx1, hx2⟩ := (H0.out.keep HM.out.2) k hlt
    have HSZ := Box.mk (HZ.out _ (List.getElem_mem hlt))
    have hVL := valuesL_len (l.take k) n
    have hVL2 : (l.take k).length ≤ k := List.length_take_le _ _
    by_cases hf : foldS l[k].1 n = true
    · have HT := Box.mk (valuesL_yes l n k hlt hf)
      have HC2 := Box.mk hx2
      generalize l[k] = f at *
      go_wp2_with fail
      refine (refFold_any f.1 n _ HSZ.out.1 hn).mono ?_
      rintro e w1 ⟨rfl, hb1⟩
      have hc2 := cell_next (below_cell hb1 HC2.out)
      have HM1 := Box.mk (HM.out.keep hb1)
      clear hb1 hx2
      go_wp2_with (at_builtin; refine wpList_append_acc _ rfl _ _ rfl rfl (HM1.out.keep ((Below.refl _ _).alloc (Nat.le_refl _) _)) rfl (y := f.2) ?c1 ?c2 ?c3)
      case c1 => simp
      case c2 => omega
      case c3 =>
       intro g cap' w' hacc _
       have HACC := Box.mk (show Acc w w' (.slice (some ⟨g, 0, none⟩) ((valuesL (l.take k) n).length + 1) cap') (valuesL (l.take (k + 1)) n) by rw [HT.out]; exact hacc)
       clear hacc HM1 HT
       go_wp2_with fail
       go_roundw
       case rel => exact ⟨k + 1, by omega, by go_num, HACC⟩
       case measure => simp [intOf]; omega
    · have hf' : foldS l[k].1 n = false := by simpa using hf
      have HT := Box.mk (valuesL_no l n k hlt hf')
      clear hf
      generalize l[k] = f at *
      go_wp2_with fail
      refine (refFold_any f.1 n _ HSZ.out.1 hn).mono ?_
      rintro e w1 ⟨rfl, hb1⟩
      have HM1 := Box.mk (show Acc w w1 _ (valuesL (l.take (k + 1)) n) by rw [HT.out]; exact HM.out.keep hb1)
      clear hb1
      go_wp2_with fail
      go_roundw
      case rel => exact ⟨k + 1, by omega, by go_num, HM1⟩
      case measure => simp [intOf]; omega
  · have HE := Box.mk (show Acc w wr _ (valuesL l n) by have := HM.out; rw [List.take_of_length_le (by omega)] at this; exact this)
    go_wp2_with fail
    obtain ⟨a', cap', rfl, hs⟩ := HE.out.shape
    go_ret
    exact ⟨a', cap', rfl, hs, HE.out.2⟩
def inFoldL (l : List ByteArray) (s : ByteArray) : Bool := l.any fun x => foldS x s
theorem inS_map (s : ByteArray) (ns : List ByteArray) : inS (lowS s) (ns.map lowS) = inFoldL ns s := by
 unfold inS inFoldL foldS
 rw [List.any_map]; rfl
theorem inS_one (s n : ByteArray) : inS (lowS s) ([n].map lowS) = foldS s n := by
 rw [inS_map]
 unfold inFoldL foldS
 simp only [List.any_cons, List.any_nil, Bool.or_false]
 exact Bool.beq_comm
theorem new_cellF (w : World) (cs : Array Value) (t : TypeId) (j : Nat) : (w.alloc (.cells cs t (0, 0))).cell? ⟨w.heap.size, j, none⟩ = cs[j]? :=
 cell_of_row _ _ _ _ _ _ (heap_alloc_new w (.cells cs t (0, 0)))
theorem strsIn_one (w : World) (n : ByteArray) (t : TypeId) : StrsIn (w.alloc (.cells #[.string n] t)) (some ⟨w.heap.size, 0, none⟩) [n] := fun j hj => by
 obtain rfl : j = 0 := by simpa using hj
 exact ⟨_, rfl, by rw [Addr.add_lit, new_cellF]; rfl⟩
theorem below_twoF {w w1 : World} (h : Below w.heap.size w w1) (o : Obj) : Below w.heap.size w (w1.alloc o) := below_trans h (below_oneF w1 o)
theorem SetIn.grown {w w' : World} {b n : Nat} {S : List ByteArray} {row : Option Nat} (h : SetIn w b n S) (hg : w.grownBy w' row) (hne : row ≠ some b) : SetIn w' b n S := by
 obtain ⟨D, h1, h2⟩ := h
 exact ⟨D, h1.kept hg (fun e => hne e.symm), h2⟩
section
variable {ops : Array Oper} {rest : List Oper} {o : Oper} {act : Act} {Q : Exit → Act → World → Prop}
theorem wpList_append_accset (w : World) (hgd : o.guard = none) (s x : Operand) (ho : o.op = .call { callee := .builtin .append, args := #[s, x], argTypes := #[50, 50] })
  {w0 : World} {v : Value} {l : List ByteArray} (hs : act.eval s = v) (h : Acc w0 w v l) {b c : Nat} (hx : act.eval x = .slice (some ⟨b, 0, none⟩) 1 c) {y : ByteArray} (hy : w.cell? ⟨b, 0, none⟩ = some (.string y))
  {q m : Nat} {S : List ByteArray} (hS : SetIn w q m S) (hne : v.ownBlock ≠ some q) (hn : l.length + 1 ≤ 8796093022208)
  (K : ∀ v' w', Acc w0 w' v' (l ++ [y]) → SetIn w' q m S → v'.ownBlock ≠ some q → wpList Tryd.prog ops Q rest (act.put o.dst v') w') : wpList Tryd.prog ops Q (o :: rest) act w := by
 obtain ⟨i0, hi, hz0, hz1, hz2⟩ := info_parts Tryd.info9
 refine wpList_append_lies w hgd s x 50 ho w0.heap.size 9 i0 (.string ⟨#[]⟩) 1 16 Tryd.underlying50 hi hz0 hz1 hz2 rfl (by decide) v l.length (l.map Value.string) hs h.1 ⟨b, 0, none⟩ 1 c [.string y] hx rfl ?_ ?_ (by decide) (by unfold maxLen; omega) (by omega) h.2.size w.heap.size rfl ?_
 · intro j u hj
   match j, hj with
   | 0, hj => simp at hj; subst hj; rw [Addr.add_lit]; exact hy
   | j + 1, hj => simp at hj
 · intro u hu; simp at hu; subst hu; rfl
 · intro g cap w' hown hgrow hg hlt
   refine K _ w' ⟨by simpa using hown, h.2.grown hgrow h.2.size fun k hk => (World.ownsRow.lt h.1 k hk).1⟩ (hS.grown hgrow hne) (fun e => ?_)
   have : g = q := by simpa [Value.ownBlock] using e
   subst this
   rcases hg with hg | hg
   · exact hne hg
   · have := hS.lt; omega
end
theorem one_short (n : ByteArray) : ([n] : List ByteArray).length ≤ 140737488355328 := by show 1 ≤ 140737488355328; decide
set_option maxRecDepth 100000 in
set_option maxHeartbeats 2000000 in
theorem fValues_any (l : List Fld) (n : ByteArray) (a : Option Addr) (cap : Nat) (w : World) (h : FldsIn w a l) (hz : ShortF l) (hn : n.size ≤ maxLen) (hl : l.length ≤ 1000000) :
  Calls Tryd.prog 25 #[.slice a l.length cap, .string n] w (RetStrs w (valuesL l n)) := by
 have H0 := Box.mk h
 have HZ := Box.mk hz
 clear h hz
 go_enter Tryd.func25, Tryd.ntmps25
 go_wp2_with fail
 refine (setOf_any [n] _ _ _ (strsIn_one w n _) (by simpa using hn) (one_short n)).mono ?_
 rintro e w1 ⟨b, m, rfl, hS, hb⟩
 have HS := Box.mk hS
 have HB := Box.mk (below_trans (below_oneF w (.cells #[.string n] 9)) hb)
 clear hS hb
 have HA0 := Box.mk (show Acc w w1 (.slice none 0 0) (valuesL (l.take 0) n) from ⟨World.ownsRow_nil _ _ _ _, HB.out⟩)
 go_wp2_with fail
 go_loopw [5, 14] (fun v iv wr => ∃ k : Nat, k ≤ l.length ∧ iv = .int .i64 k ∧ Box (Acc w wr v (valuesL (l.take k) n) ∧ SetIn wr b m ([n].map lowS) ∧ v.ownBlock ≠ some b)) (fun _ iv _ => l.length - (intOf iv).toNat)
 case atStart => exact ⟨0, Nat.zero_le _, rfl, ⟨HA0.out, HS.out, by simp [Value.ownBlock]⟩⟩
 case round =>
  clear HS HB HA0
  obtain ⟨k, hk, rfl, HM⟩ := hrel
  by_cases hlt : k < l.length
  · obtain ⟨x, rfl, hx1, hx2⟩ := (H0.out.keep HM.out.1.2) k hlt
    have hx2 := cell_next hx2
    have HSZ := Box.mk (HZ.out _ (List.getElem_mem hlt))
    have hVL := valuesL_len (l.take k) n
    have hVL2 : (l.take k).length ≤ k := List.length_take_le _ _
    by_cases hf : foldS l[k].1 n = true
    · have HT := Box.mk (valuesL_yes l n k hlt hf)
      have HIN := Box.mk (show inS (lowS l[k].1) ([n].map lowS) = true by rw [inS_one]; exact hf)
      clear hf
      generalize l[k] = f at *
      go_wp2_with fail
      refine (hdrIn_any f.1 f.2 b m _ _ (HM.out.2.1.keep (below_oneF wr (.cells #[.string f.1, .string f.2] 37))) HSZ.out.1).mono ?_
      rintro e w2 ⟨he, hb1⟩
      rw [HIN.out] at he
      subst he
      have hc2 : w2.cell? ⟨wr.heap.size, 1, none⟩ = some (.string f.2) := below_cell hb1 (by rw [new_cellF]; rfl)
      have HB2 := Box.mk (below_trans (below_oneF wr (.cells #[.string f.1, .string f.2] 37)) hb1)
      have HA2 := Box.mk (HM.out.1.keep HB2.out)
      have HS2 := Box.mk (HM.out.2.1.keep HB2.out)
      clear hb1 HIN
      go_wp2_with (at_builtin; refine wpList_append_accset _ rfl _ _ rfl rfl (HA2.out.keep ((Below.refl _ _).alloc (Nat.le_refl _) _)) rfl (y := f.2) ?c1 (HS2.out.keep ((Below.refl _ _).alloc (Nat.le_refl _) _)) HM.out.2.2 ?c2 ?c3)
      case c1 => simp
      case c2 => omega
      case c3 =>
       intro v' w' hacc hs' hne
       have HACC := Box.mk (show Acc w w' v' (valuesL (l.take (k + 1)) n) ∧ SetIn w' b m ([n].map lowS) ∧ v'.ownBlock ≠ some b by rw [HT.out]; exact ⟨hacc, hs', hne⟩)
       clear hacc hs' hne HT HA2 HS2 HB2 HM
       go_wp2_with fail
       go_roundw
       case rel => exact ⟨k + 1, by omega, by go_num, HACC⟩
       case measure => simp [intOf]; omega
    · have hf' : foldS l[k].1 n = false := by simpa using hf
      have HT := Box.mk (valuesL_no l n k hlt hf')
      have HIN := Box.mk (show inS (lowS l[k].1) ([n].map lowS) = false by rw [inS_one]; exact hf')
      clear hf hf'
      generalize l[k] = f at *
      go_wp2_with fail
      refine (hdrIn_any f.1 f.2 b m _ _ (HM.out.2.1.keep (below_oneF wr (.cells #[.string f.1, .string f.2] 37))) HSZ.out.1).mono ?_
      rintro e w2 ⟨he, hb1⟩
      rw [HIN.out] at he
      subst he
      have HB2 := Box.mk (below_trans (below_oneF wr (.cells #[.string f.1, .string f.2] 37)) hb1)
      have HM2 := Box.mk (show Acc w w2 _ (valuesL (l.take (k + 1)) n) ∧ SetIn w2 b m ([n].map lowS) ∧ _ by rw [HT.out]; exact ⟨HM.out.1.keep HB2.out, HM.out.2.1.keep HB2.out, HM.out.2.2⟩)
      clear hb1 HIN HT HB2
      go_wp2_with fail
      go_roundw
      case rel => exact ⟨k + 1, by omega, by go_num, HM2⟩
      case measure => simp [intOf]; omega
  · have HE := Box.mk (show Acc w wr _ (valuesL l n) by have := HM.out.1; rw [List.take_of_length_le (by omega)] at this; exact this)
    go_wp2_with fail
    obtain ⟨a', cap', rfl, hs⟩ := HE.out.shape
    go_ret
    exact ⟨a', cap', rfl, hs, HE.out.2⟩
end Go.Proofs.YthgiplnidnkajaaDoor
namespace Go.Proofs.YthgiplnidnkajaaDoor
open Go.RowKit
def FldsC (w : World) (a : Option Addr) (l : List Fld) (c : Nat) : Prop := FldsIn w a l ∧ (a = none → l = [] ∧ c = 0)
section
variable {ops : Array Oper} {rest : List Oper} {o : Oper} {act : Act} {Q : Exit → Act → World → Prop}
end
end Go.Proofs.YthgiplnidnkajaaDoor
namespace Go.Proofs.YthgiplnidnkajaaDoor
open Go.RowKit
def SmallF (l : List Fld) : Prop := ∀ f ∈ l, f.1.size ≤ 1048576 ∧ f.2.size ≤ 1048576
theorem le_maxLen {n : Nat} (h : n ≤ 1048576) : n ≤ maxLen := by unfold maxLen; omega
theorem ba_app_list (a b : ByteArray) : (a ++ b).data.toList = a.data.toList ++ b.data.toList := by rw [ByteArray.data_append]; simp
theorem extract_le (s : ByteArray) (i j : Nat) : (s.extract i j).size ≤ s.size := by
 rw [ByteArray.size_extract]; omega
theorem results_row_tmpF {P : Program} {fn : Func} {q p : Tmp} {ty : TypeId} (h : fn.results = #[.cell p ty, .tmp q]) (tmps : Array Value) (w : World) (g : Nat) (t : TypeId) (cs : Array Value) (fr : Nat × Nat) (d : TypeDesc)
  (hp : tmps.getD p undef = .pointer (some ⟨g, 0, none⟩)) (hg : w.heap[g]? = some (.cells cs t fr))
  (hu : P.underlying ty = some d) (hd : (match d with | .struct _ | .array _ _ => true | _ => false) = true) (hi : (P.info? ty).map (·.size) = some cs.size) :
  (results fn tmps).run P w = .ok (.tuple #[.agg cs, tmps.getD q undef]) w := by
 have hp' : tmps[p]?.getD undef = .pointer (some ⟨g, 0, none⟩) := by simpa using hp
 simp [results, h, hp', asAddr, run_loadVar_row w g t ty cs fr d hg hu hd hi]
theorem sizeF : (Tryd.prog.info? 37).map (·.size) = some 2 := by kernel_rfl
theorem oneF (a b : ByteArray) : (#[Value.string a, .string b] : Array Value).all (·.oneCell') = true := by simp [Value.oneCell']
def FVar (w : World) (g : Nat) (n v : ByteArray) : Prop := w.heap[g]? = some (.cells #[.string n, .string v] 37 (0, 0))
theorem FVar.keep {w w' : World} {g : Nat} {n v : ByteArray} (h : FVar w g n v) (hb : Below w.heap.size w w') : FVar w' g n v := by
 unfold FVar at *
 rw [hb.block g (Array.getElem?_eq_some_iff.1 h).1]; exact h
theorem FVar.new (w : World) (n v : ByteArray) : FVar (w.alloc (.cells #[.string n, .string v] 37)) w.heap.size n v := heap_alloc_new _ _
theorem FVar.c1 {w : World} {g : Nat} {n v : ByteArray} (h : FVar w g n v) : w.cell? ⟨g, 1, none⟩ = some (.string v) := by rw [cell_of_row _ _ _ _ _ _ h]; rfl
theorem FVar.lt {w : World} {g : Nat} {n v : ByteArray} (h : FVar w g n v) : g < w.heap.size := (Array.getElem?_eq_some_iff.1 h).1
def beforeB (ops : Array Oper) : Nat → Nat → Nat → Bool
 | 0, _, _ => false
 | f + 1, c, i => match ops[c]? with
  | some o => waitsFor o i || (List.range c).any fun k => waitsFor o k && beforeB ops f k i
  | none => false
def Over (ops : Array Oper) (a : Act) (w w' : World) (c : Nat) : Nat → List Spec → List Spec → Prop
 | k, s :: ss, t :: ts => (k = c ∨ ∀ v, (∀ o d, ops[k]? = some o → o.dst = some d → v = a.eval (.tmp d)) → s.p v w → t.p v w') ∧ Over ops a w w' c (k + 1) ss ts
 | _, [], [] => True
 | _, _, _ => False
def sidesB (ops : Array Oper) (chain : List Nat) (M : Nat) (sides : List Nat) (p : Nat) : Bool :=
 (List.range ops.size).all fun i => chain.contains i || sides.contains i || (List.range M).any fun q => match chain[q]? with
  | some c => if q < p then beforeB ops ops.size c i else beforeB ops ops.size i c
  | none => false
def chainB (ops : Array Oper) (chain : List Nat) : Bool :=
 (List.range chain.length).all fun p => (List.range chain.length).all fun q => decide (q ≤ p) || (match chain[p]?, chain[q]? with | some c, some d => beforeB ops ops.size d c && decide (c ≠ d) && decide (d < ops.size) && decide (c < ops.size) | _, _ => false)
section
variable {P : Program} {Q : Exit → Act → World → Prop} {ops : Array Oper} {a0 : Act} {w0 : World}
theorem over_at {a : Act} {w w' : World} {c : Nat} : ∀ {ss ts : List Spec} {k : Nat}, Over ops a w w' c k ss ts → ∀ j t, ts[j]? = some t → k + j ≠ c → ∃ s, ss[j]? = some s ∧ ∀ v, (∀ o d, ops[k + j]? = some o → o.dst = some d → v = a.eval (.tmp d)) → s.p v w → t.p v w'
 | s :: ss, t :: ts, k, h, 0, t', ht, hne => by
  simp at ht; subst ht
  rcases h.1 with h1 | h1
  · exact absurd h1 (by simpa using hne)
  · exact ⟨s, rfl, h1⟩
 | s :: ss, t :: ts, k, h, j + 1, t', ht, hne => by
  have e : k + 1 + j = k + (j + 1) := by omega
  have := over_at (k := k + 1) h.2 j t' (by simpa using ht) (by omega)
  rw [e] at this; exact this
 | [], [], _, _, j, t', ht, _ => by simp at ht
 | s :: ss, [], _, h, j, t', ht, _ => by simp at ht
 | [], t :: ts, _, h, j, t', ht, _ => h.elim
theorem before_marked {m : Array Bool} (hcl : ∀ j o, ops[j]? = some o → m.getD j false = true → ∀ i, waitsFor o i = true → m.getD i false = true) :
  ∀ (f c i : Nat), beforeB ops f c i = true → m.getD c false = true → m.getD i false = true
 | 0, _, _, h, _ => by simp [beforeB] at h
 | f + 1, c, i, h, hc => by
  unfold beforeB at h
  cases ho : ops[c]? with
  | none => rw [ho] at h; cases h
  | some o =>
   rw [ho] at h
   simp only [Bool.or_eq_true, List.any_eq_true, Bool.and_eq_true] at h
   rcases h with h | ⟨k, _, h1, h2⟩
   · exact hcl c o ho hc i h
   · exact before_marked hcl f k i h2 (hcl c o ho hc k h1)
theorem before_ready {m : Array Bool} (hcl : ∀ j o, ops[j]? = some o → m.getD j false = true → ∀ i, waitsFor o i = true → m.getD i false = true) {c i : Nat} {o : Oper} (ho : ops[c]? = some o)
  (hd : ∀ j, waitsFor o j = true → m.getD j false = true) {f : Nat} (h : beforeB ops f c i = true) : m.getD i false = true := by
 cases f with
 | zero => simp [beforeB] at h
 | succ f =>
  unfold beforeB at h
  rw [ho] at h
  simp only [Bool.or_eq_true, List.any_eq_true, Bool.and_eq_true] at h
  rcases h with h | ⟨k, _, h1, h2⟩
  · exact hd i h
  · exact before_marked hcl f k i h2 (hd k h1)
def putAll (a : Act) : List Oper → Act → Act
 | o :: os, b => putAll a os (match o.dst with | some d => b.put (some d) (a.eval (.tmp d)) | none => b)
 | [], b => b
theorem putAll_size (a : Act) : ∀ (l : List Oper) (b : Act), (putAll a l b).tmps.size = b.tmps.size
 | [], _ => rfl
 | o :: os, b => by
  unfold putAll
  rw [putAll_size a os]
  cases o.dst <;> simp [Act.put]
theorem putAll_defers (a : Act) : ∀ (l : List Oper) (b : Act), (putAll a l b).defers = b.defers
 | [], _ => rfl
 | o :: os, b => by
  unfold putAll
  rw [putAll_defers a os]
  cases o.dst <;> simp [Act.put]
theorem putAll_eval (a : Act) (k : Nat) : ∀ (l : List Oper) (b : Act), b.tmps.size = a.tmps.size → (b.eval (.tmp k) = a.eval (.tmp k) ∨ (l.any fun o => o.dst == some k) = true) → (putAll a l b).eval (.tmp k) = a.eval (.tmp k)
 | [], b, _, h => by
  rcases h with h | h
  · exact h
  · cases h
 | o :: os, b, hs, h => by
  unfold putAll
  refine putAll_eval a k os _ (by cases o.dst <;> simpa [Act.put] using hs) ?_
  cases hd : o.dst with
  | none =>
   rcases h with h | h
   · exact .inl h
   · simp [hd] at h; exact .inr (by simpa using h)
  | some d =>
   by_cases hdk : d = k
   · subst hdk
     by_cases hlt : d < b.tmps.size
     · exact .inl (eval_put_same hlt)
     · left
       have h1 : ¬ d < a.tmps.size := by rw [← hs]; exact hlt
       simp [Act.put, Act.eval, hlt, h1]
   · have e : (b.put (some d) (a.eval (.tmp d))).eval (.tmp k) = b.eval (.tmp k) := eval_put_other fun e => hdk (Option.some.inj e)
     rcases h with h | h
     · exact .inl (e.trans h)
     · simp [hd, hdk] at h; exact .inr (by simpa using h)
theorem fr_putAll {a : Act} (h : Fr ops a0 a) : a = putAll a ops.toList a0 := by
 have h1 := putAll_size a ops.toList a0
 have h2 := putAll_defers a ops.toList a0
 have h3 : ∀ k, (putAll a ops.toList a0).eval (.tmp k) = a.eval (.tmp k) := fun k => putAll_eval a k _ _ h.size.symm (by
  cases hk : isDst ops k with
  | true => exact .inr hk
  | false => exact .inl (h.base k hk).symm)
 generalize putAll a ops.toList a0 = p at *
 rw [act_eq (a := a) (a0 := a0) h.size h.defers, act_eq (a := p) (a0 := a0) h1 h2]
 congr 2
 exact List.map_congr_left fun k _ => (h3 k).symm
end
end Go.Proofs.YthgiplnidnkajaaDoor
namespace Go.Proofs.YthgiplnidnkajaaDoor
open Go.RowKit
section
variable {Q : Exit → Act → World → Prop} {a : Act} {w : World} {o : Oper} {s : Spec}
theorem loc_sub_to {x y : Operand} (ho : o.op = .slice 9 x none (some y) none) {b : ByteArray} {k : Nat} (hx : a.eval x = .string b) (hy : a.eval y = .int .i64 k) (hk : k ≤ b.size) (hs : s.p (.string (b.extract 0 k)) w) :
  o.wp Tryd.prog a w (fun a' w' => ∃ v, a' = a.put o.dst v ∧ Below w.heap.size w w' ∧ s.p v w') Q := by
 have hrun : (Instr.slice 9 (.string b) none (some (.int .i64 (k : Int))) none).run Tryd.prog w = .ok (.string (b.extract 0 k)) w := by
  rw [run_slice_string_to_if w 9 b .i64 (k : Int) Tryd.underlying9, if_pos (by omega)]
  rfl
 refine loc_run (v := .string (b.extract 0 k)) ?_ (Below.refl _ _) hs
 unfold execOp
 simp only [ho, hx, hy, Option.map_some, Option.map_none, Sem.run_bind, run_sliceAt_string w _ _ _ _ _ Tryd.underlying9, hrun, Result.andThen_ok, Sem.run_pure]
theorem loc_sub_from {x y : Operand} (ho : o.op = .slice 9 x (some y) none none) {b : ByteArray} {k : Nat} (hx : a.eval x = .string b) (hy : a.eval y = .int .i64 k) (hk : k ≤ b.size) (hs : s.p (.string (b.extract k b.size)) w) :
  o.wp Tryd.prog a w (fun a' w' => ∃ v, a' = a.put o.dst v ∧ Below w.heap.size w w' ∧ s.p v w') Q := by
 have hrun : (Instr.slice 9 (.string b) (some (.int .i64 (k : Int))) none none).run Tryd.prog w = .ok (.string (b.extract k b.size)) w := by
  rw [run_slice_string_from_if w 9 b .i64 (k : Int) Tryd.underlying9, if_pos (by omega)]
  rfl
 refine loc_run (v := .string (b.extract k b.size)) ?_ (Below.refl _ _) hs
 unfold execOp
 simp only [ho, hx, hy, Option.map_some, Option.map_none, Sem.run_bind, run_sliceAt_string w _ _ _ _ _ Tryd.underlying9, hrun, Result.andThen_ok, Sem.run_pure]
theorem loc_addF {x y : Operand} {t : TypeId} (ho : o.op = .binOp .add 3 x y t) {m k : Nat} (hx : a.eval x = .int .i64 m) (hy : a.eval y = .int .i64 k) (hn : m + k ≤ 9223372036854775807) (hs : s.p (.int .i64 ((m + k : Nat) : Int)) w) :
  o.wp Tryd.prog a w (fun a' w' => ∃ v, a' = a.put o.dst v ∧ Below w.heap.size w w' ∧ s.p v w') Q :=
 loc_run (v := .int .i64 ((m + k : Nat) : Int)) (by
  have e : IntKind.i64.wrap ((m : Int) + k) = ((m + k : Nat) : Int) := by
   simp only [IntKind.wrap, IntKind.bits, IntKind.signed]; simp; omega
  have h : (Op.intArith .add .i64 (m : Int) (k : Int)).run Tryd.prog w = .ok (.int .i64 ((m + k : Nat) : Int)) w := by
   unfold Op.intArith
   rw [← e]; rfl
  unfold execOp
  simp only [ho, hx, hy]
  simp [eqGuard, binOp, h, Result.andThen]) (Below.refl _ _) hs
end
end Go.Proofs.YthgiplnidnkajaaDoor
namespace Go.Proofs.YthgiplnidnkajaaDoor
open Go.RowKit
def IntsF (w : World) (a : Option Addr) (n : Nat) : Prop :=
 ∀ j, j < n → ∃ x z, a = some x ∧ w.cell? (x.add j) = some (.int .i64 z) ∧ -9223372036854775808 ≤ z ∧ z ≤ 9223372036854775807
theorem IntsF.keep {w w' : World} {a : Option Addr} {n : Nat} (h : IntsF w a n) (hb : Below w.heap.size w w') : IntsF w' a n := fun j hj => by
 obtain ⟨x, z, e, h1, h2⟩ := h j hj
 exact ⟨x, z, e, below_cell hb h1, h2⟩
def Src (w : World) (g : Nat) (a : Option Addr) (n c : Nat) : Prop :=
 (∃ i : Nat, i ≤ n ∧ w.heap[g]? = some (.cells #[.slice a n c, .int .i64 i] 46 (0, 0))) ∧ n ≤ maxLen ∧ IntsF w a n ∧ ∀ x, a = some x → 0 < n → x.block ≠ g
theorem Src.lt {w : World} {g : Nat} {a : Option Addr} {n c : Nat} (h : Src w g a n c) : g < w.heap.size := by
 obtain ⟨⟨i, _, h⟩, _⟩ := h
 exact (Array.getElem?_eq_some_iff.1 h).1
theorem add_blockF (x : Addr) (j : Nat) : (x.add j).block = x.block := by unfold Addr.add; split <;> rfl
theorem IntsF.grown {w w' : World} {a : Option Addr} {n : Nat} {row : Option Nat} (h : IntsF w a n) (hg : w.grownBy w' row) (hne : ∀ x, a = some x → 0 < n → some x.block ≠ row) : IntsF w' a n := fun j hj => by
 obtain ⟨x, z, e, h1, h2⟩ := h j hj
 refine ⟨x, z, e, ?_, h2⟩
 have hlt := lt_cell h1
 rw [World.cell?_of_block (hg.block _ hlt (by rw [add_blockF]; exact hne x e (by omega)))]
 exact h1
theorem Src.grown {w w' : World} {g : Nat} {a : Option Addr} {n c : Nat} {row : Option Nat} (h : Src w g a n c) (hg : w.grownBy w' row) (hne : some g ≠ row) (hne2 : ∀ x, a = some x → 0 < n → some x.block ≠ row) : Src w' g a n c := by
 have hlt := h.lt
 obtain ⟨⟨i, hi, hr⟩, h2, h3, h4⟩ := h
 exact ⟨⟨i, hi, by rw [hg.block g hlt hne]; exact hr⟩, h2, h3.grown hg hne2, h4⟩
theorem Src.keep {w w' : World} {g : Nat} {a : Option Addr} {n c : Nat} (h : Src w g a n c) (hb : Below w.heap.size w w') : Src w' g a n c := by
 have hlt := h.lt
 obtain ⟨⟨i, hi, hr⟩, h2, h3, h4⟩ := h
 exact ⟨⟨i, hi, by rw [hb.block g hlt]; exact hr⟩, h2, h3.keep hb, h4⟩
theorem grownBy_trans {w w1 w2 : World} {row : Option Nat} (h : w.grownBy w1 row) (k : w1.grownBy w2 row) : w.grownBy w2 row :=
 ⟨k.os.trans h.os, k.tape.trans h.tape, k.output.trans h.output, Nat.le_trans h.size k.size, fun i hi hne => (k.block i (Nat.lt_of_lt_of_le hi h.size) hne).trans (h.block i hi hne)⟩
theorem grownBy_below {w w1 : World} {row : Option Nat} (h : Below w.heap.size w w1) : w.grownBy w1 row :=
 ⟨h.os, h.tape, h.output, h.size, fun i hi _ => h.block i hi⟩
theorem grownBy_new {w w1 w2 : World} {row : Option Nat} {q : Option Nat} (h : w.grownBy w1 row) (k : w1.grownBy w2 q) (hq : ∀ i, q = some i → w.heap.size ≤ i) : w.grownBy w2 row :=
 ⟨k.os.trans h.os, k.tape.trans h.tape, k.output.trans h.output, Nat.le_trans h.size k.size, fun i hi hne => (k.block i (Nat.lt_of_lt_of_le hi h.size) (fun e => by have := hq i e.symm; omega)).trans (h.block i hi hne)⟩
def withI (z : Int) (n : Nat) : Int := (wrap64 (z.tmod n + n)).tmod n
theorem withI_range (z : Int) (n : Nat) (h0 : 0 < n) (hn : n ≤ 1000000000) : ∃ k : Nat, k < n ∧ withI z n = (k : Int) := by
 have h1 : z.tmod n < n := Int.tmod_lt_of_pos z (by omega)
 have h2 : -(n : Int) < z.tmod n := Int.lt_tmod_of_pos z (by omega)
 unfold withI
 generalize z.tmod n = y at *
 have e : wrap64 (y + n) = y + n := by simp only [wrap64]; omega
 rw [e, Int.tmod_eq_emod_of_nonneg (by omega)]
 exact ⟨((y + n) % n).toNat, by have := Int.emod_lt_of_pos (y + n) (show (0 : Int) < n by omega); have := Int.emod_nonneg (y + n) (show (n : Int) ≠ 0 by omega); omega, by have := Int.emod_nonneg (y + n) (show (n : Int) ≠ 0 by omega); omega⟩
theorem withinF (z : Int) (n : Nat) (w : World) (h0 : 0 < n) (hn : n ≤ 1000000000) :
  Calls Tryd.prog 13 #[.int .i64 z, .int .i64 n] w fun e w' => e = .returned (.int .i64 (withI z n)) ∧ w' = w := by
 go_enter Tryd.func13, Tryd.ntmps13
 go_wp2
 go_ret
 exact ⟨rfl, rfl⟩
set_option maxRecDepth 100000 in
set_option maxHeartbeats 2000000 in
theorem next_any (g m : Nat) (a : Option Addr) (n c : Nat) (w : World) (h : Src w g a n c) (h0 : 0 < m) (hm : m ≤ 1000000000) :
  Calls Tryd.prog 22 #[.pointer (some ⟨g, 0, none⟩), .int .i64 m] w fun e w' => ∃ k : Nat, k < m ∧ e = .returned (.int .i64 k) ∧ Src w' g a n c ∧ w.grownBy w' (some g) := by
 have H0 := Box.mk h
 obtain ⟨⟨i, hi, hr⟩, hn, h2, h3⟩ := h
 have HR := Box.mk hr
 have HI := Box.mk h2
 have HA := Box.mk h3
 have HN := Box.mk hn
 have hc0 : w.cell? ⟨g, 0, none⟩ = some (.slice a n c) := by rw [cell_of_row _ _ _ _ _ _ hr]; rfl
 have hc1 : w.cell? ⟨g, 1, none⟩ = some (.int .i64 i) := by rw [cell_of_row _ _ _ _ _ _ hr]; rfl
 unfold maxLen at hn
 clear hr h2 h3
 go_enter Tryd.func22, Tryd.ntmps22
 by_cases hlt : i < n
 · obtain ⟨x, z, rfl, hz, z0, z1⟩ := HI.out i hlt
   have hne := HA.out x rfl (by omega)
   have HNE := Box.mk hne
   clear hne
   have hd : decide (n ≤ i) = false := by simp; omega
   have HZ := Box.mk hz
   clear hz
   go_wp2_with fail
   go_quiet (fail)
   clear hd
   obtain ⟨W, hW⟩ : ∃ W, W = w.drewN nq := ⟨_, rfl⟩
   have HRW := Box.mk (show W.heap[g]? = some (.cells #[.slice (some x) n c, .int .i64 i] 46 (0, 0)) by rw [hW]; exact HR.out)
   rw [← hW]
   have hf := frozen_of_row W g 1 _ _ HRW.out
   have hc0 : W.cell? ⟨g, 0, none⟩ = some (.slice (some x) n c) := by rw [cell_of_row _ _ _ _ _ _ HRW.out]; rfl
   have hc1 : W.cell? ⟨g, 1, none⟩ = some (.int .i64 i) := by rw [cell_of_row _ _ _ _ _ _ HRW.out]; rfl
   have HGW := Box.mk (show w.grownBy W (some g) by rw [hW]; exact ⟨rfl, rfl, rfl, Nat.le_refl _, fun _ _ _ => rfl⟩)
   clear hW
   go_wp2_with fail
   obtain ⟨W2, hW2⟩ : ∃ W2, W2 = W.setCell ⟨g, 1, none⟩ (.int .i64 ((i : Int) + 1)) := ⟨_, rfl⟩
   have HR2 := Box.mk (show W2.heap[g]? = some (.cells #[.slice (some x) n c, .int .i64 ((i : Int) + 1)] 46 (0, 0)) by rw [hW2, heap_setCell_same _ _ _ _ _ _ HRW.out]; simp)
   have HG2 := Box.mk (show w.grownBy W2 (some g) from grownBy_trans HGW.out (by
    rw [hW2]
    exact ⟨rfl, rfl, rfl, by simp [World.setCell], fun k _ hne => heap_setCell_other W ⟨g, 1, none⟩ k _ (fun e => hne (by rw [e]))⟩))
   change Code.wp _ _ _ _ (W.setCell ⟨g, 1, none⟩ (.int .i64 ((i : Int) + 1)))
   rw [← hW2]
   clear hW2 hf hc0 hc1 HGW HRW
   have hc0 : W2.cell? ⟨g, 0, none⟩ = some (.slice (some x) n c) := by rw [cell_of_row _ _ _ _ _ _ HR2.out]; rfl
   have hc1 : W2.cell? ⟨g, 1, none⟩ = some (.int .i64 ((i : Int) + 1)) := by rw [cell_of_row _ _ _ _ _ _ HR2.out]; rfl
   have hz2 : W2.cell? (x.add i) = some (.int .i64 z) := by
    rw [World.cell?_of_block (HG2.out.block _ (lt_cell HZ.out) (by rw [add_blockF]; exact fun e => HNE.out (Option.some.inj e)))]
    exact HZ.out
   have HS := Box.mk (show Src W2 g (some x) n c from ⟨⟨i + 1, hlt, HR2.out⟩, HN.out, HI.out.grown HG2.out (fun y e h e2 => HA.out y e h (Option.some.inj e2)), HA.out⟩)
   obtain ⟨k, hk, hwk⟩ := withI_range z m h0 hm
   have HWK := Box.mk hwk
   clear hwk
   go_quiet ((go_at_call 13; exact Calls.quiet_of_same (withinF _ _ _ h0 hm)))
   go_wp2
   go_ret
   exact ⟨k, hk, ret_int HWK.out, HS.out.keep (below_drewN (Below.refl _ _) _), grownBy_trans HG2.out ⟨rfl, rfl, rfl, Nat.le_refl _, fun _ _ _ => rfl⟩⟩
 · have hd : decide (n ≤ i) = true := by simp; omega
   go_wp2_with fail
   go_quiet (fail)
   go_wp2
   go_ret
   exact ⟨0, h0, rfl, H0.out.keep (below_drewN (Below.refl _ _) _), ⟨rfl, rfl, rfl, Nat.le_refl _, fun _ _ _ => rfl⟩⟩
set_option maxHeartbeats 1000000 in
theorem of_any (g b : Nat) (l : List ByteArray) (cb : Nat) (a : Option Addr) (n c : Nat) (w : World) (h : Src w g a n c) (hl : StrsIn w (some ⟨b, 0, none⟩) l) (hb : b ≠ g) (h0 : 0 < l.length) (h1 : l.length ≤ 1000) :
  Calls Tryd.prog 23 #[.pointer (some ⟨g, 0, none⟩), .slice (some ⟨b, 0, none⟩) l.length cb] w fun e w' => ∃ s ∈ l, e = .returned (.string s) ∧ Src w' g a n c ∧ w.grownBy w' (some g) := by
 have HL := Box.mk hl
 have HB := Box.mk hb
 clear hl hb
 go_enter Tryd.func23, Tryd.ntmps23
 go_wp2_with fail
 refine (next_any g l.length a n c w h h0 (by omega)).mono ?_
 rintro e w1 ⟨k, hk, rfl, hs, hg⟩
 obtain ⟨x, hx, hc⟩ := HL.out k hk
 obtain rfl := Option.some.inj hx
 have hc1 : w1.cell? ((⟨b, 0, none⟩ : Addr).add k) = some (.string l[k]) := by
  rw [World.cell?_of_block (hg.block _ (lt_cell hc) (by rw [add_blockF]; exact fun e => HB.out (Option.some.inj e)))]
  exact hc
 rw [Addr.add_lit, Nat.zero_add] at hc1
 have HS := Box.mk hs
 have HG := Box.mk hg
 have HMEM := Box.mk (List.getElem_mem hk)
 clear hs hg hc hx
 go_wp2_with fail
 go_ret
 exact ⟨_, HMEM.out, rfl, HS.out, HG.out⟩
def namesF : List ByteArray := [⟨#[88, 45, 65]⟩, ⟨#[120, 45, 97]⟩, ⟨#[88, 45, 66]⟩, ⟨#[65, 99, 99, 101, 112, 116]⟩, ⟨#[67, 111, 110, 110, 101, 99, 116, 105, 111, 110]⟩, ⟨#[86, 105, 97]⟩, ⟨#[67, 111, 111, 107, 105, 101]⟩, ⟨#[84, 69]⟩, ⟨#[75, 101, 101, 112, 45, 65, 108, 105, 118, 101]⟩, ⟨#[88, 45, 70, 111, 114, 119, 97, 114, 100, 101, 100, 45, 70, 111, 114]⟩, ⟨#[68, 97, 116, 101]⟩, ⟨#[69, 84, 97, 103]⟩, ⟨#[85, 112, 103, 114, 97, 100, 101]⟩, ⟨#[88, 45, 83, 104, 97, 100, 111, 119]⟩]
def valsF : List ByteArray := [⟨#[]⟩, ⟨#[49]⟩, ⟨#[97, 44, 32, 98]⟩, ⟨#[120, 45, 97]⟩, ⟨#[99, 108, 111, 115, 101]⟩, ⟨#[107, 101, 101, 112, 45, 97, 108, 105, 118, 101]⟩, ⟨#[88, 45, 66, 44, 32, 116, 101]⟩, ⟨#[99, 111, 104, 111, 114, 116, 61, 48, 49, 50, 51, 52, 53, 54, 55, 56, 57, 97, 98, 99, 100, 101, 102]⟩, ⟨#[107, 61, 118, 59, 32, 99, 111, 104, 111, 114, 116, 61, 48, 48, 48, 48, 48, 48, 48, 48, 48, 48, 48, 48, 48, 48, 102, 102]⟩, ⟨#[49, 46, 49, 32, 111, 116, 104, 101, 114]⟩, ⟨#[9, 63, 128, 59, 61]⟩]
theorem namesF_ok : (namesF.all fun s => tokS s && decide (s.size ≤ 1000)) = true := by decide +kernel
theorem valsF_ok : (valsF.all fun s => valS (trimBA s) && decide (s.size ≤ 1000)) = true := by decide +kernel
theorem strsIn_newF (w : World) (l : List ByteArray) (t : TypeId) : StrsIn (w.alloc (.cells (l.map Value.string).toArray t)) (some ⟨w.heap.size, 0, none⟩) l := fun j hj =>
 ⟨_, rfl, by rw [Addr.add_lit, Nat.zero_add, new_cellF]; simp [hj]⟩
theorem Src.low {w : World} {g : Nat} {a : Option Addr} {n c : Nat} (h : Src w g a n c) : ∀ x, a = some x → 0 < n → x.block < w.heap.size := fun x e h0 => by
 obtain ⟨y, z, e2, hc, _⟩ := h.2.2.1 0 h0
 rw [e] at e2
 obtain rfl := Option.some.inj e2
 have := lt_cell hc
 rw [add_blockF] at this; exact this
theorem Src.other {w w' : World} {g q : Nat} {a : Option Addr} {n c : Nat} (h : Src w g a n c) (hg : w.grownBy w' (some q)) (hq : g ≠ q) (hx : ∀ x, a = some x → 0 < n → x.block ≠ q) : Src w' g a n c :=
 h.grown hg (fun e => hq (Option.some.inj e)) (fun x e h0 e2 => hx x e h0 (Option.some.inj e2))
theorem grownBy_setRowF (w : World) (g : Nat) (cs : Array Value) : w.grownBy (w.setRow g cs) (some g) :=
 ⟨rfl, rfl, rfl, by simp [World.setRow], fun k _ hne => setRow_other w g k cs (fun e => hne (by rw [e]))⟩
theorem FVar.grown {w w' : World} {g : Nat} {n v : ByteArray} {row : Option Nat} (h : FVar w g n v) (hg : w.grownBy w' row) (hne : some g ≠ row) : FVar w' g n v := by
 have hlt := h.lt
 unfold FVar at *
 rw [hg.block g hlt hne]; exact h
theorem of_n (g b m : Nat) (l : List ByteArray) (cb : Nat) (a : Option Addr) (n c : Nat) (w : World) (h : Src w g a n c) (hl : StrsIn w (some ⟨b, 0, none⟩) l) (hb : b ≠ g) (hm : l.length = m) (h0 : 0 < m) (h1 : m ≤ 1000) :
  Calls Tryd.prog 23 #[.pointer (some ⟨g, 0, none⟩), .slice (some ⟨b, 0, none⟩) m cb] w fun e w' => ∃ s ∈ l, e = .returned (.string s) ∧ Src w' g a n c ∧ w.grownBy w' (some g) := by
 subst hm
 exact of_any g b l cb a n c w h hl hb h0 h1
def MadeF (f : Fld) : Prop := fldB f.1 f.2 = true ∧ f.1.size ≤ 1000 ∧ f.2.size ≤ 1000
theorem made_of {s v : ByteArray} (hs : s ∈ namesF) (hv : v ∈ valsF) : MadeF (s, trimBA v) := by
 have h1 := List.all_eq_true.1 namesF_ok s hs
 have h2 := List.all_eq_true.1 valsF_ok v hv
 simp only [Bool.and_eq_true, decide_eq_true_eq] at h1 h2
 exact ⟨by rw [fldB_val h1.1]; exact h2.1, h1.2, Nat.le_trans (trimBA_size v) h2.2⟩
def SrcF (f : Fld) : Prop := ∃ s ∈ namesF, ∃ v ∈ valsF, f = (s, trimBA v)
theorem SrcF.made {f : Fld} (h : SrcF f) : MadeF f := by
 obtain ⟨s, hs, v, hv, rfl⟩ := h
 exact made_of hs hv
set_option maxRecDepth 100000 in
set_option maxHeartbeats 2000000 in
theorem srcFieldS_any (g : Nat) (a : Option Addr) (n c : Nat) (w : World) (h : Src w g a n c) :
  Calls Tryd.prog 39 #[.pointer (some ⟨g, 0, none⟩)] w fun e w' => ∃ f, e = .returned (.agg #[.string f.1, .string f.2]) ∧ SrcF f ∧ Src w' g a n c ∧ w.grownBy w' (some g) := by
 have H0 := Box.mk h
 have HLOW := Box.mk h.low
 have hlt := h.lt
 clear h
 go_enter Tryd.func39, Tryd.ntmps39
 go_wp2_with fail
 obtain ⟨W, hW⟩ : ∃ W, W = (w.alloc (.cells #[.string ⟨#[]⟩, .string ⟨#[]⟩] 37)).alloc (.cells (namesF.map Value.string).toArray 9) := ⟨_, rfl⟩
 have HBW := Box.mk (show Below w.heap.size w W by rw [hW]; exact below_twoF (below_oneF w _) _)
 have HQ := Box.mk (show FVar W w.heap.size ⟨#[]⟩ ⟨#[]⟩ by rw [hW]; exact (FVar.new w ⟨#[]⟩ ⟨#[]⟩).keep (below_oneF _ _))
 have HL := Box.mk (show StrsIn W (some ⟨w.heap.size + 1, 0, none⟩) namesF by
  have h1 := strsIn_newF (w.alloc (.cells #[.string ⟨#[]⟩, .string ⟨#[]⟩] 37)) namesF 9
  rw [World.size_alloc] at h1
  rw [hW]; exact h1)
 have HS := Box.mk (H0.out.keep HBW.out)
 change Calls _ _ _ ((w.alloc (.cells #[.string ⟨#[]⟩, .string ⟨#[]⟩] 37)).alloc (.cells (namesF.map Value.string).toArray 9)) _
 rw [← hW]
 clear hW
 refine (of_n g (w.heap.size + 1) 14 namesF 14 a n c W HS.out HL.out (by omega) rfl (by decide) (by decide)).mono ?_
 rintro e w1 ⟨s, hs, rfl, hsrc, hg1⟩
 have HNM := Box.mk hs
 have HS1 := Box.mk hsrc
 have HG1 := Box.mk (show w.grownBy w1 (some g) from grownBy_trans (grownBy_below HBW.out) hg1)
 have HQ1 := Box.mk (HQ.out.grown hg1 (fun e => by have := Option.some.inj e; omega))
 clear hs hsrc hg1 HS HL HQ HBW H0
 go_wp2_with fail
 obtain ⟨W, hW⟩ : ∃ W, W = w1.alloc (.cells (valsF.map Value.string).toArray 9) := ⟨_, rfl⟩
 have HBW := Box.mk (show Below w1.heap.size w1 W by rw [hW]; exact below_oneF w1 _)
 have HL := Box.mk (show StrsIn W (some ⟨w1.heap.size, 0, none⟩) valsF by rw [hW]; exact strsIn_newF w1 valsF 9)
 have HS2 := Box.mk (HS1.out.keep HBW.out)
 have hlt1 := HS1.out.lt
 change Calls _ _ _ (w1.alloc (.cells (valsF.map Value.string).toArray 9)) _
 rw [← hW]
 clear hW
 refine (of_n g w1.heap.size 11 valsF 11 a n c W HS2.out HL.out (by omega) rfl (by decide) (by decide)).mono ?_
 rintro e w2 ⟨v, hv, rfl, hsrc, hg2⟩
 have HVL := Box.mk hv
 have HS3 := Box.mk hsrc
 have HG3 := Box.mk (show w.grownBy w2 (some g) from grownBy_trans HG1.out (grownBy_trans (grownBy_below HBW.out) hg2))
 have HQ3 := Box.mk ((HQ1.out.keep HBW.out).grown hg2 (fun e => by have := Option.some.inj e; omega))
 have HMD := Box.mk (show SrcF (s, trimBA v) from ⟨s, HNM.out, v, hv, rfl⟩)
 have HVZ := Box.mk (show v.size ≤ maxLen by
  have h2 := List.all_eq_true.1 valsF_ok v hv
  simp only [Bool.and_eq_true, decide_eq_true_eq] at h2
  unfold maxLen; omega)
 clear hv hsrc hg2 HS2 HL HQ1 HBW HS1 HG1 HNM HVL
 go_wp2_with fail
 refine (refTrim_any v _ HVZ.out).mono ?_
 rintro e w3 ⟨rfl, rfl⟩
 generalize trimBA v = v' at *
 go_wp2_with (refine wpList_store_row rfl 37 _ _ rfl w.heap.size #[.string s, .string v'] rfl rfl 37 _ HQ3.out sizeF rfl (oneF _ _) ?_)
 (try simp only [Exit.inBlock, Exit.then])
 refine bodyPost_ret (results_cell_row rfl _ _ w.heap.size _ _ _ _ rfl (setRow_heap _ _ _ _ _ _ HQ3.out) Tryd.underlying37 rfl sizeF) rfl ?_
 have hnew := grownBy_setRowF w2 w.heap.size #[.string s, .string v']
 exact ⟨(s, v'), rfl, HMD.out, HS3.out.other hnew (by omega) (fun x e h0 => by have := HLOW.out x e h0; omega), grownBy_new HG3.out hnew (fun i e => by have := Option.some.inj e; omega)⟩
def OwnF (B : Nat) (w : World) (v : Value) (l : List Fld) : Prop := w.ownsRow B 37 2 v l.length (cellsF l)
theorem OwnF.start (B : Nat) (w : World) : OwnF B w (.slice none 0 0) [] := World.ownsRow_nil _ _ _ _
theorem OwnF.lt {B : Nat} {w : World} {v : Value} {l : List Fld} (h : OwnF B w v l) {k : Nat} (hk : v.ownBlock = some k) : B ≤ k ∧ k < w.heap.size := World.ownsRow.lt h k hk
theorem OwnF.same {B : Nat} {w w' : World} {v : Value} {l : List Fld} (h : OwnF B w v l) (hs : ∀ k, v.ownBlock = some k → w'.heap[k]? = w.heap[k]?) : OwnF B w' v l := by
 obtain ⟨h1, h2⟩ := h
 refine ⟨h1, ?_⟩
 rcases h2 with h2 | ⟨g, cap, cur, hv, hg, hc, r⟩
 · exact .inl h2
 · exact .inr ⟨g, cap, cur, hv, hg, by rw [hs g (by rw [hv]; rfl)]; exact hc, r⟩
theorem OwnF.keep {B : Nat} {w w' : World} {v : Value} {l : List Fld} (h : OwnF B w v l) (hb : Below w.heap.size w w') : OwnF B w' v l :=
 h.same fun k hk => hb.block k (h.lt hk).2
theorem OwnF.grown {B : Nat} {w w' : World} {v : Value} {l : List Fld} {row : Option Nat} (h : OwnF B w v l) (hg : w.grownBy w' row) (hne : ∀ k, v.ownBlock = some k → some k ≠ row) : OwnF B w' v l :=
 h.same fun k hk => hg.block k (h.lt hk).2 (hne k hk)
theorem OwnF.shape {B : Nat} {w : World} {v : Value} {l : List Fld} (h : OwnF B w v l) : ∃ a cap, v = .slice a l.length cap ∧ FldsC w a l cap ∧ l.length ≤ cap := by
 obtain ⟨h1, h2⟩ := h
 rcases h2 with ⟨rfl, h2⟩ | ⟨g, cap, cur, rfl, hg, hc, hcap, hm, hsz, ht⟩
 · have : l = [] := List.eq_nil_of_length_eq_zero h2
   subst this
   exact ⟨none, 0, rfl, ⟨FldsIn.nil _ _, fun _ => ⟨rfl, rfl⟩⟩, Nat.le_refl _⟩
 · refine ⟨_, cap, rfl, ⟨FldsIn.of_cells fun j u hj => ?_, fun e => by cases e⟩, hcap⟩
   have e := congrArg (fun x => x[j]?) ht
   have hlt : j < l.length * 2 := by rw [← cellsF_len]; exact (List.getElem?_eq_some_iff.1 hj).1
   rw [hj, List.getElem?_take_of_lt hlt] at e
   rw [Addr.add_lit]
   simp only [World.cell?, hc, Nat.zero_add]
   simpa using e
section
variable {ops : Array Oper} {rest : List Oper} {o : Oper} {act : Act} {Q : Exit → Act → World → Prop}
theorem wpList_append_ownf (w : World) (hgd : o.guard = none) (s x : Operand) (ho : o.op = .call { callee := .builtin .append, args := #[s, x], argTypes := #[23, 23] })
  {B : Nat} {v : Value} {l : List Fld} (hs : act.eval s = v) (h : OwnF B w v l) {b c : Nat} (hx : act.eval x = .slice (some ⟨b, 0, none⟩) 1 c) {y : Fld} (hy : w.cell? ⟨b, 0, none⟩ = some (.string y.1)) (hy2 : w.cell? ⟨b, 1, none⟩ = some (.string y.2))
  (hn : l.length + 1 ≤ 4398046511104) (hB : B ≤ w.heap.size)
  (K : ∀ v' w', OwnF B w' v' (l ++ [y]) → w.grownBy w' v.ownBlock → wpList Tryd.prog ops Q rest (act.put o.dst v') w') : wpList Tryd.prog ops Q (o :: rest) act w := by
 obtain ⟨i0, hi, hz0, hz1, hz2⟩ := info_parts Tryd.info37
 refine wpList_append_lies w hgd s x 23 ho B 37 i0 _ 2 32 Tryd.underlying23 hi hz0 hz1 hz2 rfl (by decide) v l.length (cellsF l) hs h ⟨b, 0, none⟩ 1 c [.string y.1, .string y.2] hx rfl ?_ ?_ (by decide) (by unfold maxLen; omega) (by omega) hB w.heap.size rfl ?_
 · intro j u hj
   match j, hj with
   | 0, hj => simp at hj; subst hj; rw [Addr.add_lit]; exact hy
   | 1, hj => simp at hj; subst hj; rw [Addr.add_lit]; exact hy2
   | j + 2, hj => simp at hj
 · intro u hu; simp at hu; rcases hu with rfl | rfl <;> rfl
 · intro g cap w' hown hgrow hg hlt
   refine K _ w' ?_ hgrow
   unfold OwnF
   rw [List.length_append, cellsF_app]; exact hown
end
set_option maxRecDepth 100000 in
set_option maxHeartbeats 2000000 in
theorem srcFieldsS_any (g m : Nat) (a : Option Addr) (n c : Nat) (w : World) (h : Src w g a n c) (hm : m ≤ 1000) :
  Calls Tryd.prog 21 #[.pointer (some ⟨g, 0, none⟩), .int .i64 m] w fun e w' => ∃ v l, e = .returned v ∧ OwnF w.heap.size w' v l ∧ l.length ≤ m ∧ (∀ f ∈ l, SrcF f) ∧ Src w' g a n c ∧ w.grownBy w' (some g) := by
 have H0 := Box.mk h
 have HLOW := Box.mk h.low
 have hlt := h.lt
 clear h
 go_enter Tryd.func21, Tryd.ntmps21
 go_wp2_with fail
 refine (next_any g (m + 1) a n c w H0.out (by omega) (by omega)).mono ?_
 rintro e w1 ⟨k, hk, rfl, hsrc, hg1⟩
 have HS1 := Box.mk hsrc
 have HG1 := Box.mk hg1
 clear hsrc hg1 H0
 go_wp2_with fail
 go_loopw [5, 6] (fun v iv wr => ∃ j : Nat, j ≤ m ∧ iv = .int .i64 j ∧ ∃ l : List Fld, l.length + j ≤ m ∧ Box (OwnF w.heap.size wr v l ∧ (∀ f ∈ l, SrcF f) ∧ Src wr g a n c ∧ w.grownBy wr (some g))) (fun _ iv _ => (intOf iv).toNat)
 case atStart => exact ⟨k, by omega, rfl, [], by simp; omega, ⟨OwnF.start _ _, by simp, HS1.out, HG1.out⟩⟩
 case round =>
  clear HS1 HG1
  obtain ⟨j, hj, rfl, l, hl, HM⟩ := hrel
  by_cases hpos : 0 < j
  · go_wp2_with fail
    refine (srcFieldS_any g a n c wr HM.out.2.2.1).mono ?_
    rintro e w2 ⟨f, rfl, hmd, hsrc, hg2⟩
    have HO2 := Box.mk (HM.out.1.grown hg2 (fun q e e2 => by have := (HM.out.1.lt e).1; have := Option.some.inj e2; omega))
    have HS2 := Box.mk hsrc
    have HG2 := Box.mk (grownBy_trans HM.out.2.2.2 hg2)
    have HALL := Box.mk (show ∀ y ∈ l ++ [f], SrcF y from fun y hy => by
     rcases List.mem_append.1 hy with h1 | h1
     · exact HM.out.2.1 y h1
     · simp at h1; rw [h1]; exact hmd)
    have hsz := HG2.out.size
    clear hmd hsrc hg2 HM
    go_wp2_with (at_builtin; refine wpList_append_ownf _ rfl _ _ rfl rfl (HO2.out.keep ((Below.refl _ _).alloc (Nat.le_refl _) _)) rfl (y := f) ?c1 ?c2 (by omega) (by simp; omega) ?c3)
    case c1 => simp
    case c2 => simp
    case c3 =>
     intro v' w3 hown hgrow
     have HO3 := Box.mk hown
     have hgrow2 : w2.grownBy w3 u5.ownBlock := ⟨hgrow.os, hgrow.tape, hgrow.output, Nat.le_trans (by simp) hgrow.size, fun k hk hne => by
      rw [hgrow.block k (by simp; omega) hne]
      exact (below_oneF w2 _).block k hk⟩
     have HS3 := Box.mk (HS2.out.grown hgrow2 (fun e => by have := (HO2.out.lt e.symm).1; omega) (fun x e h0 e2 => by have := (HO2.out.lt e2.symm).1; have := HLOW.out x e h0; omega))
     have HG3 := Box.mk (grownBy_new HG2.out hgrow2 (fun i e => (HO2.out.lt e).1))
     clear hown hgrow hgrow2 HO2 HS2 HG2
     go_wp2_with fail
     go_roundw
     case rel => exact ⟨j - 1, by omega, by go_num, l ++ [f], by simp; omega, ⟨HO3.out, HALL.out, HS3.out, HG3.out⟩⟩
     case measure => simp [intOf]; omega
  · obtain rfl : j = 0 := by omega
    go_wp2_with fail
    go_ret
    exact ⟨_, l, rfl, HM.out.1, by omega, HM.out.2.1, HM.out.2.2.1, HM.out.2.2.2⟩
end Go.Proofs.YthgiplnidnkajaaDoor
namespace Go.Proofs.YthgiplnidnkajaaDoor
open Go.RowKit
def dgc (d : Nat) : UInt8 := if d < 10 then UInt8.ofNat (48 + d) else UInt8.ofNat (87 + d)
def digsF (b : Nat) : Nat → Nat → List UInt8
 | 0, n => [dgc (n % b)]
 | f + 1, n => if n < b then [dgc n] else digsF b f (n / b) ++ [dgc (n % b)]
def digs (b n : Nat) : List UInt8 := digsF b n n
theorem digsF_fuel (b : Nat) (hb : 2 ≤ b) : ∀ (f n : Nat), n ≤ f → digsF b f n = digsF b n n
  | 0, n, h => by obtain rfl : n = 0 := by omega
                  rfl
  | f + 1, n, h => by
    match n with
    | 0 => simp [digsF, show 0 < b by omega]
    | n + 1 =>
      have hd : (n + 1) / b ≤ n := by
        have : (n + 1) / b < n + 1 := Nat.div_lt_self (by omega) (by omega)
        omega
      simp only [digsF]
      rw [digsF_fuel b hb f _ (by omega), digsF_fuel b hb n _ hd]
theorem digs_small {b n : Nat} (h : n < b) : digs b n = [dgc n] := by
 unfold digs
 match n with
 | 0 => rw [digsF, Nat.zero_mod]
 | n + 1 => rw [digsF, if_pos h]
theorem digs_big {b n : Nat} (hb : 2 ≤ b) (h : ¬ n < b) : digs b n = digs b (n / b) ++ [dgc (n % b)] := by
 unfold digs
 match n with
 | 0 => omega
 | n + 1 =>
  have hd : (n + 1) / b ≤ n := by
   have : (n + 1) / b < n + 1 := Nat.div_lt_self (by omega) (by omega)
   omega
  rw [digsF, if_neg h, digsF_fuel b hb n _ hd]
def numeral (b n : Nat) : ByteArray := ⟨(digs b n).toArray⟩
def hexS : ByteArray := ⟨#[48, 49, 50, 51, 52, 53, 54, 55, 56, 57, 97, 98, 99, 100, 101, 102]⟩
theorem hexS_piece_fin : ∀ d : Fin 16, (hexS.extract d.val (d.val + 1)).data.toList = [dgc d.val] := by decide +kernel
theorem hexS_piece {d : Nat} (h : d < 16) : (⟨#[48, 49, 50, 51, 52, 53, 54, 55, 56, 57, 97, 98, 99, 100, 101, 102]⟩ : ByteArray).extract d (d + 1) = ⟨#[dgc d]⟩ := by
 have := hexS_piece_fin ⟨d, h⟩
 apply ByteArray.ext
 apply Array.toList_inj.1
 exact this
theorem one_cat (c : UInt8) (t : List UInt8) : (⟨#[c]⟩ : ByteArray) ++ ⟨t.toArray⟩ = ⟨(c :: t).toArray⟩ := by
 apply ByteArray.ext; simp
set_option maxHeartbeats 1000000 in
theorem refBase10 (n : Nat) (w : World) (hn : (n : Int) ≤ 9223372036854775807) :
  Calls Tryd.prog 52 #[.int .i64 n, .int .i64 10] w fun e w' => e = .returned (.string (numeral 10 n)) ∧ ∃ j, w' = w.drewN j := by
 go_enter Tryd.func52, Tryd.ntmps52
 go_wp2
 go_loopw [5, 0] (fun s m wr => ∃ (k : Nat) (t : List UInt8) (j : Nat), (t.length : Int) + k ≤ n ∧ (t = [] ∨ 0 < k) ∧ m = .int .i64 k ∧ s = .string ⟨t.toArray⟩ ∧ wr = w.drewN j ∧ Hid (digs 10 n = digs 10 k ++ t)) (fun _ m _ => (intOf m).toNat)
 case atStart => exact ⟨n, [], 0, by simp, .inl rfl, rfl, rfl, by simp [World.drewN_zero], Lib.hid (by simp)⟩
 case round =>
  obtain ⟨k, t, j, hk, hne, rfl, rfl, rfl, HD⟩ := hrel
  have HNE := Lib.hid hne
  have hlen : t.length + 1 ≤ 9223372036854775807 := by
   rcases hne with rfl | h
   · simp
   · omega
  clear hne
  obtain ⟨d, hd⟩ : ∃ d : Nat, k % 10 = d := ⟨_, rfl⟩
  have hd9 : d < 10 := by omega
  have HDD := Lib.hid hd
  have hr : ((k : Int).tmod 10) = (d : Int) := by rw [Int.tmod_eq_emod_of_nonneg (by omega)]; omega
  clear hd
  have hw1 : IntKind.i64.wrap (d : Int) = (d : Int) := IntWalk.i64_in _ (by omega)
  have hw2 : IntKind.i64.wrap ((d : Int) + 1) = (d : Int) + 1 := IntWalk.i64_in _ (by omega)
  have hn1 : ((d : Int) + 1).toNat = d + 1 := by omega
  have hi1 : (0 : Int) ≤ d := by omega
  have hi2 : (0 : Int) ≤ d + 1 := by omega
  have hi3 : (d : Int) + 1 ≤ 16 := by omega
  have hi4 : d + 1 ≤ 16 := by omega
  have hi5 : (d : Int) ≤ d + 1 := by omega
  have hp := hexS_piece (d := d) (by omega)
  have hadd : ∀ W, (Op.stringOp .add ⟨#[dgc d]⟩ ⟨t.toArray⟩).run Tryd.prog W = .ok (.string ⟨(dgc d :: t).toArray⟩) W := fun W => by
   have h := run_string_add_sum (P := Tryd.prog) (w := W) ⟨#[dgc d]⟩ ⟨t.toArray⟩ (by show 1 + (t.toArray).size ≤ _; simp; omega)
   rw [one_cat] at h; exact h
  go_wp2_with fail
  go_quiet (fail)
  clear hr hw1 hw2 hn1 hp hadd hi4
  have hq : (k : Int) / 10 = ((k / 10 : Nat) : Int) := by omega
  by_cases hz : k / 10 = 0
  · have hz1 : (k : Int) / 10 = 0 := by omega
    have HZ := Lib.hid hz
    clear hz hq
    go_wp2
    go_ret
    refine ⟨ret_str ?_, _, rfl⟩
    have hs : k < 10 := by have := HZ.out; omega
    unfold numeral
    rw [HD.out, digs_small hs]
    have : k % 10 = k := Nat.mod_eq_of_lt hs
    rw [← HDD.out, this]; rfl
  · have HZ := Lib.hid hz
    have hz2 : ¬ (k : Int) / 10 = 0 := by omega
    clear hz hq
    go_wp2
    go_roundw
    case rel =>
     have hz := HZ.out
     refine ⟨k / 10, dgc d :: t, _, by simp; omega, .inr (by omega), by first | rfl | simp, rfl, rfl, Lib.hid ?_⟩
     rw [HD.out, digs_big (by omega) (show ¬ k < 10 by omega), ← HDD.out]; simp
    case measure => have hz := HZ.out; simp [intOf]; omega
set_option maxHeartbeats 1000000 in
theorem refBase16 (n : Nat) (w : World) (hn : (n : Int) ≤ 9223372036854775807) :
  Calls Tryd.prog 52 #[.int .i64 n, .int .i64 16] w fun e w' => e = .returned (.string (numeral 16 n)) ∧ ∃ j, w' = w.drewN j := by
 go_enter Tryd.func52, Tryd.ntmps52
 go_wp2
 go_loopw [5, 0] (fun s m wr => ∃ (k : Nat) (t : List UInt8) (j : Nat), (t.length : Int) + k ≤ n ∧ (t = [] ∨ 0 < k) ∧ m = .int .i64 k ∧ s = .string ⟨t.toArray⟩ ∧ wr = w.drewN j ∧ Hid (digs 16 n = digs 16 k ++ t)) (fun _ m _ => (intOf m).toNat)
 case atStart => exact ⟨n, [], 0, by simp, .inl rfl, rfl, rfl, by simp [World.drewN_zero], Lib.hid (by simp)⟩
 case round =>
  obtain ⟨k, t, j, hk, hne, rfl, rfl, rfl, HD⟩ := hrel
  have HNE := Lib.hid hne
  have hlen : t.length + 1 ≤ 9223372036854775807 := by
   rcases hne with rfl | h
   · simp
   · omega
  clear hne
  obtain ⟨d, hd⟩ : ∃ d : Nat, k % 16 = d := ⟨_, rfl⟩
  have hd9 : d < 16 := by omega
  have HDD := Lib.hid hd
  have hr : ((k : Int).tmod 16) = (d : Int) := by rw [Int.tmod_eq_emod_of_nonneg (by omega)]; omega
  clear hd
  have hw1 : IntKind.i64.wrap (d : Int) = (d : Int) := IntWalk.i64_in _ (by omega)
  have hw2 : IntKind.i64.wrap ((d : Int) + 1) = (d : Int) + 1 := IntWalk.i64_in _ (by omega)
  have hn1 : ((d : Int) + 1).toNat = d + 1 := by omega
  have hi1 : (0 : Int) ≤ d := by omega
  have hi2 : (0 : Int) ≤ d + 1 := by omega
  have hi3 : (d : Int) + 1 ≤ 16 := by omega
  have hi4 : d + 1 ≤ 16 := by omega
  have hi5 : (d : Int) ≤ d + 1 := by omega
  have hp := hexS_piece (d := d) (by omega)
  have hadd : ∀ W, (Op.stringOp .add ⟨#[dgc d]⟩ ⟨t.toArray⟩).run Tryd.prog W = .ok (.string ⟨(dgc d :: t).toArray⟩) W := fun W => by
   have h := run_string_add_sum (P := Tryd.prog) (w := W) ⟨#[dgc d]⟩ ⟨t.toArray⟩ (by show 1 + (t.toArray).size ≤ _; simp; omega)
   rw [one_cat] at h; exact h
  go_wp2_with fail
  go_quiet (fail)
  clear hr hw1 hw2 hn1 hp hadd hi4
  have hq : (k : Int) / 16 = ((k / 16 : Nat) : Int) := by omega
  by_cases hz : k / 16 = 0
  · have hz1 : (k : Int) / 16 = 0 := by omega
    have HZ := Lib.hid hz
    clear hz hq
    go_wp2
    go_ret
    refine ⟨ret_str ?_, _, rfl⟩
    have hs : k < 16 := by have := HZ.out; omega
    unfold numeral
    rw [HD.out, digs_small hs]
    have : k % 16 = k := Nat.mod_eq_of_lt hs
    rw [← HDD.out, this]; rfl
  · have HZ := Lib.hid hz
    have hz2 : ¬ (k : Int) / 16 = 0 := by omega
    clear hz hq
    go_wp2
    go_roundw
    case rel =>
     have hz := HZ.out
     refine ⟨k / 16, dgc d :: t, _, by simp; omega, .inr (by omega), by first | rfl | simp, rfl, rfl, Lib.hid ?_⟩
     rw [HD.out, digs_big (by omega) (show ¬ k < 16 by omega), ← HDD.out]; simp
    case measure => have hz := HZ.out; simp [intOf]; omega
def fmtS (b : Nat) (n : Int) : ByteArray := if n < 0 then ⟨#[]⟩ else numeral b n.toNat
theorem below_drewN0 (w : World) (j : Nat) : Below w.heap.size w (w.drewN j) := ⟨rfl, rfl, rfl, Nat.le_refl _, fun _ _ => rfl⟩
theorem refBase_neg (n b : Int) (w : World) (hn : n < 0) :
  Calls Tryd.prog 52 #[.int .i64 n, .int .i64 b] w fun e w' => e = .returned (.string ⟨#[]⟩) ∧ w = w' := by
 go_enter Tryd.func52, Tryd.ntmps52
 go_wp2
 go_ret
 exact ⟨rfl, rfl⟩
theorem refDecimal_any (n : Int) (w : World) (h0 : -9223372036854775808 ≤ n) (h1 : n ≤ 9223372036854775807) :
  Calls Tryd.prog 37 #[.int .i64 n] w fun e w' => e = .returned (.string (fmtS 10 n)) ∧ Below w.heap.size w w' := by
 by_cases hn : n < 0
 · go_enter Tryd.func37, Tryd.ntmps37
   go_wp2_with (go_at_call 52; refine (refBase_neg _ _ _ hn).mono ?_; rintro e w' ⟨rfl, rfl⟩)
   go_ret
   exact ⟨ret_str (by unfold fmtS; rw [if_pos hn]), Below.refl _ _⟩
 · obtain ⟨k, rfl⟩ : ∃ k : Nat, n = k := ⟨n.toNat, by omega⟩
   go_enter Tryd.func37, Tryd.ntmps37
   go_wp2_with (go_at_call 52; refine (refBase10 _ _ (by omega)).mono ?_; rintro e w' ⟨rfl, j, rfl⟩)
   go_ret
   exact ⟨ret_str (by unfold fmtS; rw [if_neg (by omega)]; rfl), below_drewN0 _ _⟩
theorem refHex_any (n : Int) (w : World) (h0 : -9223372036854775808 ≤ n) (h1 : n ≤ 9223372036854775807) :
  Calls Tryd.prog 38 #[.int .i64 n] w fun e w' => e = .returned (.string (fmtS 16 n)) ∧ Below w.heap.size w w' := by
 by_cases hn : n < 0
 · go_enter Tryd.func38, Tryd.ntmps38
   go_wp2_with (go_at_call 52; refine (refBase_neg _ _ _ hn).mono ?_; rintro e w' ⟨rfl, rfl⟩)
   go_ret
   exact ⟨ret_str (by unfold fmtS; rw [if_pos hn]), Below.refl _ _⟩
 · obtain ⟨k, rfl⟩ : ∃ k : Nat, n = k := ⟨n.toNat, by omega⟩
   go_enter Tryd.func38, Tryd.ntmps38
   go_wp2_with (go_at_call 52; refine (refBase16 _ _ (by omega)).mono ?_; rintro e w' ⟨rfl, j, rfl⟩)
   go_ret
   exact ⟨ret_str (by unfold fmtS; rw [if_neg (by omega)]; rfl), below_drewN0 _ _⟩
def idxI (c : UInt8) (s : ByteArray) : Int := Lib.indexByte s.data.toList c
theorem idxI_ge (c : UInt8) (s : ByteArray) : -1 ≤ idxI c s := Lib.indexByte_ge _ _
theorem idxI_lt (c : UInt8) (s : ByteArray) {k : Nat} (h : idxI c s = k) : k < s.size := by
 have := (Lib.indexByte_some h).1
 have := (List.getElem?_eq_some_iff.1 this).1
 simpa using this
theorem idxI_at (c : UInt8) (s : ByteArray) (k : Nat) (hk : k < s.size) (h : s[k] = c) (hp : ∀ j, j < k → s.data.toList[j]? ≠ some c) : idxI c s = k := by
 have hge := idxI_ge c s
 have hkk : s.data.toList[k]? = some c := by
  rw [List.getElem?_eq_getElem (by simpa using hk)]
  exact congrArg some h
 by_cases h1 : idxI c s = -1
 · exact absurd hkk (Lib.indexByte_none h1 k)
 · obtain ⟨o, ho⟩ : ∃ o : Nat, idxI c s = o := ⟨(idxI c s).toNat, by omega⟩
   have h2 := Lib.indexByte_some ho
   rw [ho]
   congr 1
   rcases Nat.lt_trichotomy o k with h3 | h3 | h3
   · exact absurd h2.1 (hp o h3)
   · exact h3
   · exact absurd hkk (h2.2 k h3)
theorem idxI_none (c : UInt8) (s : ByteArray) (k : Nat) (hk : k ≤ s.size) (hlt : ¬ k < s.size) (hp : ∀ j, j < k → s.data.toList[j]? ≠ some c) : idxI c s = -1 := by
 have hge := idxI_ge c s
 by_cases h1 : idxI c s = -1
 · exact h1
 · obtain ⟨o, ho⟩ : ∃ o : Nat, idxI c s = o := ⟨(idxI c s).toNat, by omega⟩
   have h2 := Lib.indexByte_some ho
   have h3 := idxI_lt c s ho
   exact absurd h2.1 (hp o (by omega))
def cutS (d : UInt8) (s : ByteArray) : ByteArray × ByteArray :=
 if 0 ≤ idxI d s then (s.extract 0 (idxI d s).toNat, s.extract ((idxI d s).toNat + 1) s.size) else (s, ⟨#[]⟩)
theorem cutS_at {d : UInt8} {s : ByteArray} {k : Nat} (h : idxI d s = k) : cutS d s = (s.extract 0 k, s.extract (k + 1) s.size) := by unfold cutS; rw [h]; simp
theorem cutS_no {d : UInt8} {s : ByteArray} (h : idxI d s = -1) : cutS d s = (s, ⟨#[]⟩) := by unfold cutS; rw [h]; rfl
theorem idxI_cases (d : UInt8) (s : ByteArray) : idxI d s = -1 ∨ ∃ k : Nat, idxI d s = k ∧ k < s.size := by
 have := idxI_ge d s
 by_cases h : idxI d s = -1
 · exact .inl h
 · refine .inr ⟨(idxI d s).toNat, by omega, idxI_lt d s (by omega)⟩
theorem cutS_size1 (d : UInt8) (s : ByteArray) : (cutS d s).1.size ≤ s.size := by
 rcases idxI_cases d s with h | ⟨k, h, hk⟩
 · rw [cutS_no h]; exact Nat.le_refl _
 · rw [cutS_at h]; exact extract_le _ _ _
def pairO (p : ByteArray) : List Fld := if decide (0 ≤ idxI 61 p) && tokS (cutS 61 p).1 then [cutS 61 p] else []
theorem pairO_none {p : ByteArray} (h : idxI 61 p = -1) : pairO p = [] := by unfold pairO; rw [h]; rfl
theorem pairO_no {p : ByteArray} (h : tokS (cutS 61 p).1 = false) : pairO p = [] := by unfold pairO; rw [h]; simp
theorem pairO_yes {p : ByteArray} {k : Nat} (h : idxI 61 p = k) (ht : tokS (cutS 61 p).1 = true) : pairO p = [cutS 61 p] := by
 unfold pairO
 rw [h, ht, if_pos (by simp)]
theorem pairO_len (p : ByteArray) : (pairO p).length ≤ 1 := by unfold pairO; split <;> simp
theorem pairO_cases (p : ByteArray) : pairO p = [] ∨ pairO p = [cutS 61 p] := by unfold pairO; split <;> simp
def partsL (l : List ByteArray) : List Fld := l.flatMap fun p => pairO (trimBA p)
theorem partsL_snoc (l : List ByteArray) (k : Nat) (h : k < l.length) : partsL (l.take (k + 1)) = partsL (l.take k) ++ pairO (trimBA l[k]) := by
 unfold partsL
 rw [List.take_succ_eq_append_getElem h, List.flatMap_append]; simp
theorem partsL_len : ∀ l : List ByteArray, (partsL l).length ≤ l.length
 | [] => Nat.le_refl _
 | a :: t => by
  have h1 := partsL_len t
  have h2 := pairO_len (trimBA a)
  have e : partsL (a :: t) = pairO (trimBA a) ++ partsL t := by unfold partsL; rw [List.flatMap_cons]
  rw [e, List.length_append, List.length_cons]; omega
def pairsV (v : ByteArray) : List Fld := partsL (splitS 59 v)
def pairsL (l : List ByteArray) : List Fld := l.flatMap pairsV
theorem pairsL_snoc (l : List ByteArray) (k : Nat) (h : k < l.length) : pairsL (l.take (k + 1)) = pairsL (l.take k) ++ pairsV l[k] := by
 unfold pairsL
 rw [List.take_succ_eq_append_getElem h, List.flatMap_append]; simp
theorem pairsL_len : ∀ l : List ByteArray, (pairsL l).length ≤ total l
 | [] => Nat.le_refl _
 | a :: t => by
  have h1 := pairsL_len t
  have h2 := partsL_len (splitS 59 a)
  have h3 := splitS_length 59 a
  have e : pairsL (a :: t) = pairsV a ++ pairsL t := by unfold pairsL; rw [List.flatMap_cons]
  rw [e, List.length_append]
  unfold total pairsV
  omega
def ckU : ByteArray := ⟨#[67, 111, 111, 107, 105, 101]⟩
def ckL : ByteArray := ⟨#[99, 111, 111, 107, 105, 101]⟩
theorem values_fold {n m : ByteArray} (h : lowS n = lowS m) (l : List Fld) : valuesL l n = valuesL l m := by
 unfold valuesL foldS
 rw [h]
theorem ck_low : lowS ckU = lowS ckL := by decide +kernel
theorem values_ck (l : List Fld) : valuesL l ckU = valuesL l ckL := values_fold ck_low l
def findL (l : List Fld) (n : ByteArray) : Option Fld := l.find? fun f => decide (f.1 = n)
def findV : Option Fld → Value
 | some f => .tuple #[.string f.2, .bool true]
 | none => .tuple #[.string ⟨#[]⟩, .bool false]
theorem findL_at {l : List Fld} {n : ByteArray} {k : Nat} (h : k < l.length) (hk : l[k].1 = n) (hp : ∀ f ∈ l.take k, ¬ f.1 = n) : findL l n = some l[k] := by
 unfold findL
 rw [List.find?_eq_some_iff_getElem]
 refine ⟨by simpa using hk, k, h, rfl, fun j hj => ?_⟩
 have := hp l[j] (by rw [List.mem_take_iff_getElem]; exact ⟨j, by omega, rfl⟩)
 simpa using this
theorem findL_none {l : List Fld} {n : ByteArray} {k : Nat} (h : ¬ k < l.length) (hp : ∀ f ∈ l.take k, ¬ f.1 = n) : findL l n = none := by
 unfold findL
 rw [List.take_of_length_le (by omega)] at hp
 rw [List.find?_eq_none]
 intro f hf
 simpa using hp f hf
def idDig : ByteArray := ⟨#[48, 49, 50, 51, 52, 53, 54, 55, 56, 57, 97, 98, 99, 100, 101, 102]⟩
def idB (c : UInt8) : Bool := hasS idDig c
def idS (s : ByteArray) : Bool := decide (s.size = 16) && s.data.toList.all idB
theorem idS_len {s : ByteArray} (h : ¬ s.size = 16) : idS s = false := by unfold idS; rw [decide_eq_false h]; rfl
theorem idS_no {s : ByteArray} {k : Nat} (hlt : k < s.size) (hc : idB s[k] = false) : idS s = false := by
 unfold idS
 rw [Bool.and_eq_false_iff]; right
 rw [Bool.eq_false_iff]; intro h
 have := List.all_eq_true.1 h _ (mem_at s k hlt); rw [hc] at this; cases this
theorem idS_end {s : ByteArray} {k : Nat} (hk : k ≤ s.size) (hlt : ¬ k < s.size) (h : (s.data.toList.take k).all idB = true) : idS s = decide (s.size = 16) := by
 rw [take_all s k hk hlt] at h
 unfold idS; rw [h, Bool.and_true]
theorem idB_eq (c : UInt8) : idB c = (digB (c.toNat : Int) || (decide (97 ≤ (c.toNat : Int)) && decide ((c.toNat : Int) ≤ 102))) := by
 have h : ∀ m : Fin 256, idB (UInt8.ofNat m.val) = (digB (((UInt8.ofNat m.val).toNat : Nat) : Int) || (decide (97 ≤ (((UInt8.ofNat m.val).toNat : Nat) : Int)) && decide ((((UInt8.ofNat m.val).toNat : Nat) : Int) ≤ 102))) := by decide +kernel
 have h2 := h ⟨c.toNat, c.toNat_lt⟩
 rwa [UInt8.ofNat_toNat] at h2
theorem idxI_one (d : UInt8) (s : ByteArray) (h : (⟨#[d]⟩ : ByteArray) = s) : idxI d s = 0 := by
 subst h
 exact idxI_at d ⟨#[d]⟩ 0 (show 0 < 1 by decide) rfl (fun j hj => absurd hj (Nat.not_lt_zero _))
set_option maxRecDepth 100000 in
set_option maxHeartbeats 2000000 in
theorem idxLiteC_any (d : UInt8) (s c : ByteArray) (w : World) (hz : c.size = 1) (h0 : ∀ h, c[0]'h = d) (hc : c = ⟨#[d]⟩) :
  Calls Tryd.prog 72 #[.string s, .string c] w fun e w' => e = .returned (.int .i64 (idxI d s)) ∧ w = w' := by
 by_cases he : c = s
 · have HE := Box.mk (idxI_one d s (by rw [← hc]; exact he))
   have h1 : (c.toList == s.toList) = true := by rw [toList_eq]; simp [he]
   clear he hc
   go_enter Tryd.func72, Tryd.ntmps72
   go_wp2_with fail
   go_ret
   exact ⟨ret_int HE.out.symm, rfl⟩
 · have h1 : (c.toList == s.toList) = false := by rw [toList_eq]; simp [he]
   clear he hc
   go_enter Tryd.func72, Tryd.ntmps72
   go_wp2_with fail
   refine (indexByteLite_any s d _).mono ?_
   rintro e w1 ⟨rfl, rfl⟩
   go_wp2_with fail
   go_ret
   exact ⟨rfl, rfl⟩
set_option maxRecDepth 100000 in
set_option maxHeartbeats 2000000 in
theorem liteCutC_yes (d : UInt8) (s c : ByteArray) (k : Nat) (w : World) (hs : s.size ≤ maxLen) (hz : c.size = 1) (h0 : ∀ h, c[0]'h = d) (hc : c = ⟨#[d]⟩) (hk : idxI d s = k) :
  Calls Tryd.prog 57 #[.string s, .string c] w fun e w' => e = .returned (.tuple #[.string (s.extract 0 k), .string (s.extract (k + 1) s.size), .bool true]) ∧ Below w.heap.size w w' := by
 have hlt := idxI_lt d s hk
 unfold maxLen at hs
 have HK := Box.mk hk
 have H0 := Box.mk (And.intro h0 hc)
 clear hk h0 hc
 go_enter Tryd.func57, Tryd.ntmps57
 go_wp2_with fail
 refine (idxLiteC_any d s c _ hz H0.out.1 H0.out.2).mono ?_
 rintro e w1 ⟨he, rfl⟩
 rw [HK.out] at he
 subst he
 go_wp2_with fail
 go_quiet (fail)
 go_wp2
 go_ret3
 exact ⟨rfl, below_drewN (Below.refl _ _) _⟩
set_option maxRecDepth 100000 in
set_option maxHeartbeats 2000000 in
theorem liteCutC_no (d : UInt8) (s c : ByteArray) (w : World) (hz : c.size = 1) (h0 : ∀ h, c[0]'h = d) (hc : c = ⟨#[d]⟩) (hk : idxI d s = -1) :
  Calls Tryd.prog 57 #[.string s, .string c] w fun e w' => e = .returned (.tuple #[.string s, .string ⟨#[]⟩, .bool false]) ∧ Below w.heap.size w w' := by
 have HK := Box.mk hk
 have H0 := Box.mk (And.intro h0 hc)
 clear hk h0 hc
 go_enter Tryd.func57, Tryd.ntmps57
 go_wp2_with fail
 refine (idxLiteC_any d s c _ hz H0.out.1 H0.out.2).mono ?_
 rintro e w1 ⟨he, rfl⟩
 rw [HK.out] at he
 subst he
 go_wp2_with fail
 go_ret3
 exact ⟨rfl, Below.refl _ _⟩
end Go.Proofs.YthgiplnidnkajaaDoor
namespace Go.Proofs.YthgiplnidnkajaaDoor
open Go.ChangeShapes Go.WideShapes Go.ChangeAt Go.RowKit
theorem Tryd.info29 : (Tryd.prog.info? 29).map (fun i => (i.zero, i.size, i.bytes)) = some (some (.agg #[.string ⟨#[]⟩, .string ⟨#[]⟩]), 2, 32) := by kernel_rfl
def AccP (w0 w : World) (v : Value) (l : List Fld) : Prop :=
 w.ownsRow w0.heap.size 29 2 v l.length (cellsF l) ∧ Below w0.heap.size w0 w
theorem AccP.start (w : World) : AccP w w (.slice none 0 0) [] := ⟨World.ownsRow_nil _ _ _ _, Below.refl _ _⟩
theorem AccP.keep {w0 w w' : World} {v : Value} {l : List Fld} (h : AccP w0 w v l) (hb : Below w.heap.size w w') : AccP w0 w' v l :=
 ⟨ownsRow_keep h.1 hb, h.2.trans (hb.mono h.2.size)⟩
theorem AccP.shape {w0 w : World} {v : Value} {l : List Fld} (h : AccP w0 w v l) : ∃ a cap, v = .slice a l.length cap ∧ FldsIn w a l := by
 obtain ⟨⟨h1, h2⟩, _⟩ := h
 rcases h2 with ⟨rfl, h2⟩ | ⟨g, cap, cur, rfl, hg, hc, hcap, hm, hsz, ht⟩
 · have : l = [] := List.eq_nil_of_length_eq_zero h2
   subst this
   exact ⟨none, 0, rfl, FldsIn.nil _ _⟩
 · refine ⟨_, cap, rfl, FldsIn.of_cells fun j u hj => ?_⟩
   have e := congrArg (fun x => x[j]?) ht
   have hlt : j < l.length * 2 := by rw [← cellsF_len]; exact (List.getElem?_eq_some_iff.1 hj).1
   rw [hj, List.getElem?_take_of_lt hlt] at e
   rw [Addr.add_lit]
   simp only [World.cell?, hc, Nat.zero_add]
   simpa using e
theorem AccP.lt {w0 w : World} {v : Value} {l : List Fld} (h : AccP w0 w v l) {k : Nat} (hk : v.ownBlock = some k) : w0.heap.size ≤ k ∧ k < w.heap.size := World.ownsRow.lt h.1 k hk
theorem AccP.lift {w w1 w2 : World} {v : Value} {l : List Fld} (h : Below w.heap.size w w1) (k : AccP w1 w2 v l) : AccP w w2 v l := by
 refine ⟨?_, below_trans h k.2⟩
 obtain ⟨⟨h1, h2⟩, _⟩ := k
 refine ⟨h1, ?_⟩
 rcases h2 with h2 | ⟨g, cap, cur, hv, hg, r⟩
 · exact .inl h2
 · exact .inr ⟨g, cap, cur, hv, Nat.le_trans h.size hg, r⟩
def RetAccP (w : World) (l : List Fld) (e : Ending) (w' : World) : Prop := ∃ v, e = .returned v ∧ AccP w w' v l
section
variable {ops : Array Oper} {rest : List Oper} {o : Oper} {act : Act} {Q : Exit → Act → World → Prop}
theorem wpList_append_accp (w : World) (hgd : o.guard = none) (s x : Operand) (ho : o.op = .call { callee := .builtin .append, args := #[s, x], argTypes := #[26, 26] })
  {w0 : World} {v : Value} {l : List Fld} (hs : act.eval s = v) (h : AccP w0 w v l) {b c : Nat} (hx : act.eval x = .slice (some ⟨b, 0, none⟩) 1 c) {y : Fld} (hy : w.cell? ⟨b, 0, none⟩ = some (.string y.1)) (hy2 : w.cell? ⟨b, 1, none⟩ = some (.string y.2))
  (hn : l.length + 1 ≤ 4398046511104)
  (K : ∀ v' w', AccP w0 w' v' (l ++ [y]) → w.grownBy w' v.ownBlock → (∀ k, v'.ownBlock = some k → v.ownBlock = some k ∨ w.heap.size ≤ k) →
   wpList Tryd.prog ops Q rest (act.put o.dst v') w') : wpList Tryd.prog ops Q (o :: rest) act w := by
 obtain ⟨i0, hi, hz0, hz1, hz2⟩ := info_parts Tryd.info29
 refine wpList_append_lies w hgd s x 26 ho w0.heap.size 29 i0 _ 2 32 Tryd.underlying26 hi hz0 hz1 hz2 rfl (by decide) v l.length (cellsF l) hs h.1 ⟨b, 0, none⟩ 1 c [.string y.1, .string y.2] hx rfl ?_ ?_ (by decide) (by unfold maxLen; omega) (by omega) h.2.size w.heap.size rfl ?_
 · intro j u hj
   match j, hj with
   | 0, hj => simp at hj; subst hj; rw [Addr.add_lit]; exact hy
   | 1, hj => simp at hj; subst hj; rw [Addr.add_lit]; exact hy2
   | j + 2, hj => simp at hj
 · intro u hu; simp at hu; rcases hu with rfl | rfl <;> rfl
 · intro g cap w' hown hgrow hg hlt
   refine K _ w' ⟨by rw [List.length_append, cellsF_app]; exact hown, h.2.grown hgrow h.2.size fun k hk => (World.ownsRow.lt h.1 k hk).1⟩ hgrow (fun k e => ?_)
   have : g = k := by simpa [Value.ownBlock] using e
   subst this
   exact hg.imp id fun e => Nat.le_of_eq e.symm
end
def BesideP (w : World) (v : Value) (a : Option Addr) (l : List ByteArray) : Prop :=
 StrsAt w a l ∧ ∀ x, a = some x → 0 < l.length → v.ownBlock ≠ some x.block ∧ x.block < w.heap.size
theorem BesideP.keep {w w' : World} {v : Value} {a : Option Addr} {l : List ByteArray} (h : BesideP w v a l) (hb : Below w.heap.size w w') : BesideP w' v a l :=
 ⟨h.1.keep hb, fun x e h0 => ⟨(h.2 x e h0).1, Nat.lt_of_lt_of_le (h.2 x e h0).2 hb.size⟩⟩
theorem BesideP.grow {w w' : World} {v v' : Value} {a : Option Addr} {l : List ByteArray} (h : BesideP w v a l) (hg : w.grownBy w' v.ownBlock) (hn : ∀ k, v'.ownBlock = some k → v.ownBlock = some k ∨ w.heap.size ≤ k) : BesideP w' v' a l := by
 refine ⟨fun j hj => ?_, fun x e h0 => ⟨fun e2 => ?_, Nat.lt_of_lt_of_le (h.2 x e h0).2 hg.size⟩⟩
 · obtain ⟨b, off, rfl, hc⟩ := h.1 j hj
   have hb := h.2 _ rfl (by omega)
   refine ⟨b, off, rfl, ?_⟩
   rw [World.cell?_of_block (hg.block b hb.2 (fun e => hb.1 e.symm))]
   exact hc
 · have hb := h.2 x e h0
   rcases hn _ e2 with h1 | h1
   · exact hb.1 h1
   · omega
set_option maxHeartbeats 2000000 in
theorem cutD_yes (d : UInt8) (s : ByteArray) (k : Nat) (w : World) (hs : s.size ≤ maxLen) (hk : idxI d s = k) :
  Calls Tryd.prog 44 #[.string s, .string ⟨#[d]⟩] w fun e w' => e = .returned (.tuple #[.string (cutS d s).1, .string (cutS d s).2, .bool true]) ∧ Below w.heap.size w w' := by
 have HK := Box.mk hk
 have HC := Box.mk (cutS_at hk)
 clear hk
 go_enter Tryd.func44, Tryd.ntmps44
 go_wp2_with fail
 refine (liteCutC_yes d s _ k _ hs rfl (fun _ => rfl) rfl HK.out).mono ?_
 rintro e w1 ⟨rfl, hb⟩
 have HB := Box.mk hb
 clear hb
 go_wp2_with fail
 go_ret3
 exact ⟨by rw [HC.out]; rfl, HB.out⟩
set_option maxHeartbeats 2000000 in
theorem cutD_no (d : UInt8) (s : ByteArray) (w : World) (hk : idxI d s = -1) :
  Calls Tryd.prog 44 #[.string s, .string ⟨#[d]⟩] w fun e w' => e = .returned (.tuple #[.string s, .string ⟨#[]⟩, .bool false]) ∧ Below w.heap.size w w' := by
 have HK := Box.mk hk
 clear hk
 go_enter Tryd.func44, Tryd.ntmps44
 go_wp2_with fail
 refine (liteCutC_no d s _ _ rfl (fun _ => rfl) rfl HK.out).mono ?_
 rintro e w1 ⟨rfl, hb⟩
 have HB := Box.mk hb
 clear hb
 go_wp2_with fail
 go_ret3
 exact ⟨rfl, HB.out⟩
theorem sizeP : (Tryd.prog.info? 29).map (·.size) = some 2 := by kernel_rfl
def PVar (w : World) (g : Nat) (n v : ByteArray) : Prop := w.heap[g]? = some (.cells #[.string n, .string v] 29 (0, 0))
theorem PVar.keep {w w' : World} {g : Nat} {n v : ByteArray} (h : PVar w g n v) (hb : Below w.heap.size w w') : PVar w' g n v := by
 unfold PVar at *
 rw [hb.block g (Array.getElem?_eq_some_iff.1 h).1]; exact h
theorem PVar.new (w : World) (n v : ByteArray) : PVar (w.alloc (.cells #[.string n, .string v] 29)) w.heap.size n v := heap_alloc_new _ _
def parseP : List Fld → Value
 | f :: _ => .tuple #[.agg #[.string f.1, .string f.2], .bool true]
 | [] => .tuple #[.agg #[.string ⟨#[]⟩, .string ⟨#[]⟩], .bool false]
set_option maxRecDepth 100000 in
set_option maxHeartbeats 2000000 in
theorem ckParse_any (s : ByteArray) (w : World) (hs : s.size ≤ maxLen) :
  Calls Tryd.prog 27 #[.string s] w fun e w' => e = .returned (parseP (pairO s)) ∧ Below w.heap.size w w' := by
 rcases idxI_cases 61 s with hk | ⟨k, hk, _⟩
 · have HK := Box.mk hk
   have HR := Box.mk (pairO_none hk)
   clear hk
   go_enter Tryd.func27, Tryd.ntmps27
   go_wp2_with fail
   refine (cutD_no 61 s _ HK.out).mono ?_
   rintro e w1 ⟨rfl, hb⟩
   have HB := Box.mk (below_trans (below_oneF w (.cells #[.string ⟨#[]⟩, .string ⟨#[]⟩] 29)) hb)
   have HQ := Box.mk ((PVar.new w ⟨#[]⟩ ⟨#[]⟩).keep hb)
   clear hb
   go_wp2_with (refine wpList_store_row rfl 29 _ _ rfl w.heap.size #[.string ⟨#[]⟩, .string ⟨#[]⟩] rfl rfl 29 _ HQ.out sizeP rfl (oneF _ _) ?_)
   (try simp only [Exit.inBlock, Exit.then])
   refine bodyPost_ret (results_row_tmpF rfl _ _ w.heap.size _ _ _ _ rfl (setRow_heap _ _ _ _ _ _ HQ.out) Tryd.underlying29 rfl sizeP) rfl ?_
   exact ⟨by rw [HR.out]; rfl, below_setRow HB.out (Nat.le_refl _) _⟩
 · have HK := Box.mk hk
   have HZ := Box.mk (Nat.le_trans (cutS_size1 61 s) hs)
   by_cases ht : tokS (cutS 61 s).1 = true
   · have HR := Box.mk (pairO_yes hk ht)
     have HT := Box.mk ht
     clear hk ht
     go_enter Tryd.func27, Tryd.ntmps27
     go_wp2_with fail
     refine (cutD_yes 61 s k _ hs HK.out).mono ?_
     rintro e w1 ⟨rfl, hb⟩
     have HB := Box.mk (below_trans (below_oneF w (.cells #[.string ⟨#[]⟩, .string ⟨#[]⟩] 29)) hb)
     have HQ := Box.mk ((PVar.new w ⟨#[]⟩ ⟨#[]⟩).keep hb)
     clear hb
     generalize cutS 61 s = p at *
     go_wp2_with fail
     refine (token_any p.1 _ HZ.out).mono ?_
     rintro e w2 ⟨he, rfl⟩
     rw [HT.out] at he
     subst he
     go_wp2_with (refine wpList_store_row rfl 29 _ _ rfl w.heap.size #[.string p.1, .string p.2] rfl rfl 29 _ HQ.out sizeP rfl (oneF _ _) ?_)
     (try simp only [Exit.inBlock, Exit.then])
     refine bodyPost_ret (results_row_tmpF rfl _ _ w.heap.size _ _ _ _ rfl (setRow_heap _ _ _ _ _ _ HQ.out) Tryd.underlying29 rfl sizeP) rfl ?_
     exact ⟨by rw [HR.out]; rfl, below_setRow HB.out (Nat.le_refl _) _⟩
   · have ht' : tokS (cutS 61 s).1 = false := by simpa using ht
     have HR := Box.mk (pairO_no ht')
     have HT := Box.mk ht'
     clear hk ht ht'
     go_enter Tryd.func27, Tryd.ntmps27
     go_wp2_with fail
     refine (cutD_yes 61 s k _ hs HK.out).mono ?_
     rintro e w1 ⟨rfl, hb⟩
     have HB := Box.mk (below_trans (below_oneF w (.cells #[.string ⟨#[]⟩, .string ⟨#[]⟩] 29)) hb)
     have HQ := Box.mk ((PVar.new w ⟨#[]⟩ ⟨#[]⟩).keep hb)
     clear hb
     generalize cutS 61 s = p at *
     go_wp2_with fail
     refine (token_any p.1 _ HZ.out).mono ?_
     rintro e w2 ⟨he, rfl⟩
     rw [HT.out] at he
     subst he
     go_wp2_with (refine wpList_store_row rfl 29 _ _ rfl w.heap.size #[.string ⟨#[]⟩, .string ⟨#[]⟩] rfl rfl 29 _ HQ.out sizeP rfl (oneF _ _) ?_)
     (try simp only [Exit.inBlock, Exit.then])
     refine bodyPost_ret (results_row_tmpF rfl _ _ w.heap.size _ _ _ _ rfl (setRow_heap _ _ _ _ _ _ HQ.out) Tryd.underlying29 rfl sizeP) rfl ?_
     exact ⟨by rw [HR.out]; rfl, below_setRow HB.out (Nat.le_refl _) _⟩
end Go.Proofs.YthgiplnidnkajaaDoor
namespace Go.Proofs.YthgiplnidnkajaaDoor
open Go.ChangeShapes Go.WideShapes Go.ChangeAt Go.RowKit
theorem splitC_any (s : ByteArray) (w : World) (m : Int) (hs : s.size < 4294967281) (hm : w.cell? ⟨0, 0, none⟩ = some (.int .i64 m)) :
  Calls Tryd.prog 26 #[.string s, .string ⟨#[59]⟩] w fun e w' => RetFresh w (splitS 59 s) e w' := by
 refine (Any.strings_Split Tryd.lays146 (by kernel_rfl) s ⟨#[59]⟩ m w hs hm (by decide)).mono ?_
 rintro e w' ⟨he, hw⟩
 have hlen : (splitS 59 s).length = Lib.countB s ⟨#[59]⟩ + 1 := by
  rw [← splitB_eq]; exact Lib.splitB_all _ (by decide) _ _ _ rfl
 refine ⟨w.heap.size, _, by rw [he, hlen], Nat.le_refl _, by rw [hw]; simp, fun j hj => ⟨_, 0, rfl, ?_⟩, by rw [hw]; exact (Below.refl _ _).alloc (Nat.le_refl _) _⟩
 rw [hw, splitB_eq]
 rw [World.cell?_alloc_mark]
 simp [hj]
theorem BesideP.fresh {w0 w w' : World} {v : Value} {l : List Fld} (h : AccP w0 w v l) {P : Nat} {parts : List ByteArray} (hP : w.heap.size ≤ P) (hlt : P < w'.heap.size) (hs : StrsAt w' (some ⟨P, 0, none⟩) parts) : BesideP w' v (some ⟨P, 0, none⟩) parts :=
 ⟨hs, fun x e h0 => by
  obtain rfl := Option.some.inj e
  exact ⟨fun e2 => by have := (h.lt e2).2; simp only at this; omega, hlt⟩⟩
set_option maxRecDepth 100000 in
set_option maxHeartbeats 4000000 in
theorem ckPairs_any (l : List Fld) (a : Option Addr) (cap : Nat) (w : World) (m : Int) (h : FldsIn w a l) (hz : ShortF l) (hl : l.length ≤ 1000000) (hm : w.cell? ⟨0, 0, none⟩ = some (.int .i64 m)) (ht : total (valuesL l ckL) ≤ 4000000000) :
  Calls Tryd.prog 9 #[.slice a l.length cap] w (RetAccP w (pairsL (valuesL l ckL))) := by
 have H0 := Box.mk (And.intro h hz)
 have HM := Box.mk hm
 obtain ⟨vs, hvs⟩ : ∃ vs, vs = valuesL l ckL := ⟨_, rfl⟩
 have HV := Box.mk (show valuesL l ckU = vs by rw [hvs]; exact values_ck l)
 rw [← hvs] at ht ⊢
 have hvl : vs.length ≤ 4000000000 := Nat.le_trans (total_len vs) ht
 have HT := Box.mk ht
 clear h hz hm hvs ht
 go_enter Tryd.func9, Tryd.ntmps9
 go_wp2_with fail
 refine (fValues_any l ckU a cap _ H0.out.1 H0.out.2 (by decide) hl).mono ?_
 rintro e w1 ⟨a', cap', he, hs, hb⟩
 rw [HV.out] at he hs
 subst he
 have HS := Box.mk hs
 have HB := Box.mk hb
 have HM1 := Box.mk (below_cell hb HM.out)
 clear hs hb HM H0
 go_wp2_with fail
 go_loopw [3, 13] (fun v iv wr => ∃ k : Nat, k ≤ vs.length ∧ iv = .int .i64 k ∧ Box (AccP w1 wr v (pairsL (vs.take k)))) (fun _ iv _ => vs.length - (intOf iv).toNat)
 case atStart => exact ⟨0, Nat.zero_le _, rfl, ⟨AccP.start w1⟩⟩
 case round =>
  obtain ⟨k, hk, rfl, HA⟩ := hrel
  by_cases hlt : k < vs.length
  · obtain ⟨b, off, rfl, hc⟩ := HS.out k hlt
    have c1 := below_cell HA.out.2 hc
    clear hc
    have hb1 := Box.mk (total_at hlt HT.out)
    have HSN := Box.mk (pairsL_snoc vs k hlt)
    have hyl : (pairsL (vs.take k)).length ≤ 4000000000 := Nat.le_trans (pairsL_len _) (Nat.le_trans (total_take vs k) HT.out)
    generalize pairsL (vs.take k) = Y at *
    generalize vs[k] = s at *
    go_wp2_with fail
    refine (splitC_any s _ m (by have := hb1.out; omega) (below_cell HA.out.2 HM1.out)).mono ?_
    rintro e w2 ⟨P, cp, rfl, hP1, hP2, hP3, hP4⟩
    have HA1 := Box.mk (HA.out.keep hP4)
    have HS1 := Box.mk (BesideP.fresh HA.out hP1 hP2 hP3)
    have hpl := splitS_length 59 s
    have hsz : Box (∀ x ∈ splitS 59 s, x.size ≤ 4000000000) := ⟨fun x hx => Nat.le_trans (splitS_small 59 s x hx) (by have := hb1.out; omega)⟩
    have hpl2 : (splitS 59 s).length ≤ 4000000000 := by have := hb1.out; omega
    have HPA := Box.mk (show pairsV s = partsL (splitS 59 s) from rfl)
    clear hP1 hP2 hP3 hP4 c1 hpl HA
    generalize splitS 59 s = parts at *
    go_wp2_with fail
    go_loopw [3, 20] (fun v iv wq => ∃ j : Nat, j ≤ parts.length ∧ iv = .int .i64 j ∧ Box (AccP w1 wq v (Y ++ partsL (parts.take j)) ∧ BesideP wq v (some ⟨P, 0, none⟩) parts)) (fun _ iv _ => parts.length - (intOf iv).toNat)
    case atStart => exact ⟨0, Nat.zero_le _, rfl, ⟨by simpa [partsL] using HA1.out, HS1.out⟩⟩
    case round =>
     clear HA1 HS1
     obtain ⟨j, hj, rfl, HB2⟩ := hrel
     by_cases hjl : j < parts.length
     · obtain ⟨b', o', e', c2⟩ := HB2.out.2.1 j hjl
       cases e'
       rw [Nat.zero_add] at c2
       have HPZ := Box.mk (hsz.out parts[j] (List.getElem_mem hjl))
       have HPS := Box.mk (partsL_snoc parts j hjl)
       have hql : (partsL (parts.take j)).length ≤ 4000000000 := Nat.le_trans (partsL_len _) (by rw [List.length_take]; omega)
       generalize parts[j] = p at *
       generalize partsL (parts.take j) = Z at *
       go_wp2_with fail
       refine (trim_any p _ (by have := HPZ.out; unfold maxLen; omega)).mono ?_
       rintro e w3 ⟨rfl, hb3⟩
       have HB3 := Box.mk (And.intro (HB2.out.1.keep hb3) (HB2.out.2.keep hb3))
       have HTZ := Box.mk (Nat.le_trans (trimBA_size p) HPZ.out)
       clear hb3 c2 HB2
       generalize trimBA p = t at *
       go_wp2_with fail
       refine (ckParse_any t _ (by have := HTZ.out; unfold maxLen; omega)).mono ?_
       rintro e w4 ⟨he, hb4⟩
       have HB4 := Box.mk (And.intro (HB3.out.1.keep hb4) (HB3.out.2.keep hb4))
       clear hb4 HB3
       rcases pairO_cases t with ht | ht
       · rw [ht] at he
         have HPS2 := Box.mk (show partsL (parts.take (j + 1)) = Z by rw [HPS.out, ht, List.append_nil])
         have he : e = .returned (.tuple #[.agg #[.string ⟨#[]⟩, .string ⟨#[]⟩], .bool false]) := he
         subst he
         clear ht
         go_wp2_with fail
         go_roundw
         case rel =>
          have hb := below_oneF w4 (.cells #[.string ⟨#[]⟩, .string ⟨#[]⟩] 29)
          exact ⟨j + 1, by omega, by go_num, ⟨by rw [HPS2.out]; exact HB4.out.1.keep hb, HB4.out.2.keep hb⟩⟩
         case measure => simp [intOf]; omega
       · rw [ht] at he
         have HPS2 := Box.mk (show partsL (parts.take (j + 1)) = Z ++ [cutS 61 t] by rw [HPS.out, ht])
         generalize cutS 61 t = f at *
         have he : e = .returned (.tuple #[.agg #[.string f.1, .string f.2], .bool true]) := he
         subst he
         clear ht
         have hb := below_twoF (below_oneF w4 (.cells #[.string f.1, .string f.2] 29)) (.cells #[.string f.1, .string f.2] 29)
         have HB5 := Box.mk (And.intro (HB4.out.1.keep hb) (HB4.out.2.keep hb))
         clear hb HB4
         go_wp2_with (at_builtin; refine wpList_append_accp _ rfl _ _ rfl rfl HB5.out.1 rfl (y := f) ?c1 ?c1b ?c2 ?c3)
         case c1 => simp
         case c1b => simp
         case c2 => rw [List.length_append]; omega
         case c3 =>
          intro v' w' hacc hgrow hnew
          have HN := Box.mk (show AccP w1 w' v' (Y ++ partsL (parts.take (j + 1))) ∧ BesideP w' v' (some ⟨P, 0, none⟩) parts from ⟨by rw [HPS2.out]; first | exact hacc | (rw [← List.append_assoc]; exact hacc), HB5.out.2.grow hgrow (fun q e => by have := hnew q e; simpa using this)⟩)
          clear hacc hgrow hnew HB5 HPS2
          go_wp2_with fail
          go_roundw
          case rel => exact ⟨j + 1, by omega, by go_num, HN⟩
          case measure => simp [intOf]; omega
     · have HN := HB2.out.1
       rw [List.take_of_length_le (by omega), ← HPA.out, ← HSN.out] at HN
       have HN := Box.mk HN
       clear HB2
       go_wp2_with fail
       go_roundw
       case rel => exact ⟨k + 1, by omega, by go_num, HN⟩
       case measure => simp [intOf]; omega
  · have HE := Box.mk (show AccP w wr _ (pairsL vs) by
     have := HA.out
     rw [List.take_of_length_le (by omega)] at this
     exact AccP.lift HB.out this)
    clear HA
    go_wp2_with fail
    go_ret
    exact ⟨_, rfl, HE.out⟩
end Go.Proofs.YthgiplnidnkajaaDoor
namespace Go.Proofs.YthgiplnidnkajaaDoor
open Go.RowKit
def isDstI (ops : Array Oper) (i k : Nat) : Bool := (List.range ops.size).any fun j => ((ops[j]?).bind (·.dst) == some k) && (!decide (j = i) && !(match ops[j]? with | some o => waitsFor o i | none => false))
structure FrW (ops : Array Oper) (i : Nat) (a0 a : Act) : Prop where
 defers : a.defers = a0.defers
 size : a.tmps.size = a0.tmps.size
 base : ∀ k, isDstI ops i k = false → a.eval (.tmp k) = a0.eval (.tmp k)
structure FrM (ops : Array Oper) (m : Array Bool) (a0 a : Act) : Prop where
 defers : a.defers = a0.defers
 size : a.tmps.size = a0.tmps.size
 base : ∀ k, (∀ j o, ops[j]? = some o → o.dst = some k → m.getD j false = false) → a.eval (.tmp k) = a0.eval (.tmp k)
theorem FrM.plain {ops : Array Oper} {m : Array Bool} {a0 a : Act} (h : FrM ops m a0 a) : Fr ops a0 a := ⟨h.defers, h.size, fun k hk => h.base k fun j o ho hd => by
 have : isDst ops k = true := by
  unfold isDst
  exact List.any_eq_true.2 ⟨o, Array.mem_toList_iff.2 (Array.mem_of_getElem? ho), by rw [hd]; simp⟩
 rw [hk] at this; cases this⟩
theorem FrM.at {ops : Array Oper} {m : Array Bool} {a0 a : Act} {i : Nat} (h : FrM ops m a0 a) (hmi : m.getD i false = false) (hcl : ∀ j o, ops[j]? = some o → m.getD j false = true → ∀ i, waitsFor o i = true → m.getD i false = true) : FrW ops i a0 a :=
 ⟨h.defers, h.size, fun k hk => h.base k fun j o ho hd => by
  by_cases hji : j = i
  · subst hji; exact hmi
  · by_cases hw : waitsFor o i = true
    · cases hm : m.getD j false with
      | false => rfl
      | true => rw [hcl j o ho hm i hw] at hmi; cases hmi
    · exfalso
      have : isDstI ops i k = true := by
       unfold isDstI
       exact List.any_eq_true.2 ⟨j, List.mem_range.2 (Array.getElem?_eq_some_iff.1 ho).1, by simp only [ho, Option.bind_some, hd]; simp [hji, hw]⟩
      rw [hk] at this; cases this⟩
theorem frM_put {ops : Array Oper} {m : Array Bool} {a0 a : Act} {o : Oper} {i : Nat} (ho : ops[i]? = some o) (him : i < m.size) (h : FrM ops m a0 a) (v : Value) : FrM ops (m.setIfInBounds i true) a0 (a.put o.dst v) := by
 refine ⟨?_, ?_, fun k hk => ?_⟩
 · have := h.defers
   cases o.dst <;> simpa [Act.put] using this
 · have := h.size
   cases o.dst <;> simpa [Act.put] using this
 · have hne : o.dst ≠ some k := fun e => by
    have := hk i o ho e
    simp [him] at this
   rw [eval_put_other hne, h.base k fun j oj hoj hd => by
    have h2 := hk j oj hoj hd
    by_cases hji : j = i
    · subst hji
      obtain rfl := Option.some.inj (ho.symm.trans hoj)
      exact absurd hd hne
    · rwa [getD_set_ne false (fun e => hji e.symm)] at h2]
def StepIW (P : Program) (Q : Exit → Act → World → Prop) (ops : Array Oper) (S : List Spec) (Inv : World → Prop) (a0 : Act) (i : Nat) (o : Oper) (s : Spec) : Prop :=
 ∀ a w, Inv w → FrW ops i a0 a → (∀ j, waitsFor o j = true → Holds ops S a w j) →
  Region.wanted o (yielded ops a.tmps) = true ∧ o.wp P a w (fun a' w' => ∃ v, a' = a.put o.dst v ∧ Below w.heap.size w w' ∧ s.p v w') Q
def SidesIW (P : Program) (Q : Exit → Act → World → Prop) (ops : Array Oper) (S : List Spec) (Inv : World → Prop) (a0 : Act) : List Nat → Prop
 | i :: r => (match ops[i]?, S[i]? with | some o, some s => StepIW P Q ops S Inv a0 i o s | _, _ => False) ∧ SidesIW P Q ops S Inv a0 r
 | [] => True
def ChainIW (P : Program) (Q : Exit → Act → World → Prop) (ops : Array Oper) (S S' : List Spec) (Inv Inv' : World → Prop) (a0 : Act) (c : Nat) : Prop :=
 match ops[c]?, S'[c]? with
 | some o, some s => ∀ a w, Inv w → FrW ops c a0 a → (∀ j, waitsFor o j = true → Holds ops S a w j) →
   Region.wanted o (yielded ops a.tmps) = true ∧ o.wp P a w (fun a' w' => ∃ v, a' = a.put o.dst v ∧ Inv' w' ∧ s.p v w' ∧ Over ops a w w' c 0 S S') Q
 | _, _ => False
section
variable {P : Program} {Q : Exit → Act → World → Prop} {ops : Array Oper} {a0 : Act} {w0 : World}
theorem sidesIW_at {S : List Spec} {Inv : World → Prop} : ∀ {l : List Nat}, SidesIW P Q ops S Inv a0 l → ∀ i, i ∈ l → ∀ o, ops[i]? = some o → ∃ s, S[i]? = some s ∧ StepIW P Q ops S Inv a0 i o s
 | k :: r, h, i, hi, o, ho => by
  rcases List.mem_cons.1 hi with rfl | hi
  · have := h.1
    rw [ho] at this
    cases hs : S[i]? with
    | none => rw [hs] at this; exact this.elim
    | some s => rw [hs] at this; exact ⟨s, rfl, this⟩
  · exact sidesIW_at h.2 i hi o ho
theorem wp_region_phasesW {id : Nat} (chain : List Nat) (sides : Nat → List Nat) (S : Nat → List Spec) (Inv : Nat → World → Prop) (hm : P.follows .mixedOrders = true)
  (hB : (List.range ops.size).all (fun i => match ops[i]? with | some x => x.after.all (fun e => !Region.binds .any e || decide (e.on < i)) | none => true) = true)
  (hd : dstsOk ops a0.tmps.size = true) (hc : chainB ops chain = true) (hlt : chain.all (fun c => decide (c < ops.size)) = true) (hsB : (List.range (chain.length + 1)).all (fun p => sidesB ops chain chain.length (sides p) p) = true)
  (hI : ∀ p w w', Inv p w → Below w.heap.size w w' → Inv p w') (h0 : Inv 0 w0) (hS : ∀ p, p ≤ chain.length → SidesIW P Q ops (S p) (Inv p) a0 (sides p))
  (hC : ∀ p (hp : p < chain.length), ChainIW P Q ops (S p) (S (p + 1)) (Inv p) (Inv (p + 1)) a0 chain[p])
  (hQ : ∀ a w, Inv chain.length w → Fr ops a0 a → (∀ j, j < ops.size → Holds ops (S chain.length) a w j) → Q .normal a w) : (Code.region id ops true).wp P Q a0 w0 := by
 have hchain : ∀ p q (hp : p < chain.length) (hq : q < chain.length), p < q → beforeB ops ops.size chain[q] chain[p] = true ∧ chain[p] ≠ chain[q] := fun p q hp hq hpq => by
  have h1 := List.all_eq_true.1 (List.all_eq_true.1 hc p (List.mem_range.2 hp)) q (List.mem_range.2 hq)
  simp only [List.getElem?_eq_getElem hp, List.getElem?_eq_getElem hq, Bool.or_eq_true, Bool.and_eq_true, decide_eq_true_eq] at h1
  rcases h1 with h1 | h1
  · omega
  · exact ⟨h1.1.1.1, h1.1.1.2⟩
 refine wp_region_inv hm (fun m a w => FrM ops m a0 a ∧ (∀ j o, ops[j]? = some o → m.getD j false = true → ∀ i, waitsFor o i = true → m.getD i false = true) ∧
  ∃ p, p ≤ chain.length ∧ (∀ q (hq : q < chain.length), m.getD chain[q] false = decide (q < p)) ∧ Inv p w ∧ ∀ j, m.getD j false = true → Holds ops (S p) a w j) ?_ ?_ ?_
 · rintro m a w hs ⟨hf, hcl, p, hp, hph, hinv, hh⟩ i hi
   obtain ⟨h1, o, ho, hall⟩ := mem_ready.1 hi
   have hil : i < ops.size := (Array.getElem?_eq_some_iff.1 ho).1
   have him : i < m.size := by rw [hs]; exact hil
   have hmi : m.getD i false = false := by simp [him] at h1 ⊢; exact h1
   have hdeps : ∀ j, waitsFor o j = true → m.getD j false = true := fun j hj => by
    obtain ⟨e, he, h2⟩ := List.any_eq_true.1 hj
    simp only [Bool.and_eq_true, beq_iff_eq] at h2
    obtain ⟨h3, rfl⟩ := h2
    exact hall e (Array.mem_toList_iff.1 he) h3
   have hcl' : ∀ j o, ops[j]? = some o → (m.setIfInBounds i true).getD j false = true → ∀ k, waitsFor o k = true → (m.setIfInBounds i true).getD k false = true := fun j oj hoj hj k hk => by
    by_cases hji : j = i
    · subst hji
      obtain rfl : o = oj := Option.some.inj (ho.symm.trans hoj)
      exact getD_set_true (hdeps k hk)
    · rw [getD_set_ne false (fun e => hji e.symm)] at hj
      exact getD_set_true (hcl j oj hoj hj k hk)
   unfold wpOp
   simp only [ho]
   by_cases hic : i ∈ chain
   · obtain ⟨q, hq, rfl⟩ := List.getElem_of_mem hic
     have hqp : p ≤ q := by
      have := hph q hq
      rw [hmi] at this
      have := of_decide_eq_false this.symm
      omega
     have hqe : q = p := by
      rcases Nat.lt_or_ge p q with h2 | h2
      · exfalso
        have h3 := before_ready hcl ho hdeps (hchain p q (by omega) hq h2).1
        rw [hph p (by omega)] at h3
        simp at h3
      · omega
     subst hqe
     have hCp := hC q hq
     unfold ChainIW at hCp
     rw [ho] at hCp
     cases hsc : (S (q + 1))[chain[q]]? with
     | none => rw [hsc] at hCp; exact hCp.elim
     | some s =>
      rw [hsc] at hCp
      simp only at hCp
      obtain ⟨hw, hwp⟩ := hCp a w hinv (hf.at hmi hcl) fun j hj => hh j (hdeps j hj)
      rw [if_pos hw]
      refine .inl (Oper.wp_mono ?_ hwp)
      rintro a' w' ⟨v, rfl, hinv', hsp, hov⟩
      refine ⟨frM_put ho him hf v, hcl', q + 1, hq, fun r hr => ?_, hinv', fun j hj => ?_⟩
      · by_cases hrq : r = q
        · subst hrq
          simp [him]
        · have hne : chain[q] ≠ chain[r] := by
           rcases Nat.lt_or_ge q r with h2 | h2
           · exact (hchain q r hq hr h2).2
           · exact fun e => (hchain r q hr hq (by omega)).2 e.symm
          rw [getD_set_ne false hne, hph r hr]
          by_cases hrl : r < q
          · simp [hrl, show r < q + 1 by omega]
          · simp [hrl, show ¬ r < q + 1 by omega]
      · by_cases hji : j = chain[q]
        · subst hji
          unfold Holds
          simp only [ho, hsc]
          cases hdo : o.dst with
          | none => trivial
          | some d =>
           show s.p ((a.put (some d) v).eval (.tmp d)) w'
           rw [eval_put_same]
           · exact hsp
           · rw [hf.size]; exact (dsts_lt hd ho hdo).1
        · have hj' : m.getD j false = true := by rw [getD_set_ne false (fun e => hji e.symm)] at hj; exact hj
          have h5 := holds_put (a := a) (v := v) hd ho hji (hh j hj')
          unfold Holds at *
          cases hoj : ops[j]? with
          | none => simp
          | some o' =>
           cases hsj : (S (q + 1))[j]? with
           | none => simp
           | some s' =>
            obtain ⟨s0, hs0, himp⟩ := over_at hov j s' hsj (by omega)
            simp only [hoj, hs0] at h5
            simp only
            cases hdo : o'.dst with
            | none => trivial
            | some d =>
             simp only [hdo] at h5
             refine himp _ (fun o2 d2 ho2 hd2 => ?_) h5
             rw [Nat.zero_add, hoj] at ho2
             obtain rfl := Option.some.inj ho2
             rw [hdo] at hd2
             obtain rfl := Option.some.inj hd2
             exact eval_put_other fun e => (dsts_lt hd ho e).2 j o' hoj hji hdo
   · have hside : i ∈ sides p := by
      have := List.all_eq_true.1 (List.all_eq_true.1 hsB p (List.mem_range.2 (by omega))) i (List.mem_range.2 hil)
      simp only [Bool.or_eq_true, List.contains_iff_mem, List.any_eq_true] at this
      rcases this with (h2 | h2) | ⟨q, hq, h2⟩
      · exact absurd h2 hic
      · exact h2
      · exfalso
        have hql := List.mem_range.1 hq
        rw [List.getElem?_eq_getElem hql] at h2
        simp only at h2
        by_cases hqp : q < p
        · rw [if_pos hqp] at h2
          have h3 := before_marked hcl _ _ _ h2 (by rw [hph q hql]; simp [hqp])
          rw [hmi] at h3; cases h3
        · rw [if_neg hqp] at h2
          have h3 := before_ready hcl ho hdeps h2
          rw [hph q hql] at h3
          simp [hqp] at h3
     obtain ⟨s, hsi, hstep⟩ := sidesIW_at (hS p hp) i hside o ho
     obtain ⟨hw, hwp⟩ := hstep a w hinv (hf.at hmi hcl) fun j hj => hh j (hdeps j hj)
     rw [if_pos hw]
     refine .inl (Oper.wp_mono ?_ hwp)
     rintro a' w' ⟨v, rfl, hb', hsp⟩
     refine ⟨frM_put ho him hf v, hcl', p, hp, fun r hr => ?_, hI p w w' hinv hb', fun j hj => ?_⟩
     · rw [getD_set_ne false (fun e => hic (by rw [e]; exact List.getElem_mem hr)), hph r hr]
     · by_cases hji : j = i
       · subst hji
         unfold Holds
         simp only [ho, hsi]
         cases hdo : o.dst with
         | none => trivial
         | some d =>
          show s.p ((a.put (some d) v).eval (.tmp d)) w'
          rw [eval_put_same]
          · exact hsp
          · rw [hf.size]; exact (dsts_lt hd ho hdo).1
       · have hj' : m.getD j false = true := by rw [getD_set_ne false (fun e => hji e.symm)] at hj; exact hj
         exact holds_put hd ho hji (holds_mono (hh j hj') hb')
 · rintro m a w hs ⟨hf, hcl, p, hp, hph, hinv, hh⟩ hr
   have hmarked : ∀ j, j < ops.size → m.getD j false = true := fun j => by
    induction j using Nat.strongRecOn with
    | _ j ih =>
     intro hj
     cases hmj : m.getD j false with
     | true => rfl
     | false =>
      exfalso
      have hoj : ops[j]? = some ops[j] := Array.getElem?_eq_getElem hj
      have hbk := List.all_eq_true.1 hB j (List.mem_range.2 hj)
      rw [hoj] at hbk
      simp only [Array.all_eq_true_iff_forall_mem, Bool.or_eq_true, Bool.not_eq_true', decide_eq_true_eq] at hbk
      have hlt : ∀ e ∈ ops[j].after, Region.binds .any e = true → e.on < j := fun e he hbd => by
       rcases hbk e he with h | h
       · rw [hbd] at h; cases h
       · exact h
      have : j ∈ Region.ready .any ops m := mem_ready.2 ⟨by
       have hs' : j < m.size := by rw [hs]; exact hj
       simp [hs'] at hmj ⊢; exact hmj, ops[j], hoj, fun e he hbd => ih _ (hlt e he hbd) (by have := hlt e he hbd; omega)⟩
      rw [hr] at this; cases this
   have hpe : p = chain.length := by
    rcases Nat.lt_or_ge p chain.length with h2 | h2
    · exfalso
      have h3 := hph p h2
      have h4 := hmarked chain[p] (of_decide_eq_true (List.all_eq_true.1 hlt _ (List.getElem_mem h2)))
      rw [h4] at h3
      simp at h3
    · omega
   subst hpe
   exact hQ a w hinv hf.plain fun j hj => hh j (hmarked j hj)
 · have hz : ∀ j, (Array.replicate ops.size false).getD j false = false := fun j => by
    simp only [Array.getD_eq_getD_getElem?, Array.getElem?_replicate]; split <;> rfl
   refine ⟨⟨rfl, rfl, fun _ _ => rfl⟩, fun j o _ hj => (by rw [hz] at hj; cases hj), 0, Nat.zero_le _, fun q _ => by rw [hz]; rfl, hI 0 w0 _ h0 (Below.refl _ _).drew, fun j hj => (by rw [hz] at hj; cases hj)⟩
end
end Go.Proofs.YthgiplnidnkajaaDoor
