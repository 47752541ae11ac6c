/- The landed package plan: within, validWeights, validNumbers, Validate, Weight, Verdict. The laws of package plan: awake; PlanWeight. Single operations of a region that draws its order, for structs of any type: load, index, field, store. The laws PlanWeight and PlanVerdict. The laws PlanVerdict and PlanWorse. The law PlanWorse. The law PlanValidate. Opening the arguments of the laws on fields. Opening a slice of numbers; the tables out of the listed variables. Opening a plan, a window and an input among the arguments. -/
import Derived.Test.YtlcegpjpgmpnbaaPk1
import Derived.Test.YtlcegpjpgmpnbaaRows
import Derived.WalkKit
import Derived.WalkSpells
import Derived.WalkLawsBesides
import Derived.BigQuiet
import Derived.Deep.QuietTactic
import Derived.Lib.Bytealg
import Derived.Lib.IndexLaws
import Derived.Lib.Hide
import Derived.Laws.IdiomStrings
import Derived.Lib.SlTrimSet
import Derived.Lib.IndexBytes
import Derived.Lib.Split
import Derived.Deep.AppendLies
import Derived.Shelf.LaysM
import Derived.Test.YtlcegpjpgmpnbaaProg
import Derived.Shelf.Strings.SlTrimAscii
import Derived.Lib.SplitLaws
import Derived.Shelf.Strings.SplitShaped
import Derived.WalkSmall
import Derived.ProofKit
import Derived.OpenShut
import Derived.Lib.Strings
import Derived.SliceStrings
import Derived.Deep.Quiet
import Derived.Tactics
import Derived.KernelRfl
import Derived.Below
import Derived.Laws.Bits64
import Derived.Lib.SlBytesConst
import Derived.Maps.AppendAt
import Derived.Laws.AppendOwnNone
import Derived.Great.BuildSlice
import Derived.Laws.Rows
import Derived.Laws.BitsAllLaws
import Derived.Laws.Shifts
import Derived.Maps.OwnOps
import Derived.Maps.OwnSet
import Derived.Deep.SlicePairs
import Derived.Lib.AppendZerosOnto
import Derived.Lib.AppendStr
import Derived.Laws.CopyOwn
import Derived.OwnWalk
import Derived.Laws.Strings3
import Derived.Laws.Concat
import Derived.Lib.ItoaMem
import Derived.Deep.DeepCutAuto
import Derived.Deep.CutBlock
import Derived.Laws.Tables
import Derived.Deep.Matrix
import Derived.IntWalk
import Derived.Laws.RangeAny
import Derived.Sort.Grow
import Derived.Lib.LaidTab
import Derived.LaidSub
import Derived.Laws.Bits64b
import Derived.Lib.ConvBytes
import Derived.Deep.WholeRow
import Derived.StillTailTactics
import Derived.ArgAppend
namespace Go.Proofs.Ytlcegpjpgmpnbaa
open Go.RowKit
set_option linter.unusedVariables false

def Pl.rng (p : Pl) : Prop := i64P p.ms ∧ i64P p.num ∧ i64P p.den ∧ i64P p.hold ∧ i64P p.win

/-- Mathematics of the weights: each is above the one before it, and all are below the number behind them. -/
def lastK (l : List Int) : Nat → Int
  | 0 => 0
  | k + 1 => l.getD k 0
def upK (l : List Int) : Nat → Bool
  | 0 => true
  | k + 1 => upK l k && decide (lastK l k < l.getD k 0)
theorem upK_nn (l : List Int) : ∀ k, upK l k = true → 0 ≤ lastK l k
  | 0, _ => Int.le_refl _
  | k + 1, h => by
    unfold upK at h
    rw [Bool.and_eq_true, decide_eq_true_eq] at h
    have := upK_nn l k h.1
    show 0 ≤ l.getD k 0
    omega
theorem upK_asc (l : List Int) : ∀ k, upK l k = true → lastK l k ≤ 10000 → ascK l k = true
  | 0, _, _ => rfl
  | k + 1, h, hl => by
    unfold upK at h
    rw [Bool.and_eq_true, decide_eq_true_eq] at h
    have h0 := upK_nn l k h.1
    have hl : l.getD k 0 ≤ 10000 := hl
    have := upK_asc l k h.1 (by omega)
    rw [ascK_succ, this, decide_eq_true (show 1 ≤ l.getD k 0 by omega), decide_eq_true hl]
    cases k with
    | zero => rfl
    | succ j =>
      have h3 : l.getD j 0 < l.getD (j + 1) 0 := h.2
      simp only [Nat.add_sub_cancel, Bool.true_and, decide_eq_true h3, Bool.or_true]
theorem asc_upK (l : List Int) : ∀ k, ascK l k = true → upK l k = true ∧ lastK l k ≤ 10000
  | 0, _ => ⟨rfl, show (0 : Int) ≤ 10000 by omega⟩
  | k + 1, h => by
    rw [ascK_succ] at h
    simp only [Bool.and_eq_true, decide_eq_true_eq, Bool.or_eq_true] at h
    obtain ⟨h1, ⟨h2, h3⟩, h4⟩ := h
    obtain ⟨i1, i2⟩ := asc_upK l k h1
    refine ⟨?_, h3⟩
    unfold upK
    rw [i1, Bool.true_and, decide_eq_true_eq]
    cases k with
    | zero => show (0 : Int) < l.getD 0 0; omega
    | succ j =>
      rcases h4 with h4 | h4
      · omega
      · exact h4
theorem getD_snocL (l : List Int) (y : Int) (k : Nat) (h : k < l.length) : (l ++ [y]).getD k 0 = l.getD k 0 := by
  simp [List.getD_eq_getElem?_getD, List.getElem?_append_left h]
theorem getD_snocE (l : List Int) (y : Int) : (l ++ [y]).getD l.length 0 = y := by
  simp [List.getD_eq_getElem?_getD]
theorem lastK_snoc (l : List Int) (y : Int) : ∀ k, k ≤ l.length → lastK (l ++ [y]) k = lastK l k
  | 0, _ => rfl
  | k + 1, h => getD_snocL l y k (by omega)
theorem upK_snoc (l : List Int) (y : Int) : ∀ k, k ≤ l.length → upK (l ++ [y]) k = upK l k
  | 0, _ => rfl
  | k + 1, h => by
    unfold upK
    rw [upK_snoc l y k (by omega), lastK_snoc l y k (by omega), getD_snocL l y k (by omega)]
theorem upK_all (l : List Int) : upK (l ++ [10001]) (l.length + 1) = ascK l l.length := by
  unfold upK
  rw [upK_snoc l _ _ (Nat.le_refl _), lastK_snoc l _ _ (Nat.le_refl _), getD_snocE]
  cases h : ascK l l.length
  · cases hu : upK l l.length
    · rfl
    · rw [Bool.true_and, decide_eq_false_iff_not]
      intro hlt
      rw [upK_asc l _ hu (by omega)] at h
      exact absurd h (by simp)
  · obtain ⟨h1, h2⟩ := asc_upK l _ h
    rw [h1, Bool.true_and, decide_eq_true_eq]
    omega
theorem upK_cut (l : List Int) (k : Nat) (h : upK l k = false) : ∀ m, k ≤ m → upK l m = false := by
  intro m hm
  obtain ⟨d, rfl⟩ : ∃ d, m = k + d := ⟨m - k, by omega⟩
  clear hm
  induction d with
  | zero => exact h
  | succ d ih => show (upK l (k + d) && _) = false; rw [ih]; rfl

def inR (n a b : Int) : Bool := decide (a ≤ n) && decide (n ≤ b)
theorem inR_t {n a b : Int} (h1 : a ≤ n) (h2 : n ≤ b) : inR n a b = true := by unfold inR; rw [decide_eq_true h1, decide_eq_true h2]; rfl
theorem inR_f {n a b : Int} (h : ¬ (a ≤ n ∧ n ≤ b)) : inR n a b = false := by
  unfold inR
  by_cases h1 : a ≤ n
  · rw [decide_eq_false (show ¬ n ≤ b from fun h2 => h ⟨h1, h2⟩), Bool.and_false]
  · rw [decide_eq_false h1]; rfl
theorem inR_cases (n a b : Int) : inR n a b = true ∧ Box (a ≤ n ∧ n ≤ b) ∨ inR n a b = false ∧ Box (¬ (a ≤ n ∧ n ≤ b)) := by
  by_cases h : a ≤ n ∧ n ≤ b
  · exact .inl ⟨inR_t h.1 h.2, ⟨h⟩⟩
  · exact .inr ⟨inR_f h, ⟨h⟩⟩
theorem ret_boolP {x y : Bool} (h : x = y) : Ending.returned (.bool x) = Ending.returned (.bool y) := by rw [h]

set_option maxHeartbeats 1000000 in
theorem pWithin_any (n a b : Int) (w : World) :
    Calls Try.prog 19 #[.int .i64 n, .int .i64 a, .int .i64 b] w fun e w' => e = .returned (.bool (inR n a b)) ∧ w = w' := by
  by_cases h1 : a ≤ n
  · by_cases h2 : n ≤ b
    · have HX := Box.mk (inR_t h1 h2).symm
      have d1 := decide_eq_true h1
      have d2 := decide_eq_true h2
      go_enter Try.func19, Try.ntmps19
      go_wp2_with fail
      go_ret
      exact ⟨ret_boolP HX.out, rfl⟩
    · have HX := Box.mk (inR_f (n := n) (a := a) (b := b) (fun h => h2 h.2)).symm
      have d1 := decide_eq_true h1
      have d2 := decide_eq_false h2
      go_enter Try.func19, Try.ntmps19
      go_wp2_with fail
      go_ret
      exact ⟨ret_boolP HX.out, rfl⟩
  · have HX := Box.mk (inR_f (n := n) (a := a) (b := b) (fun h => h1 h.1)).symm
    have d1 := decide_eq_false h1
    go_enter Try.func19, Try.ntmps19
    go_wp2_with fail
    go_ret
    exact ⟨ret_boolP HX.out, rfl⟩
theorem pWithin_eq {n a b : Int} {r : Bool} (w : World) (hr : inR n a b = r) :
    Calls Try.prog 19 #[.int .i64 n, .int .i64 a, .int .i64 b] w fun e w' => e = .returned (.bool r) ∧ w = w' := by subst hr; exact pWithin_any n a b w

section
variable {ops : Array Oper} {rest : List Oper} {o : Oper} {act : Act} {Q : Exit → Act → World → Prop}
/-- APPEND of one number to a slice that came in and has no room. -/
theorem wpList_append_fullz (w : World) (hgd : o.guard = none) (s x : Operand) (ho : o.op = .call { callee := .builtin .append, args := #[s, x], argTypes := #[22, 22] })
    {ad : Addr} {l : List Int} (hs : act.eval s = .slice (some ad) l.length l.length) (hl : ∀ j, j < l.length → w.cell? (ad.add j) = some (.int .i64 (l.getD j 0))) {b c : Nat} (hx : act.eval x = .slice (some ⟨b, 0, none⟩) 1 c) {y : Int} (hy : w.cell? ⟨b, 0, none⟩ = some (.int .i64 y))
    (hn : l.length ≤ 8)
    (K : ∀ v' w', OwnZ w.heap.size w' v' (l ++ [y]) → w.grownBy w' none → wpList Try.prog ops Q rest (act.put o.dst v') w') : wpList Try.prog ops Q (o :: rest) act w := by
  obtain ⟨i0, hi, hz0, hz1, hz2⟩ := info_parts Try.info3Z
  refine wpList_append_grows w hgd s x 22 ho 3 i0 _ 1 8 Try.underlying22 hi hz0 hz1 hz2 rfl (by decide) (some ad) l.length l.length (intsZ l) hs (fun e => by cases e) (by rw [intsZ_len, Nat.mul_one]) ?_ ⟨b, 0, none⟩ 1 c [.int .i64 y] hx rfl ?_ ?_ (by omega) (by unfold maxLen; omega) (by omega) ?_
  · intro b' e j u hj
    obtain rfl := Option.some.inj e
    unfold intsZ at hj
    rw [List.getElem?_map] at hj
    cases hlj : l[j]? with
    | none => rw [hlj] at hj; cases hj
    | some z =>
      rw [hlj] at hj
      obtain rfl := Option.some.inj hj
      have hlt := (List.getElem?_eq_some_iff.1 hlj).1
      rw [hl j hlt, List.getD_eq_getElem?_getD, hlj]; rfl
  · intro j u hj
    match j, hj with
    | 0, hj => simp at hj; subst hj; rw [Addr.add_lit]; exact hy
    | j + 1, hj => simp at hj
  · intro u hu; simp at hu; rcases hu with rfl; rfl
  · intro v' w' hown hgrow
    refine K v' w' ?_ hgrow
    unfold OwnZ
    rw [List.length_append, intsZ_app]; exact hown
end

def wOk (l : List Int) : Bool := inR l.length 1 8 && ascK l l.length

set_option maxRecDepth 10000 in
set_option maxHeartbeats 4000000 in
theorem pWeights_any (l : List Int) (a : Option Addr) (c : Nat) (w : World) (h : IsInts w a l c) :
    Calls Try.prog 17 #[.slice a l.length c] w fun e w' => e = .returned (.bool (wOk l)) ∧ Below w.heap.size w w' := by
  have hlen : l.length ≤ 9223372036854775807 := by
    rcases h with ⟨_, e, _⟩ | ⟨x, _, h1, h2, _⟩
    · rw [e]; simp
    · unfold maxLen at h2; omega
  have HS := Box.mk (show wOk l = (inR l.length 1 8 && ascK l l.length) from rfl)
  generalize wOk l = r at *
  rcases inR_cases l.length 1 8 with ⟨hr, HN⟩ | ⟨hr, HN⟩
  · have HX := Box.mk (show upK (l ++ [10001]) (l.length + 1) = r by rw [HS.out, hr, Bool.true_and, upK_all])
    have h1 : 1 ≤ l.length := by have := HN.out; omega
    have h8 : l.length ≤ 8 := by have := HN.out; omega
    have hcl : l.length ≤ c := by
      rcases h with ⟨_, e, _⟩ | ⟨x, _, h1, h2, _⟩
      · rw [e]; simp
      · exact h1
    have hcm : c ≤ 9223372036854775807 := by
      rcases h with ⟨_, _, e⟩ | ⟨x, _, h1, h2, _⟩
      · omega
      · unfold maxLen at h2; omega
    obtain ⟨x, rfl, hc⟩ := h.at (k := 0) (by omega)
    have HC := Box.mk hc
    have HRG := Box.mk (show ∀ z ∈ l ++ [10001], -9223372036854775808 ≤ z ∧ z ≤ 9223372036854775807 by
      intro z hz
      rcases List.mem_append.1 hz with hz | hz
      · obtain ⟨j, hj, rfl⟩ := List.getElem_of_mem hz
        rcases h with ⟨e, _⟩ | ⟨x, _, _, _, hh⟩
        · cases e
        · exact (hh j hj).2
      · simp at hz; omega)
    clear h hc HN HS
    have g1 : (1 : Int) ≤ l.length := by omega
    go_enter Try.func17, Try.ntmps17
    go_wp2_with fail
    refine (pWithin_eq w hr).mono ?_
    rintro e w1 ⟨rfl, rfl⟩
    clear hr
    go_wp2_with (at_builtin; refine wpList_append_fullz _ rfl _ _ rfl (l := l) (y := 10001) rfl ?c1 rfl ?c2 h8 ?c3)
    case c1 => intro j hj; exact below_cell (below_oneF _ _) (HC.out j hj)
    case c2 => rw [World.cell?_alloc_new]; rfl
    case c3 =>
      intro v' w2 hown hgrow
      obtain ⟨a', cap', rfl, hi, _⟩ := hown.shape HRG.out
      have HB := Box.mk (show Below w.heap.size w w2 from (below_oneF w _).grown hgrow (by rw [World.size_alloc]; omega) (fun k e => by cases e))
      have HI := Box.mk hi
      clear hown hgrow hi HC HRG
      have hL : ((l ++ [(10001 : Int)]).length) = l.length + 1 := by simp
      rw [hL]
      generalize hq : l ++ [(10001 : Int)] = q at *
      have HLQ := Box.mk hL
      clear hq hL
      go_wp2_with fail
      go_loopw [4, 19] (fun lv iv wr => ∃ k : Nat, k ≤ l.length + 1 ∧ lv = .int .i64 (lastK q k) ∧ iv = .int .i64 k ∧ Box (upK q k = true) ∧ wr = w2) (fun _ iv _ => l.length + 1 - (intOf iv).toNat)
      case atStart => exact ⟨0, Nat.zero_le _, rfl, rfl, ⟨rfl⟩, rfl⟩
      case round =>
        obtain ⟨k, hk, rfl, rfl, HU, rfl⟩ := hrel
        by_cases hlt : k < l.length + 1
        · obtain ⟨x', rfl, hc⟩ := HI.out.at (k := k) (by rw [HLQ.out]; exact hlt)
          have hck := hc k (by rw [HLQ.out]; exact hlt)
          have HG := Box.mk (show lastK q (k + 1) = q.getD k 0 from rfl)
          have HU1 := Box.mk (show upK q (k + 1) = (upK q k && decide (lastK q k < q.getD k 0)) from rfl)
          generalize q.getD k 0 = v at *
          have HCUT := Box.mk (show upK q (k + 1) = false → false = r from fun h => by rw [← HX.out]; exact (upK_cut q _ h _ (by omega)).symm)
          generalize hla : lastK q k = la at *
          clear hc HI HX hla
          by_cases hv : la < v
          · have d1 : decide (v ≤ la) = false := decide_eq_false (by omega)
            have HU2 := Box.mk (show upK q (k + 1) = true by rw [HU1.out, HU.out, decide_eq_true hv]; rfl)
            clear HU1 HU HCUT
            go_wp2_with fail
            go_roundw
            case rel => exact ⟨k + 1, by omega, by rw [HG.out], by go_num, HU2, trivial⟩
            case measure => simp [intOf]; omega
          · have d1 : decide (v ≤ la) = true := decide_eq_true (by omega)
            have HF := Box.mk (HCUT.out (by rw [HU1.out, decide_eq_false hv, Bool.and_false]))
            clear HU1 HU HCUT
            go_wp2_with fail
            go_ret
            exact ⟨ret_boolP HF.out, HB.out⟩
        · have hke : k = l.length + 1 := by omega
          have HF := Box.mk (show true = r by rw [← HX.out, ← hke, HU.out])
          clear HX HU hke
          go_wp2_with fail
          go_ret
          exact ⟨ret_boolP HF.out, HB.out⟩
  · have HX := Box.mk (show false = r by rw [HS.out, hr]; rfl)
    clear h HN HS
    go_enter Try.func17, Try.ntmps17
    go_wp2_with fail
    refine (pWithin_eq w hr).mono ?_
    rintro e w1 ⟨rfl, rfl⟩
    go_wp2_with fail
    go_ret
    exact ⟨ret_boolP HX.out, Below.refl _ _⟩

theorem pWeights_eq {l : List Int} {a : Option Addr} {c : Nat} {r : Bool} (w : World) (h : IsInts w a l c) (hr : wOk l = r) :
    Calls Try.prog 17 #[.slice a l.length c] w fun e w' => e = .returned (.bool r) ∧ Below w.heap.size w w' := by subst hr; exact pWeights_any l a c w h

def nOk (p : Pl) : Bool := inR p.ms 1 1000000 && (inR p.num 0 1000000 && (inR p.den 1 1000000 && (inR p.hold 1 100 && inR p.win 1 1000000)))
theorem ok_parts (p : Pl) : p.ok = (wOk p.ws && nOk p) := by
  have hn : decide p.nums = (inR p.ws.length 1 8 && nOk p) := by
    unfold nOk inR Pl.nums
    simp only [← Bool.decide_and]
    congr 1
    apply propext
    constructor
    · rintro ⟨h1, h2, h⟩; refine ⟨?_, ?_⟩ <;> omega
    · rintro ⟨h1, h⟩; omega
  unfold Pl.ok wOk
  rw [hn, Bool.and_assoc, Bool.and_assoc, Bool.and_comm (nOk p)]

set_option maxRecDepth 10000 in
set_option maxHeartbeats 4000000 in
theorem pNumbers_any (p : Pl) (a : Option Addr) (c : Nat) (w : World) :
    Calls Try.prog 18 #[PlV a c p] w fun e w' => e = .returned (.bool (nOk p)) ∧ Below w.heap.size w w' := by
  have HS := Box.mk (show nOk p = (inR p.ms 1 1000000 && (inR p.num 0 1000000 && (inR p.den 1 1000000 && (inR p.hold 1 100 && inR p.win 1 1000000)))) from rfl)
  generalize nOk p = r at *
  obtain ⟨W, hW⟩ : ∃ W, W = w.alloc (.cells (PlC a c p) 24) := ⟨_, rfl⟩
  have HB := Box.mk (show Below w.heap.size w W by rw [hW]; exact below_oneF w _)
  have HV := Box.mk (show VarA W w.heap.size (PlC a c p) 24 by rw [hW]; exact VarA.new _ _ _)
  go_enter Try.func18, Try.ntmps18
  go_upto_region 1 with fail
  change Code.wp _ _ _ _ (w.alloc (.cells (PlC a c p) 24))
  rw [← hW]
  clear hW
  have c1 := HV.out.cell (i := 1) (v := .int .i64 p.ms) rfl
  have c2 := HV.out.cell (i := 2) (v := .int .i64 p.num) rfl
  have c3 := HV.out.cell (i := 3) (v := .int .i64 p.den) rfl
  have c4 := HV.out.cell (i := 4) (v := .int .i64 p.hold) rfl
  have c5 := HV.out.cell (i := 5) (v := .int .i64 p.win) rfl
  clear HV
  rcases inR_cases p.ms 1 1000000 with ⟨e0, _⟩ | ⟨e0, _⟩
  · skip
    rcases inR_cases p.num 0 1000000 with ⟨e1, _⟩ | ⟨e1, _⟩
    · skip
      rcases inR_cases p.den 1 1000000 with ⟨e2, _⟩ | ⟨e2, _⟩
      · skip
        rcases inR_cases p.hold 1 100 with ⟨e3, _⟩ | ⟨e3, _⟩
        · skip
          rcases inR_cases p.win 1 1000000 with ⟨e4, _⟩ | ⟨e4, _⟩
          · skip
            have HX := Box.mk (show true = r by rw [HS.out, e0, e1, e2, e3, e4]; rfl)
            clear HS
            go_wp2_with fail
            refine (pWithin_eq W e0).mono ?_
            rintro e w1 ⟨rfl, rfl⟩
            go_wp2_with fail
            refine (pWithin_eq W e1).mono ?_
            rintro e w1 ⟨rfl, rfl⟩
            go_wp2_with fail
            refine (pWithin_eq W e2).mono ?_
            rintro e w1 ⟨rfl, rfl⟩
            go_wp2_with fail
            refine (pWithin_eq W e3).mono ?_
            rintro e w1 ⟨rfl, rfl⟩
            go_wp2_with fail
            refine (pWithin_eq W e4).mono ?_
            rintro e w1 ⟨rfl, rfl⟩
            go_wp2_with fail
            go_ret
            exact ⟨ret_boolP HX.out, HB.out⟩
          · skip
            have HX := Box.mk (show false = r by rw [HS.out, e0, e1, e2, e3, e4]; rfl)
            clear HS
            go_wp2_with fail
            refine (pWithin_eq W e0).mono ?_
            rintro e w1 ⟨rfl, rfl⟩
            go_wp2_with fail
            refine (pWithin_eq W e1).mono ?_
            rintro e w1 ⟨rfl, rfl⟩
            go_wp2_with fail
            refine (pWithin_eq W e2).mono ?_
            rintro e w1 ⟨rfl, rfl⟩
            go_wp2_with fail
            refine (pWithin_eq W e3).mono ?_
            rintro e w1 ⟨rfl, rfl⟩
            go_wp2_with fail
            refine (pWithin_eq W e4).mono ?_
            rintro e w1 ⟨rfl, rfl⟩
            go_wp2_with fail
            go_ret
            exact ⟨ret_boolP HX.out, HB.out⟩
        · skip
          have HX := Box.mk (show false = r by rw [HS.out, e0, e1, e2, e3]; rfl)
          clear HS
          go_wp2_with fail
          refine (pWithin_eq W e0).mono ?_
          rintro e w1 ⟨rfl, rfl⟩
          go_wp2_with fail
          refine (pWithin_eq W e1).mono ?_
          rintro e w1 ⟨rfl, rfl⟩
          go_wp2_with fail
          refine (pWithin_eq W e2).mono ?_
          rintro e w1 ⟨rfl, rfl⟩
          go_wp2_with fail
          refine (pWithin_eq W e3).mono ?_
          rintro e w1 ⟨rfl, rfl⟩
          go_wp2_with fail
          go_ret
          exact ⟨ret_boolP HX.out, HB.out⟩
      · skip
        have HX := Box.mk (show false = r by rw [HS.out, e0, e1, e2]; rfl)
        clear HS
        go_wp2_with fail
        refine (pWithin_eq W e0).mono ?_
        rintro e w1 ⟨rfl, rfl⟩
        go_wp2_with fail
        refine (pWithin_eq W e1).mono ?_
        rintro e w1 ⟨rfl, rfl⟩
        go_wp2_with fail
        refine (pWithin_eq W e2).mono ?_
        rintro e w1 ⟨rfl, rfl⟩
        go_wp2_with fail
        go_ret
        exact ⟨ret_boolP HX.out, HB.out⟩
    · skip
      have HX := Box.mk (show false = r by rw [HS.out, e0, e1]; rfl)
      clear HS
      go_wp2_with fail
      refine (pWithin_eq W e0).mono ?_
      rintro e w1 ⟨rfl, rfl⟩
      go_wp2_with fail
      refine (pWithin_eq W e1).mono ?_
      rintro e w1 ⟨rfl, rfl⟩
      go_wp2_with fail
      go_ret
      exact ⟨ret_boolP HX.out, HB.out⟩
  · skip
    have HX := Box.mk (show false = r by rw [HS.out, e0]; rfl)
    clear HS
    go_wp2_with fail
    refine (pWithin_eq W e0).mono ?_
    rintro e w1 ⟨rfl, rfl⟩
    go_wp2_with fail
    go_ret
    exact ⟨ret_boolP HX.out, HB.out⟩
theorem pNumbers_eq {p : Pl} {a : Option Addr} {c : Nat} {r : Bool} (w : World) (hr : nOk p = r) :
    Calls Try.prog 18 #[PlV a c p] w fun e w' => e = .returned (.bool r) ∧ Below w.heap.size w w' := by subst hr; exact pNumbers_any p a c w

set_option maxRecDepth 10000 in
set_option maxHeartbeats 2000000 in
theorem pValidate_any (p : Pl) (a : Option Addr) (c : Nat) (w : World) (h : IsInts w a p.ws c) (hp : p.rng) :
    Calls Try.prog 8 #[PlV a c p] w fun e w' => e = .returned (.int .i64 (planE p)) ∧ Below w.heap.size w w' := by
  have HK := Box.mk (ok_parts p)
  have HE := Box.mk (show planE p = if p.ok = true then 0 else 8 from rfl)
  generalize planE p = r at *
  obtain ⟨W, hW⟩ : ∃ W, W = w.alloc (.cells (PlC a c p) 24) := ⟨_, rfl⟩
  have HB := Box.mk (show Below w.heap.size w W by rw [hW]; exact below_oneF w _)
  have HV := Box.mk (show VarA W w.heap.size (PlC a c p) 24 by rw [hW]; exact VarA.new _ _ _)
  have HI := Box.mk (h.keepP HB.out)
  clear h hp
  unfold PlV
  go_enter Try.func8, Try.ntmps8
  go_upto_region 1 with fail
  change Code.wp _ _ _ _ (w.alloc (.cells (PlC a c p) 24))
  rw [← hW]
  clear hW
  have c0 := HV.out.cell (i := 0) (v := .slice a p.ws.length c) rfl
  cases hw : wOk p.ws
  · have HX := Box.mk (show (8 : Int) = r by rw [HE.out, HK.out, hw]; rfl)
    clear HE HK HV
    go_wp2_with fail
    refine (pWeights_eq W HI.out hw).mono ?_
    rintro e w1 ⟨rfl, hb⟩
    have HB1 := Box.mk (below_trans HB.out hb)
    clear hb HI hw HB
    go_wp2_with fail
    go_ret
    exact ⟨ret_int HX.out, HB1.out⟩
  · have HX := Box.mk (show (if nOk p = true then (0 : Int) else 8) = r by rw [HE.out, HK.out, hw, Bool.true_and])
    clear HE HK
    go_wp2_with fail
    refine (pWeights_eq W HI.out hw).mono ?_
    rintro e w1 ⟨rfl, hb⟩
    have HB1 := Box.mk (below_trans HB.out hb)
    have HV1 := Box.mk (HV.out.keep hb)
    clear hb HI hw HB HV c0
    have c0 := HV1.out.cell (i := 0) (v := .slice a p.ws.length c) rfl
    have c1 := HV1.out.cell (i := 1) (v := .int .i64 p.ms) rfl
    have c2 := HV1.out.cell (i := 2) (v := .int .i64 p.num) rfl
    have c3 := HV1.out.cell (i := 3) (v := .int .i64 p.den) rfl
    have c4 := HV1.out.cell (i := 4) (v := .int .i64 p.hold) rfl
    have c5 := HV1.out.cell (i := 5) (v := .int .i64 p.win) rfl
    clear HV1
    cases hn : nOk p
    · have HX := Box.mk (show (8 : Int) = r by rw [← HX.out, hn]; rfl)
      go_wp2_with fail
      refine (pNumbers_eq w1 hn).mono ?_
      rintro e w2 ⟨rfl, hb⟩
      have HB2 := Box.mk (below_trans HB1.out hb)
      clear hb HB1 hn c0 c1 c2 c3 c4 c5
      go_wp2_with fail
      go_ret
      exact ⟨ret_int HX.out, HB2.out⟩
    · have HX := Box.mk (show (0 : Int) = r by rw [← HX.out, hn]; rfl)
      go_wp2_with fail
      refine (pNumbers_eq w1 hn).mono ?_
      rintro e w2 ⟨rfl, hb⟩
      have HB2 := Box.mk (below_trans HB1.out hb)
      clear hb HB1 hn c0 c1 c2 c3 c4 c5
      go_wp2_with fail
      go_ret
      exact ⟨ret_int HX.out, HB2.out⟩
theorem pValidate_eq0 {p : Pl} {a : Option Addr} {c : Nat} {r : Int} (w : World) (h : IsInts w a p.ws c) (hp : p.rng) (hr : planE p = r) :
    Calls Try.prog 8 #[PlV a c p] w fun e w' => e = .returned (.int .i64 r) ∧ Below w.heap.size w w' := by subst hr; exact pValidate_any p a c w h hp

set_option maxHeartbeats 2000000 in
theorem pWeight_any (p : Pl) (a : Option Addr) (c : Nat) (s : Int) (w : World) (h : IsInts w a p.ws c) (hp : p.rng) (hs : i64P s) :
    Calls Try.prog 12 #[PlV a c p, .int .i64 s] w fun e w' => e = .returned (.int .i64 (stageW p s)) ∧ Below w.heap.size w w' := by
  obtain ⟨r, hr⟩ : ∃ r, r = stageW p s := ⟨_, rfl⟩
  have HR := Box.mk hr
  rw [← hr]
  have HP := Box.mk hp
  clear hr hp hs
  obtain ⟨W, hW⟩ : ∃ W, W = w.alloc (.cells (PlC a c p) 24) := ⟨_, rfl⟩
  have HB := Box.mk (show Below w.heap.size w W by rw [hW]; exact below_oneF w _)
  have HV := Box.mk (show VarA W w.heap.size (PlC a c p) 24 by rw [hW]; exact VarA.new _ _ _)
  have HI := Box.mk (h.keepP HB.out)
  clear h
  unfold PlV
  go_enter Try.func12, Try.ntmps12
  go_wp2_with fail
  change Calls _ _ #[PlV a c p] (w.alloc (.cells (PlC a c p) 24)) _
  rw [← hW]
  clear hW
  cases hk : p.ok
  · have HX := Box.mk (show (0 : Int) = r by rw [HR.out, stageW_no s (by rw [hk]; simp)])
    refine (pValidate_eq0 W HI.out HP.out (planE_no hk)).mono ?_
    rintro e w1 ⟨rfl, hb⟩
    have HB1 := Box.mk (below_trans HB.out hb)
    clear hb HR hk
    go_wp2_with fail
    go_ret
    exact ⟨ret_int HX.out, HB1.out⟩
  · have HNUM := Box.mk (Pl.ok_nums hk)
    refine (pValidate_eq0 W HI.out HP.out (planE_ok hk)).mono ?_
    rintro e w1 ⟨rfl, hb⟩
    have HB1 := Box.mk (below_trans HB.out hb)
    have HV1 := Box.mk (HV.out.keep hb)
    have HI1 := Box.mk (HI.out.keepP hb)
    have c0 := HV1.out.cell (i := 0) (v := .slice a p.ws.length c) rfl
    have hn1 : 1 ≤ p.ws.length := by have := HNUM.out; unfold Pl.nums at this; omega
    have hn8 : p.ws.length ≤ 8 := by have := HNUM.out; unfold Pl.nums at this; omega
    clear hb HV HI HB HNUM HP
    rcases inR_cases s 0 ((p.ws.length : Int) - 1) with ⟨hin, HN⟩ | ⟨hin, HN⟩
    · obtain ⟨k, rfl⟩ : ∃ k : Nat, s = k := ⟨s.toNat, by have := HN.out.1; omega⟩
      have hk' : k < p.ws.length := by have := HN.out.2; omega
      obtain ⟨x, rfl, hc⟩ := HI1.out.at hk'
      have hck := hc k hk'
      have HX := Box.mk (show p.ws.getD k 0 = r by rw [HR.out]; unfold stageW; rw [if_pos ⟨hk, by omega, by omega⟩]; rfl)
      generalize p.ws.getD k 0 = v at *
      clear HR hc hk HN
      go_wp2_with fail
      refine (pWithin_eq w1 hin).mono ?_
      rintro e w2 ⟨rfl, rfl⟩
      clear hin
      go_wp2_with fail
      go_ret
      exact ⟨ret_int HX.out, HB1.out⟩
    · have HX := Box.mk (show (0 : Int) = r by rw [HR.out, stageW_no s (fun h => HN.out ⟨h.2.1, by have := h.2.2; omega⟩)])
      clear HR hk HN
      go_wp2_with fail
      refine (pWithin_eq w1 hin).mono ?_
      rintro e w2 ⟨rfl, rfl⟩
      clear hin
      go_wp2_with fail
      go_ret
      exact ⟨ret_int HX.out, HB1.out⟩

set_option maxHeartbeats 4000000 in
theorem pVerdict_any (p : Pl) (a : Option Addr) (c : Nat) (v : Wn) (w : World) (h : IsInts w a p.ws c) (hp : p.rng) (hv : v.rng) :
    Calls Try.prog 14 #[PlV a c p, .agg v.cells] w fun e w' => e = .returned (.int .i64 (verdV p v)) ∧ Below w.heap.size w w' := by
  obtain ⟨r, hr⟩ : ∃ r, r = verdV p v := ⟨_, rfl⟩
  have HR := Box.mk hr
  rw [← hr]
  have HP := Box.mk hp
  clear hr hp hv
  obtain ⟨tot, err, age⟩ := v
  unfold Wn.cells
  obtain ⟨W, hW⟩ : ∃ W, W = (w.alloc (.cells (PlC a c p) 24)).alloc (.cells #[.int .i64 tot, .int .i64 err, .int .i64 age] 37) := ⟨_, rfl⟩
  have HB := Box.mk (show Below w.heap.size w W by rw [hW]; exact below_twoF (below_oneF w _) _)
  have HV := Box.mk (show VarA W w.heap.size (PlC a c p) 24 by rw [hW]; exact (VarA.new _ _ _).below _)
  have HU := Box.mk (show VarA W (w.heap.size + 1) #[.int .i64 tot, .int .i64 err, .int .i64 age] 37 by rw [hW]; have := VarA.new (w.alloc (.cells (PlC a c p) 24)) #[.int .i64 tot, .int .i64 err, .int .i64 age] 37; rw [World.size_alloc] at this; exact this)
  have HI := Box.mk (h.keepP HB.out)
  clear h
  unfold PlV
  go_enter Try.func14, Try.ntmps14
  go_wp2_with fail
  change Calls _ _ #[PlV a c p] ((w.alloc (.cells (PlC a c p) 24)).alloc (.cells #[.int .i64 tot, .int .i64 err, .int .i64 age] 37)) _
  rw [← hW]
  clear hW
  cases hk : p.ok
  · have HX := Box.mk (show (0 : Int) = r by rw [HR.out, verdV_no (by rw [hk]; simp)])
    refine (pValidate_eq0 W HI.out HP.out (planE_no hk)).mono ?_
    rintro e w1 ⟨rfl, hb⟩
    have HB1 := Box.mk (below_trans HB.out hb)
    clear hb HR hk
    go_wp2_with fail
    go_ret
    exact ⟨ret_int HX.out, HB1.out⟩
  · refine (pValidate_eq0 W HI.out HP.out (planE_ok hk)).mono ?_
    rintro e w1 ⟨rfl, hb⟩
    have HB1 := Box.mk (below_trans HB.out hb)
    have HV1 := Box.mk (HV.out.keep hb)
    have HU1 := Box.mk (HU.out.keep hb)
    have c1 := HV1.out.cell (i := 1) (v := .int .i64 p.ms) rfl
    have c2 := HV1.out.cell (i := 2) (v := .int .i64 p.num) rfl
    have c3 := HV1.out.cell (i := 3) (v := .int .i64 p.den) rfl
    have u0 := HU1.out.cell (i := 0) (v := .int .i64 tot) rfl
    have u1 := HU1.out.cell (i := 1) (v := .int .i64 err) rfl
    have HNUM := Box.mk (Pl.ok_nums hk)
    have HK := Box.mk hk
    clear hb HV HI HB HU hk HP HV1 HU1
    rcases inR_cases tot 0 1000000000 with ⟨ht, HT⟩ | ⟨ht, HT⟩
    · rcases inR_cases err 0 1000000000 with ⟨he, HE⟩ | ⟨he, HE⟩
      · have HF := Box.mk (show Wn.fits ⟨tot, err, age⟩ by unfold Wn.fits; have h1 := HT.out; have h2 := HE.out; simp only; omega)
        have HE := Box.mk (HR.out.trans (verdV_yes HK.out HF.out))
        have HM1 := Box.mk (mul_small HF.out.2.2.1 HF.out.2.2.2 (show 0 ≤ p.den from by have := HNUM.out; unfold Pl.nums at this; omega) (show p.den ≤ 1000000 from by have := HNUM.out; unfold Pl.nums at this; omega))
        have HM2 := Box.mk (mul_small HF.out.1 HF.out.2.1 (show 0 ≤ p.num from by have := HNUM.out; unfold Pl.nums at this; omega) (show p.num ≤ 1000000 from by have := HNUM.out; unfold Pl.nums at this; omega))
        clear HR HF HK HT HNUM
        by_cases h5 : tot < p.ms
        · have HX := Box.mk (show (1 : Int) = r by rw [HE.out, if_pos h5])
          clear HE HM1 HM2
          go_wp2_with fail
          refine (pWithin_eq w1 ht).mono ?_
          rintro e w2 ⟨rfl, rfl⟩
          clear ht
          go_wp2_with fail
          refine (pWithin_eq w1 he).mono ?_
          rintro e w2 ⟨rfl, rfl⟩
          clear he
          go_wp2_with fail
          go_ret
          exact ⟨ret_int HX.out, HB1.out⟩
        · have w1e : wrap64 (err * p.den) = err * p.den := by have := HM1.out; simp only at this; simp only [wrap64]; omega
          have w2e : wrap64 (p.num * tot) = p.num * tot := by have := HM2.out; simp only at this; rw [Int.mul_comm] at this; simp only [wrap64]; omega
          have HX := Box.mk (show (if p.num * tot < err * p.den then (3 : Int) else 2) = r by rw [HE.out, if_neg h5])
          clear HE HM1 HM2
          go_wp2_with fail
          refine (pWithin_eq w1 ht).mono ?_
          rintro e w2 ⟨rfl, rfl⟩
          clear ht
          go_wp2_with fail
          refine (pWithin_eq w1 he).mono ?_
          rintro e w2 ⟨rfl, rfl⟩
          clear he
          by_cases h6 : p.num * tot < err * p.den
          · have HX := Box.mk (show (3 : Int) = r by rw [← HX.out, if_pos h6])
            have d6 := decide_eq_true h6
            go_wp2_with fail
            go_ret
            exact ⟨ret_int HX.out, HB1.out⟩
          · have HX := Box.mk (show (2 : Int) = r by rw [← HX.out, if_neg h6])
            have d6 := decide_eq_false h6
            go_wp2_with fail
            go_ret
            exact ⟨ret_int HX.out, HB1.out⟩
      · have HX := Box.mk (show (0 : Int) = r by rw [HR.out, verdV_no (fun h => HE.out (by have := h.2; unfold Wn.fits at this; simp only at this; omega))])
        clear HR HE HK HT HNUM c1 c2 c3
        go_wp2_with fail
        refine (pWithin_eq w1 ht).mono ?_
        rintro e w2 ⟨rfl, rfl⟩
        clear ht
        go_wp2_with fail
        refine (pWithin_eq w1 he).mono ?_
        rintro e w2 ⟨rfl, rfl⟩
        clear he
        go_wp2_with fail
        go_ret
        exact ⟨ret_int HX.out, HB1.out⟩
    · have HX := Box.mk (show (0 : Int) = r by rw [HR.out, verdV_no (fun h => HT.out (by have := h.2; unfold Wn.fits at this; simp only at this; omega))])
      clear HR HK HT HNUM c1 c2 c3
      go_wp2_with fail
      refine (pWithin_eq w1 ht).mono ?_
      rintro e w2 ⟨rfl, rfl⟩
      clear ht
      go_wp2_with fail
      go_ret
      exact ⟨ret_int HX.out, HB1.out⟩
end Go.Proofs.Ytlcegpjpgmpnbaa
namespace Go.Proofs.Ytlcegpjpgmpnbaa
open Go.RowKit
set_option linter.unusedSimpArgs false

theorem pValidate_eq {p : Pl} {a : Option Addr} {c : Nat} {r : Int} (w : World) (h : IsInts w a p.ws c) (hp : p.rng) (hr : planE p = r) :
    Calls Try.prog 8 #[PlV a c p] w fun e w' => e = .returned (.int .i64 r) ∧ Below w.heap.size w w' := by subst hr; exact pValidate_any p a c w h hp
theorem pWeight_eq {p : Pl} {a : Option Addr} {c : Nat} {s r : Int} (w : World) (h : IsInts w a p.ws c) (hp : p.rng) (hs : i64P s) (hr : stageW p s = r) :
    Calls Try.prog 12 #[PlV a c p, .int .i64 s] w fun e w' => e = .returned (.int .i64 r) ∧ Below w.heap.size w w' := by subst hr; exact pWeight_any p a c s w h hp hs
theorem pVerdict_eq {p : Pl} {a : Option Addr} {c : Nat} {v : Wn} {r : Int} (w : World) (h : IsInts w a p.ws c) (hp : p.rng) (hv : v.rng) (hr : verdV p v = r) :
    Calls Try.prog 14 #[PlV a c p, .agg v.cells] w fun e w' => e = .returned (.int .i64 r) ∧ Below w.heap.size w w' := by subst hr; exact pVerdict_any p a c v w h hp hv

def awP : Pl := ⟨[10], 10, 1, 100, 1, 5⟩
theorem awP_ok : awP.ok = true := by decide
theorem awP_rng : awP.rng := by unfold Pl.rng awP i64P; simp only; omega

set_option maxRecDepth 10000 in
set_option maxHeartbeats 2000000 in
theorem plAwake_any (w : World) : Calls Try.prog 11 #[] w fun e w' => e = .returned (.bool true) ∧ Below w.heap.size w w' := by
  obtain ⟨W, hW⟩ : ∃ W, W = (w.alloc (.cells #[.int .i64 10] 3)).alloc (.cells (PlC (some ⟨w.heap.size, 0, none⟩) 1 awP) 24) := ⟨_, rfl⟩
  have HB := Box.mk (show Below w.heap.size w W by rw [hW]; exact below_twoF (below_oneF w _) _)
  have HI := Box.mk (show IsInts W (some ⟨w.heap.size, 0, none⟩) awP.ws 1 by rw [hW]; exact (isInts_one w 10 (by unfold i64P; omega) 3).keepP (below_oneF _ _))
  have HV := Box.mk (show VarA W (w.heap.size + 1) (PlC (some ⟨w.heap.size, 0, none⟩) 1 awP) 24 by rw [hW]; have := VarA.new (w.alloc (.cells #[.int .i64 10] 3)) (PlC (some ⟨w.heap.size, 0, none⟩) 1 awP) 24; rw [World.size_alloc] at this; exact this)
  have hcell : ∀ w' : World, VarA w' (w.heap.size + 1) (PlC (some ⟨w.heap.size, 0, none⟩) 1 awP) 24 → w'.cell? ⟨w.heap.size + 1, 0, none⟩ = some (.slice (some ⟨w.heap.size, 0, none⟩) 1 1) ∧ w'.cell? ⟨w.heap.size + 1, 1, none⟩ = some (.int .i64 10) ∧ w'.cell? ⟨w.heap.size + 1, 2, none⟩ = some (.int .i64 1) ∧ w'.cell? ⟨w.heap.size + 1, 3, none⟩ = some (.int .i64 100) ∧ w'.cell? ⟨w.heap.size + 1, 4, none⟩ = some (.int .i64 1) ∧ w'.cell? ⟨w.heap.size + 1, 5, none⟩ = some (.int .i64 5) := fun w' h => ⟨h.cell rfl, h.cell rfl, h.cell rfl, h.cell rfl, h.cell rfl, h.cell rfl⟩
  have HCELL := Box.mk hcell
  clear hcell
  go_enter Try.func11, Try.ntmps11
  go_upto_region 2 with fail
  change Code.wp _ _ _ _ ((w.alloc (.cells #[.int .i64 10] 3)).alloc (.cells (PlC (some ⟨w.heap.size, 0, none⟩) 1 awP) 24))
  rw [← hW]
  clear hW
  obtain ⟨c0, c1, c2, c3, c4, c5⟩ := HCELL.out _ HV.out
  go_wp2_with fail
  refine (pValidate_eq (p := awP) W HI.out awP_rng (planE_ok awP_ok)).mono ?_
  rintro e w1 ⟨rfl, hb⟩
  have HB1 := Box.mk (below_trans HB.out hb)
  have HI1 := Box.mk (HI.out.keepP hb)
  have HV1 := Box.mk (HV.out.keep hb)
  clear hb HB HI HV c0 c1 c2 c3 c4 c5
  obtain ⟨c0, c1, c2, c3, c4, c5⟩ := HCELL.out _ HV1.out
  go_wp2_with fail
  refine (pWeight_eq (p := awP) (r := 10) w1 HI1.out awP_rng (by unfold i64P; omega) (by decide)).mono ?_
  rintro e w2 ⟨rfl, hb⟩
  have HB2 := Box.mk (below_trans HB1.out hb)
  have HI2 := Box.mk (HI1.out.keepP hb)
  have HV2 := Box.mk (HV1.out.keep hb)
  clear hb HB1 HI1 HV1 c0 c1 c2 c3 c4 c5
  obtain ⟨c0, c1, c2, c3, c4, c5⟩ := HCELL.out _ HV2.out
  go_wp2_with fail
  refine (pVerdict_eq (p := awP) (v := ⟨100, 1, 0⟩) (r := 2) w2 HI2.out awP_rng (by unfold Wn.rng i64P; simp only; omega) (by decide)).mono ?_
  rintro e w3 ⟨rfl, hb⟩
  have HB3 := Box.mk (below_trans HB2.out hb)
  have HI3 := Box.mk (HI2.out.keepP hb)
  have HV3 := Box.mk (HV2.out.keep hb)
  clear hb HB2 HI2 HV2 c0 c1 c2 c3 c4 c5
  obtain ⟨c0, c1, c2, c3, c4, c5⟩ := HCELL.out _ HV3.out
  go_wp2_with fail
  refine (pVerdict_eq (p := awP) (v := ⟨100, 2, 0⟩) (r := 3) w3 HI3.out awP_rng (by unfold Wn.rng i64P; simp only; omega) (by decide)).mono ?_
  rintro e w4 ⟨rfl, hb⟩
  have HB4 := Box.mk (below_trans HB3.out hb)
  have HI4 := Box.mk (HI3.out.keepP hb)
  have HV4 := Box.mk (HV3.out.keep hb)
  clear hb HB3 HI3 HV3 c0 c1 c2 c3 c4 c5
  obtain ⟨c0, c1, c2, c3, c4, c5⟩ := HCELL.out _ HV4.out
  go_wp2_with fail
  refine (pVerdict_eq (p := awP) (v := ⟨9, 0, 0⟩) (r := 1) w4 HI4.out awP_rng (by unfold Wn.rng i64P; simp only; omega) (by decide)).mono ?_
  rintro e w5 ⟨rfl, hb⟩
  have HB5 := Box.mk (below_trans HB4.out hb)
  clear hb HB4 HI4 HV4 c0 c1 c2 c3 c4 c5
  go_wp2_with fail
  go_ret
  exact ⟨rfl, HB5.out⟩
end Go.Proofs.Ytlcegpjpgmpnbaa
namespace Go.Proofs.Ytlcegpjpgmpnbaa
open Go.RowKit

section
variable {P : Program} {Q : Exit → Act → World → Prop} {act : Act} {w : World} {o : Oper} {s : Spec}
theorem run_loadVar_rowG (w : World) (p : Addr) (ty : TypeId) (cs : Array Value) (d : TypeDesc) (hc : ∀ (j : Nat) (v : Value), cs[j]? = some v → w.cell? (p.add j) = some v)
    (hu : P.underlying ty = some d) (hd : (match d with | .struct _ | .array _ _ => true | _ => false) = true) (hi : (P.info? ty).map (·.size) = some cs.size) :
    (loadVar ty p).run P w = .ok (.agg cs) w := by
  have hl : (loadCells p cs.toList.length).run P w = .ok cs.toList.toArray w :=
    run_loadCells_list (P := P) w p cs.toList (fun j v hv => hc j v (by simpa using hv))
  cases hq : P.info? ty with
  | none => simp [hq] at hi
  | some i =>
    have hs : i.size = cs.size := by simpa [hq] using hi
    have hagg : (isAgg ty).run P w = .ok true w := by
      unfold isAgg
      rw [Sem.run_bind, run_underlying hu w]
      cases d <;> simp_all
    simp only [Array.length_toList, Array.toArray_toList] at hl
    simp [loadVar, Sem.run_bind, hagg, sizeOf, typeInfo, hq, hs, hl]
/-- A struct, loaded from where its cells are. -/
theorem loc_load_rowG {x : Operand} {ty : TypeId} (ho : o.op = .load ty x) {p : Addr} {cs : Array Value} {d : TypeDesc} (hx : act.eval x = .pointer (some p)) (hc : ∀ (j : Nat) (v : Value), cs[j]? = some v → w.cell? (p.add j) = some v)
    (hu : P.underlying ty = some d) (hd : (match d with | .struct _ | .array _ _ => true | _ => false) = true) (hi : (P.info? ty).map (·.size) = some cs.size) (hs : s.p (.agg cs) w) :
    o.wp P act w (fun a' w' => ∃ v, a' = act.put o.dst v ∧ Below w.heap.size w w' ∧ s.p v w') Q :=
  loc_load ho (v := .agg cs) (by rw [hx]; simp only [Instr.loadAt, Instr.sureAddr, Sem.run_bind, Sem.run_pure, Result.andThen_ok, run_loadVar_rowG w p ty cs d hc hu hd hi]) hs
end
end Go.Proofs.Ytlcegpjpgmpnbaa
namespace Go.Proofs.Ytlcegpjpgmpnbaa
open Go.RowKit
set_option linter.unusedSimpArgs false

theorem asc_at {l : List Int} : ∀ {n : Nat}, ascK l n = true → ∀ k, k < n → 1 ≤ l.getD k 0 ∧ l.getD k 0 ≤ 10000 ∧ (k = 0 ∨ l.getD (k - 1) 0 < l.getD k 0)
  | 0, _, k, hk => absurd hk (Nat.not_lt_zero _)
  | n + 1, h, k, hk => by
    rw [ascK_succ] at h
    simp only [Bool.and_eq_true, Bool.or_eq_true, decide_eq_true_eq] at h
    rcases Nat.lt_or_ge k n with h1 | h1
    · exact asc_at h.1 k h1
    · obtain rfl : k = n := by omega
      exact ⟨h.2.1.1, h.2.1.2, h.2.2⟩
theorem stage_facts (p : Pl) (s : Int) : stageW p s = 0 ∨ (1 ≤ stageW p s ∧ stageW p s ≤ 10000 ∧ 0 ≤ s ∧ s ≤ 8 ∧ (s = 0 ∨ stageW p (s - 1) < stageW p s)) := by
  by_cases h : p.ok = true ∧ 0 ≤ s ∧ s < p.ws.length
  · right
    have hn := Pl.ok_nums h.1
    have ha : ascK p.ws p.ws.length = true := by have := h.1; unfold Pl.ok at this; rw [Bool.and_eq_true] at this; exact this.2
    obtain ⟨k, rfl⟩ : ∃ k : Nat, s = k := ⟨s.toNat, by omega⟩
    have hk : k < p.ws.length := by omega
    have f := asc_at ha k hk
    have e : stageW p k = p.ws.getD k 0 := by unfold stageW; rw [if_pos h]; rfl
    unfold Pl.nums at hn
    rw [e]
    refine ⟨f.1, f.2.1, h.2.1, by omega, ?_⟩
    rcases f.2.2 with h0 | h0
    · left; omega
    · by_cases hz : k = 0
      · left; omega
      · right
        have e2 : stageW p ((k : Int) - 1) = p.ws.getD (k - 1) 0 := by
          unfold stageW
          rw [if_pos ⟨h.1, by omega, by omega⟩]
          congr 1; omega
        rw [e2]; exact h0
  · exact .inl (stageW_no s h)
theorem Pl.small.rng {p : Pl} (h : p.small) : p.rng := by
  unfold Pl.small at h
  unfold Pl.rng i64P
  omega
/-- A variable holds a plan. -/
def PlVar (w : World) (g : Nat) (p : Pl) : Prop := ∃ a c, VarA w g (PlC a c p) 24 ∧ IsInts w a p.ws c
theorem PlVar.keep {w w' : World} {g : Nat} {p : Pl} (h : PlVar w g p) (hb : Below w.heap.size w w') : PlVar w' g p := by
  obtain ⟨a, c, h1, h2⟩ := h
  exact ⟨a, c, h1.keep hb, h2.keepP hb⟩
theorem srcPlan_box (a : Option Addr) (n c : Nat) (w : World) (h : IntsF w a n) (hn : n ≤ maxLen) :
    Calls Try.prog 7 #[.pointer (some ⟨w.heap.size, 0, none⟩)] (w.alloc (.cells #[.slice a n c, .int .i64 0] 27)) fun e w' => ∃ (p : Pl) (a' : Option Addr) (c' : Nat), e = .returned (PlV a' c' p) ∧ p.ok = true ∧ p.small ∧ IsInts w' a' p.ws c' ∧ (∀ x, a' = some x → w.heap.size ≤ x.block) ∧ Below w.heap.size w w' := by
  refine (srcPlan_any w.heap.size a n c _ (src_box h hn)).mono ?_
  rintro e w' ⟨p, a', c', h1, h2, h3, h4, h5, _, h6⟩
  refine ⟨p, a', c', h1, h2, h3, h4, fun x e => ?_, below_box (below_oneF w _) h6⟩
  have := h5 x e
  simp at this; omega

set_option maxRecDepth 10000 in
set_option maxHeartbeats 4000000 in
theorem planWeight_any (la : Option Addr) (ln lc : Nat) (rp : Pl) (ra : Option Addr) (rc : Nat) (stage : Int) (wild : Bool) (w : World) (hl : IntsF w la ln) (hn : ln ≤ maxLen) (hr : IsInts w ra rp.ws rc) (hrng : rp.rng) (hst : i64P stage) :
    Calls Try.prog 4 #[.slice la ln lc, PlV ra rc rp, .int .i64 stage, .bool wild] w fun e w' => e = .returned (.bool true) ∧ Below w.heap.size w w' := by
  obtain ⟨W, hW⟩ : ∃ W, W = (w.alloc (.cells (PlC ra rc rp) 24)).alloc (.cells (PlC ra rc rp) 24) := ⟨_, rfl⟩
  have HB := Box.mk (show Below w.heap.size w W by rw [hW]; exact below_twoF (below_oneF w _) _)
  have HV := Box.mk (show VarA W (w.heap.size + 1) (PlC ra rc rp) 24 by rw [hW]; have := VarA.new (w.alloc (.cells (PlC ra rc rp) 24)) (PlC ra rc rp) 24; rw [World.size_alloc] at this; exact this)
  have HI := Box.mk (And.intro hr (And.intro hl (And.intro hrng hst)))
  have HN := Box.mk hn
  clear hr hl hrng hst hn
  unfold PlV
  go_enter Try.func4, Try.ntmps4
  go_upto_region 2 with fail
  change Code.wp _ _ _ _ ((w.alloc (.cells (PlC ra rc rp) 24)).alloc (.cells (PlC ra rc rp) 24))
  rw [← hW]
  clear hW
  go_upto_if 13 with fail
  go_cut [2] (fun s wx => ∃ (p : Pl) (st : Int), s = .int .i64 st ∧ Box (PlVar wx (w.heap.size + 1) p ∧ p.rng ∧ i64P st ∧ Below w.heap.size w wx))
  case first =>
    cases wild
    · obtain ⟨k, hk, hwk⟩ := withI_range stage 11 (by decide) (by decide)
      have HWK := Box.mk hwk
      clear hwk
      go_wp2_with fail
      refine (srcPlan_box la ln lc W (HI.out.2.1.keep HB.out) HN.out).mono ?_
      rintro e w1 ⟨p, a', c', rfl, hok, hsm, hin, hfr, hb⟩
      have HB1 := Box.mk (below_trans HB.out hb)
      have HV1 := Box.mk (HV.out.keep hb)
      have HP1 := Box.mk (And.intro hsm (And.intro hin hfr))
      have HSZ := Box.mk (And.intro HB.out.size HV.out.lt)
      clear hok hsm hin hfr hb HB HV HI
      go_wp2_with fail
      refine (withinF stage 11 _ (by decide) (by decide)).mono ?_
      rintro e w2 ⟨he, rfl⟩
      rw [HWK.out] at he
      subst he
      go_wp2_with (refine wpList_store_row rfl 24 _ _ rfl (w.heap.size + 1) (PlC a' c' p) rfl rfl 24 _ HV1.out sizePlan rfl (onePl ..) ?_)
      go_meet
      refine ⟨p, (k : Int) - 1, rfl, ⟨⟨a', c', setRow_heap _ _ _ _ _ _ HV1.out, ?_⟩, HP1.out.1.rng, by unfold i64P; omega, below_setRow HB1.out (by omega) _⟩⟩
      rcases HP1.out.2.1 with h | ⟨x, h1, h2, h3, h4⟩
      · exact .inl h
      · exact .inr ⟨x, h1, h2, h3, fun i hi => ⟨by rw [cell_setRow_other _ _ _ _ (by rw [add_blockF]; have := HP1.out.2.2 x h1; have := HSZ.out; omega)]; exact (h4 i hi).1, (h4 i hi).2⟩⟩
    · go_wp2_with fail
      go_meet
      exact ⟨rp, stage, rfl, ⟨⟨ra, rc, HV.out, HI.out.1.keepP HB.out⟩, HI.out.2.2.1, HI.out.2.2.2, HB.out⟩⟩
  case rest =>
    obtain ⟨p, st, rfl, HC⟩ := hcut
    clear HB HV HI HN
    have HRNG := Box.mk HC.out.2.1
    have HST := Box.mk HC.out.2.2.1
    have HBC := Box.mk HC.out.2.2.2
    obtain ⟨a, c, hv, hin⟩ := HC.out.1
    have HVC := Box.mk hv
    have HIC := Box.mk hin
    clear hv hin HC
    have HF := Box.mk (stage_facts p st)
    obtain ⟨n, hnn⟩ : ∃ n, n = stageW p st := ⟨_, rfl⟩
    rw [← hnn] at HF
    have HNN := Box.mk hnn.symm
    clear hnn
    have HCELL := Box.mk (fun (w' : World) (h : VarA w' (w.heap.size + 1) (PlC a c p) 24) => show w'.cell? ⟨w.heap.size + 1, 0, none⟩ = some (.slice a p.ws.length c) ∧ w'.cell? ⟨w.heap.size + 1, 1, none⟩ = some (.int .i64 p.ms) ∧ w'.cell? ⟨w.heap.size + 1, 2, none⟩ = some (.int .i64 p.num) ∧ w'.cell? ⟨w.heap.size + 1, 3, none⟩ = some (.int .i64 p.den) ∧ w'.cell? ⟨w.heap.size + 1, 4, none⟩ = some (.int .i64 p.hold) ∧ w'.cell? ⟨w.heap.size + 1, 5, none⟩ = some (.int .i64 p.win) from ⟨h.cell rfl, h.cell rfl, h.cell rfl, h.cell rfl, h.cell rfl, h.cell rfl⟩)
    obtain ⟨c0, c1, c2, c3, c4, c5⟩ := HCELL.out _ HVC.out
    go_wp2_with fail
    refine (pWeight_eq (p := p) wc HIC.out HRNG.out HST.out HNN.out).mono ?_
    rintro e w1 ⟨rfl, hb⟩
    have HB1 := Box.mk (below_trans HBC.out hb)
    have HV1 := Box.mk (HVC.out.keep hb)
    have HI1 := Box.mk (HIC.out.keepP hb)
    clear hb HBC HVC HIC c0 c1 c2 c3 c4 c5
    obtain ⟨c0, c1, c2, c3, c4, c5⟩ := HCELL.out _ HV1.out
    go_wp2_with fail
    refine (refStageWeight_any p a c st w1 HI1.out).mono ?_
    rintro e w2 ⟨he, hb⟩
    rw [HNN.out] at he
    subst he
    have HB2 := Box.mk (below_trans HB1.out hb)
    have HV2 := Box.mk (HV1.out.keep hb)
    have HI2 := Box.mk (HI1.out.keepP hb)
    clear hb HB1 HV1 HI1 c0 c1 c2 c3 c4 c5
    rcases HF.out with h0 | ⟨h1, h2, h3, h4, h5⟩
    · subst h0
      go_wp2_with fail
      refine (plAwake_any w2).mono ?_
      rintro e w3 ⟨rfl, hb⟩
      have HB3 := Box.mk (below_trans HB2.out hb)
      clear hb
      go_wp2_with fail
      go_ret
      exact ⟨rfl, HB3.out⟩
    · have d1 : decide (0 ≤ n) = true := decide_eq_true (by omega)
      have d2 := decide_eq_true h2
      have dz := beq_i_no (show ¬ n = 0 by omega)
      by_cases hz : st = 0
      · have ds := beq_i_yes hz
        clear hz h5
        go_wp2_with fail
        refine (plAwake_any w2).mono ?_
        rintro e w3 ⟨rfl, hb⟩
        have HB3 := Box.mk (below_trans HB2.out hb)
        clear hb
        go_wp2_with fail
        go_ret
        exact ⟨rfl, HB3.out⟩
      · have ds := beq_i_no hz
        have h6 : stageW p (st - 1) < n := by rw [← HNN.out]; rw [HNN.out]; exact (h5.resolve_left hz)
        obtain ⟨c0, c1, c2, c3, c4, c5⟩ := HCELL.out _ HV2.out
        obtain ⟨m, hm⟩ : ∃ m, stageW p (st - 1) = m := ⟨_, rfl⟩
        rw [hm] at h6
        have HM := Box.mk hm
        have d6 := decide_eq_true h6
        clear h5 hz hm
        go_wp2_with fail
        refine (pWeight_eq (p := p) w2 HI2.out HRNG.out (by unfold i64P; omega) HM.out).mono ?_
        rintro e w3 ⟨rfl, hb⟩
        have HB3 := Box.mk (below_trans HB2.out hb)
        clear hb c0 c1 c2 c3 c4 c5
        go_wp2_with fail
        refine (plAwake_any w3).mono ?_
        rintro e w4 ⟨rfl, hb⟩
        have HB4 := Box.mk (below_trans HB3.out hb)
        clear hb
        go_wp2_with fail
        go_ret
        exact ⟨rfl, HB4.out⟩
end Go.Proofs.Ytlcegpjpgmpnbaa
namespace Go.Proofs.Ytlcegpjpgmpnbaa
open Go.RowKit
set_option linter.unusedSimpArgs false

theorem PlVar.set {w : World} {g : Nat} {p : Pl} {a : Option Addr} {c : Nat} {old : Array Value} (h : VarA w g old 24) (hi : IsInts w a p.ws c) (hne : ∀ x, a = some x → x.block ≠ g) : PlVar (w.setRow g (PlC a c p)) g p := by
  refine ⟨a, c, setRow_heap _ _ _ _ _ _ h, ?_⟩
  rcases hi with h | ⟨x, h1, h2, h3, h4⟩
  · exact .inl h
  · exact .inr ⟨x, h1, h2, h3, fun i hi => ⟨by rw [cell_setRow_other _ _ _ _ (by rw [add_blockF]; exact hne x h1)]; exact (h4 i hi).1, (h4 i hi).2⟩⟩
/-- A slot holds the plan p. -/
def Spec.plan (p : Pl) : Spec := ⟨fun v w => ∃ a c, v = PlV a c p ∧ IsInts w a p.ws c, fun _ _ _ h hb => by obtain ⟨a, c, h1, h2⟩ := h; exact ⟨a, c, h1, h2.keepP hb⟩⟩
theorem pVerdict_v (p : Pl) (v : Wn) (r : Int) (x y : Value) (w : World) (hx : (Spec.plan p).p x w) (hy : y = .agg v.cells) (hp : p.rng) (hv : v.rng) (hr : verdV p v = r) :
    Calls Try.prog 14 #[x, y] w fun e w' => ∃ v', e = .returned v' ∧ Below w.heap.size w w' ∧ v' = .int .i64 r := by
  obtain ⟨a, c, rfl, hi⟩ := hx
  subst hy
  refine (pVerdict_eq w hi hp hv hr).mono ?_
  rintro e w' ⟨rfl, hb⟩
  exact ⟨_, rfl, hb, rfl⟩
theorem refVerdict_v (p : Pl) (v : Wn) (r : Int) (x y : Value) (w : World) (hx : (Spec.plan p).p x w) (hy : y = .agg v.cells) (hr : verdV p v = r) :
    Calls Try.prog 15 #[x, y] w fun e w' => ∃ v', e = .returned v' ∧ Below w.heap.size w w' ∧ v' = .int .i64 r := by
  obtain ⟨a, c, rfl, hi⟩ := hx
  subst hy hr
  refine (refVerdict_any p a c v w hi).mono ?_
  rintro e w' ⟨rfl, hb⟩
  exact ⟨_, rfl, hb, rfl⟩
theorem plAwake_v (w : World) : Calls Try.prog 11 #[] w fun e w' => ∃ v', e = .returned v' ∧ Below w.heap.size w w' ∧ v' = .bool true := by
  refine (plAwake_any w).mono ?_
  rintro e w' ⟨rfl, hb⟩
  exact ⟨_, rfl, hb, rfl⟩
theorem withinS (z : Int) (k : Nat) (w : World) (hk : k ≤ 100000) :
    Calls Try.prog 9 #[.int .i64 z, .int .i64 ((k : Int) + 1)] w fun e w' => e = .returned (.int .i64 (withI z (k + 1))) ∧ w' = w := withinF z (k + 1) w (by omega) (by omega)
theorem IsInts.lowP {w : World} {a : Option Addr} {l : List Int} {c : Nat} (h : IsInts w a l c) : ∀ x, a = some x → 0 < l.length → x.block < w.heap.size := fun x e h0 => by
  rcases h with ⟨h, _, _⟩ | ⟨y, h1, _, _, h4⟩
  · rw [h] at e; cases e
  · obtain rfl := Option.some.inj (e.symm.trans h1)
    have := lt_cell (h4 0 h0).1
    rw [add_blockF] at this; exact this
theorem isInts_cellW {w : World} {g i : Nat} {v : Value} {a : Option Addr} {l : List Int} {c : Nat} (h : IsInts w a l c) (hne : ∀ x, a = some x → 0 < l.length → x.block ≠ g) : IsInts (w.setCell ⟨g, i, none⟩ v) a l c := by
  rcases h with h | ⟨x, h1, h2, h3, h4⟩
  · exact .inl h
  · exact .inr ⟨x, h1, h2, h3, fun j hj => ⟨by rw [World.cell?_of_block (heap_setCell_other w ⟨g, i, none⟩ _ _ (by rw [add_blockF]; exact hne x h1 (by omega)))]; exact (h4 j hj).1, (h4 j hj).2⟩⟩
/-- A variable holds a plan, whose weights do not lie in block B. -/
def PVarN (w : World) (g B : Nat) (p : Pl) : Prop := ∃ a c, VarA w g (PlC a c p) 24 ∧ IsInts w a p.ws c ∧ ∀ x, a = some x → 0 < p.ws.length → x.block ≠ B
theorem PVarN.set {w : World} {g B : Nat} {p : Pl} {a : Option Addr} {c : Nat} {old : Array Value} (h : VarA w g old 24) (hi : IsInts w a p.ws c) (hne : ∀ x, a = some x → x.block ≠ g) (hb : ∀ x, a = some x → x.block ≠ B) : PVarN (w.setRow g (PlC a c p)) g B p := by
  refine ⟨a, c, setRow_heap _ _ _ _ _ _ h, ?_, fun x e _ => hb x e⟩
  rcases hi with h | ⟨x, h1, h2, h3, h4⟩
  · exact .inl h
  · exact .inr ⟨x, h1, h2, h3, fun i hi => ⟨by rw [cell_setRow_other _ _ _ _ (by rw [add_blockF]; exact hne x h1)]; exact (h4 i hi).1, (h4 i hi).2⟩⟩
theorem PVarN.setCell {w : World} {g B i : Nat} {p : Pl} {v : Value} (h : PVarN w g B p) (hne : g ≠ B) : PVarN (w.setCell ⟨B, i, none⟩ v) g B p := by
  obtain ⟨a, c, h1, h2, h3⟩ := h
  exact ⟨a, c, h1.other hne, isInts_cellW h2 h3, h3⟩
theorem PVarN.keep {w w' : World} {g B : Nat} {p : Pl} (h : PVarN w g B p) (hb : Below w.heap.size w w') : PVarN w' g B p := by
  obtain ⟨a, c, h1, h2, h3⟩ := h
  exact ⟨a, c, h1.keep hb, h2.keepP hb, h3⟩
set_option maxRecDepth 100000 in
set_option maxHeartbeats 4000000 in
theorem planVerdict_any (la : Option Addr) (ln lc : Nat) (rp : Pl) (ra : Option Addr) (rc : Nat) (rv : Wn) (wild : Int) (w : World) (hl : IntsF w la ln) (hn : ln ≤ maxLen) (hr : IsInts w ra rp.ws rc) (hrng : rp.rng) (hv : rv.rng) :
    Calls Try.prog 5 #[.slice la ln lc, PlV ra rc rp, .agg rv.cells, .int .i64 wild] w fun e w' => e = .returned (.bool true) ∧ Below w.heap.size w w' := by
  obtain ⟨tot, err, age⟩ := rv
  obtain ⟨W, hW⟩ : ∃ W, W = ((w.alloc (.cells (PlC ra rc rp) 24)).alloc (.cells #[.int .i64 tot, .int .i64 err, .int .i64 age] 37)).alloc (.cells (PlC ra rc rp) 24) := ⟨_, rfl⟩
  have HB := Box.mk (show Below w.heap.size w W by rw [hW]; exact below_twoF (below_twoF (below_oneF w _) _) _)
  have HU := Box.mk (show VarA W (w.heap.size + 1) #[.int .i64 tot, .int .i64 err, .int .i64 age] 37 by rw [hW]; have := (VarA.new (w.alloc (.cells (PlC ra rc rp) 24)) #[.int .i64 tot, .int .i64 err, .int .i64 age] 37).below (.cells (PlC ra rc rp) 24); rw [World.size_alloc] at this; exact this)
  have HV := Box.mk (show VarA W (w.heap.size + 2) (PlC ra rc rp) 24 by rw [hW]; have := VarA.new ((w.alloc (.cells (PlC ra rc rp) 24)).alloc (.cells #[.int .i64 tot, .int .i64 err, .int .i64 age] 37)) (PlC ra rc rp) 24; rw [World.size_alloc, World.size_alloc] at this; exact this)
  have HI := Box.mk (And.intro hr (And.intro hl (And.intro hrng hv)))
  have HN := Box.mk hn
  clear hr hl hrng hv hn
  unfold PlV Wn.cells
  simp only
  go_enter Try.func5, Try.ntmps5
  go_upto_region 2 with fail
  change Code.wp _ _ _ _ (((w.alloc (.cells (PlC ra rc rp) 24)).alloc (.cells #[.int .i64 tot, .int .i64 err, .int .i64 age] 37)).alloc (.cells (PlC ra rc rp) 24))
  rw [← hW]
  clear hW
  go_upto_if 13 with fail
  go_cut [] (fun wx => Box (∃ p : Pl, PVarN wx (w.heap.size + 2) (w.heap.size + 1) p ∧ p.rng ∧ VarA wx (w.heap.size + 1) #[.int .i64 tot, .int .i64 err, .int .i64 age] 37 ∧ Below w.heap.size w wx))
  case first =>
    cases hq : bits .and .i64 wild 1 == 0
    · go_wp2_with fail
      go_meet
      exact ⟨rp, ⟨ra, rc, HV.out, HI.out.1.keepP HB.out, fun x e h0 => by have := HI.out.1.lowP x e h0; omega⟩, HI.out.2.2.1, HU.out, HB.out⟩
    · go_wp2_with fail
      refine (srcPlan_box la ln lc W (HI.out.2.1.keep HB.out) HN.out).mono ?_
      rintro e w1 ⟨p, a', c', rfl, hok, hsm, hin, hfr, hb⟩
      have HB1 := Box.mk (below_trans HB.out hb)
      have HV1 := Box.mk (HV.out.keep hb)
      have HU1 := Box.mk (HU.out.keep hb)
      have HP1 := Box.mk (And.intro hsm (And.intro hin hfr))
      have HSZ := Box.mk (And.intro HB.out.size HV.out.lt)
      clear hok hsm hin hfr hb HB HV HU HI
      go_wp2_with (refine wpList_store_row rfl 24 _ _ rfl (w.heap.size + 2) (PlC a' c' p) rfl rfl 24 _ HV1.out sizePlan rfl (onePl ..) ?_)
      go_meet
      exact ⟨p, PVarN.set HV1.out HP1.out.2.1 (fun x e => by have := HP1.out.2.2 x e; have := HSZ.out; omega) (fun x e => by have := HP1.out.2.2 x e; have := HSZ.out; omega), HP1.out.1.rng, HU1.out.row_other (by omega), below_setRow HB1.out (by omega) _⟩
  case rest =>
    obtain ⟨p, hcv, hcr, hcu, hcb⟩ := hcut.out
    have HP := Box.mk hcv
    have HR := Box.mk hcr
    have HU2 := Box.mk hcu
    have HB2 := Box.mk hcb
    have HVR := Box.mk HI.out.2.2.2
    clear hcut hcv hcr hcu hcb HB HV HU HI HN
    go_upto_if 20 with fail
    go_cut [] (fun wx => Box (∃ v : Wn, PVarN wx (w.heap.size + 2) (w.heap.size + 1) p ∧ VarA wx (w.heap.size + 1) v.cells 37 ∧ v.rng ∧ Below w.heap.size w wx))
    case first =>
      cases hq : bits .and .i64 wild 2 == 0
      · go_wp2_with fail
        go_meet
        exact ⟨⟨tot, err, age⟩, HP.out, HU2.out, HVR.out, HB2.out⟩
      · obtain ⟨k1, hk1, hw1⟩ := withI_range tot 20 (by decide) (by decide)
        obtain ⟨k2, hk2, hw2⟩ := withI_range err (k1 + 1) (by omega) (by omega)
        have HW1 := Box.mk hw1
        have HW2 := Box.mk hw2
        have u0 := HU2.out.cell (i := 0) (v := .int .i64 tot) rfl
        have hf := HU2.out.frozen (i := 0)
        obtain ⟨W2, hW2⟩ : ∃ W2, W2 = wc.setCell ⟨w.heap.size + 1, 0, none⟩ (.int .i64 k1) := ⟨_, rfl⟩
        have HU3 := Box.mk (show VarA W2 (w.heap.size + 1) #[.int .i64 k1, .int .i64 err, .int .i64 age] 37 by rw [hW2]; exact HU2.out.set)
        have HB3 := Box.mk (show Below w.heap.size w W2 by rw [hW2]; exact HB2.out.setCell (by show w.heap.size ≤ w.heap.size + 1; omega) _)
        have HP3 := Box.mk (show PVarN W2 (w.heap.size + 2) (w.heap.size + 1) p by rw [hW2]; exact HP.out.setCell (by omega))
        clear hw1 hw2 HP HB2
        go_wp2_with fail
        refine (withinF tot 20 _ (by decide) (by decide)).mono ?_
        rintro e w2 ⟨he, rfl⟩
        rw [HW1.out] at he
        subst he
        go_upto_region 6 with fail
        change Code.wp _ _ _ _ (w2.setCell ⟨w.heap.size + 1, 0, none⟩ (.int .i64 k1))
        rw [← hW2]
        clear hW2 u0 hf HU2
        have u0 := HU3.out.cell (i := 0) (v := .int .i64 k1) rfl
        have u1 := HU3.out.cell (i := 1) (v := .int .i64 err) rfl
        have hf := HU3.out.frozen (i := 1)
        go_wp2_with fail
        refine (withinS err k1 _ (by omega)).mono ?_
        rintro e w3 ⟨he, rfl⟩
        rw [HW2.out] at he
        subst he
        have HU4 := Box.mk (show VarA (w3.setCell ⟨w.heap.size + 1, 1, none⟩ (.int .i64 k2)) (w.heap.size + 1) #[.int .i64 k1, .int .i64 k2, .int .i64 age] 37 from HU3.out.set)
        have HB4 := Box.mk (show Below w.heap.size w (w3.setCell ⟨w.heap.size + 1, 1, none⟩ (.int .i64 k2)) from HB3.out.setCell (by show w.heap.size ≤ w.heap.size + 1; omega) _)
        have HP4 := Box.mk (show PVarN (w3.setCell ⟨w.heap.size + 1, 1, none⟩ (.int .i64 k2)) (w.heap.size + 2) (w.heap.size + 1) p from HP3.out.setCell (by omega))
        go_wp2_with fail
        go_meet
        exact ⟨⟨k1, k2, age⟩, HP4.out, HU4.out, ⟨by unfold i64P; simp only; omega, by unfold i64P; simp only; omega, HVR.out.2.2⟩, HB4.out⟩
    case rest =>
      obtain ⟨v, hcv, hcu, hcr, hcb⟩ := hcut.out
      obtain ⟨pa, pc, hpv, hpi, -⟩ := hcv
      have HPV := Box.mk hpv
      have HPI := Box.mk hpi
      have HU3 := Box.mk hcu
      have HRV := Box.mk hcr
      have HB3 := Box.mk hcb
      obtain ⟨r, hr⟩ : ∃ r, verdV p v = r := ⟨_, rfl⟩
      have HRR := Box.mk hr
      clear hcut hpv hpi hcu hcr hcb hr HP HU2 HB2 HVR
      go_upto_region 7 with fail
      rename_i K hK
      refine wp_region_local (S := [.plan p, .val (.agg v.cells), .val (.int .i64 r), .plan p, .val (.agg v.cells), .val (.int .i64 r), .val (.bool true), .val (.bool true), .val (.bool true), .val (.bool true), .val (.bool true)])
        (by kernel_rfl) (by kernel_rfl) (by kernel_rfl) ?_ ?_
      · refine ⟨?_, ?_, ?_, ?_, ?_, ?_, ?_, ?_, ?_, ?_, ?_, trivial⟩ <;> intro a w2 hb hf hd
        · exact ⟨wanted_none rfl, loc_load_rowG rfl (hf.base 9 rfl) (HPV.out.keep hb).row Try.underlying24 rfl sizePlan ⟨pa, pc, rfl, HPI.out.keepP hb⟩⟩
        · exact ⟨wanted_none rfl, loc_load_rowG rfl (hf.base 6 rfl) (HU3.out.keep hb).row Try.underlying37 rfl sizeWn rfl⟩
        · exact ⟨wanted_none rfl, loc_call rfl (by kernel_rfl) (pVerdict_v p v r _ _ w2 (hd 0 rfl) (hd 1 rfl) HR.out HRV.out HRR.out)⟩
        · exact ⟨wanted_none rfl, loc_load_rowG rfl (hf.base 9 rfl) (HPV.out.keep hb).row Try.underlying24 rfl sizePlan ⟨pa, pc, rfl, HPI.out.keepP hb⟩⟩
        · exact ⟨wanted_none rfl, loc_load_rowG rfl (hf.base 6 rfl) (HU3.out.keep hb).row Try.underlying37 rfl sizeWn rfl⟩
        · exact ⟨wanted_none rfl, loc_call rfl (by kernel_rfl) (refVerdict_v p v r _ _ w2 (hd 3 rfl) (hd 4 rfl) HRR.out)⟩
        · exact ⟨wanted_none rfl, loc_eql_int rfl (hd 2 rfl) (hd 5 rfl) rfl⟩
        · exact ⟨wanted_none rfl, loc_move rfl (hd 6 rfl)⟩
        · exact ⟨wanted_true rfl rfl (hd 7 rfl), loc_call rfl (by kernel_rfl) (plAwake_v w2)⟩
        · exact ⟨wanted_none rfl, loc_pick rfl (hd 7 rfl) (hd 8 rfl)⟩
        · exact ⟨wanted_none rfl, loc_assign rfl (hd 9 rfl)⟩
      · intro a w2 hb hf hh
        refine hK a w2 ?_
        go_wp2_with fail
        exact local_ret rfl hf.defers (show a.eval (.tmp 8) = .bool true from hh 10 (by decide)) ⟨rfl, below_trans HB3.out hb⟩
end Go.Proofs.Ytlcegpjpgmpnbaa
namespace Go.Proofs.Ytlcegpjpgmpnbaa
open Go.RowKit
set_option linter.unusedSimpArgs false

section
variable {Q : Exit → Act → World → Prop} {act : Act} {w : World} {o : Oper} {s : Spec}
theorem loc_buildWn {x y : Operand} (ho : o.op = .build 37 #[(0, x), (1, y)]) {b c : Int} (hx : act.eval x = .int .i64 b) (hy : act.eval y = .int .i64 c) (hs : s.p (.agg #[.int .i64 b, .int .i64 c, .int .i64 0]) w) :
    o.wp Try.prog act w (fun a' w' => ∃ v, a' = act.put o.dst v ∧ Below w.heap.size w w' ∧ s.p v w') Q := by
  refine loc_run (v := .agg #[.int .i64 b, .int .i64 c, .int .i64 0]) ?_ (Below.refl _ _) hs
  have hb := run_build (P := Try.prog) w 37 #[(0, .int .i64 b), (1, .int .i64 c)] #[.int .i64 b, .int .i64 c, .int .i64 0] (by kernel_rfl)
  unfold execOp
  simp only [ho, List.map_toArray, List.map_cons, List.map_nil, hx, hy, Sem.run_bind, hb, Result.andThen_ok, Sem.run_pure]
end

theorem worse_facts {p : Pl} (hok : p.ok = true) {t e m k : Int} (ht0 : 0 ≤ t) (ht : t ≤ 1000) (he0 : 0 ≤ e) (hem : e + m ≤ t) (hm0 : 0 ≤ m) (hk1 : 1 ≤ k) (hk : k ≤ 1000) :
    (verdV p ⟨t, e, 0⟩ = 1 ∧ verdV p ⟨t, e + m, 0⟩ = 1) ∨ (verdV p ⟨t, e, 0⟩ = 3 ∧ verdV p ⟨t, e + m, 0⟩ = 3 ∧ verdV p ⟨t * k, e * k, 0⟩ = 3) ∨
      (verdV p ⟨t, e, 0⟩ = 2 ∧ verdV p ⟨t * k, e * k, 0⟩ = 2 ∧ (verdV p ⟨t, e + m, 0⟩ = 2 ∨ verdV p ⟨t, e + m, 0⟩ = 3)) := by
  have hn := Pl.ok_nums hok
  unfold Pl.nums at hn
  have h1 : (⟨t, e, 0⟩ : Wn).fits := by unfold Wn.fits; simp only; omega
  have h2 : (⟨t, e + m, 0⟩ : Wn).fits := by unfold Wn.fits; simp only; omega
  have b1 := Int.mul_nonneg ht0 (show 0 ≤ k by omega)
  have b2 := Int.mul_nonneg he0 (show 0 ≤ k by omega)
  have b3 : t * k ≤ 1000 * 1000 := Int.mul_le_mul ht hk (by omega) (by omega)
  have b4 : e * k ≤ 1000 * 1000 := Int.mul_le_mul (by omega) hk (by omega) (by omega)
  have h3 : (⟨t * k, e * k, 0⟩ : Wn).fits := by unfold Wn.fits; simp only; omega
  rw [verdV_yes hok h1, verdV_yes hok h2, verdV_yes hok h3]
  simp only
  have b5 : t ≤ t * k := by have := Int.mul_le_mul_of_nonneg_left hk1 ht0; omega
  have c1 : e * p.den ≤ (e + m) * p.den := Int.mul_le_mul_of_nonneg_right (by omega) (by omega)
  have c2 : p.num * (t * k) = p.num * t * k := (Int.mul_assoc _ _ _).symm
  have c3 : e * k * p.den = e * p.den * k := by rw [Int.mul_assoc, Int.mul_comm k, ← Int.mul_assoc]
  have c4 : p.num * t * k < e * p.den * k ↔ p.num * t < e * p.den := ⟨fun h => Int.lt_of_mul_lt_mul_right h (by omega), fun h => Int.mul_lt_mul_of_pos_right h (by omega)⟩
  rw [c2, c3]
  by_cases q1 : t < p.ms
  · left; exact ⟨if_pos q1, if_pos q1⟩
  · right
    rw [if_neg q1, if_neg q1, if_neg (show ¬ t * k < p.ms by omega)]
    by_cases q2 : p.num * t < e * p.den
    · left
      exact ⟨if_pos q2, if_pos (by omega), if_pos (c4.2 q2)⟩
    · right
      refine ⟨if_neg q2, if_neg (fun h => q2 (c4.1 h)), ?_⟩
      by_cases q3 : p.num * t < (e + m) * p.den
      · right; exact if_pos q3
      · left; exact if_neg q3

set_option maxRecDepth 100000 in
set_option maxHeartbeats 4000000 in
theorem planWorse_any (la : Option Addr) (ln lc : Nat) (x y z u : Int) (w : World) (hl : IntsF w la ln) (hn : ln ≤ maxLen) :
    Calls Try.prog 6 #[.slice la ln lc, .int .i64 x, .int .i64 y, .int .i64 z, .int .i64 u] w fun e w' => e = .returned (.bool true) ∧ Below w.heap.size w w' := by
  obtain ⟨t, ht, hwt⟩ := withI_range x 1000 (by decide) (by decide)
  obtain ⟨e, he, hwe⟩ := withI_range y (t + 1) (by omega) (by omega)
  obtain ⟨d, hd⟩ : ∃ d : Nat, t - e = d := ⟨_, rfl⟩
  obtain ⟨m, hm, hwm⟩ := withI_range z (d + 1) (by omega) (by omega)
  obtain ⟨k, hk, hwk⟩ := withI_range u 1000 (by decide) (by decide)
  have HW1 := Box.mk hwt
  have HW2 := Box.mk hwe
  have HW3 := Box.mk hwm
  have HW4 := Box.mk hwk
  have HD := Box.mk (show (t : Int) - (e : Int) = (d : Int) by omega)
  have hem : e + m ≤ t := by omega
  have hdt : d ≤ t := by omega
  have HL := Box.mk (And.intro hl hn)
  clear hwt hwe hwm hwk hd hm hl hn
  go_enter Try.func6, Try.ntmps6
  go_wp2_with fail
  refine (srcPlan_box la ln lc w HL.out.1 HL.out.2).mono ?_
  rintro ev w1 ⟨p, a', c', rfl, hok, hsm, hin, hfr, hb⟩
  obtain ⟨W, hW⟩ : ∃ W, W = w1.alloc (.cells (PlC a' c' p) 24) := ⟨_, rfl⟩
  have HB := Box.mk (show Below w.heap.size w W by rw [hW]; exact below_twoF hb _)
  have HV := Box.mk (show VarA W w1.heap.size (PlC a' c' p) 24 by rw [hW]; exact VarA.new _ _ _)
  have HI := Box.mk (show IsInts W a' p.ws c' by rw [hW]; exact hin.keepP (below_oneF w1 _))
  have HP := Box.mk (And.intro hok hsm)
  clear hok hsm hin hfr hb HL
  unfold PlV
  go_upto_region 2 with fail
  change Code.wp _ _ _ _ (w1.alloc (.cells (PlC a' c' p) 24))
  rw [← hW]
  clear hW
  generalize w1.heap.size = gp at *
  go_wp2_with fail
  refine (withinF x 1000 _ (by decide) (by decide)).mono ?_
  rintro ev w2 ⟨hev, rfl⟩
  rw [HW1.out] at hev
  subst hev
  go_wp2_with fail
  refine (withinS y t _ (by omega)).mono ?_
  rintro ev w3 ⟨hev, rfl⟩
  rw [HW2.out] at hev
  subst hev
  go_wp2_with fail
  have hD := HD.out
  rw [hD]
  clear hD
  refine (withinS z d _ (by omega)).mono ?_
  rintro ev w4 ⟨hev, rfl⟩
  rw [HW3.out] at hev
  subst hev
  have HK := Box.mk (worse_facts (t := t) (e := e) (m := m) (k := 1 + (k : Int)) HP.out.1 (by omega) (by omega) (by omega) (by omega) (by omega) (by omega) (by omega))
  have HPR := Box.mk HP.out.2.rng
  obtain ⟨va, hva⟩ : ∃ r, verdV p ⟨t, e, 0⟩ = r := ⟨_, rfl⟩
  obtain ⟨vb, hvb⟩ : ∃ r, verdV p ⟨t, (e : Int) + m, 0⟩ = r := ⟨_, rfl⟩
  rw [hva, hvb] at HK
  have HVA := Box.mk hva
  have HVB := Box.mk hvb
  have HR1 := Box.mk (show Wn.rng ⟨t, e, 0⟩ by unfold Wn.rng i64P; simp only; omega)
  have HR2 := Box.mk (show Wn.rng ⟨t, (e : Int) + m, 0⟩ by unfold Wn.rng i64P; simp only; omega)
  have HEM := Box.mk (show ((e + m : Nat) : Int) = (e : Int) + m by omega)
  clear hva hvb
  go_upto_region 5 with fail
  rename_i K hK
  refine wp_region_local (S := [.plan p, .val (.int .i64 t), .val (.int .i64 e), .val (.agg (Wn.cells ⟨t, e, 0⟩)), .val (.int .i64 va), .plan p, .val (.int .i64 t), .val (.int .i64 e), .val (.int .i64 m), .val (.int .i64 ((e + m : Nat) : Int)), .val (.agg (Wn.cells ⟨t, (e : Int) + m, 0⟩)), .val (.int .i64 vb), .val (.int .i64 va), .val (.int .i64 vb)])
    (by kernel_rfl) (by kernel_rfl) (by kernel_rfl) ?_ ?_
  · refine ⟨?_, ?_, ?_, ?_, ?_, ?_, ?_, ?_, ?_, ?_, ?_, ?_, ?_, ?_, trivial⟩ <;> intro a w2 hb hf hd
    · exact ⟨wanted_none rfl, loc_load_rowG rfl (hf.base 11 rfl) (HV.out.keep hb).row Try.underlying24 rfl sizePlan ⟨a', c', rfl, HI.out.keepP hb⟩⟩
    · exact ⟨wanted_none rfl, loc_move rfl (hf.base 1 rfl)⟩
    · exact ⟨wanted_none rfl, loc_move rfl (hf.base 2 rfl)⟩
    · exact ⟨wanted_none rfl, loc_buildWn rfl (hd 1 rfl) (hd 2 rfl) rfl⟩
    · exact ⟨wanted_none rfl, loc_call rfl (by kernel_rfl) (pVerdict_v p ⟨t, e, 0⟩ va _ _ w2 (hd 0 rfl) (hd 3 rfl) HPR.out HR1.out HVA.out)⟩
    · exact ⟨wanted_none rfl, loc_load_rowG rfl (hf.base 11 rfl) (HV.out.keep hb).row Try.underlying24 rfl sizePlan ⟨a', c', rfl, HI.out.keepP hb⟩⟩
    · exact ⟨wanted_none rfl, loc_move rfl (hf.base 1 rfl)⟩
    · exact ⟨wanted_none rfl, loc_move rfl (hf.base 2 rfl)⟩
    · exact ⟨wanted_none rfl, loc_move rfl (hf.base 3 rfl)⟩
    · exact ⟨wanted_none rfl, loc_addF rfl (hd 7 rfl) (hd 8 rfl) (by omega) rfl⟩
    · exact ⟨wanted_none rfl, loc_buildWn rfl (hd 6 rfl) (hd 9 rfl) (by show _ = _; rw [HEM.out]; rfl)⟩
    · exact ⟨wanted_none rfl, loc_call rfl (by kernel_rfl) (pVerdict_v p ⟨t, (e : Int) + m, 0⟩ vb _ _ w2 (hd 5 rfl) (hd 10 rfl) HPR.out HR2.out HVB.out)⟩
    · exact ⟨wanted_none rfl, loc_assign rfl (hd 4 rfl)⟩
    · exact ⟨wanted_none rfl, loc_assign rfl (hd 11 rfl)⟩
  · intro a w2 hb hf hh
    have e12 : a.eval (.tmp 12) = .int .i64 va := hh 12 (by decide)
    have e13 : a.eval (.tmp 13) = .int .i64 vb := hh 13 (by decide)
    have HB2 := Box.mk (below_trans HB.out hb)
    have HV2 := Box.mk (HV.out.keep hb)
    have HI2 := Box.mk (HI.out.keepP hb)
    refine hK a w2 ?_
    rw [fr_putAll hf]
    simp only [putAll, e12, e13]
    clear hf hh hb e12 e13 HB HV HI HVA HVB HR1 HR2 HEM HP
    generalize a.eval (.tmp 32) = u32
    generalize a.eval (.tmp 33) = u33
    generalize a.eval (.tmp 34) = u34
    generalize a.eval (.tmp 35) = u35
    generalize a.eval (.tmp 36) = u36
    generalize a.eval (.tmp 37) = u37
    generalize a.eval (.tmp 38) = u38
    generalize a.eval (.tmp 39) = u39
    generalize a.eval (.tmp 40) = u40
    generalize a.eval (.tmp 41) = u41
    generalize a.eval (.tmp 42) = u42
    generalize a.eval (.tmp 43) = u43
    simp only [Act.put, List.setIfInBounds_toArray, List.set_cons_succ, List.set_cons_zero]
    go_wp2_with fail
    refine (withinF u 1000 _ (by decide) (by decide)).mono ?_
    rintro ev w3 ⟨hev, rfl⟩
    rw [HW4.out] at hev
    subst hev
    obtain ⟨kk, hkk⟩ : ∃ x : Int, 1 + (k : Int) = x := ⟨_, rfl⟩
    have hkb : 1 ≤ kk ∧ kk ≤ 1000 := by omega
    rw [hkk] at HK
    obtain ⟨T, hT⟩ : ∃ x : Int, (t : Int) * kk = x := ⟨_, rfl⟩
    obtain ⟨E, hE⟩ : ∃ x : Int, (e : Int) * kk = x := ⟨_, rfl⟩
    have b1 : 0 ≤ T ∧ T ≤ 1000000 := by
      rw [← hT]
      exact ⟨Int.mul_nonneg (by omega) (by omega), Int.mul_le_mul (c := 1000) (d := 1000) (by omega) hkb.2 (by omega) (by omega)⟩
    have b2 : 0 ≤ E ∧ E ≤ 1000000 := by
      rw [← hE]
      exact ⟨Int.mul_nonneg (by omega) (by omega), Int.mul_le_mul (c := 1000) (d := 1000) (by omega) hkb.2 (by omega) (by omega)⟩
    rw [hT, hE] at HK
    have w1e : wrap64 T = T := by simp only [wrap64]; omega
    have w2e : wrap64 E = E := by simp only [wrap64]; omega
    obtain ⟨vc, hvc⟩ : ∃ r, verdV p ⟨T, E, 0⟩ = r := ⟨_, rfl⟩
    rw [hvc] at HK
    have HVC := Box.mk hvc
    clear hvc
    have c0 := HV2.out.cell (i := 0) (v := .slice a' p.ws.length c') rfl
    have c1 := HV2.out.cell (i := 1) (v := .int .i64 p.ms) rfl
    have c2 := HV2.out.cell (i := 2) (v := .int .i64 p.num) rfl
    have c3 := HV2.out.cell (i := 3) (v := .int .i64 p.den) rfl
    have c4 := HV2.out.cell (i := 4) (v := .int .i64 p.hold) rfl
    have c5 := HV2.out.cell (i := 5) (v := .int .i64 p.win) rfl
    go_wp2_with fail
    refine (pVerdict_eq (p := p) (v := ⟨T, E, 0⟩) _ HI2.out HPR.out (by unfold Wn.rng i64P; simp only; omega) HVC.out).mono ?_
    rintro ev w5 ⟨rfl, hb⟩
    have HB5 := Box.mk (below_trans HB2.out hb)
    clear hb c0 c1 c2 c3 c4 c5 w1e w2e hT hE hkk
    rcases HK.out with ⟨rfl, rfl⟩ | ⟨rfl, rfl, rfl⟩ | ⟨rfl, rfl, rfl | rfl⟩
    all_goals
      go_wp2_with fail
      refine (plAwake_any w5).mono ?_
      rintro ev w6 ⟨rfl, hb⟩
      have HB6 := Box.mk (below_trans HB5.out hb)
      clear hb
      go_wp2_with fail
      go_ret
      exact ⟨rfl, HB6.out⟩
end Go.Proofs.Ytlcegpjpgmpnbaa
namespace Go.Proofs.Ytlcegpjpgmpnbaa
open Go.RowKit
set_option linter.unusedSimpArgs false

section
variable {ops : Array Oper} {rest : List Oper} {o : Oper} {act : Act} {Q : Exit → Act → World → Prop}
/-- APPEND of a list of numbers to an own slice. -/
theorem wpList_append_ownzs (w : World) (hgd : o.guard = none) (s x : Operand) (ho : o.op = .call { callee := .builtin .append, args := #[s, x], argTypes := #[22, 22] })
    {B : Nat} {v : Value} {l : List Int} (hs : act.eval s = v) (h : OwnZ B w v l) {ad : Addr} {c : Nat} {m : List Int} (hx : act.eval x = .slice (some ad) m.length c) (hm : ∀ j (hj : j < m.length), w.cell? (ad.add j) = some (.int .i64 m[j])) (h0 : 0 < m.length)
    (hn : l.length + m.length ≤ 4398046511104) (hB : B ≤ w.heap.size)
    (K : ∀ v' w', OwnZ B w' v' (l ++ m) → w.grownBy w' v.ownBlock → wpList Try.prog ops Q rest (act.put o.dst v') w') : wpList Try.prog ops Q (o :: rest) act w := by
  obtain ⟨i0, hi, hz0, hz1, hz2⟩ := info_parts Try.info3Z
  refine wpList_append_lies w hgd s x 22 ho B 3 i0 _ 1 8 Try.underlying22 hi hz0 hz1 hz2 rfl (by decide) v l.length (intsZ l) hs h ad m.length c (intsZ m) hx (by rw [intsZ_len]; omega) ?_ ?_ h0 (by unfold maxLen; omega) (by omega) hB w.heap.size rfl ?_
  · intro j u hj
    have hlt : j < m.length := by rw [← intsZ_len]; exact (List.getElem?_eq_some_iff.1 hj).1
    have e : (intsZ m)[j]? = some (.int .i64 m[j]) := by unfold intsZ; simp [hlt]
    rw [e] at hj
    rw [hm j hlt, ← hj]
  · intro u hu
    unfold intsZ at hu
    obtain ⟨z, _, rfl⟩ := List.mem_map.1 hu
    rfl
  · intro g cap w' hown hgrow hg hlt
    refine K _ w' ?_ hgrow
    unfold OwnZ
    rw [List.length_append, intsZ_app]; exact hown
end
theorem ownZ_empty (w : World) : OwnZ w.heap.size (w.alloc (.cells #[] 3)) (.slice (some ⟨w.heap.size, 0, none⟩) 0 0) [] :=
  ⟨rfl, .inr ⟨w.heap.size, 0, #[], rfl, Nat.le_refl _, heap_alloc_new _ _, Nat.le_refl _, Nat.zero_le _, rfl, rfl⟩⟩
theorem pValidate_v (p : Pl) (r : Int) (x : Value) (w : World) (hx : (Spec.plan p).p x w) (hp : p.rng) (hr : planE p = r) :
    Calls Try.prog 8 #[x] w fun e w' => ∃ v', e = .returned v' ∧ Below w.heap.size w w' ∧ v' = .int .i64 r := by
  obtain ⟨a, c, rfl, hi⟩ := hx
  refine (pValidate_eq w hi hp hr).mono ?_
  rintro e w' ⟨rfl, hb⟩
  exact ⟨_, rfl, hb, rfl⟩
theorem refPlan_v (p : Pl) (r : Int) (x : Value) (w : World) (hx : (Spec.plan p).p x w) (hr : planE p = r) :
    Calls Try.prog 10 #[x] w fun e w' => ∃ v', e = .returned v' ∧ Below w.heap.size w w' ∧ v' = .int .i64 r := by
  obtain ⟨a, c, rfl, hi⟩ := hx
  refine (refPlan_eq w hi hr).mono ?_
  rintro e w' ⟨rfl, hb⟩
  exact ⟨_, rfl, hb, rfl⟩
theorem PlVar.intro {w : World} {g : Nat} {a : Option Addr} {c : Nat} (p : Pl) (h1 : VarA w g (PlC a c p) 24) (h2 : IsInts w a p.ws c) : PlVar w g p := ⟨a, c, h1, h2⟩
theorem loc_eqlErr {Q : Exit → Act → World → Prop} {a : Act} {w : World} {o : Oper} {s : Spec} {x y : Operand} {t : TypeId} (ho : o.op = .binOp .eql 29 x y t) {n : Int} (hx : a.eval x = .int .i64 n) (hy : a.eval y = .int .i64 n) (hs : s.p (.bool true) w) :
    o.wp Try.prog a w (fun a' w' => ∃ v, a' = a.put o.dst v ∧ Below w.heap.size w w' ∧ s.p v w') Q :=
  loc_run (v := .bool true) (by
    unfold execOp
    simp only [ho, hx, hy]
    have he : (Op.equalIn Op.maxDepth 29 (.int .i64 n) (.int .i64 n)).run Try.prog w = .ok true w := by
      rw [show Op.maxDepth = 9999 + 1 from rfl]
      unfold Op.equalIn
      rw [Sem.run_bind, run_underlying Try.underlying29]
      simp
    simp [eqGuard, binOp, Op.equal, Op.intCmp, he]) (Below.refl _ _) hs

set_option maxRecDepth 100000 in
set_option maxHeartbeats 8000000 in
theorem planValidate_any (la : Option Addr) (ln lc : Nat) (rp : Pl) (ra : Option Addr) (rc : Nat) (at_ n : Int) (wild : Bool) (w : World) (hl : IntsF w la ln) (hn : ln ≤ maxLen) (hr : IsInts w ra rp.ws rc) (hrng : rp.rng) (hnn : i64P n) :
    Calls Try.prog 3 #[.slice la ln lc, PlV ra rc rp, .int .i64 at_, .int .i64 n, .bool wild] w fun e w' => e = .returned (.bool true) ∧ Below w.heap.size w w' := by
  obtain ⟨W, hW⟩ : ∃ W, W = (w.alloc (.cells (PlC ra rc rp) 24)).alloc (.cells (PlC ra rc rp) 24) := ⟨_, rfl⟩
  have HB := Box.mk (show Below w.heap.size w W by rw [hW]; exact below_twoF (below_oneF w _) _)
  have HV := Box.mk (show VarA W (w.heap.size + 1) (PlC ra rc rp) 24 by rw [hW]; have := VarA.new (w.alloc (.cells (PlC ra rc rp) 24)) (PlC ra rc rp) 24; rw [World.size_alloc] at this; exact this)
  have HI := Box.mk (And.intro hr (And.intro hl (And.intro hrng hnn)))
  have HN := Box.mk hn
  clear hr hl hrng hnn hn
  unfold PlV
  go_enter Try.func3, Try.ntmps3
  go_upto_region 2 with fail
  change Code.wp _ _ _ _ ((w.alloc (.cells (PlC ra rc rp) 24)).alloc (.cells (PlC ra rc rp) 24))
  rw [← hW]
  clear hW
  go_upto_if 14 with fail
  go_cut [] (fun wx => Box (∃ p : Pl, PlVar wx (w.heap.size + 1) p ∧ p.rng ∧ Below w.heap.size w wx))
  case first =>
    cases wild
    · obtain ⟨k, hk, hwk⟩ := withI_range at_ 7 (by decide) (by decide)
      have HWK := Box.mk hwk
      clear hwk
      go_wp2_with fail
      refine (srcPlan_box la ln lc W (HI.out.2.1.keep HB.out) HN.out).mono ?_
      rintro e w1 ⟨p, a', c', rfl, hok, hsm, hin, hfr, hb⟩
      have HB1 := Box.mk (below_trans HB.out hb)
      have HV1 := Box.mk (HV.out.keep hb)
      have HP1 := Box.mk (And.intro hsm (And.intro hin hfr))
      have HOK := Box.mk hok
      have HSZ := Box.mk (And.intro HB.out.size HV.out.lt)
      have HNN := Box.mk HI.out.2.2.2
      clear hok hsm hin hfr hb HB HV HI HN
      obtain ⟨W2, hW2⟩ : ∃ W2, W2 = w1.setRow (w.heap.size + 1) (PlC a' c' p) := ⟨_, rfl⟩
      have HB2 := Box.mk (show Below w.heap.size w W2 by rw [hW2]; exact below_setRow HB1.out (by omega) _)
      have HV2 := Box.mk (show VarA W2 (w.heap.size + 1) (PlC a' c' p) 24 by rw [hW2]; exact setRow_heap _ _ _ _ _ _ HV1.out)
      have HI2 := Box.mk (show IsInts W2 a' p.ws c' by
        rw [hW2]
        rcases HP1.out.2.1 with h | ⟨x, h1, h2, h3, h4⟩
        · exact .inl h
        · exact .inr ⟨x, h1, h2, h3, fun i hi => ⟨by rw [cell_setRow_other _ _ _ _ (by rw [add_blockF]; have := HP1.out.2.2 x h1; have := HSZ.out; omega)]; exact (h4 i hi).1, (h4 i hi).2⟩⟩)
      have HFR := Box.mk (show ∀ x, a' = some x → x.block ≠ w.heap.size + 1 from fun x e => by have := HP1.out.2.2 x e; have := HSZ.out; omega)
      have HSM := Box.mk HP1.out.1
      go_upto_region 4 with (refine wpList_store_row rfl 24 _ _ rfl (w.heap.size + 1) (PlC a' c' p) rfl rfl 24 _ HV1.out sizePlan rfl (onePl ..) ?_)
      change Code.wp _ _ _ _ (w1.setRow (w.heap.size + 1) (PlC a' c' p))
      rw [← hW2]
      clear hW2 HB1 HV1 HP1 HSZ
      have HCELL := Box.mk (fun (w' : World) (h : VarA w' (w.heap.size + 1) (PlC a' c' p) 24) => show w'.cell? ⟨w.heap.size + 1, 0, none⟩ = some (.slice a' p.ws.length c') ∧ w'.cell? ⟨w.heap.size + 1, 1, none⟩ = some (.int .i64 p.ms) ∧ w'.cell? ⟨w.heap.size + 1, 2, none⟩ = some (.int .i64 p.num) ∧ w'.cell? ⟨w.heap.size + 1, 3, none⟩ = some (.int .i64 p.den) ∧ w'.cell? ⟨w.heap.size + 1, 4, none⟩ = some (.int .i64 p.hold) ∧ w'.cell? ⟨w.heap.size + 1, 5, none⟩ = some (.int .i64 p.win) from ⟨h.cell rfl, h.cell rfl, h.cell rfl, h.cell rfl, h.cell rfl, h.cell rfl⟩)
      obtain ⟨c0, c1, c2, c3, c4, c5⟩ := HCELL.out _ HV2.out
      go_wp2_with fail
      refine (pValidate_eq (p := p) W2 HI2.out HSM.out.rng (planE_ok HOK.out)).mono ?_
      rintro e w3 ⟨rfl, hb⟩
      have HB3 := Box.mk (below_trans HB2.out hb)
      have HV3 := Box.mk (HV2.out.keep hb)
      have HI3 := Box.mk (HI2.out.keepP hb)
      clear hb HB2 HV2 HI2 c0 c1 c2 c3 c4 c5
      obtain ⟨c0, c1, c2, c3, c4, c5⟩ := HCELL.out _ HV3.out
      go_wp2_with fail
      refine (withinF at_ 7 _ (by decide) (by decide)).mono ?_
      rintro e w4 ⟨he, rfl⟩
      rw [HWK.out] at he
      subst he
      have hk7 : k = 0 ∨ k = 1 ∨ k = 2 ∨ k = 3 ∨ k = 4 ∨ k = 5 ∨ k = 6 := by omega
      clear hk HWK
      rcases hk7 with rfl | rfl | rfl | rfl | rfl | rfl | rfl
      · have hl1 : 1 ≤ p.ws.length ∧ p.ws.length ≤ 3 := by have := Pl.ok_nums HOK.out; have := HSM.out; unfold Pl.nums Pl.small at *; omega
        obtain ⟨x, rfl, hc'⟩ : ∃ x, a' = some x ∧ ∀ j (hj : j < p.ws.length), w4.cell? (x.add j) = some (.int .i64 p.ws[j]) := by
          rcases HI3.out with ⟨_, h, _⟩ | ⟨x, h, _, _, hh⟩
          · rw [h] at hl1; simp at hl1
          · exact ⟨x, h, fun j hj => (hh j hj).1⟩
        have hrg : ∀ z ∈ p.ws, -9223372036854775808 ≤ z ∧ z ≤ 9223372036854775807 := by
          rcases HI3.out with ⟨_, h, _⟩ | ⟨x, _, _, _, hh⟩
          · rw [h]; simp
          · intro z hz
            obtain ⟨j, hj, rfl⟩ := List.getElem_of_mem hz
            exact (hh j hj).2
        have HRG := Box.mk hrg
        have HCX := Box.mk (fun (w' : World) (hb : Below w4.heap.size w4 w') j (hj : j < p.ws.length) => below_cell hb (hc' j hj))
        have HO5 := Box.mk (ownZ_empty w4)
        have hgp : w.heap.size + 1 < w4.heap.size := HV3.out.lt
        clear hrg hc' c1 c2 c3 c4 c5
        go_wp2_with (at_builtin; refine wpList_append_ownzs _ rfl _ _ rfl rfl HO5.out rfl ?c1 (by omega) (by simp; omega) (by simp) ?c3)
        case c1 => exact HCX.out _ (below_oneF w4 _)
        case c3 =>
          intro v5 w5 hown hgrow
          have HO6 := Box.mk hown
          have hg5 : w4.grownBy w5 (some w4.heap.size) := grownBy_trans (grownBy_below (below_oneF w4 _)) hgrow
          have HV5 := Box.mk (HV3.out.grown hg5 (fun e => by have := Option.some.inj e; omega))
          have HB5 := Box.mk (HB3.out.trans (show Below w.heap.size w4 w5 from (Below.refl w4.heap.size w4).mono (by omega) |>.grown hg5 (by omega) (fun q e => by have := Option.some.inj e; omega)))
          have hgs : w4.heap.size ≤ w5.heap.size := hg5.size
          clear hown hgrow hg5 HO5 HCX c0
          have hsz5 := hgs
          clear hgs
          go_wp2_with (at_builtin; refine wpList_append_ownz _ rfl _ _ rfl rfl (HO6.out.keep ((Below.refl _ _).alloc (Nat.le_refl _) _)) rfl (y := n) ?d1 (by omega) (by simp; omega) ?d3)
          case d1 => simp
          case d3 =>
            intro v6 w6 hown hgrow hob
            obtain ⟨ws', hws⟩ : ∃ x, x = p.ws ++ [n] := ⟨_, rfl⟩
            have HRG' := Box.mk (show ∀ z ∈ ws', -9223372036854775808 ≤ z ∧ z ≤ 9223372036854775807 from fun z hz => by
              rw [hws] at hz
              rcases List.mem_append.1 hz with h1 | h1
              · exact HRG.out z h1
              · simp at h1; rw [h1]; exact HNN.out)
            rw [← hws] at hown
            obtain ⟨ad, cp, hv', hin', had⟩ := hown.shape HRG'.out
            subst hv'
            have hgrow2 : w5.grownBy w6 v5.ownBlock := ⟨hgrow.os, hgrow.tape, hgrow.output, Nat.le_trans (by simp) hgrow.size, fun k hk hne => by
              rw [hgrow.block k (by simp; omega) hne]
              exact (below_oneF w5 _).block k hk⟩
            have HV6 := Box.mk (HV5.out.grown hgrow2 (fun e => by have := (HO6.out.lt e.symm).1; omega))
            have HB6 := Box.mk (show Below w.heap.size w w6 from HB5.out.grown hgrow2 HB5.out.size (fun q e => by have := (HO6.out.lt e).1; omega))
            have HX6 := Box.mk (And.intro hin' had)
            clear hown hgrow hgrow2 hob hin' had hws HO6 HB5 HV5 HRG
            have c0 := HV6.out.cell (i := 0) (v := .slice (some x) p.ws.length c') rfl
            have hf := HV6.out.frozen (i := 0)
            have HV7 := Box.mk (show VarA (w6.setCell ⟨w.heap.size + 1, 0, none⟩ (.slice ad ws'.length cp)) (w.heap.size + 1) (PlC ad cp ⟨ws', p.ms, p.num, p.den, p.hold, p.win⟩) 24 from HV6.out.set)
            have HI7 := Box.mk (show IsInts (w6.setCell ⟨w.heap.size + 1, 0, none⟩ (.slice ad ws'.length cp)) ad ws' cp from isInts_cellW HX6.out.1 (fun y e _ => by have := HX6.out.2 y e; omega))
            have HB7 := Box.mk (show Below w.heap.size w (w6.setCell ⟨w.heap.size + 1, 0, none⟩ (.slice ad ws'.length cp)) from HB6.out.setCell (by show w.heap.size ≤ w.heap.size + 1; omega) _)
            go_wp2_with fail
            go_meet
            exact ⟨⟨ws', p.ms, p.num, p.den, p.hold, p.win⟩, ⟨ad, cp, HV7.out, HI7.out⟩, HSM.out.rng, HB7.out⟩
      · have hf := HV3.out.frozen (i := 1)
        have HV4 := Box.mk (show VarA (w4.setCell ⟨w.heap.size + 1, 1, none⟩ (.int .i64 n)) (w.heap.size + 1) (PlC a' c' ⟨p.ws, n, p.num, p.den, p.hold, p.win⟩) 24 from HV3.out.set)
        have HI4 := Box.mk (show IsInts (w4.setCell ⟨w.heap.size + 1, 1, none⟩ (.int .i64 n)) a' p.ws c' from isInts_cellW HI3.out (fun x e _ => HFR.out x e))
        have HB4 := Box.mk (show Below w.heap.size w (w4.setCell ⟨w.heap.size + 1, 1, none⟩ (.int .i64 n)) from HB3.out.setCell (by show w.heap.size ≤ w.heap.size + 1; omega) _)
        go_wp2_with fail
        go_meet
        exact ⟨⟨p.ws, n, p.num, p.den, p.hold, p.win⟩, ⟨a', c', HV4.out, HI4.out⟩, by have := HSM.out.rng; have := HNN.out; unfold Pl.rng i64P at *; simp only; omega, HB4.out⟩
      · have hf := HV3.out.frozen (i := 2)
        have HV4 := Box.mk (show VarA (w4.setCell ⟨w.heap.size + 1, 2, none⟩ (.int .i64 n)) (w.heap.size + 1) (PlC a' c' ⟨p.ws, p.ms, n, p.den, p.hold, p.win⟩) 24 from HV3.out.set)
        have HI4 := Box.mk (show IsInts (w4.setCell ⟨w.heap.size + 1, 2, none⟩ (.int .i64 n)) a' p.ws c' from isInts_cellW HI3.out (fun x e _ => HFR.out x e))
        have HB4 := Box.mk (show Below w.heap.size w (w4.setCell ⟨w.heap.size + 1, 2, none⟩ (.int .i64 n)) from HB3.out.setCell (by show w.heap.size ≤ w.heap.size + 1; omega) _)
        go_wp2_with fail
        go_meet
        exact ⟨⟨p.ws, p.ms, n, p.den, p.hold, p.win⟩, ⟨a', c', HV4.out, HI4.out⟩, by have := HSM.out.rng; have := HNN.out; unfold Pl.rng i64P at *; simp only; omega, HB4.out⟩
      · have hf := HV3.out.frozen (i := 3)
        have HV4 := Box.mk (show VarA (w4.setCell ⟨w.heap.size + 1, 3, none⟩ (.int .i64 n)) (w.heap.size + 1) (PlC a' c' ⟨p.ws, p.ms, p.num, n, p.hold, p.win⟩) 24 from HV3.out.set)
        have HI4 := Box.mk (show IsInts (w4.setCell ⟨w.heap.size + 1, 3, none⟩ (.int .i64 n)) a' p.ws c' from isInts_cellW HI3.out (fun x e _ => HFR.out x e))
        have HB4 := Box.mk (show Below w.heap.size w (w4.setCell ⟨w.heap.size + 1, 3, none⟩ (.int .i64 n)) from HB3.out.setCell (by show w.heap.size ≤ w.heap.size + 1; omega) _)
        go_wp2_with fail
        go_meet
        exact ⟨⟨p.ws, p.ms, p.num, n, p.hold, p.win⟩, ⟨a', c', HV4.out, HI4.out⟩, by have := HSM.out.rng; have := HNN.out; unfold Pl.rng i64P at *; simp only; omega, HB4.out⟩
      · have hf := HV3.out.frozen (i := 4)
        have HV4 := Box.mk (show VarA (w4.setCell ⟨w.heap.size + 1, 4, none⟩ (.int .i64 n)) (w.heap.size + 1) (PlC a' c' ⟨p.ws, p.ms, p.num, p.den, n, p.win⟩) 24 from HV3.out.set)
        have HI4 := Box.mk (show IsInts (w4.setCell ⟨w.heap.size + 1, 4, none⟩ (.int .i64 n)) a' p.ws c' from isInts_cellW HI3.out (fun x e _ => HFR.out x e))
        have HB4 := Box.mk (show Below w.heap.size w (w4.setCell ⟨w.heap.size + 1, 4, none⟩ (.int .i64 n)) from HB3.out.setCell (by show w.heap.size ≤ w.heap.size + 1; omega) _)
        go_wp2_with fail
        go_meet
        exact ⟨⟨p.ws, p.ms, p.num, p.den, n, p.win⟩, ⟨a', c', HV4.out, HI4.out⟩, by have := HSM.out.rng; have := HNN.out; unfold Pl.rng i64P at *; simp only; omega, HB4.out⟩
      · have hf := HV3.out.frozen (i := 5)
        have HV4 := Box.mk (show VarA (w4.setCell ⟨w.heap.size + 1, 5, none⟩ (.int .i64 n)) (w.heap.size + 1) (PlC a' c' ⟨p.ws, p.ms, p.num, p.den, p.hold, n⟩) 24 from HV3.out.set)
        have HI4 := Box.mk (show IsInts (w4.setCell ⟨w.heap.size + 1, 5, none⟩ (.int .i64 n)) a' p.ws c' from isInts_cellW HI3.out (fun x e _ => HFR.out x e))
        have HB4 := Box.mk (show Below w.heap.size w (w4.setCell ⟨w.heap.size + 1, 5, none⟩ (.int .i64 n)) from HB3.out.setCell (by show w.heap.size ≤ w.heap.size + 1; omega) _)
        go_wp2_with fail
        go_meet
        exact ⟨⟨p.ws, p.ms, p.num, p.den, p.hold, n⟩, ⟨a', c', HV4.out, HI4.out⟩, by have := HSM.out.rng; have := HNN.out; unfold Pl.rng i64P at *; simp only; omega, HB4.out⟩
      · go_wp2_with fail
        go_meet
        exact ⟨p, ⟨a', c', HV3.out, HI3.out⟩, HSM.out.rng, HB3.out⟩
    · go_wp2_with fail
      go_meet
      exact ⟨rp, ⟨ra, rc, HV.out, HI.out.1.keepP HB.out⟩, HI.out.2.2.1, HB.out⟩
  case rest =>
    obtain ⟨p, hcv, hcr, hcb⟩ := hcut.out
    obtain ⟨pa, pc, hpv, hpi⟩ := hcv
    have HPV := Box.mk hpv
    have HPI := Box.mk hpi
    have HR := Box.mk hcr
    have HB3 := Box.mk hcb
    obtain ⟨r, hr⟩ : ∃ r, planE p = r := ⟨_, rfl⟩
    have HRR := Box.mk hr
    clear hcut hpv hpi hcr hcb hr HB HV HI HN
    go_upto_region 19 with fail
    rename_i K hK
    refine wp_region_local (S := [.plan p, .val (.int .i64 r), .plan p, .val (.int .i64 r), .val (.bool true), .val (.bool true), .val (.bool true), .val (.bool true), .val (.bool true)])
      (by kernel_rfl) (by kernel_rfl) (by kernel_rfl) ?_ ?_
    · refine ⟨?_, ?_, ?_, ?_, ?_, ?_, ?_, ?_, ?_, trivial⟩ <;> intro a w2 hb hf hd
      · exact ⟨wanted_none rfl, loc_load_rowG rfl (hf.base 11 rfl) (HPV.out.keep hb).row Try.underlying24 rfl sizePlan ⟨pa, pc, rfl, HPI.out.keepP hb⟩⟩
      · exact ⟨wanted_none rfl, loc_call rfl (by kernel_rfl) (pValidate_v p r _ w2 (hd 0 rfl) HR.out HRR.out)⟩
      · exact ⟨wanted_none rfl, loc_load_rowG rfl (hf.base 11 rfl) (HPV.out.keep hb).row Try.underlying24 rfl sizePlan ⟨pa, pc, rfl, HPI.out.keepP hb⟩⟩
      · exact ⟨wanted_none rfl, loc_call rfl (by kernel_rfl) (refPlan_v p r _ w2 (hd 2 rfl) HRR.out)⟩
      · exact ⟨wanted_none rfl, loc_eqlErr rfl (hd 1 rfl) (hd 3 rfl) rfl⟩
      · exact ⟨wanted_none rfl, loc_move rfl (hd 4 rfl)⟩
      · exact ⟨wanted_true rfl rfl (hd 5 rfl), loc_call rfl (by kernel_rfl) (plAwake_v w2)⟩
      · exact ⟨wanted_none rfl, loc_pick rfl (hd 5 rfl) (hd 6 rfl)⟩
      · exact ⟨wanted_none rfl, loc_assign rfl (hd 7 rfl)⟩
    · intro a w2 hb hf hh
      refine hK a w2 ?_
      go_wp2_with fail
      exact local_ret rfl hf.defers (show a.eval (.tmp 10) = .bool true from hh 8 (by decide)) ⟨rfl, below_trans HB3.out hb⟩
end Go.Proofs.Ytlcegpjpgmpnbaa
namespace Go.Proofs.Ytlcegpjpgmpnbaa
open Go.ChangeShapes Go.WideShapes Go.ChangeAt Go.RowKit

theorem i64_ofF {x : Int} (h : (Lit.int .i64 x).wf = true) : -9223372036854775808 ≤ x ∧ x ≤ 9223372036854775807 := bounds_i64 h
theorem open_intsf {H : Type} {enc : TypeId × Value → H} {W : World} {a : Option Addr} {len cap : Nat} {d : DataW H} {ps : List MemPlace} {base : Nat}
    (h : DataW.Trod enc Try.prog W base (fun _ => true) true 22 (.slice a len cap) d ps) : IntsF W a len ∧ len ≤ maxLen := by
  obtain ⟨fuel, hf⟩ := h
  rcases open_ints Try.underlying22 Try.underlying3 (by kernel_rfl) hf with ⟨hcs, _⟩ | ⟨x, l, c, zs, hcs, _, hl, hm, hz, _, hcell, hwz⟩
  · simp [Value.cells] at hcs
    obtain ⟨rfl, rfl, rfl⟩ := hcs
    exact ⟨fun k hk => absurd hk (Nat.not_lt_zero _), Nat.zero_le _⟩
  · simp [Value.cells] at hcs
    obtain ⟨rfl, rfl, rfl⟩ := hcs
    have hz' : zs.length = cap := by simpa using hz
    refine ⟨fun k hk => ?_, Nat.le_trans hl hm⟩
    have hk' : k < zs.length := by omega
    have e : zs.getD k 0 = zs[k] := by rw [List.getD_eq_getElem?_getD, List.getElem?_eq_getElem hk']; rfl
    refine ⟨x, zs[k], rfl, by rw [hcell k hk', e], i64_ofF (hwz zs[k] (List.getElem_mem _))⟩
end Go.Proofs.Ytlcegpjpgmpnbaa
namespace Go.Proofs.Ytlcegpjpgmpnbaa
open Go.ChangeShapes Go.WideShapes Go.ChangeAt Go.RowKit

theorem i64_of {x : Int} (h : (Lit.int .i64 x).wf = true) : -9223372036854775808 ≤ x ∧ x ≤ 9223372036854775807 := bounds_i64 h
theorem open_i64s {H : Type} {enc : TypeId × Value → H} {W : World} {a : Option Addr} {len cap : Nat} {d : DataW H} {ps : List MemPlace} {base : Nat}
    (h : DataW.Trod enc Try.prog W base (fun _ => true) true 22 (.slice a len cap) d ps) : ∃ l : List Int, len = l.length ∧ IsInts W a l cap := by
  obtain ⟨fuel, hf⟩ := h
  rcases open_ints Try.underlying22 Try.underlying3 (by kernel_rfl) hf with ⟨hcs, _⟩ | ⟨x, l, c, zs, hcs, _, hl, hm, hz, _, hcell, hwz⟩
  · simp [Value.cells] at hcs
    obtain ⟨rfl, rfl, rfl⟩ := hcs
    exact ⟨[], rfl, .inl ⟨rfl, rfl, rfl⟩⟩
  · simp [Value.cells] at hcs
    obtain ⟨rfl, rfl, rfl⟩ := hcs
    have hz' : zs.length = cap := by simpa using hz
    have hlen : (zs.take len).length = len := by simp; omega
    refine ⟨zs.take len, hlen.symm, .inr ⟨x, rfl, by rw [hlen]; exact hl, hm, fun j hj => ?_⟩⟩
    rw [hlen] at hj
    have hj' : j < zs.length := by omega
    have e : zs.getD j 0 = zs[j] := by rw [List.getD_eq_getElem?_getD, List.getElem?_eq_getElem hj']; rfl
    have e2 : (zs.take len)[j]'(by rw [hlen]; exact hj) = zs[j] := by simp
    rw [hcell j hj', e, e2]
    exact ⟨rfl, i64_of (hwz zs[j] (List.getElem_mem _))⟩

end Go.Proofs.Ytlcegpjpgmpnbaa
namespace Go.Proofs.Ytlcegpjpgmpnbaa
open Go.ChangeShapes Go.WideShapes Go.ChangeAt Go.RowKit
set_option linter.unusedVariables false

set_option maxRecDepth 100000 in
theorem open_plan6 {H : Type} {enc : TypeId × Value → H} {W : World} {r : Reach} {q0 : Nat} {v : Value} {d : DataW H} {ps : List MemPlace} {base : Nat} (hval : Value.okWide Try.prog W r q0 24 v)
    (h : DataW.Trod enc Try.prog W base (fun _ => true) true 24 v d ps) :
    ∃ (l0 : List Int) (a0 : Option Addr) (c0 : Nat) (z1 : Int) (z2 : Int) (z3 : Int) (z4 : Int) (z5 : Int), v = .agg #[.slice a0 l0.length c0, .int .i64 z1, .int .i64 z2, .int .i64 z3, .int .i64 z4, .int .i64 z5] ∧ IsInts W a0 l0 c0 ∧ (-9223372036854775808 ≤ z1 ∧ z1 ≤ 9223372036854775807) ∧ (-9223372036854775808 ≤ z2 ∧ z2 ≤ 9223372036854775807) ∧ (-9223372036854775808 ≤ z3 ∧ z3 ≤ 9223372036854775807) ∧ (-9223372036854775808 ≤ z4 ∧ z4 ≤ 9223372036854775807) ∧ (-9223372036854775808 ≤ z5 ∧ z5 ≤ 9223372036854775807) := by
  obtain ⟨cs, rfl, hsz⟩ := okWide_struct Try.underlying24 hval
  obtain ⟨fuel, hf⟩ := h
  have hsz2 : cs.size = 6 := by rw [hsz]; kernel_rfl
  obtain ⟨x0, x1, x2, x3, x4, x5, rfl⟩ : ∃ x0 x1 x2 x3 x4 x5, cs = #[x0, x1, x2, x3, x4, x5] := by
    match cs, hsz2 with
    | ⟨[x0, x1, x2, x3, x4, x5]⟩, _ => exact ⟨x0, x1, x2, x3, x4, x5, rfl⟩
  obtain ⟨ys, n, _, hdp, _, hlen, hfs⟩ := DataW.trod_struct Try.underlying24 hf
  obtain ⟨y0, y1, y2, y3, y4, y5, rfl⟩ : ∃ y0 y1 y2 y3 y4 y5, ys = [y0, y1, y2, y3, y4, y5] := by
    match ys, hlen with
    | [y0, y1, y2, y3, y4, y5], _ => exact ⟨y0, y1, y2, y3, y4, y5, rfl⟩
  have h0 : DataW.trod enc Try.prog W base (fun _ => true) true n 22 [x0] = some y0 := by
    have e : ((Value.agg #[x0, x1, x2, x3, x4, x5]).cells.toList.drop 0).take (Try.prog.cellsOf 22) = [x0] := by rw [show Try.prog.cellsOf 22 = 1 by kernel_rfl]; rfl
    rw [← e]; exact hfs 0 _ rfl
  have h1 : DataW.trod enc Try.prog W base (fun _ => true) true n 3 [x1] = some y1 := by
    have e : ((Value.agg #[x0, x1, x2, x3, x4, x5]).cells.toList.drop 1).take (Try.prog.cellsOf 3) = [x1] := by rw [show Try.prog.cellsOf 3 = 1 by kernel_rfl]; rfl
    rw [← e]; exact hfs 1 _ rfl
  have h2 : DataW.trod enc Try.prog W base (fun _ => true) true n 3 [x2] = some y2 := by
    have e : ((Value.agg #[x0, x1, x2, x3, x4, x5]).cells.toList.drop 2).take (Try.prog.cellsOf 3) = [x2] := by rw [show Try.prog.cellsOf 3 = 1 by kernel_rfl]; rfl
    rw [← e]; exact hfs 2 _ rfl
  have h3 : DataW.trod enc Try.prog W base (fun _ => true) true n 3 [x3] = some y3 := by
    have e : ((Value.agg #[x0, x1, x2, x3, x4, x5]).cells.toList.drop 3).take (Try.prog.cellsOf 3) = [x3] := by rw [show Try.prog.cellsOf 3 = 1 by kernel_rfl]; rfl
    rw [← e]; exact hfs 3 _ rfl
  have h4 : DataW.trod enc Try.prog W base (fun _ => true) true n 3 [x4] = some y4 := by
    have e : ((Value.agg #[x0, x1, x2, x3, x4, x5]).cells.toList.drop 4).take (Try.prog.cellsOf 3) = [x4] := by rw [show Try.prog.cellsOf 3 = 1 by kernel_rfl]; rfl
    rw [← e]; exact hfs 4 _ rfl
  have h5 : DataW.trod enc Try.prog W base (fun _ => true) true n 3 [x5] = some y5 := by
    have e : ((Value.agg #[x0, x1, x2, x3, x4, x5]).cells.toList.drop 5).take (Try.prog.cellsOf 3) = [x5] := by rw [show Try.prog.cellsOf 3 = 1 by kernel_rfl]; rfl
    rw [← e]; exact hfs 5 _ rfl
  have hd : d = .agg [y0.1, y1.1, y2.1, y3.1, y4.1, y5.1] := by have := congrArg Prod.fst hdp; simpa using this
  obtain ⟨a0, len0, c0, rfl⟩ : ∃ a len cap, x0 = .slice a len cap := by
    rcases open_ints Try.underlying22 Try.underlying3 (by kernel_rfl) h0 with ⟨hcs, _⟩ | ⟨x, k, c, zs, hcs, _⟩
    · injection hcs with hcs; exact ⟨_, _, _, hcs⟩
    · injection hcs with hcs; exact ⟨_, _, _, hcs⟩
  obtain ⟨l0, rfl, hI0⟩ := open_i64s (d := y0.1) (ps := y0.2) ⟨n, h0⟩
  obtain ⟨z1, ez1, fz1, wz1⟩ := DataW.trod_int Try.underlying3 h1
  injection ez1 with ez1
  subst ez1
  obtain ⟨z2, ez2, fz2, wz2⟩ := DataW.trod_int Try.underlying3 h2
  injection ez2 with ez2
  subst ez2
  obtain ⟨z3, ez3, fz3, wz3⟩ := DataW.trod_int Try.underlying3 h3
  injection ez3 with ez3
  subst ez3
  obtain ⟨z4, ez4, fz4, wz4⟩ := DataW.trod_int Try.underlying3 h4
  injection ez4 with ez4
  subst ez4
  obtain ⟨z5, ez5, fz5, wz5⟩ := DataW.trod_int Try.underlying3 h5
  injection ez5 with ez5
  subst ez5
  subst hd
  subst fz1 fz2 fz3 fz4 fz5
  exact ⟨l0, a0, c0, z1, z2, z3, z4, z5, rfl, hI0, i64_ofF wz1, i64_ofF wz2, i64_ofF wz3, i64_ofF wz4, i64_ofF wz5⟩
set_option maxRecDepth 100000 in
theorem open_win3 {H : Type} {enc : TypeId × Value → H} {W : World} {r : Reach} {q0 : Nat} {v : Value} {d : DataW H} {ps : List MemPlace} {base : Nat} (hval : Value.okWide Try.prog W r q0 37 v)
    (h : DataW.Trod enc Try.prog W base (fun _ => true) true 37 v d ps) :
    ∃ (z0 : Int) (z1 : Int) (z2 : Int), v = .agg #[.int .i64 z0, .int .i64 z1, .int .i64 z2] ∧ (-9223372036854775808 ≤ z0 ∧ z0 ≤ 9223372036854775807) ∧ (-9223372036854775808 ≤ z1 ∧ z1 ≤ 9223372036854775807) ∧ (-9223372036854775808 ≤ z2 ∧ z2 ≤ 9223372036854775807) := by
  obtain ⟨cs, rfl, hsz⟩ := okWide_struct Try.underlying37 hval
  obtain ⟨fuel, hf⟩ := h
  have hsz2 : cs.size = 3 := by rw [hsz]; kernel_rfl
  obtain ⟨x0, x1, x2, rfl⟩ : ∃ x0 x1 x2, cs = #[x0, x1, x2] := by
    match cs, hsz2 with
    | ⟨[x0, x1, x2]⟩, _ => exact ⟨x0, x1, x2, rfl⟩
  obtain ⟨ys, n, _, hdp, _, hlen, hfs⟩ := DataW.trod_struct Try.underlying37 hf
  obtain ⟨y0, y1, y2, rfl⟩ : ∃ y0 y1 y2, ys = [y0, y1, y2] := by
    match ys, hlen with
    | [y0, y1, y2], _ => exact ⟨y0, y1, y2, rfl⟩
  have h0 : DataW.trod enc Try.prog W base (fun _ => true) true n 3 [x0] = some y0 := by
    have e : ((Value.agg #[x0, x1, x2]).cells.toList.drop 0).take (Try.prog.cellsOf 3) = [x0] := by rw [show Try.prog.cellsOf 3 = 1 by kernel_rfl]; rfl
    rw [← e]; exact hfs 0 _ rfl
  have h1 : DataW.trod enc Try.prog W base (fun _ => true) true n 3 [x1] = some y1 := by
    have e : ((Value.agg #[x0, x1, x2]).cells.toList.drop 1).take (Try.prog.cellsOf 3) = [x1] := by rw [show Try.prog.cellsOf 3 = 1 by kernel_rfl]; rfl
    rw [← e]; exact hfs 1 _ rfl
  have h2 : DataW.trod enc Try.prog W base (fun _ => true) true n 3 [x2] = some y2 := by
    have e : ((Value.agg #[x0, x1, x2]).cells.toList.drop 2).take (Try.prog.cellsOf 3) = [x2] := by rw [show Try.prog.cellsOf 3 = 1 by kernel_rfl]; rfl
    rw [← e]; exact hfs 2 _ rfl
  have hd : d = .agg [y0.1, y1.1, y2.1] := by have := congrArg Prod.fst hdp; simpa using this
  obtain ⟨z0, ez0, fz0, wz0⟩ := DataW.trod_int Try.underlying3 h0
  injection ez0 with ez0
  subst ez0
  obtain ⟨z1, ez1, fz1, wz1⟩ := DataW.trod_int Try.underlying3 h1
  injection ez1 with ez1
  subst ez1
  obtain ⟨z2, ez2, fz2, wz2⟩ := DataW.trod_int Try.underlying3 h2
  injection ez2 with ez2
  subst ez2
  subst hd
  subst fz0 fz1 fz2
  exact ⟨z0, z1, z2, rfl, i64_ofF wz0, i64_ofF wz1, i64_ofF wz2⟩
theorem open_plan {H : Type} {enc : TypeId × Value → H} {W : World} {r : Reach} {q0 : Nat} {v : Value} {d : DataW H} {ps : List MemPlace} {base : Nat} (hval : Value.okWide Try.prog W r q0 24 v)
    (h : DataW.Trod enc Try.prog W base (fun _ => true) true 24 v d ps) : ∃ (p : Pl) (a : Option Addr) (c : Nat), v = PlV a c p ∧ IsInts W a p.ws c ∧ p.rng := by
  obtain ⟨l, a, c, z1, z2, z3, z4, z5, rfl, h0, h1, h2, h3, h4, h5⟩ := open_plan6 hval h
  exact ⟨⟨l, z1, z2, z3, z4, z5⟩, a, c, rfl, h0, h1, h2, h3, h4, h5⟩
theorem open_window {H : Type} {enc : TypeId × Value → H} {W : World} {r : Reach} {q0 : Nat} {v : Value} {d : DataW H} {ps : List MemPlace} {base : Nat} (hval : Value.okWide Try.prog W r q0 37 v)
    (h : DataW.Trod enc Try.prog W base (fun _ => true) true 37 v d ps) : ∃ p : Wn, v = .agg p.cells ∧ p.rng := by
  obtain ⟨z0, z1, z2, rfl, h0, h1, h2⟩ := open_win3 hval h
  exact ⟨⟨z0, z1, z2⟩, rfl, h0, h1, h2⟩
end Go.Proofs.Ytlcegpjpgmpnbaa
