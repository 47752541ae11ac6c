/- slices.Concat, With of package field and of its reference, SameFields. -/
import Derived.Test.YtcniajbfgfikjaaDoorFldG
namespace Go.Proofs.YtcniajbfgfikjaaDoor
open Go.RowKit

/-- The slice at p holds two slices of fields. -/
def TwoF (w : World) (p : Nat) (l r : List Fld) : Prop :=
  ∃ a ca b cb, w.cell? ⟨p, 0, none⟩ = some (.slice a l.length ca) ∧ w.cell? ⟨p, 1, none⟩ = some (.slice b r.length cb) ∧ FldsC w a l ca ∧ FldsC w b r cb
theorem TwoF.keep {w w' : World} {p : Nat} {l r : List Fld} (h : TwoF w p l r) (hb : Below w.heap.size w w') : TwoF w' p l r := by
  obtain ⟨a, ca, b, cb, h1, h2, h3, h4⟩ := h
  exact ⟨a, ca, b, cb, below_cell hb h1, below_cell hb h2, h3.keep hb, h4.keep hb⟩
def nthF (l r : List Fld) (k : Nat) : List Fld := if k = 0 then l else r
def sumF (l r : List Fld) (k : Nat) : Nat := if k = 0 then 0 else if k = 1 then l.length else l.length + r.length
def joinF (l r : List Fld) (k : Nat) : List Fld := if k = 0 then [] else if k = 1 then l else l ++ r
theorem TwoF.at {w : World} {p : Nat} {l r : List Fld} (h : TwoF w p l r) {k : Nat} (hk : k < 2) : ∃ a c, w.cell? ⟨p, k, none⟩ = some (.slice a (nthF l r k).length c) ∧ FldsC w a (nthF l r k) c := by
  obtain ⟨a, ca, b, cb, h1, h2, h3, h4⟩ := h
  match k, hk with
  | 0, _ => exact ⟨a, ca, h1, h3⟩
  | 1, _ => exact ⟨b, cb, h2, h4⟩
theorem sumF_step (l r : List Fld) {k : Nat} (hk : k < 2) : sumF l r (k + 1) = sumF l r k + (nthF l r k).length := by
  match k, hk with
  | 0, _ => simp [sumF, nthF]
  | 1, _ => simp [sumF, nthF]
theorem joinF_step (l r : List Fld) {k : Nat} (hk : k < 2) : joinF l r (k + 1) = joinF l r k ++ nthF l r k := by
  match k, hk with
  | 0, _ => simp [joinF, nthF]
  | 1, _ => simp [joinF, nthF]
theorem joinF_len (l r : List Fld) (k : Nat) : (joinF l r k).length ≤ l.length + r.length := by
  unfold joinF; split
  · simp
  · split <;> simp
theorem sumF_le (l r : List Fld) (k : Nat) : sumF l r k ≤ l.length + r.length := by
  unfold sumF; split
  · omega
  · split <;> omega
theorem nthF_len (l r : List Fld) (k : Nat) : (nthF l r k).length ≤ l.length + r.length := by
  unfold nthF; split <;> omega

set_option maxRecDepth 100000 in
set_option maxHeartbeats 2000000 in
theorem concatF_any (l r : List Fld) (p : Nat) (w : World) (h : TwoF w p l r) (hl : l.length ≤ 1000000) (hr : r.length ≤ 1000000) :
    Calls Tryd.prog 44 #[.slice (some ⟨p, 0, none⟩) 2 2] w fun e w' => RetFlds w (l ++ r) e w' ∧ ∃ a c, e = .returned (.slice a (l ++ r).length c) ∧ FldsC w' a (l ++ r) c := by
  have H0 := Box.mk h
  clear h
  go_enter Tryd.func44, Tryd.ntmps44
  go_wp2_with fail
  go_loop [3, 11] (fun v iv => ∃ k : Nat, k ≤ 2 ∧ iv = .int .i64 k ∧ ∃ q : Nat, v = .int .i64 q ∧ Box (q = sumF l r k) ∧ q ≤ 2000000) (fun _ iv => 2 - (intOf iv).toNat)
  case atStart => exact ⟨0, Nat.zero_le _, rfl, 0, rfl, ⟨rfl⟩, by omega⟩
  case round =>
    obtain ⟨k, hk, rfl, q, rfl, HQ, hq⟩ := hrel
    by_cases hlt : k < 2
    · obtain ⟨a, c, hc, _⟩ := H0.out.at hlt
      have HS := Box.mk (sumF_step l r hlt)
      have h1 := sumF_le l r (k + 1)
      have h2 := nthF_len l r k
      have h3 : q + (nthF l r k).length ≤ 2000000 := by have := HS.out; have := HQ.out; omega
      go_wp2_with fail
      go_round
      case rel => exact ⟨k + 1, by omega, by go_num, q + (nthF l r k).length, by go_num, ⟨by rw [HS.out, HQ.out]⟩, by omega⟩
      case measure => simp [intOf]; omega
    · obtain rfl : k = 2 := by omega
      have h0 : q ≤ 4000000 := by omega
      go_wp2_with fail
      refine (growF_any q _ h0).mono ?_
      rintro e w1 ⟨v, rfl, hacc⟩
      have HA := Box.mk hacc
      clear hacc HQ
      go_wp2_with fail
      go_loopw [6, 27] (fun v iv wr => ∃ k : Nat, k ≤ 2 ∧ iv = .int .i64 k ∧ Box (AccF w wr v (joinF l r k))) (fun _ iv _ => 2 - (intOf iv).toNat)
      case atStart => exact ⟨0, Nat.zero_le _, rfl, ⟨HA.out⟩⟩
      case round =>
        clear HA
        obtain ⟨k, hk, rfl, HM⟩ := hrel
        by_cases hlt : k < 2
        · obtain ⟨a, c, hc, hf⟩ := (H0.out.keep HM.out.2).at hlt
          have HF := Box.mk hf
          have HJ := Box.mk (joinF_step l r hlt)
          have h1 := joinF_len l r k
          have h2 := nthF_len l r k
          clear hf
          go_wp2_with (at_builtin; refine wpList_append_accfs _ rfl _ _ rfl rfl HM.out rfl HF.out (by omega) ?c1)
          case c1 =>
            intro v' w' hacc
            have HACC := Box.mk (show AccF w w' v' (joinF l r (k + 1)) by rw [HJ.out]; exact hacc)
            clear hacc HM HF HJ
            go_wp2_with fail
            go_roundw
            case rel => exact ⟨k + 1, by omega, by go_num, HACC⟩
            case measure => simp [intOf]; omega
        · obtain rfl : k = 2 := by omega
          have HE := Box.mk (show AccF w wr _ (l ++ r) from HM.out)
          clear HM
          go_wp2_with fail
          obtain ⟨a', cap', rfl, hs⟩ := HE.out.shapeC
          go_ret
          exact ⟨⟨a', cap', rfl, hs.1, HE.out.2⟩, a', cap', rfl, hs⟩

theorem twoF_new (w : World) (l r : List Fld) (a b : Option Addr) (ca cb : Nat) (t : TypeId) (h : FldsC w a l ca) (k : FldsC w b r cb) : TwoF (w.alloc (.cells #[.slice a l.length ca, .slice b r.length cb] t)) w.heap.size l r :=
  ⟨a, ca, b, cb, by rw [new_cellF]; rfl, by rw [new_cellF]; rfl, h.keep (below_oneF _ _), k.keep (below_oneF _ _)⟩

set_option maxHeartbeats 1000000 in
theorem fWith_any (l r : List Fld) (a b : Option Addr) (ca cb : Nat) (w : World) (h : FldsC w a l ca) (k : FldsC w b r cb) (hl : l.length ≤ 1000000) (hr : r.length ≤ 1000000) :
    Calls Tryd.prog 21 #[.slice a l.length ca, .slice b r.length cb] w (RetFlds w (l ++ r)) := by
  have H0 := Box.mk (twoF_new w l r a b ca cb 22 h k)
  have HB := Box.mk (below_oneF w (.cells #[.slice a l.length ca, .slice b r.length cb] 22))
  clear h k
  go_enter Tryd.func21, Tryd.ntmps21
  go_wp2_with fail
  refine (concatF_any l r _ _ H0.out hl hr).mono ?_
  rintro e w1 ⟨⟨a', c', rfl, hs, hb⟩, _⟩
  have HB1 := Box.mk (below_trans HB.out hb)
  have HS := Box.mk hs
  clear hs hb
  go_wp2_with fail
  go_ret
  exact ⟨a', c', by simp, HS.out, HB1.out⟩

set_option maxHeartbeats 1000000 in
theorem refWith_any (l r : List Fld) (a b : Option Addr) (ca cb : Nat) (w : World) (h : FldsC w a l ca) (k : FldsC w b r cb) (hl : l.length ≤ 1000000) (hr : r.length ≤ 1000000) :
    Calls Tryd.prog 24 #[.slice a l.length ca, .slice b r.length cb] w (RetFlds w (l ++ r)) := by
  have HE := Box.mk (AccF.empty w)
  have H0 := Box.mk (And.intro h k)
  clear h k
  go_enter Tryd.func24, Tryd.ntmps24
  go_wp2_with (at_builtin; refine wpList_append_accfs _ rfl _ _ rfl rfl HE.out rfl (H0.out.1.keep HE.out.2) (by simp; omega) ?c1)
  case c1 =>
    intro v1 w1 hacc
    have H1 := Box.mk hacc
    clear hacc HE
    go_wp2_with (at_builtin; refine wpList_append_accfs _ rfl _ _ rfl rfl H1.out rfl (H0.out.2.keep H1.out.2) (by first | omega | (simp; omega)) ?c2)
    case c2 =>
      intro v2 w2 hacc
      have H2 := Box.mk (show AccF w w2 v2 (l ++ r) from hacc)
      clear hacc H1
      obtain ⟨a', cap', rfl, hs⟩ := H2.out.shape
      have HS := Box.mk hs
      clear hs
      go_wp2_with fail
      go_ret
      exact ⟨a', cap', rfl, HS.out, H2.out.2⟩

def sameF (x y : List Fld) : Bool := decide (x = y)
theorem sameF_len {x y : List Fld} (h : ¬ x.length = y.length) : sameF x y = false := by
  unfold sameF; rw [decide_eq_false_iff_not]; intro e; exact h (by rw [e])
theorem sameF_no {x y : List Fld} {k : Nat} (h1 : k < x.length) (h2 : k < y.length) (h : ¬ x[k] = y[k]) : sameF x y = false := by
  unfold sameF; rw [decide_eq_false_iff_not]; intro e; subst e; exact h rfl
theorem sameF_yes {x y : List Fld} (hl : x.length = y.length) (h : ∀ j (h1 : j < x.length) (h2 : j < y.length), x[j] = y[j]) : sameF x y = true := by
  unfold sameF; rw [decide_eq_true_eq]; exact List.ext_getElem hl h
theorem sameF_self (x : List Fld) : sameF x x = true := by unfold sameF; simp

set_option maxRecDepth 100000 in
set_option maxHeartbeats 2000000 in
theorem sameFields_any (x y : List Fld) (a b : Option Addr) (ca cb : Nat) (w : World) (hx : FldsIn w a x) (hy : FldsIn w b y) (_hxl : x.length ≤ 2000000) (_hyl : y.length ≤ 2000000) :
    Calls Tryd.prog 22 #[.slice a x.length ca, .slice b y.length cb] w fun e w' => e = .returned (.bool (sameF x y)) ∧ Below w.heap.size w w' := by
  have HX := Box.mk hx
  have HY := Box.mk hy
  clear hx hy
  go_enter Tryd.func22, Tryd.ntmps22
  by_cases hl : x.length = y.length
  · have HL := Box.mk hl
    have hl1 : ((x.length : Int) != (y.length : Int)) = false := by simp [hl]
    have hl2 : x.length ≤ y.length := by omega
    clear hl
    go_wp2
    go_loopw [5] (fun i wr => ∃ k : Nat, k ≤ x.length ∧ i = .int .i64 k ∧ Box (∀ j (h1 : j < x.length) (h2 : j < y.length), j < k → x[j] = y[j]) ∧ Box (Below w.heap.size w wr)) (fun i _ => x.length - (intOf i).toNat)
    case atStart => exact ⟨0, Nat.zero_le _, rfl, ⟨by intro j _ _ h; omega⟩, ⟨Below.refl _ _⟩⟩
    case round =>
      obtain ⟨k, hk, rfl, HP, HB⟩ := hrel
      by_cases hlt : k < x.length
      · have hlt2 : k < y.length := by omega
        obtain ⟨x1, rfl, c1, c2⟩ := (HX.out.keep HB.out) k hlt
        obtain ⟨y1, rfl, d1, d2⟩ := (HY.out.keep HB.out) k hlt2
        have c2 := cell_next c2
        have d2 := cell_next d2
        by_cases he : x[k] = y[k]
        · have HE := Box.mk (show ∀ j (h1 : j < x.length) (h2 : j < y.length), j < k + 1 → x[j] = y[j] from fun j h1 h2 hj => by
            by_cases e : j = k
            · subst e; exact he
            · exact HP.out j h1 h2 (by omega))
          have e1 : (x[k].1.toList == y[k].1.toList) = true := by rw [he]; simp
          have e2 : (x[k].2.toList == y[k].2.toList) = true := by rw [he]; simp
          clear he
          generalize x[k] = f at *
          generalize y[k] = g at *
          go_wp2_with fail
          go_quiet (fail)
          go_wp2
          go_roundw
          case rel => exact ⟨k + 1, by omega, by go_num, HE, ⟨below_drewN HB.out _⟩⟩
          case measure => simp [intOf]; omega
        · have HN := Box.mk (sameF_no hlt hlt2 he)
          by_cases e1 : (x[k].1.toList == y[k].1.toList) = true
          · have e2 : (x[k].2.toList == y[k].2.toList) = false := by
              rw [toList_eq]; simp only [decide_eq_false_iff_not]
              intro h2
              rw [toList_eq] at e1
              exact he (Prod.ext (of_decide_eq_true e1) h2)
            clear he
            generalize x[k] = f at *
            generalize y[k] = g at *
            go_wp2_with fail
            go_quiet (fail)
            go_wp2
            go_ret
            exact ⟨ret_bool HN.out.symm, below_drewN HB.out _⟩
          · have e1' : (x[k].1.toList == y[k].1.toList) = false := by simpa using e1
            clear he e1
            generalize x[k] = f at *
            generalize y[k] = g at *
            go_wp2_with fail
            go_quiet (fail)
            go_wp2
            go_ret
            exact ⟨ret_bool HN.out.symm, below_drewN HB.out _⟩
      · go_wp2
        go_ret
        exact ⟨ret_bool (sameF_yes HL.out fun j h1 h2 => HP.out j h1 h2 (by omega)).symm, HB.out⟩
  · have hl1 : ((x.length : Int) != (y.length : Int)) = true := by rw [bne_iff_ne]; omega
    have HL := Box.mk hl
    clear hl
    go_wp2
    go_ret
    exact ⟨ret_bool (sameF_len HL.out).symm, Below.refl _ _⟩
end Go.Proofs.YtcniajbfgfikjaaDoor
