/- Contracts of Same, Split and List, of package ascii and of its reference. -/
import Derived.Test.YtcniajbfgfikjaaDoorAsciiC
import Derived.Test.YtcniajbfgfikjaaDoorAsciiMathB
import Derived.Shelf.Strings.SplitShaped
import Derived.WalkSmall
namespace Go.Proofs.YtcniajbfgfikjaaDoor
open Go.RowKit

def sameS (x y : List ByteArray) : Bool := decide (x = y)

theorem sameS_len {x y : List ByteArray} (h : ¬ x.length = y.length) : sameS x y = false := by
  unfold sameS; rw [decide_eq_false_iff_not]; intro e; exact h (by rw [e])
theorem sameS_no {x y : List ByteArray} {k : Nat} (h1 : k < x.length) (h2 : k < y.length) (h : ¬ x[k] = y[k]) : sameS x y = false := by
  unfold sameS; rw [decide_eq_false_iff_not]; intro e; subst e; exact h rfl
theorem sameS_yes {x y : List ByteArray} (hl : x.length = y.length) (h : ∀ j (h1 : j < x.length) (h2 : j < y.length), x[j] = y[j]) : sameS x y = true := by
  unfold sameS; rw [decide_eq_true_eq]; exact List.ext_getElem hl h
theorem toList_eq {a b : ByteArray} : (a.toList == b.toList) = decide (a = b) := by
  rw [Bool.eq_iff_iff, beq_iff_eq, decide_eq_true_eq, ByteArray.toList_eq, ByteArray.toList_eq]
  exact ⟨ba_ext, fun h => by rw [h]⟩

set_option maxHeartbeats 400000 in
theorem same_any (x y : List ByteArray) (a b : Option Addr) (ca cb : Nat) (w : World) (hx : StrsAt w a x) (hy : StrsAt w b y) (_hxl : x.length ≤ 8796093022208) (_hyl : y.length ≤ 8796093022208) :
    Calls Tryd.prog 12 #[.slice a x.length ca, .slice b y.length cb] w fun e w' => e = .returned (.bool (sameS x y)) ∧ Below w.heap.size w w' := by
  have HX := Lib.hid hx
  have HY := Lib.hid hy
  clear hx hy
  go_enter Tryd.func12, Tryd.ntmps12
  by_cases hl : x.length = y.length
  · have HL := Lib.hid hl
    have hl1 : ((x.length : Int) != (y.length : Int)) = false := by simp [hl]
    have hl2 : x.length ≤ y.length := by omega
    clear hl
    go_wp2
    go_loopw [5] (fun i wr => ∃ k : Nat, k ≤ x.length ∧ i = .int .i64 k ∧ Hid (∀ j (h1 : j < x.length) (h2 : j < y.length), j < k → x[j] = y[j]) ∧ Hid (Below w.heap.size w wr)) (fun i _ => x.length - (intOf i).toNat)
    case atStart => exact ⟨0, Nat.zero_le _, rfl, Lib.hid (by intro j _ _ h; omega), Lib.hid (Below.refl _ _)⟩
    case round =>
      obtain ⟨k, hk, rfl, HP, HB⟩ := hrel
      by_cases hlt : k < x.length
      · have hlt2 : k < y.length := by omega
        obtain ⟨b1, o1, rfl, c1⟩ := (HX.out.keep HB.out) k hlt
        obtain ⟨b2, o2, rfl, c2⟩ := (HY.out.keep HB.out) k hlt2
        by_cases he : x[k] = y[k]
        · have ht : (x[k].toList == y[k].toList) = true := by rw [toList_eq]; simp [he]
          have HE := Lib.hid he
          clear he
          go_wp2_with fail
          go_quiet (fail)
          go_wp2
          go_roundw
          case rel => exact ⟨k + 1, by omega, by go_num, Lib.hid (by
            intro j h1 h2 hj
            by_cases e : j = k
            · subst e; exact HE.out
            · exact HP.out j h1 h2 (by omega)), Lib.hid (below_drewN HB.out _)⟩
          case measure => simp [intOf]; omega
        · have ht : (x[k].toList == y[k].toList) = false := by rw [toList_eq]; simp [he]
          have HE := Lib.hid he
          clear he
          go_wp2_with fail
          go_quiet (fail)
          go_wp2
          go_ret
          exact ⟨ret_bool (sameS_no hlt hlt2 HE.out).symm, below_drewN HB.out _⟩
      · go_wp2
        go_ret
        exact ⟨ret_bool (sameS_yes HL.out (fun j h1 h2 => HP.out j h1 h2 (by omega))).symm, HB.out⟩
  · have HL := Lib.hid hl
    have hl1 : ((x.length : Int) != (y.length : Int)) = true := by simp; omega
    clear hl
    go_wp2
    go_ret
    exact ⟨ret_bool (sameS_len HL.out).symm, Below.refl _ _⟩

/-- How many bytes and strings a list holds. -/
def total : List ByteArray → Nat
  | [] => 0
  | s :: t => s.size + 1 + total t
theorem splitL_length (c : UInt8) : ∀ l : List UInt8, (splitL c l).length ≤ l.length + 1
  | [] => Nat.le_refl _
  | b :: t => by
    have := splitL_length c t
    rw [splitL]; split
    · simp; omega
    · cases h : splitL c t with
      | nil => simp [front]
      | cons q r => rw [h] at this; simp [front] at this ⊢; omega
theorem splitS_length (c : UInt8) (s : ByteArray) : (splitS c s).length ≤ s.size + 1 := by
  unfold splitS; rw [List.length_map]; have := splitL_length c s.data.toList; simpa using this
theorem splitS_pos (c : UInt8) (s : ByteArray) : 0 < (splitS c s).length := by
  unfold splitS; rw [List.length_map]
  have := splitL_ne c s.data.toList
  cases h : splitL c s.data.toList with
  | nil => exact absurd h this
  | cons a t => simp
theorem splitL_small (c : UInt8) : ∀ (l p : List UInt8), p ∈ splitL c l → p.length ≤ l.length
  | [], p, h => by simp [splitL] at h; simp [h]
  | b :: t, p, h => by
    have ih := splitL_small c t
    rw [splitL] at h
    split at h
    · rcases List.mem_cons.1 h with rfl | h
      · simp
      · have := ih p h; simp; omega
    · cases hs : splitL c t with
      | nil => exact absurd hs (splitL_ne c t)
      | cons q r =>
        rw [hs] at h ih
        simp only [front, List.mem_cons] at h
        rcases h with rfl | h
        · have := ih q (by simp); simp; omega
        · have := ih p (by simp [h]); simp; omega
theorem splitS_small (c : UInt8) (s x : ByteArray) (h : x ∈ splitS c s) : x.size ≤ s.size := by
  unfold splitS at h
  obtain ⟨p, hp, rfl⟩ := List.mem_map.1 h
  have := splitL_small c _ p hp
  have e : (ofL p).size = p.length := by show (ofL p).data.size = _; simp [ofL]
  have e2 : s.data.toList.length = s.size := by simp
  omega

theorem total_at {l : List ByteArray} {n k : Nat} (h : k < l.length) (ht : total l ≤ n) : l[k].size + 1 ≤ n := by
  induction l generalizing k with
  | nil => exact absurd h (Nat.not_lt_zero _)
  | cons a t ih =>
    unfold total at ht
    cases k with
    | zero => simp only [List.getElem_cons_zero]; omega
    | succ k => simp only [List.getElem_cons_succ]; exact ih (by simpa using h) (by omega)

theorem elemsOf_length (l : List ByteArray) : (elemsOf l).length ≤ l.length := by
  unfold elemsOf
  have := List.length_filter_le (fun x : ByteArray => !x.data.toList.isEmpty) (l.map trimBA)
  simpa using this
theorem listL_length : ∀ l : List ByteArray, (listL l).length ≤ total l
  | [] => Nat.le_refl _
  | a :: t => by
    have h1 := listL_length t
    have h2 := elemsOf_length (splitS 44 a)
    have h3 := splitS_length 44 a
    have e : listL (a :: t) = elemL a ++ listL t := by unfold listL; rw [List.flatMap_cons]
    rw [e, List.length_append]
    unfold total elemL
    omega
theorem total_len : ∀ l : List ByteArray, l.length ≤ total l
  | [] => Nat.le_refl _
  | a :: t => by
    have h1 := total_len t
    simp only [List.length_cons, total]; omega
theorem total_take : ∀ (l : List ByteArray) (k : Nat), total (l.take k) ≤ total l
  | [], _ => by simp
  | a :: t, 0 => by simp [total]
  | a :: t, k + 1 => by
    have := total_take t k
    simp only [List.take_succ_cons, total]; omega

theorem split_any (s : ByteArray) (w : World) (m : Int) (hs : s.size < 4294967281) (hm : w.cell? ⟨0, 0, none⟩ = some (.int .i64 m)) :
    Calls Tryd.prog 61 #[.string s, .string ⟨#[44]⟩] w fun e w' => RetFresh w (splitS 44 s) e w' := by
  refine (Any.strings_Split Tryd.lays146 (by kernel_rfl) s ⟨#[44]⟩ m w hs hm (by decide)).mono ?_
  rintro e w' ⟨he, hw⟩
  have hlen : (splitS 44 s).length = Lib.countB s ⟨#[44]⟩ + 1 := by
    rw [← splitB_eq]; exact Lib.splitB_all _ (by decide) _ _ _ rfl
  refine ⟨w.heap.size, _, by rw [he, hlen], Nat.le_refl _, by rw [hw]; simp, fun j hj => ⟨_, 0, rfl, ?_⟩, by rw [hw]; exact (Below.refl _ _).alloc (Nat.le_refl _) _⟩
  rw [hw, splitB_eq]
  rw [World.cell?_alloc_mark]
  simp [hj]

set_option maxHeartbeats 800000 in
theorem list_any (l : List ByteArray) (a : Option Addr) (ca : Nat) (w : World) (m : Int) (hl : StrsAt w a l) (hm : w.cell? ⟨0, 0, none⟩ = some (.int .i64 m)) (ht : total l ≤ 4000000000) :
    Calls Tryd.prog 42 #[.slice a l.length ca] w fun e w' => RetStrs w (listL l) e w' := by
  have HM := Lib.hid hm
  have HLs := Lib.hid hl
  have HT := Lib.hid ht
  have hll : l.length ≤ 4000000000 := Nat.le_trans (total_len l) ht
  clear hm hl ht
  go_enter Tryd.func42, Tryd.ntmps42
  go_wp2
  go_loopw [3, 11] (fun v i wr => ∃ k : Nat, k ≤ l.length ∧ i = .int .i64 k ∧ Hid (Acc w wr v (listL (l.take k)))) (fun _ i _ => l.length - (intOf i).toNat)
  case atStart => exact ⟨0, Nat.zero_le _, rfl, Lib.hid (Acc.start w)⟩
  case round =>
    obtain ⟨k, hk, rfl, HA⟩ := hrel
    by_cases hlt : k < l.length
    · obtain ⟨b, off, rfl, hc⟩ := HLs.out k hlt
      have c1 := below_cell HA.out.2 hc
      clear hc
      have hb1 := Lib.hid (total_at hlt HT.out)
      go_wp2_with fail
      refine (split_any l[k] _ m (by have := hb1.out; omega) (below_cell HA.out.2 HM.out)).mono ?_
      rintro e w1 ⟨P, cp, rfl, hP1, hP2, hP3, hP4⟩
      have HA1 := Lib.hid (HA.out.keep hP4)
      have HS1 := Lib.hid (Aside.fresh HA.out hP1 hP2 hP3)
      have hpl := splitS_length 44 l[k]
      have hsz : Hid (∀ x ∈ splitS 44 l[k], x.size ≤ 4000000000) := Lib.hid (fun x hx => Nat.le_trans (splitS_small 44 l[k] x hx) (by have := hb1.out; omega))
      have hpl2 : (splitS 44 l[k]).length ≤ 4000000000 := by have := hb1.out; omega
      clear hP1 hP2 hP3 hP4 c1 hpl
      generalize hparts : splitS 44 l[k] = parts at *
      have HPA := Lib.hid hparts
      clear hparts
      go_wp2_with fail
      go_loopw [3, 18] (fun v i wq => ∃ j : Nat, j ≤ parts.length ∧ i = .int .i64 j ∧ Hid (Acc w wq v (listL (l.take k) ++ elemsOf (parts.take j))) ∧ Hid (Aside wq v P parts)) (fun _ i _ => parts.length - (intOf i).toNat)
      case atStart => exact ⟨0, Nat.zero_le _, rfl, Lib.hid (by simpa [elemsOf] using HA1.out), HS1⟩
      case round =>
        obtain ⟨j, hj, rfl, HB, HS⟩ := hrel
        by_cases hjl : j < parts.length
        · obtain ⟨b', o', e', c2⟩ := HS.out.1 j hjl
          cases e'
          rw [Nat.zero_add] at c2
          go_wp2_with fail
          refine (trim_any parts[j] _ ?_).mono ?_
          · have := hsz.out parts[j] (by simp); unfold maxLen; omega
          rintro e w2 ⟨rfl, hb2⟩
          have HB2 := Lib.hid (HB.out.keep hb2)
          have HS2 := Lib.hid (HS.out.keep hb2)
          clear hb2 c2
          by_cases hem : (trimBA parts[j]).data.toList.isEmpty = true
          · have het : (trimBA parts[j]).toList.isEmpty = true := by rw [ByteArray.toList_eq]; exact hem
            have HEM := Lib.hid hem
            clear hem
            go_wp2_with fail
            go_roundw
            case rel => exact ⟨j + 1, by omega, by go_num, Lib.hid (by rw [List.take_succ_eq_append_getElem hjl, elemsOf_no _ _ HEM.out]; exact HB2.out), HS2⟩
            case measure => simp [intOf]; omega
          · have hem' : (trimBA parts[j]).data.toList.isEmpty = false := by simpa using hem
            have het : (trimBA parts[j]).toList.isEmpty = false := by rw [ByteArray.toList_eq]; exact hem'
            have HEM := Lib.hid hem'
            clear hem hem'
            go_wp2_with (at_builtin; refine wpList_append_acc _ rfl _ _ rfl rfl (HB2.out.keep ((Below.refl _ _).alloc (Nat.le_refl _) _)) rfl (y := trimBA parts[j]) ?c1 ?c2 ?c3)
            case c1 => simp
            case c2 =>
              have h1 := listL_length (l.take k)
              have h2 := elemsOf_length (parts.take j)
              have h3 : (parts.take j).length ≤ j := List.length_take_le _ _
              have h4 := total_take l k
              have h5 := HT.out
              rw [List.length_append]; omega
            case c3 =>
              intro g cap w' hacc has
              have HACC := Lib.hid hacc
              have HAS := Lib.hid (has _ _ (HS2.out.keep ((Below.refl _ _).alloc (Nat.le_refl _) _)))
              clear hacc has
              go_wp2_with fail
              go_roundw
              case rel => exact ⟨j + 1, by omega, by go_num, Lib.hid (by rw [List.take_succ_eq_append_getElem hjl, elemsOf_yes _ _ HEM.out]; exact HACC.out), HAS⟩
              case measure => simp [intOf]; omega
        · have hpt : parts.take j = parts := List.take_of_length_le (by omega)
          have HPT := Lib.hid hpt
          clear hpt
          go_wp2_with fail
          go_roundw
          case rel => exact ⟨k + 1, by omega, by go_num, Lib.hid (by
            have := HB.out
            rw [HPT.out, ← HPA.out] at this
            rw [List.take_succ_eq_append_getElem hlt, listL_snoc]; exact this)⟩
          case measure => simp [intOf]; omega
    · have hpt : l.take k = l := List.take_of_length_le (by omega)
      have HF := HA.out
      rw [hpt] at HF
      have HFF := Lib.hid HF
      clear HF hpt HA
      go_wp2_with fail
      go_ret
      obtain ⟨a', cap', rfl, hs⟩ := HFF.out.shape
      exact ⟨a', cap', rfl, hs, HFF.out.2⟩

theorem pieces_step {c : UInt8} {s : ByteArray} {i : Nat} (h : i < s.size) : splitL c (s.data.toList.drop i) = if s[i] = c then [] :: splitL c (s.data.toList.drop (i + 1)) else front [s[i]] (splitL c (s.data.toList.drop (i + 1))) := by
  rw [List.drop_eq_getElem_cons (by simpa using h), splitL]; rfl
theorem pieces_end (c : UInt8) (s : ByteArray) : splitL c (s.data.toList.drop s.size) = [[]] := by
  rw [List.drop_of_length_le (by simp)]; rfl
theorem extract_ofL (s : ByteArray) (a b : Nat) : s.extract a b = ofL ((s.data.toList.drop a).take (b - a)) := ba_ext (by rw [ofL_list, Lib.extract_data])
theorem drop_take_snoc (s : ByteArray) (a i : Nat) (ha : a ≤ i) (h : i < s.size) : (s.data.toList.drop a).take (i + 1 - a) = (s.data.toList.drop a).take (i - a) ++ [s[i]] := by
  have e : i + 1 - a = (i - a) + 1 := by omega
  have hl : s.data.toList.length = s.size := by simp
  rw [e, List.take_succ_eq_append_getElem (by rw [List.length_drop, hl]; omega), List.getElem_drop]
  have e2 : a + (i - a) = i := by omega
  simp only [e2]
  rfl

set_option maxHeartbeats 1000000 in
theorem refSplit_any (s : ByteArray) (c : UInt8) (w : World) (hs : s.size ≤ 4000000000) :
    Calls Tryd.prog 62 #[.string s, .int .u8 c.toNat] w fun e w' => RetFresh w (splitS c s) e w' := by
  go_enter Tryd.func62, Tryd.ntmps62
  go_wp2
  go_loopw [5, 6, 7] (fun v f i wr => ∃ k a : Nat, ∃ done : List (List UInt8), k ≤ s.size + 1 ∧ a ≤ k ∧ i = .int .i64 k ∧ f = .int .i64 a ∧ done.length ≤ k ∧ Hid (Acc w wr v (done.map ofL)) ∧
      Hid ((k ≤ s.size → done ++ front ((s.data.toList.drop a).take (k - a)) (splitL c (s.data.toList.drop k)) = splitL c s.data.toList) ∧ (¬ k ≤ s.size → done = splitL c s.data.toList))) (fun _ _ i _ => s.size + 1 - (intOf i).toNat)
  case atStart => exact ⟨0, 0, [], by omega, Nat.le_refl _, rfl, rfl, Nat.le_refl _, Lib.hid (Acc.start w), Lib.hid ⟨fun _ => by simp [front_nil _ (splitL_ne c _)], fun h => absurd (Nat.zero_le _) h⟩⟩
  case round =>
    obtain ⟨k, a, done, hk, hak, rfl, rfl, hdl, HA, HP⟩ := hrel
    by_cases hle : k ≤ s.size
    · have cont : ∀ (_ : k = s.size ∨ ∃ h : k < s.size, s[k] = c), Hid (done ++ [(s.data.toList.drop a).take (k - a)] ++ (if k < s.size then splitL c (s.data.toList.drop (k + 1)) else []) = splitL c s.data.toList) := by
        intro h
        have h1 := HP.out.1 hle
        rcases h with e | ⟨h, e⟩
        · subst e
          rw [pieces_end] at h1
          rw [if_neg (by omega), List.append_nil]
          simpa [Hid, front] using h1
        · rw [pieces_step h, if_pos e] at h1
          rw [if_pos h, List.append_assoc]
          simpa [Hid, front] using h1
      have CONT := Lib.hid cont
      clear cont
      by_cases hend : k = s.size
      · have HEND := Lib.hid hend
        have he1 : ((k : Int) == (s.size : Int)) = true := by simp [hend]
        clear hend
        go_wp2_with (at_builtin; refine wpList_append_acc _ rfl _ _ rfl rfl (HA.out.keep ((Below.refl _ _).alloc (Nat.le_refl _) _)) rfl (y := s.extract a k) ?c1 ?c2 ?c3)
        case c1 => simp
        case c2 => simp; omega
        case c3 =>
          intro g cap w' hacc has
          have HACC := Lib.hid hacc
          clear hacc has
          go_wp2_with fail
          go_roundw
          case rel => exact ⟨k + 1, k + 1, done ++ [(s.data.toList.drop a).take (k - a)], by omega, Nat.le_refl _, by go_num, by go_num, by simp; omega, Lib.hid (by
            have := HACC.out
            rw [extract_ofL] at this
            rw [List.map_append]; simpa using this), Lib.hid ⟨fun h => absurd h (by have := HEND.out; omega), fun _ => by
              have := (CONT.out (.inl HEND.out)).out
              rw [if_neg (by have := HEND.out; omega), List.append_nil] at this; exact this⟩⟩
          case measure => simp [intOf]; omega
      · have hlt : k < s.size := by omega
        have he1 : ((k : Int) == (s.size : Int)) = false := by rw [beq_eq_false_iff_ne]; omega
        clear hend
        by_cases hc : s[k] = c
        · have HC := Lib.hid hc
          have hb : ((s[k].toNat : Int) == (c.toNat : Int)) = true := by simp [hc]
          clear hc
          go_wp2_with (at_builtin; refine wpList_append_acc _ rfl _ _ rfl rfl (HA.out.keep ((Below.refl _ _).alloc (Nat.le_refl _) _)) rfl (y := s.extract a k) ?c1 ?c2 ?c3)
          case c1 => simp
          case c2 => simp; omega
          case c3 =>
            intro g cap w' hacc has
            have HACC := Lib.hid hacc
            clear hacc has
            go_wp2_with fail
            go_roundw
            case rel => exact ⟨k + 1, k + 1, done ++ [(s.data.toList.drop a).take (k - a)], by omega, Nat.le_refl _, by go_num, by go_num, by simp; omega, Lib.hid (by
              have := HACC.out
              rw [extract_ofL] at this
              rw [List.map_append]; simpa using this), Lib.hid ⟨fun _ => by
                have := (CONT.out (.inr ⟨hlt, HC.out⟩)).out
                rw [if_pos hlt] at this
                rw [Nat.sub_self, List.take_zero, front_nil _ (splitL_ne c _)]; exact this, fun h => absurd (show k + 1 ≤ s.size by omega) h⟩⟩
            case measure => simp [intOf]; omega
        · have HC := Lib.hid hc
          have hb : ((s[k].toNat : Int) == (c.toNat : Int)) = false := by
            rw [Bool.eq_false_iff]; intro h; exact hc (eqb_of h)
          clear hc
          go_wp2_with fail
          go_roundw
          case rel => exact ⟨k + 1, a, done, by omega, by omega, by go_num, rfl, by omega, HA, Lib.hid ⟨fun _ => by
            have h1 := HP.out.1 hle
            rw [pieces_step hlt, if_neg HC.out, front_front, ← drop_take_snoc s a k hak hlt] at h1
            exact h1, fun h => absurd (show k + 1 ≤ s.size by omega) h⟩⟩
          case measure => simp [intOf]; omega
    · have hdone := Lib.hid (HP.out.2 hle)
      go_wp2_with fail
      go_ret
      obtain ⟨g, cap, rfl, h1, h2, h3⟩ := HA.out.isNew (by rw [hdone.out]; simpa using splitL_ne c s.data.toList)
      have e : done.map ofL = splitS c s := by rw [hdone.out]; rfl
      rw [e] at h3 ⊢
      exact ⟨g, cap, rfl, h1, h2, h3, HA.out.2⟩

set_option maxHeartbeats 800000 in
theorem refList_any (l : List ByteArray) (a : Option Addr) (ca : Nat) (w : World) (hl : StrsAt w a l) (ht : total l ≤ 4000000000) :
    Calls Tryd.prog 43 #[.slice a l.length ca] w fun e w' => RetStrs w (listL l) e w' := by
  have HLs := Lib.hid hl
  have HT := Lib.hid ht
  have hll : l.length ≤ 4000000000 := Nat.le_trans (total_len l) ht
  clear hl ht
  go_enter Tryd.func43, Tryd.ntmps43
  go_wp2
  go_loopw [3, 4] (fun v i wr => ∃ k : Nat, k ≤ l.length ∧ i = .int .i64 k ∧ Hid (Acc w wr v (listL (l.take k)))) (fun _ i _ => l.length - (intOf i).toNat)
  case atStart => exact ⟨0, Nat.zero_le _, rfl, Lib.hid (Acc.start w)⟩
  case round =>
    obtain ⟨k, hk, rfl, HA⟩ := hrel
    by_cases hlt : k < l.length
    · obtain ⟨b, off, rfl, hc⟩ := HLs.out k hlt
      have c1 := below_cell HA.out.2 hc
      clear hc
      have hb1 := Lib.hid (total_at hlt HT.out)
      go_wp2_with fail
      refine (refSplit_any l[k] 44 _ (by have := hb1.out; omega)).mono ?_
      rintro e w1 ⟨P, cp, rfl, hP1, hP2, hP3, hP4⟩
      have HA1 := Lib.hid (HA.out.keep hP4)
      have HS1 := Lib.hid (Aside.fresh HA.out hP1 hP2 hP3)
      have hpl := splitS_length 44 l[k]
      have hsz : Hid (∀ x ∈ splitS 44 l[k], x.size ≤ 4000000000) := Lib.hid (fun x hx => Nat.le_trans (splitS_small 44 l[k] x hx) (by have := hb1.out; omega))
      have hpl2 : (splitS 44 l[k]).length ≤ 4000000000 := by have := hb1.out; omega
      clear hP1 hP2 hP3 hP4 c1 hpl
      generalize hparts : splitS 44 l[k] = parts at *
      have HPA := Lib.hid hparts
      clear hparts
      go_wp2_with fail
      go_loopw [3, 6] (fun v i wq => ∃ j : Nat, j ≤ parts.length ∧ i = .int .i64 j ∧ Hid (Acc w wq v (listL (l.take k) ++ elemsOf (parts.take j))) ∧ Hid (Aside wq v P parts)) (fun _ i _ => parts.length - (intOf i).toNat)
      case atStart => exact ⟨0, Nat.zero_le _, rfl, Lib.hid (by simpa [elemsOf] using HA1.out), HS1⟩
      case round =>
        obtain ⟨j, hj, rfl, HB, HS⟩ := hrel
        by_cases hjl : j < parts.length
        · obtain ⟨b', o', e', c2⟩ := HS.out.1 j hjl
          cases e'
          rw [Nat.zero_add] at c2
          go_wp2_with fail
          refine (refTrim_any parts[j] _ ?_).mono ?_
          · have := hsz.out parts[j] (by simp); unfold maxLen; omega
          rintro e w2 ⟨rfl, rfl⟩
          clear c2
          by_cases hem : (trimBA parts[j]).data.toList.isEmpty = true
          · have het : (trimBA parts[j]).toList.isEmpty = true := by rw [ByteArray.toList_eq]; exact hem
            have HEM := Lib.hid hem
            clear hem
            go_wp2_with fail
            go_roundw
            case rel => exact ⟨j + 1, by omega, by go_num, Lib.hid (by rw [List.take_succ_eq_append_getElem hjl, elemsOf_no _ _ HEM.out]; exact HB.out), HS⟩
            case measure => simp [intOf]; omega
          · have hem' : (trimBA parts[j]).data.toList.isEmpty = false := by simpa using hem
            have het : (trimBA parts[j]).toList.isEmpty = false := by rw [ByteArray.toList_eq]; exact hem'
            have HEM := Lib.hid hem'
            clear hem hem'
            go_wp2_with (at_builtin; refine wpList_append_acc _ rfl _ _ rfl rfl (HB.out.keep ((Below.refl _ _).alloc (Nat.le_refl _) _)) rfl (y := trimBA parts[j]) ?c1 ?c2 ?c3)
            case c1 => simp
            case c2 =>
              have h1 := listL_length (l.take k)
              have h2 := elemsOf_length (parts.take j)
              have h3 : (parts.take j).length ≤ j := List.length_take_le _ _
              have h4 := total_take l k
              have h5 := HT.out
              rw [List.length_append]; omega
            case c3 =>
              intro g cap w' hacc has
              have HACC := Lib.hid hacc
              have HAS := Lib.hid (has _ _ (HS.out.keep ((Below.refl _ _).alloc (Nat.le_refl _) _)))
              clear hacc has
              go_wp2_with fail
              go_roundw
              case rel => exact ⟨j + 1, by omega, by go_num, Lib.hid (by rw [List.take_succ_eq_append_getElem hjl, elemsOf_yes _ _ HEM.out]; exact HACC.out), HAS⟩
              case measure => simp [intOf]; omega
        · have hpt : parts.take j = parts := List.take_of_length_le (by omega)
          have HPT := Lib.hid hpt
          clear hpt
          go_wp2_with fail
          go_roundw
          case rel => exact ⟨k + 1, by omega, by go_num, Lib.hid (by
            have := HB.out
            rw [HPT.out, ← HPA.out] at this
            rw [List.take_succ_eq_append_getElem hlt, listL_snoc]; exact this)⟩
          case measure => simp [intOf]; omega
    · have hpt : l.take k = l := List.take_of_length_le (by omega)
      have HF := HA.out
      rw [hpt] at HF
      have HFF := Lib.hid HF
      clear HF hpt HA
      go_wp2_with fail
      go_ret
      obtain ⟨a', cap', rfl, hs⟩ := HFF.out.shape
      exact ⟨a', cap', rfl, hs, HFF.out.2⟩
end Go.Proofs.YtcniajbfgfikjaaDoor
