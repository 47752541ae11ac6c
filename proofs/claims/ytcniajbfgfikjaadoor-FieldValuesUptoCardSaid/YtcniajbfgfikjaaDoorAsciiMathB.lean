/- Plain facts on lists of bytes: cutting at a byte, and the elements of comma-separated lists. -/
import Derived.Test.YtcniajbfgfikjaaDoorAsciiMath
import Derived.Lib.SplitLaws
namespace Go.Proofs.YtcniajbfgfikjaaDoor
open Go

/-- Puts bytes before the first piece. -/
def front (p : List UInt8) : List (List UInt8) → List (List UInt8)
  | [] => [p]
  | h :: r => (p ++ h) :: r
/-- The pieces between the bytes c. -/
def splitL (c : UInt8) : List UInt8 → List (List UInt8)
  | [] => [[]]
  | b :: t => if b = c then [] :: splitL c t else front [b] (splitL c t)

theorem splitL_ne (c : UInt8) : ∀ l, splitL c l ≠ []
  | [] => by simp [splitL]
  | b :: t => by
    unfold splitL; split
    · simp
    · cases splitL c t <;> simp [front]
theorem front_nil (X : List (List UInt8)) (h : X ≠ []) : front [] X = X := by cases X with
  | nil => exact absurd rfl h
  | cons a r => simp [front]
theorem front_front (p q : List UInt8) (X : List (List UInt8)) : front p (front q X) = front (p ++ q) X := by cases X <;> simp [front]

theorem index_cons_ne (b c : UInt8) (l : List UInt8) (h : b ≠ c) : Lib.index (b :: l) [c] = if Lib.index l [c] == -1 then -1 else Lib.index l [c] + 1 := by
  rw [Lib.index]
  have : (List.isPrefixOf [c] (b :: l)) = false := by simp [List.isPrefixOf]; exact fun e => h e.symm
  rw [this]; rfl
theorem index_cons_eq (c : UInt8) (l : List UInt8) : Lib.index (c :: l) [c] = 0 := by
  rw [Lib.index]
  have : (List.isPrefixOf [c] (c :: l)) = true := by simp [List.isPrefixOf]
  rw [this]; rfl

theorem splitK_eq (c : UInt8) : ∀ l : List UInt8, Lib.splitK [c] 0 (Lib.count l [c]) l = splitL c l
  | [] => rfl
  | b :: t => by
    have ih := splitK_eq c t
    by_cases h : b = c
    · subst h
      rw [Lib.count_cons_eq, Nat.add_comm, Lib.splitK, index_cons_eq, splitL, if_pos rfl]
      rw [if_neg (by decide)]
      simp only [Int.toNat_zero, List.take_zero, Nat.add_zero, List.length_cons, List.length_nil, Nat.zero_add]
      rw [List.drop_succ_cons, List.drop_zero, ih]
    · rw [Lib.count_cons_ne b c t h, splitL, if_neg h, ← ih]
      cases hk : Lib.count t [c] with
      | zero => rfl
      | succ k =>
        have hm : ¬ Lib.index t [c] = -1 := fun e => by rw [Lib.count_miss e] at hk; cases hk
        have hge := Lib.index_ge t [c]
        rw [Lib.splitK, Lib.splitK, index_cons_ne b c t h]
        have hA : (Lib.index t [c] == -1) = false := by simpa using hm
        have hB : (Lib.index t [c] + 1 == -1) = false := by rw [beq_eq_false_iff_ne]; omega
        simp only [hA, hB, Bool.false_eq_true, if_false]
        obtain ⟨i, hi⟩ : ∃ i : Nat, Lib.index t [c] = i := ⟨(Lib.index t [c]).toNat, by omega⟩
        rw [hi]
        have e1 : ((i : Int) + 1).toNat = i + 1 := by omega
        have e2 : (i : Int).toNat = i := by omega
        rw [e1, e2]
        simp [front]

def ofL (l : List UInt8) : ByteArray := ⟨l.toArray⟩
theorem ofL_list (l : List UInt8) : (ofL l).data.toList = l := by simp [ofL]
theorem ofL_of (s : ByteArray) : ofL s.data.toList = s := ba_ext (ofL_list _)
def splitS (c : UInt8) (s : ByteArray) : List ByteArray := (splitL c s.data.toList).map ofL
theorem splitB_eq (c : UInt8) (s : ByteArray) : Lib.splitB ⟨#[c]⟩ 0 (Lib.countB s ⟨#[c]⟩) s = splitS c s := by
  have h := Lib.splitB_data ⟨#[c]⟩ 0 (Lib.countB s ⟨#[c]⟩) s
  have e : Lib.splitK (ByteArray.mk #[c]).data.toList 0 (Lib.countB s ⟨#[c]⟩) s.data.toList = splitL c s.data.toList := splitK_eq c s.data.toList
  rw [e] at h
  unfold splitS
  rw [← h, List.map_map]
  have : ∀ L : List ByteArray, L = L.map (ofL ∘ fun x => x.data.toList) := fun L => by
    induction L with
    | nil => rfl
    | cons a t ih => rw [List.map_cons, ← ih]; simp [ofL_of]
  exact this _

/-- The elements of one list, of several. -/
def elemsOf (l : List ByteArray) : List ByteArray := (l.map trimBA).filter (fun x => !x.data.toList.isEmpty)
def elemL (s : ByteArray) : List ByteArray := elemsOf (splitS 44 s)
theorem elemsOf_yes (l : List ByteArray) (x : ByteArray) (h : (trimBA x).data.toList.isEmpty = false) : elemsOf (l ++ [x]) = elemsOf l ++ [trimBA x] := by
  unfold elemsOf; rw [List.map_append, List.filter_append]; simp only [List.map_cons, List.map_nil, List.filter, h]; rfl
theorem elemsOf_no (l : List ByteArray) (x : ByteArray) (h : (trimBA x).data.toList.isEmpty = true) : elemsOf (l ++ [x]) = elemsOf l := by
  unfold elemsOf; rw [List.map_append, List.filter_append]; simp only [List.map_cons, List.map_nil, List.filter, h]; simp
theorem elemsOf_append (l k : List ByteArray) : elemsOf (l ++ k) = elemsOf l ++ elemsOf k := by
  unfold elemsOf; rw [List.map_append, List.filter_append]
def listL (l : List ByteArray) : List ByteArray := l.flatMap elemL

theorem splitL_append (c : UInt8) : ∀ a b : List UInt8, splitL c (a ++ c :: b) = splitL c a ++ splitL c b
  | [], b => by simp [splitL]
  | x :: a, b => by
    rw [List.cons_append, splitL, splitL]
    by_cases h : x = c
    · rw [if_pos h, if_pos h, splitL_append c a b]; rfl
    · rw [if_neg h, if_neg h, splitL_append c a b]
      cases hs : splitL c a with
      | nil => exact absurd hs (splitL_ne c a)
      | cons p r => rfl
theorem splitL_no (c : UInt8) : ∀ (l p : List UInt8), p ∈ splitL c l → ¬ c ∈ p
  | [], p, h => by simp [splitL] at h; simp [h]
  | b :: t, p, h => by
    rw [splitL] at h
    by_cases hb : b = c
    · rw [if_pos hb] at h
      rcases List.mem_cons.1 h with rfl | h
      · simp
      · exact splitL_no c t p h
    · rw [if_neg hb] at h
      cases hs : splitL c t with
      | nil => exact absurd hs (splitL_ne c t)
      | cons q r =>
        rw [hs] at h
        simp only [front, List.mem_cons] at h
        have ih := splitL_no c t
        rw [hs] at ih
        rcases h with rfl | h
        · intro hc
          simp only [List.cons_append, List.nil_append, List.mem_cons] at hc
          rcases hc with e | hc
          · exact hb e.symm
          · exact ih q (by simp) hc
        · exact ih p (by simp [h])
theorem splitL_whole (c : UInt8) : ∀ l : List UInt8, ¬ c ∈ l → splitL c l = [l]
  | [], _ => rfl
  | b :: t, h => by
    rw [splitL, if_neg (by intro e; apply h; simp [e]), splitL_whole c t (by intro hc; apply h; simp [hc])]; rfl
theorem mem_dropWhile (p : UInt8 → Bool) (x : UInt8) : ∀ l : List UInt8, x ∈ l.dropWhile p → x ∈ l
  | [], h => h
  | a :: t, h => by
    rw [List.dropWhile_cons] at h
    split at h
    · exact List.mem_cons_of_mem _ (mem_dropWhile p x t h)
    · exact h
theorem mem_trimL (x : UInt8) (l : List UInt8) (h : x ∈ trimL l) : x ∈ l := by
  unfold trimL at h
  have h1 := mem_dropWhile _ _ _ h
  unfold rdrop at h1
  have h2 := mem_dropWhile _ _ _ (List.mem_reverse.1 h1)
  exact List.mem_reverse.1 h2

/-- Every element is trimmed, not empty, and has no comma. -/
theorem elem_ok {l : List ByteArray} {x : ByteArray} (h : x ∈ listL l) : x.data.toList.isEmpty = false ∧ trimBA x = x ∧ ¬ 44 ∈ x.data.toList := by
  unfold listL at h
  obtain ⟨s, _, hx⟩ := List.mem_flatMap.1 h
  unfold elemL elemsOf at hx
  obtain ⟨h1, h2⟩ := List.mem_filter.1 hx
  obtain ⟨y, hy, rfl⟩ := List.mem_map.1 h1
  unfold splitS at hy
  obtain ⟨p, hp, rfl⟩ := List.mem_map.1 hy
  refine ⟨by simpa using h2, trimBA_idem _, ?_⟩
  rw [trimBA_list, ofL_list]
  exact fun hc => splitL_no 44 _ p hp (mem_trimL _ _ hc)
theorem elem_self {x : ByteArray} (h1 : x.data.toList.isEmpty = false) (h2 : trimBA x = x) (h3 : ¬ 44 ∈ x.data.toList) : elemL x = [x] := by
  unfold elemL elemsOf splitS
  rw [splitL_whole 44 _ h3]
  simp only [List.map_cons, List.map_nil, ofL_of, h2]
  simp [List.filter, h1]
theorem listL_snoc (l : List ByteArray) (x : ByteArray) : listL (l ++ [x]) = listL l ++ elemL x := by
  unfold listL; rw [List.flatMap_append]; simp
theorem list_twice (l : List ByteArray) : listL (listL l) = listL l := by
  have : ∀ L : List ByteArray, (∀ x ∈ L, x ∈ listL l) → listL L = L := by
    intro L
    induction L with
    | nil => intro _; rfl
    | cons x t ih =>
      intro h
      obtain ⟨h1, h2, h3⟩ := elem_ok (h x (by simp))
      have := ih (fun y hy => h y (by simp [hy]))
      unfold listL at this ⊢
      rw [List.flatMap_cons, this, elem_self h1 h2 h3]; rfl
  exact this _ (fun _ h => h)
theorem list_joined (a b j : ByteArray) (h : j.data.toList = a.data.toList ++ 44 :: b.data.toList) : listL [j] = listL [a, b] := by
  unfold listL elemL elemsOf splitS
  simp only [List.flatMap_cons, List.flatMap_nil, List.append_nil]
  rw [h, splitL_append]
  simp
end Go.Proofs.YtcniajbfgfikjaaDoor
