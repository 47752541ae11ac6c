/- The law FieldWithout. -/
import Derived.Test.YtcniajbfgfikjaaDoorFldP
namespace Go.Proofs.YtcniajbfgfikjaaDoor
open Go.RowKit

theorem foldS_comm (a b : ByteArray) : foldS a b = foldS b a := by unfold foldS; exact Bool.beq_comm
theorem hasL_without (x : List Fld) (ns : List ByteArray) (n : ByteArray) (h : n ∈ ns) : hasL (withoutL x ns) n = false := by
  unfold hasL
  rw [List.any_eq_false]
  intro f hf
  have h1 := (List.mem_filter.1 hf).2
  intro h2
  have : inFoldL ns f.1 = true := List.any_eq_true.2 ⟨n, h, by rw [foldS_comm]; exact h2⟩
  rw [this] at h1; cases h1
theorem withoutL_nil (x : List Fld) : withoutL x [] = x := by
  unfold withoutL inFoldL; simp
theorem strsIn_twoF (w : World) (n m : ByteArray) (t : TypeId) : StrsIn (w.alloc (.cells #[.string n, .string m] t)) (some ⟨w.heap.size, 0, none⟩) [n, m] := fun j hj => by
  have hj' : j < 2 := by simpa using hj
  match j, hj' with
  | 0, _ => exact ⟨_, rfl, by rw [Addr.add_lit, new_cellF]; rfl⟩
  | 1, _ => exact ⟨_, rfl, by rw [Addr.add_lit, new_cellF]; rfl⟩
theorem two_short {n m : ByteArray} (hn : n.size ≤ maxLen) (hm : m.size ≤ maxLen) : ∀ x ∈ [n, m], x.size ≤ maxLen := fun x hx => by
  simp at hx
  rcases hx with rfl | rfl
  · exact hn
  · exact hm
theorem fWithout_two (l : List Fld) (n m : ByteArray) (a : Option Addr) (d cap : Nat) (w : World) (h : FldsIn w a l) (hz : ShortF l) (hn : StrsIn w (some ⟨d, 0, none⟩) [n, m]) (h1 : n.size ≤ maxLen) (h2 : m.size ≤ maxLen) (hl : l.length ≤ 1000000) :
    Calls Tryd.prog 20 #[.slice a l.length cap, .slice (some ⟨d, 0, none⟩) 2 2] w (RetFlds w (withoutL l [n, m])) :=
  fWithout_any l [n, m] a _ cap 2 w h hz hn (two_short h1 h2) hl (by show 2 ≤ 1000000; decide)
theorem refWithout_two (l : List Fld) (n m : ByteArray) (a : Option Addr) (d cap : Nat) (w : World) (h : FldsIn w a l) (hz : ShortF l) (hn : StrsIn w (some ⟨d, 0, none⟩) [n, m]) (h1 : n.size ≤ maxLen) (h2 : m.size ≤ maxLen) (hl : l.length ≤ 1000000) :
    Calls Tryd.prog 23 #[.slice a l.length cap, .slice (some ⟨d, 0, none⟩) 2 2] w (RetFlds w (withoutL l [n, m])) :=
  refWithout_any l [n, m] a _ cap 2 w h hz hn (two_short h1 h2) hl (by show 2 ≤ 1000000; decide)
theorem fWithout_none (l : List Fld) (a : Option Addr) (cap : Nat) (w : World) (h : FldsIn w a l) (hz : ShortF l) (hl : l.length ≤ 1000000) :
    Calls Tryd.prog 20 #[.slice a l.length cap, .slice none 0 0] w (RetFlds w l) := by
  have h0 := fWithout_any l [] a none cap 0 w h hz (StrsIn.nil _ _) (fun x hx => by cases hx) hl (by show 0 ≤ 1000000; decide)
  rw [withoutL_nil] at h0
  exact h0
theorem lawFields_nil (l : List Fld) (a : Option Addr) (cap : Nat) (w : World) (h : FldsC w a l cap) (hcap : l.length ≤ cap) (hcm : cap ≤ maxLen) :
    Calls Tryd.prog 8 #[.slice a l.length cap, .slice none 0 0, .bool true] w fun e w' => ∃ x a' cap', e = .returned (.slice a' x.length cap') ∧ FldsC w' a' x cap' ∧ x.length ≤ 30 ∧ (∀ f ∈ x, f ∈ l ∨ MadeF f) ∧ Below w.heap.size w w' :=
  lawFields_any l a cap none 0 0 true w h hcap hcm (fun _ hj => absurd hj (Nat.not_lt_zero _)) (Nat.zero_le _)
theorem same_true (x : List Fld) (a b : Option Addr) (ca cb : Nat) (w : World) (hx : FldsIn w a x) (hy : FldsIn w b x) (h : x.length ≤ 2000000) :
    Calls Tryd.prog 22 #[.slice a x.length ca, .slice b x.length cb] w fun e w' => e = .returned (.bool true) ∧ Below w.heap.size w w' := by
  refine (sameFields_any x x a b ca cb w hx hy h h).mono ?_
  rintro e w' ⟨rfl, hb⟩
  exact ⟨by rw [sameF_self], hb⟩

theorem fWith_eq (l r xy : List Fld) (e : l ++ r = xy) (a b : Option Addr) (ca cb : Nat) (w : World) (h : FldsC w a l ca) (k : FldsC w b r cb) (hl : l.length ≤ 1000000) (hr : r.length ≤ 1000000) :
    Calls Tryd.prog 21 #[.slice a l.length ca, .slice b r.length cb] w (RetFlds w xy) := by
  subst e
  exact fWith_any l r a b ca cb w h k hl hr
theorem refWith_eq (l r xy : List Fld) (e : l ++ r = xy) (a b : Option Addr) (ca cb : Nat) (w : World) (h : FldsC w a l ca) (k : FldsC w b r cb) (hl : l.length ≤ 1000000) (hr : r.length ≤ 1000000) :
    Calls Tryd.prog 24 #[.slice a l.length ca, .slice b r.length cb] w (RetFlds w xy) := by
  subst e
  exact refWith_any l r a b ca cb w h k hl hr
theorem fWithout_eq (l z : List Fld) (n m : ByteArray) (e : withoutL l [n, m] = z) (a : Option Addr) (d cap : Nat) (w : World) (h : FldsIn w a l) (hz : ShortF l) (hn : StrsIn w (some ⟨d, 0, none⟩) [n, m]) (h1 : n.size ≤ maxLen) (h2 : m.size ≤ maxLen) (hl : l.length ≤ 1000000) :
    Calls Tryd.prog 20 #[.slice a l.length cap, .slice (some ⟨d, 0, none⟩) 2 2] w (RetFlds w z) := by
  subst e
  exact fWithout_two l n m a d cap w h hz hn h1 h2 hl
theorem refWithout_eq (l z : List Fld) (n m : ByteArray) (e : withoutL l [n, m] = z) (a : Option Addr) (d cap : Nat) (w : World) (h : FldsIn w a l) (hz : ShortF l) (hn : StrsIn w (some ⟨d, 0, none⟩) [n, m]) (h1 : n.size ≤ maxLen) (h2 : m.size ≤ maxLen) (hl : l.length ≤ 1000000) :
    Calls Tryd.prog 23 #[.slice a l.length cap, .slice (some ⟨d, 0, none⟩) 2 2] w (RetFlds w z) := by
  subst e
  exact refWithout_two l n m a d cap w h hz hn h1 h2 hl
end Go.Proofs.YtcniajbfgfikjaaDoor
