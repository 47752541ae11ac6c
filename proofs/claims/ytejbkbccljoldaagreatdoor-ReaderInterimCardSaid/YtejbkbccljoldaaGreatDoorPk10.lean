/- Reading a message in pieces: what comes out does not depend on the pieces. The law HeadParse. The law FieldLine. A formatted head is parsed to what it was made of: plain mathematics. Reading a message in pieces: heads, and all rounds. The names of fields that were read are not empty. Queues: single operations on a queue's variable; Peek and SameQueue. Queues: Take. Regions of the laws that call Next. awake of the laws on readers. What follows the text (padding), and Sum. The digest and the state in the reference. The state in the reference; the small functions of the laws. -/
import Derived.Test.YtejbkbccljoldaaGreatDoorPk1
import Derived.Test.YtejbkbccljoldaaGreatDoorPk2
import Derived.Test.YtejbkbccljoldaaGreatDoorPk3
import Derived.Test.YtejbkbccljoldaaGreatDoorPk4
import Derived.Test.YtejbkbccljoldaaGreatDoorPk5
import Derived.Test.YtejbkbccljoldaaGreatDoorPk6
import Derived.Test.YtejbkbccljoldaaGreatDoorPk7
import Derived.Test.YtejbkbccljoldaaGreatDoorPk8
import Derived.Test.YtejbkbccljoldaaGreatDoorPk9
import Derived.Test.YtejbkbccljoldaaGreatDoorRows
import Derived.WalkKit
import Derived.WalkSpells
import Derived.WalkLawsBesides
import Derived.BigQuiet
import Derived.Deep.QuietTactic
import Derived.Lib.Bytealg
import Derived.Lib.IndexLaws
import Derived.Lib.Hide
import Derived.Laws.IdiomStrings
import Derived.Lib.SlTrimSet
import Derived.Lib.IndexBytes
import Derived.Lib.Split
import Derived.Deep.AppendLies
import Derived.Shelf.Strings.SlTrimAscii
import Derived.Shelf.Strings.SplitShaped
import Derived.Shelf.LaysM
import Derived.Shelf.Strings.BuilderK
import Derived.Shelf.Strconv.Itoa4
import Derived.Shelf.Strings.Prefix
import Derived.Shelf.Bytes.SlIndexWhole
import Derived.Test.YtejbkbccljoldaaGreatDoorProg
import Derived.Lib.SplitLaws
import Derived.WalkSmall
import Derived.ProofKit
import Derived.OpenShut
import Derived.Lib.Strings
import Derived.SliceStrings
import Derived.Deep.Quiet
import Derived.Tactics
import Derived.KernelRfl
import Derived.Below
import Derived.Laws.Bits64
import Derived.Lib.SlBytesConst
import Derived.Maps.AppendAt
import Derived.Laws.AppendOwnNone
import Derived.Great.BuildSlice
import Derived.Laws.Rows
import Derived.Laws.BitsAllLaws
import Derived.Laws.Shifts
import Derived.Maps.OwnOps
import Derived.Maps.OwnSet
import Derived.Deep.SlicePairs
import Derived.Lib.AppendZerosOnto
import Derived.Lib.AppendStr
import Derived.Laws.CopyOwn
import Derived.OwnWalk
import Derived.Laws.Strings3
import Derived.Laws.Concat
import Derived.Lib.ItoaMem
import Derived.Deep.RegionHeld3
import Derived.IntWalk
import Derived.Laws.RangeAny
import Derived.LoopTactic
import Derived.Sort.Grow
import Derived.Lib.ConvBytes
import Derived.Deep.Matrix
import Derived.Lib.LaidTab
import Derived.LaidSub
import Derived.Laws.Bits64b
import Derived.Deep.DeepCutAuto
import Derived.Deep.CutBlock
import Derived.Lib.FrozenHead2
import Derived.Laws.Tables
import Derived.Deep.MidRow
import Derived.Deep.WholeRow
import Derived.StillTailTactics
import Derived.Lib.LazyBuf
import Derived.ArgAppend
namespace Go.Proofs.YtejbkbccljoldaaGreatDoor
open Go.RowKit

/-- The message in a state. -/
def MsgS (s : RS) : (ByteArray × ByteArray × Int × List Fld × Bool) × (Int × ByteArray × Int × List Fld) := ((s.m, s.t, s.z, s.xs, s.fr), (s.st, s.rs, s.z2, s.ys))
/-- What reading all of it gives: an error, or how it ends, the message, its bytes, the number of bytes read. -/
inductive RW where
  | err (e : Int)
  | got (e : Int) (s : RS) (d : List UInt8) (n : Nat)
def RW.add (d0 : List UInt8) (n0 : Nat) : RW → RW
  | .err e => .err e
  | .got e s d n => .got e s (d0 ++ d) (n0 + n)
/-- The same, as far as the laws look. -/
def RW.same : RW → RW → Prop
  | .err e, .err f => e = f
  | .got e s d n, .got f t c m => e = f ∧ MsgS s = MsgS t ∧ d = c ∧ n = m
  | _, _ => False
theorem RW.same_refl (x : RW) : x.same x := by cases x <;> simp [RW.same]
theorem RW.same_trans {x y z : RW} (h : x.same y) (k : y.same z) : x.same z := by
  cases x <;> cases y <;> cases z <;> simp_all [RW.same]
theorem RW.add_same {x y : RW} (h : x.same y) (d : List UInt8) (n : Nat) : (x.add d n).same (y.add d n) := by
  cases x <;> cases y <;> simp_all [RW.same, RW.add]
theorem RW.add_add (x : RW) (d c : List UInt8) (n m : Nat) : (x.add c m).add d n = x.add (d ++ c) (n + m) := by
  cases x <;> simp [RW.add, Nat.add_assoc]
theorem RW.add_zero (x : RW) : x.add [] 0 = x := by cases x <;> simp [RW.add]
/-- A body, all at once; at most 100 bytes of it. -/
def bodyC (s : RS) (b : List UInt8) : RW :=
  if s.fk = 1 ∨ s.fk = 2 then
    (if s.left.toNat ≤ b.length then .got 0 s (b.take s.left.toNat) s.left.toNat else .got 4 s b b.length)
  else if s.fk = 3 then
    (if (feedU s.ck [] 0 b).1 = 0 then .got (if (feedU s.ck [] 0 b).2.1.ph = 4 then 0 else 4) s (feedU s.ck [] 0 b).2.2.1 (feedU s.ck [] 0 b).2.2.2 else .err (feedU s.ck [] 0 b).1)
  else (if 100 < s.size + b.length then .err 9 else .got 4 s b b.length)
def allC : Nat → RS → List UInt8 → RW
  | 0, _, _ => .err 7
  | f + 1, s, b =>
    if s.ph = 0 then
      (if (endS b 400).2 = 4 then .got 4 s [] 0
      else if (endS b 400).2 ≠ 0 then .err (endS b 400).2
      else if (headX s (b.take (endS b 400).1.toNat) 100).er ≠ 0 then .err (headX s (b.take (endS b 400).1.toNat) 100).er
      else (allC f (headX s (b.take (endS b 400).1.toNat) 100).r (b.drop (endS b 400).1.toNat)).add [] (endS b 400).1.toNat)
    else bodyC s b
/-- An end of a head is at the start or near the end: so no chunked body is long. -/
def GoodB (b : List UInt8) : Prop := ∀ p, 4 ≤ p → p ≤ b.length → (b.drop (p - 4)).take 4 = crlf2 → p ≤ 25 ∨ b.length ≤ p + 100
theorem GoodB.drop {b : List UInt8} (h : GoodB b) (k : Nat) : GoodB (b.drop k) := fun p h4 hp hw => by
  rw [List.length_drop] at hp ⊢
  rw [List.drop_drop] at hw
  have := h (p + k) (by omega) (by omega) (by rw [show p + k - 4 = k + (p - 4) by omega]; exact hw)
  omega
structure GoodS (s : RS) (b : List UInt8) : Prop where
  ok : OkN 100 s
  ph : s.ph = 0 ∨ s.ph = 1
  hd : s.ph = 0 → GoodB b
  ch : s.ph = 1 → s.fk = 3 → s.size + b.length ≤ 100
theorem end_window : ∀ (l : List UInt8) (i n : Nat), endGo i l = (n : Int) → i + 4 ≤ n ∧ n ≤ i + l.length ∧ (l.drop (n - i - 4)).take 4 = crlf2
  | [], i, n, h => by
    unfold endGo at h
    omega
  | x :: r, i, n, h => by
    rw [endGo_cons] at h
    split at h
    · rename_i hc
      have : n = i + 4 := by omega
      subst this
      have hl : 4 ≤ (x :: r).length := by
        have := congrArg List.length hc
        rw [List.length_take] at this
        simp [crlf2] at this
        simp; omega
      refine ⟨by omega, by omega, ?_⟩
      rw [show i + 4 - i - 4 = 0 by omega]
      exact hc
    · have := end_window r (i + 1) n h
      refine ⟨by omega, by simp; omega, ?_⟩
      rw [show n - i - 4 = (n - (i + 1) - 4) + 1 by omega, List.drop_succ_cons]
      exact this.2.2
theorem endS_end {b : List UInt8} {most : Int} {n : Nat} (h : endS b most = ((n : Int), 0)) : endZ b = (n : Int) ∧ (n : Int) ≤ most ∧ 4 ≤ n ∧ n ≤ b.length ∧ (b.drop (n - 4)).take 4 = crlf2 := by
  unfold endS at h
  split at h
  · rename_i hc
    have e : endZ b = (n : Int) := congrArg Prod.fst h
    have := end_window b 0 n e
    refine ⟨e, by omega, by omega, by omega, ?_⟩
    simpa using this.2.2
  · split at h <;> cases h
/-- A head that is found in a piece is found in all of it; and so is that there is none. -/
theorem endS_take_ok {b : List UInt8} {q n : Nat} {most : Int} (h : endS (b.take q) most = ((n : Int), 0)) : endS b most = ((n : Int), 0) ∧ n ≤ q := by
  obtain ⟨h1, h2, h3, h4, _⟩ := endS_end h
  rw [endZ_take] at h1
  rw [List.length_take] at h4
  split at h1
  · unfold endS
    rw [if_pos (by omega), h1]
    exact ⟨rfl, by omega⟩
  · omega
theorem endS_take_lim {b : List UInt8} {q : Nat} {most : Int} (h : endS (b.take q) most = (0, 3)) : endS b most = (0, 3) := by
  have hE := endZ_take b q
  unfold endS at h ⊢
  by_cases hc : 0 ≤ endZ (b.take q) ∧ endZ (b.take q) ≤ most
  · rw [if_pos hc] at h
    exact absurd (congrArg Prod.snd h) (by show ¬ (0 : Int) = 3; decide)
  · rw [if_neg hc] at h
    by_cases hm : most ≤ (b.take q).length
    · rw [List.length_take] at hm
      have : ¬ (0 ≤ endZ b ∧ endZ b ≤ most) := fun hz => hc (by rw [hE, if_pos (by omega)]; exact hz)
      rw [if_neg this, if_pos (by omega)]
    · rw [if_neg hm] at h
      exact absurd (congrArg Prod.snd h) (by show ¬ (4 : Int) = 3; decide)
theorem feedU_zero : ∀ (l : List UInt8) (s : Chk) (out : List UInt8) (i : Nat), ¬ (feedU s out i l).1 = 0 → (feedU s out i l).2.1 = zeroC
  | [], s, out, i, h => absurd rfl h
  | x :: r, s, out, i, h => by
    by_cases h4 : s.ph = 4
    · rw [feedU_done h4] at h; exact absurd rfl h
    · by_cases h1 : s.ph = 1
      · rw [feedU_data h1] at h ⊢
        exact feedU_zero r _ _ _ h
      · by_cases h0 : (stepS s x).1 = 0
        · rw [feedU_ok h4 h1 h0] at h ⊢
          exact feedU_zero r _ _ _ h
        · rw [feedU_err h4 h1 h0]
/-- What was there before stands in front. -/
theorem feedU_shift : ∀ (l : List UInt8) (s : Chk) (out : List UInt8) (i : Nat), feedU s out i l = if (feedU s [] 0 l).1 = 0 then (0, (feedU s [] 0 l).2.1, out ++ (feedU s [] 0 l).2.2.1, i + (feedU s [] 0 l).2.2.2) else ((feedU s [] 0 l).1, zeroC, [], 0)
  | [], s, out, i => by simp [feedU_nil]
  | x :: r, s, out, i => by
    by_cases h4 : s.ph = 4
    · rw [feedU_done h4, feedU_done h4]; simp
    · by_cases h1 : s.ph = 1
      · rw [feedU_data h1, feedU_data h1, feedU_shift r (dataS s) (out ++ [x]) (i + 1), feedU_shift r (dataS s) ([] ++ [x]) (0 + 1)]
        by_cases h : (feedU (dataS s) [] 0 r).1 = 0
        · simp [h, Nat.add_assoc]
        · simp [h]
      · by_cases h0 : (stepS s x).1 = 0
        · rw [feedU_ok h4 h1 h0, feedU_ok h4 h1 h0, feedU_shift r (stepS s x).2 out (i + 1), feedU_shift r (stepS s x).2 [] (0 + 1)]
          by_cases h : (feedU (stepS s x).2 [] 0 r).1 = 0
          · simp [h, Nat.add_assoc]
          · simp [h]
        · rw [feedU_err h4 h1 h0, feedU_err h4 h1 h0]
          simp [h0]
/-- One round of reading, at any piece and any room. -/
theorem body_round {s : RS} {b : List UInt8} (hg : GoodS s b) (hp : s.ph = 1) (q : Nat) (hq : q ≤ b.length) (room : Int) (hr : 1 ≤ room) (hl : b.length ≤ 1000000) {x : NX} (hx : x = nextX s (b.take q) 400 100 room) :
    (¬ x.er = 0 → bodyC s b = .err x.er) ∧
    (x.er = 0 → x.kind = 3 → x.data = [] ∧ ∃ t, bodyC s b = .got 0 t [] x.n ∧ MsgS x.r = MsgS t) ∧
    (x.er = 0 → ¬ x.kind = 3 → x.kind = 0 ∧ x.n = 0 → x.data = [] ∧ x.r = s ∧ (q = b.length → bodyC s b = .got 4 s [] 0)) ∧
    (x.er = 0 → ¬ x.kind = 3 → ¬ (x.kind = 0 ∧ x.n = 0) → 1 ≤ x.n ∧ x.n ≤ q ∧ x.r.ph = 1 ∧ GoodS x.r (b.drop x.n) ∧ ((bodyC x.r (b.drop x.n)).add x.data x.n).same (bodyC s b)) := by
  have hql : (b.take q).length = q := by rw [List.length_take]; omega
  have hsz := hg.ok.ok.size
  have hsb := hg.ok.sz hp
  have hnx : nextX s (b.take q) 400 100 room = moreX s (b.take q) 100 room := by
    unfold nextX
    rw [if_neg (by omega), if_pos hp, if_neg (by omega)]
  rw [hnx] at hx
  have hok : x.er = 0 → OkN 100 x.r := fun h => by
    rw [hx] at h ⊢
    exact (moreX_ok (by decide) (by rw [hql]; omega) (by omega) hg.ok hp h).1
  unfold moreX at hx
  unfold bodyC
  by_cases hk : s.fk = 1 ∨ s.fk = 2
  · rw [if_pos hk] at hx ⊢
    by_cases h0 : s.fk = 1 ∨ s.left = 0
    · have hz : s.left = 0 := by
        rcases h0 with h | h
        · exact hg.ok.n1 hp h
        · exact h
      rw [if_pos h0] at hx
      rw [hx]
      refine ⟨fun h => absurd rfl h, fun _ _ => ⟨rfl, s, by rw [hz]; rfl, rfl⟩, fun _ h => absurd rfl h, fun _ h => absurd rfl h⟩
    · rw [if_neg h0] at hx
      have hk2 : s.fk = 2 := by omega
      have hlf := hg.ok.ok.left hk2
      have hm1 := minI_le s.left room
      have hm2 := minI_le (minI s.left room) (b.take q).length
      rw [hql] at hm2 hx
      obtain ⟨k, hkk⟩ : ∃ k : Nat, minI (minI s.left room) (q : Int) = (k : Int) := Int.eq_ofNat_of_zero_le (by omega)
      rw [hkk, Int.toNat_natCast] at hx
      by_cases hk0 : (k : Int) = 0
      · rw [if_pos hk0] at hx
        have hq0 : q = 0 := by omega
        rw [hx]
        refine ⟨fun h => absurd rfl h, fun _ h => absurd h (by show ¬ (0 : Int) = 3; decide), fun _ _ _ => ⟨rfl, rfl, fun he => ?_⟩, fun _ _ h => absurd ⟨rfl, rfl⟩ h⟩
        have : b = [] := List.eq_nil_of_length_eq_zero (by omega)
        subst this
        rw [if_neg (by simp; omega)]
        rfl
      · rw [if_neg hk0] at hx
        have hkb : k ≤ q ∧ (k : Int) ≤ s.left := by omega
        have htt : (b.take q).take k = b.take k := by rw [List.take_take, Nat.min_eq_left hkb.1]
        rw [htt] at hx
        have hok' := hok (by rw [hx])
        rw [hx] at hok' ⊢
        refine ⟨fun h => absurd rfl h, fun _ h => absurd h (by show ¬ (2 : Int) = 3; decide), fun _ _ h => absurd h.1 (by show ¬ (2 : Int) = 0; decide), fun _ _ _ => ⟨by dsimp only; omega, hkb.1, hp, ⟨hok', .inr hp, fun h => absurd hp (by dsimp only at h; omega), fun _ h => absurd h (by dsimp only; omega)⟩, ?_⟩⟩
        dsimp only
        rw [if_pos (.inr hk2), List.length_drop]
        by_cases hle : s.left.toNat ≤ b.length
        · rw [if_pos hle, if_pos (by omega)]
          refine ⟨rfl, rfl, ?_, by omega⟩
          rw [show s.left.toNat = k + (s.left - (k : Int)).toNat by omega, List.take_add]
        · rw [if_neg hle, if_neg (by omega)]
          exact ⟨rfl, rfl, List.take_append_drop k b, by omega⟩
  · rw [if_neg hk] at hx ⊢
    by_cases hk3 : s.fk = 3
    · rw [if_pos hk3] at hx ⊢
      have hch := hg.ch hp hk3
      have hm := minI_le room (100 + 1 - s.size)
      have hrk : 1 ≤ minI room (100 + 1 - s.size) := by omega
      have hfl := feedS_len (minI room (100 + 1 - s.size)) s.ck (b.take q)
      have hbad := feedS_bad (b.drop q) (minI room (100 + 1 - s.size)) (b.take q) s.ck [] 0 [] 0
      have hpiece := feedS_piece (b.drop q) (minI room (100 + 1 - s.size)) (b.take q) s.ck [] 0 [] 0
      have hmv : ∀ y p, b.take q = y :: p → ¬ s.ck.ph = 4 → (feedS (minI room (100 + 1 - s.size)) s.ck [] 0 (b.take q)).1 = 0 → 1 ≤ (feedS (minI room (100 + 1 - s.size)) s.ck [] 0 (b.take q)).2.2.2 := fun y p e h4 h => by
        rw [e] at h ⊢
        exact feedS_moves h4 hrk h
      have hnil : q = 0 → feedS (minI room (100 + 1 - s.size)) s.ck [] 0 (b.take q) = (0, s.ck, [], 0) := fun h => by
        subst h; rw [List.take_zero]; rfl
      have hd4 : s.ck.ph = 4 → feedS (minI room (100 + 1 - s.size)) s.ck [] 0 (b.take q) = (0, s.ck, [], 0) := fun h => by
        cases b.take q with
        | nil => rfl
        | cons y p => exact feedS_stop (.inl h)
      rw [List.take_append_drop] at hbad hpiece
      rw [hql] at hfl
      generalize feedS (minI room (100 + 1 - s.size)) s.ck [] 0 (b.take q) = f at *
      by_cases he : f.1 = 0
      · rw [if_neg (fun h => h he)] at hx
        obtain ⟨d, m, e1, e2, e3, e4, e5⟩ := hpiece he
        rw [List.nil_append] at e1 e5
        rw [Nat.zero_add] at e2 e5
        rw [hql] at e3
        rw [if_neg (by omega)] at hx
        have hfu : (feedU f.2.1 [] 0 (b.drop m)).1 = (feedU s.ck [] 0 b).1 ∧ (feedU s.ck [] 0 b).2.1 = (feedU f.2.1 [] 0 (b.drop m)).2.1 ∧ ((feedU s.ck [] 0 b).1 = 0 → (feedU s.ck [] 0 b).2.2.1 = d ++ (feedU f.2.1 [] 0 (b.drop m)).2.2.1 ∧ (feedU s.ck [] 0 b).2.2.2 = m + (feedU f.2.1 [] 0 (b.drop m)).2.2.2) := by
          rw [e5, feedU_shift (b.drop m) f.2.1 d m]
          refine ⟨?_, ?_, fun h => ?_⟩
          · split
            · rename_i h1; exact h1
            · rfl
          · split
            · rfl
            · rename_i h1
              rw [feedU_zero _ _ _ _ h1]
          · split at h
            · rename_i h1; rw [if_pos h1]; exact ⟨rfl, rfl⟩
            · rename_i h1; exact absurd h h1
        by_cases ho : 0 < f.2.2.1.length
        · rw [if_pos ho] at hx
          have hok' := hok (by rw [hx])
          rw [hx] at hok' ⊢
          have hm1 : 1 ≤ m := by rw [e1] at ho; omega
          refine ⟨fun h => absurd rfl h, fun _ h => absurd h (by show ¬ (2 : Int) = 3; decide), fun _ _ h => absurd h.1 (by show ¬ (2 : Int) = 0; decide), fun _ _ _ => ⟨by dsimp only; omega, by dsimp only; omega, hp, ⟨hok', .inr hp, fun h => absurd hp (by dsimp only at h; omega), fun _ _ => ?_⟩, ?_⟩⟩
          · dsimp only; rw [List.length_drop, e1, e2]; omega
          · dsimp only
            rw [if_neg hk, if_pos hk3, e2, hfu.1, hfu.2.1]
            by_cases h0 : (feedU s.ck [] 0 b).1 = 0
            · rw [if_pos h0, if_pos h0, (hfu.2.2 h0).1, (hfu.2.2 h0).2, e1]
              exact ⟨rfl, rfl, rfl, rfl⟩
            · rw [if_neg h0, if_neg h0]
              exact rfl
        · rw [if_neg ho] at hx
          have hd0 : d = [] := by rw [e1] at ho; exact List.eq_nil_of_length_eq_zero (by omega)
          subst hd0
          by_cases h4 : f.2.1.ph = 4
          · rw [if_pos h4] at hx
            rw [hx]
            refine ⟨fun h => absurd rfl h, fun _ _ => ⟨rfl, s, ?_, rfl⟩, fun _ h => absurd rfl h, fun _ h => absurd rfl h⟩
            dsimp only
            have h5 := feedU_done h4 [] 0 (b.drop m)
            rw [h5] at hfu
            rw [if_pos hfu.1.symm, hfu.2.1, if_pos h4, (hfu.2.2 hfu.1.symm).1, (hfu.2.2 hfu.1.symm).2, e2]
            rfl
          · rw [if_neg h4] at hx
            by_cases hm0 : m = 0
            · have hck : ¬ s.ck.ph = 4 := fun h => by
                rw [hd4 h] at h4; exact h4 h
              have hq0 : q = 0 := by
                rcases Nat.eq_zero_or_pos q with h | h
                · exact h
                · exfalso
                  cases hbt : b.take q with
                  | nil => rw [hbt] at hql; simp at hql; omega
                  | cons y p => have := hmv y p hbt hck he; omega
              have hff := hnil hq0
              rw [hx]
              refine ⟨fun h => absurd rfl h, fun _ h => absurd h (by show ¬ (0 : Int) = 3; decide), fun _ _ _ => ⟨rfl, by rw [hff], fun hqb => ?_⟩, fun _ _ h => absurd ⟨rfl, by dsimp only; omega⟩ h⟩
              have : b = [] := List.eq_nil_of_length_eq_zero (by omega)
              subst this
              rw [feedU_nil, if_pos rfl, if_neg hck]
            · have hok' := hok (by rw [hx])
              rw [hx] at hok' ⊢
              refine ⟨fun h => absurd rfl h, fun _ h => absurd h (by show ¬ (0 : Int) = 3; decide), fun _ _ h => absurd h.2 (by dsimp only; omega), fun _ _ _ => ⟨by dsimp only; omega, by dsimp only; omega, hp, ⟨hok', .inr hp, fun h => absurd hp (by dsimp only at h; omega), fun _ _ => ?_⟩, ?_⟩⟩
              · dsimp only; rw [List.length_drop, e2]; omega
              · dsimp only
                rw [if_neg hk, if_pos hk3, e2, hfu.1, hfu.2.1]
                by_cases h0 : (feedU s.ck [] 0 b).1 = 0
                · rw [if_pos h0, if_pos h0, (hfu.2.2 h0).1, (hfu.2.2 h0).2]
                  exact ⟨rfl, rfl, rfl, rfl⟩
                · rw [if_neg h0, if_neg h0]
                  exact rfl
      · rw [if_pos he] at hx
        have h1 := hbad he
        rw [hx]
        refine ⟨fun _ => ?_, fun h => absurd h he, fun h => absurd h he, fun h => absurd h he⟩
        rw [h1, if_neg he]
        rfl
    · rw [if_neg hk3] at hx ⊢
      have hm1 := minI_le room (b.take q).length
      have hm2 := minI_le (minI room (b.take q).length) (100 + 1 - s.size)
      rw [hql] at hm1 hm2 hx
      obtain ⟨k, hkk⟩ : ∃ k : Nat, minI (minI room (q : Int)) (100 + 1 - s.size) = (k : Int) := Int.eq_ofNat_of_zero_le (by omega)
      rw [hkk, Int.toNat_natCast] at hx
      by_cases hk0 : (k : Int) ≤ 0
      · rw [if_pos hk0] at hx
        have hq0 : q = 0 := by omega
        rw [hx]
        refine ⟨fun h => absurd rfl h, fun _ h => absurd h (by show ¬ (0 : Int) = 3; decide), fun _ _ _ => ⟨rfl, rfl, fun he => ?_⟩, fun _ _ h => absurd ⟨rfl, rfl⟩ h⟩
        have : b = [] := List.eq_nil_of_length_eq_zero (by omega)
        subst this
        rw [if_neg (by simp; omega)]
        rfl
      · rw [if_neg hk0] at hx
        by_cases hfull : 100 < s.size + (k : Int)
        · rw [if_pos hfull] at hx
          rw [hx]
          refine ⟨fun _ => ?_, fun h => absurd h (by show ¬ (9 : Int) = 0; decide), fun h => absurd h (by show ¬ (9 : Int) = 0; decide), fun h => absurd h (by show ¬ (9 : Int) = 0; decide)⟩
          rw [if_pos (by omega)]; rfl
        · rw [if_neg hfull] at hx
          have htt : (b.take q).take k = b.take k := by rw [List.take_take, Nat.min_eq_left (by omega)]
          rw [htt] at hx
          have hok' := hok (by rw [hx])
          rw [hx] at hok' ⊢
          refine ⟨fun h => absurd rfl h, fun _ h => absurd h (by show ¬ (2 : Int) = 3; decide), fun _ _ h => absurd h.1 (by show ¬ (2 : Int) = 0; decide), fun _ _ _ => ⟨by dsimp only; omega, by dsimp only; omega, hp, ⟨hok', .inr hp, fun h => absurd hp (by dsimp only at h; omega), fun _ h => absurd h hk3⟩, ?_⟩⟩
          dsimp only
          rw [if_neg hk, if_neg hk3, List.length_drop]
          by_cases hle : 100 < s.size + b.length
          · rw [if_pos hle, if_pos (by omega)]
            exact rfl
          · rw [if_neg hle, if_neg (by omega)]
            exact ⟨rfl, rfl, List.take_append_drop k b, by omega⟩
end Go.Proofs.YtejbkbccljoldaaGreatDoor
namespace Go.Proofs.YtejbkbccljoldaaGreatDoor
open Go.RowKit

theorem QVarH.all {w : World} {g : Nat} {m t : ByteArray} {z : Int} {v : Value} (h : QVarH w g m t z v) : g < w.heap.size ∧ w.cell? ⟨g, 0, none⟩ = some (.string m) ∧ w.cell? ⟨g, 1, none⟩ = some (.string t) ∧ w.cell? ⟨g, 2, none⟩ = some (.int .i64 z) ∧ w.cell? ⟨g, 3, none⟩ = some v ∧ w.cell? ⟨g, 4, none⟩ = some (.bool false) ∧ w.cell? ⟨g, 5, none⟩ = some (.slice none 0 0) := by
  refine ⟨(Array.getElem?_eq_some_iff.1 h).1, ?_, ?_, ?_, ?_, ?_, ?_⟩ <;> rw [cell_of_row _ _ _ _ _ _ h] <;> rfl
theorem AVarH.all {w : World} {g : Nat} {m : Int} {t : ByteArray} {z : Int} {v : Value} (h : AVarH w g m t z v) : g < w.heap.size ∧ w.cell? ⟨g, 0, none⟩ = some (.int .i64 m) ∧ w.cell? ⟨g, 1, none⟩ = some (.string t) ∧ w.cell? ⟨g, 2, none⟩ = some (.int .i64 z) ∧ w.cell? ⟨g, 3, none⟩ = some v ∧ w.cell? ⟨g, 4, none⟩ = some (.slice none 0 0) := by
  refine ⟨(Array.getElem?_eq_some_iff.1 h).1, ?_, ?_, ?_, ?_, ?_⟩ <;> rw [cell_of_row _ _ _ _ _ _ h] <;> rfl
end Go.Proofs.YtejbkbccljoldaaGreatDoor
namespace Go.Proofs.YtejbkbccljoldaaGreatDoor
open Go.RowKit

theorem tok_no_colon {n : ByteArray} (h : tokS n = true) : ∀ c ∈ n.data.toList, c ≠ 58 := fun c hc => by
  unfold tokS at h
  simp only [Bool.and_eq_true] at h
  have h1 := List.all_eq_true.1 h.1 c hc
  intro e
  subst e
  have : tokB 58 = false := by decide +kernel
  rw [this] at h1; cases h1
theorem val_trim {v : ByteArray} (h : valS v = true) : trimBA v = v := by
  unfold valS at h
  simp only [Bool.and_eq_true] at h
  have h2 := h.2
  rw [toList_eq] at h2
  exact of_decide_eq_true h2
/-- The line of a valid field is parsed to the field. -/
theorem parse_line (n v P : ByteArray) (hn : tokS n = true) (hv : valS v = true) (hP : P.data.toList = n.data.toList ++ 58 :: 32 :: v.data.toList) : parseF P = some (n, v) := by
  have hnl : n.data.toList.length = n.size := by rw [Array.length_toList]; rfl
  have hsz : P.size = n.size + (2 + v.data.toList.length) := by
    have : P.size = P.data.toList.length := by rw [Array.length_toList]; rfl
    rw [this, hP, List.length_append, hnl]; simp; omega
  have hlt : n.size < P.size := by omega
  have hat : P.data.toList[n.size]? = some 58 := by
    rw [hP, List.getElem?_append_right (by omega), hnl, Nat.sub_self]; rfl
  have hc : colonI P = (n.size : Int) := by
    refine colonI_at P n.size hlt ?_ (fun j hj => ?_)
    · have h2 : P.data.toList[n.size]? = some P[n.size] := by
        rw [List.getElem?_eq_getElem (by simpa using hlt)]; rfl
      rw [hat] at h2
      exact (Option.some.inj h2).symm
    · rw [hP, List.getElem?_append_left (by omega)]
      intro e
      exact tok_no_colon hn 58 (List.mem_of_getElem? e) rfl
  rw [parseF_at hc]
  have e1 : P.extract 0 n.size = n := ba_ext (by
    rw [extract_ofL]
    show (ofL _).data.toList = _
    simp only [ofL, List.drop_zero, Nat.sub_zero, hP]
    rw [List.take_left' hnl])
  have e2 : trimBA (P.extract (n.size + 1) P.size) = v := by
    rw [← val_trim hv]
    refine ba_ext ?_
    rw [trimBA_list, trimBA_list, extract_ofL]
    have e3 : (P.data.toList.drop (n.size + 1)).take (P.size - (n.size + 1)) = 32 :: v.data.toList := by
      rw [hP, show n.size + 1 = n.data.toList.length + 1 by omega, List.drop_append, List.drop_of_length_le (by omega), Nat.add_sub_cancel_left, List.nil_append]
      show List.take _ (32 :: v.data.toList) = _
      exact List.take_of_length_le (by rw [List.length_cons]; omega)
    show trimL (ofL ((P.data.toList.drop (n.size + 1)).take (P.size - (n.size + 1)))).data.toList = _
    rw [e3]
    show trimL (32 :: v.data.toList) = _
    rw [trimL_front _ 32 (by decide)]
  rw [e1, e2, if_pos (by unfold fldB; rw [hn, hv]; rfl)]

end Go.Proofs.YtejbkbccljoldaaGreatDoor
namespace Go.Proofs.YtejbkbccljoldaaGreatDoor
open Go.RowKit

/-- No CR and no LF. -/
def noCL (l : List UInt8) : Prop := ∀ c ∈ l, ¬ c = 13 ∧ ¬ c = 10
theorem noCL.app {a b : List UInt8} (ha : noCL a) (hb : noCL b) : noCL (a ++ b) := fun c hc => by
  rcases List.mem_append.1 hc with h | h
  · exact ha c h
  · exact hb c h
theorem lines_word : ∀ (l cur r : List UInt8), noCL l → linesGo cur (l ++ 13 :: 10 :: r) = (linesGo [] r).map (⟨(cur ++ l).toArray⟩ :: ·)
  | [], cur, r, _ => by
    rw [List.nil_append, lines_more (by decide) (fun _ => rfl), lines_end (by simp), List.dropLast_concat, List.append_nil]
  | c :: l, cur, r, h => by
    have hc := h c (List.mem_cons_self ..)
    rw [List.cons_append, lines_more hc.2 (fun e => absurd e hc.1), lines_word l (cur ++ [c]) r (fun x hx => h x (List.mem_cons_of_mem _ hx)), List.append_assoc]
    rfl
def wordsB (ws : List (List UInt8)) : List UInt8 := ws.flatMap (· ++ [13, 10])
theorem wordsB_cons (w : List UInt8) (ws : List (List UInt8)) : wordsB (w :: ws) = w ++ 13 :: 10 :: wordsB ws := by
  unfold wordsB; rw [List.flatMap_cons, List.append_assoc]; rfl
theorem lines_words : ∀ ws : List (List UInt8), (∀ w ∈ ws, noCL w) → linesGo [] (wordsB ws) = some (ws.map fun w => (⟨w.toArray⟩ : ByteArray))
  | [], _ => by rw [show wordsB [] = [] from rfl, lines_nil]; rfl
  | w :: ws, h => by
    rw [wordsB_cons, lines_word w [] _ (h w (List.mem_cons_self ..)), lines_words ws (fun x hx => h x (List.mem_cons_of_mem _ hx))]
    rfl
theorem endGo_word : ∀ (l r : List UInt8) (i : Nat), noCL l → endGo i (l ++ r) = endGo (i + l.length) r
  | [], r, i, _ => rfl
  | c :: l, r, i, h => by
    have hc := h c (List.mem_cons_self ..)
    rw [List.cons_append, endGo_cons, if_neg (fun e => by
      have := congrArg List.head? e
      rw [List.take_succ_cons] at this
      exact hc.1 (Option.some.inj this)), endGo_word l r (i + 1) (fun x hx => h x (List.mem_cons_of_mem _ hx)), List.length_cons, show i + 1 + l.length = i + (l.length + 1) by omega]
theorem end_words : ∀ (ws : List (List UInt8)) (i : Nat), ¬ ws = [] → (∀ w ∈ ws, noCL w ∧ ¬ w = []) → endGo i (wordsB ws ++ [13, 10]) = ((i + (wordsB ws).length + 2 : Nat) : Int)
  | [], _, h, _ => absurd rfl h
  | w :: ws, i, _, h => by
    have hw := h w (List.mem_cons_self ..)
    have e : wordsB (w :: ws) ++ [13, 10] = w ++ 13 :: 10 :: (wordsB ws ++ [13, 10]) := by rw [wordsB_cons, List.append_assoc]; rfl
    have hl : (wordsB (w :: ws)).length = w.length + 2 + (wordsB ws).length := by rw [wordsB_cons, List.length_append, List.length_cons, List.length_cons]; omega
    rw [e, endGo_word w _ i hw.1, hl]
    cases ws with
    | nil =>
      rw [show wordsB [] = [] from rfl, List.nil_append, endGo_cons, if_pos (show List.take 4 [13, 10, 13, 10] = crlf2 from rfl)]
      rw [List.length_nil]
      omega
    | cons v vs =>
      have hv := h v (List.mem_cons_of_mem _ (List.mem_cons_self ..))
      obtain ⟨c, v', rfl⟩ : ∃ c v', v = c :: v' := by
        cases v with
        | nil => exact absurd rfl hv.2
        | cons c v' => exact ⟨c, v', rfl⟩
      have hc := hv.1 c (List.mem_cons_self ..)
      have hn : wordsB ((c :: v') :: vs) ++ [13, 10] = c :: (v' ++ 13 :: 10 :: (wordsB vs ++ [13, 10])) := by rw [wordsB_cons, List.append_assoc]; rfl
      have ih := end_words ((c :: v') :: vs) (i + w.length + 2) (by simp) (fun x hx => h x (List.mem_cons_of_mem _ hx))
      rw [endGo_cons, if_neg (fun e => by
        rw [hn] at e
        have := congrArg (fun l => l[2]?) e
        simp only [List.take_succ_cons, crlf2] at this
        exact hc.1 (Option.some.inj this)), endGo_cons, if_neg (fun e => by
        have := congrArg List.head? e
        rw [List.take_succ_cons] at this
        have h2 := Option.some.inj this
        revert h2; decide), show i + w.length + 1 + 1 = i + w.length + 2 by omega, ih]
      omega
theorem linesS_words (ws : List (List UInt8)) (h0 : ¬ ws = []) (h : ∀ w ∈ ws, noCL w ∧ ¬ w = []) : linesS (wordsB ws ++ [13, 10]) = some (ws.map fun w => (⟨w.toArray⟩ : ByteArray)) := by
  have e : wordsB ws ++ [13, 10] = wordsB (ws ++ [[]]) := by unfold wordsB; rw [List.flatMap_append]; rfl
  have h1 := end_words ws 0 h0 h
  have h2 : endGo 0 (wordsB ws ++ [13, 10]) = ((0 + (wordsB ws ++ [13, 10]).length : Nat) : Int) := by
    rw [h1, List.length_append, List.length_cons, List.length_cons, List.length_nil]; omega
  have h3 := end_suffix _ 0 h2
  unfold linesS endZ
  rw [if_pos ⟨by rw [h2, Nat.zero_add], h3.1⟩, e, lines_words (ws ++ [[]]) (fun w hw => by
    rcases List.mem_append.1 hw with hw | hw
    · exact (h w hw).1
    · obtain rfl := List.mem_singleton.1 hw
      exact fun c hc => absurd hc (by simp)), Option.map_some, List.map_append, List.map_cons, List.map_nil, List.dropLast_concat]
def lineW (f : Fld) : List UInt8 := f.1.data.toList ++ [58, 32] ++ f.2.data.toList
theorem linesB_words : ∀ x : List Fld, linesB x = wordsB (x.map lineW)
  | [] => rfl
  | f :: r => by
    have ih := linesB_words r
    unfold linesB at ih ⊢
    rw [List.flatMap_cons, List.map_cons, wordsB_cons, ← ih]
    unfold lineB lineW
    simp
theorem tok_noCL {m : ByteArray} (h : tokS m = true) : noCL m.data.toList := fun c hc => by
  unfold tokS at h
  rw [Bool.and_eq_true] at h
  have h1 := List.all_eq_true.1 h.1 c hc
  constructor
  · rintro rfl; revert h1; decide +kernel
  · rintro rfl; revert h1; decide +kernel
theorem vis_noCL {m : ByteArray} (h : visS m = true) : noCL m.data.toList := fun c hc => by
  unfold visS at h
  have h1 := List.all_eq_true.1 h c hc
  constructor
  · rintro rfl; revert h1; decide +kernel
  · rintro rfl; revert h1; decide +kernel
def noCLb (l : List UInt8) : Bool := l.all fun c => !(c == 13) && !(c == 10)
theorem noCLb_ok {l : List UInt8} (h : noCLb l = true) : noCL l := fun c hc => by
  have := List.all_eq_true.1 h c hc
  simpa using this
theorem num_noCL {z : Int} (h0 : 0 ≤ z) (h1 : z ≤ 599) : noCL (fmtS 10 z).data.toList := by
  obtain ⟨k, rfl⟩ : ∃ k : Nat, z = k := ⟨z.toNat, by omega⟩
  have hk : k < 600 := by omega
  have h : ∀ m : Fin 600, noCLb (fmtS 10 (m.val : Int)).data.toList = true := by decide +kernel
  exact noCLb_ok (h ⟨k, hk⟩)
theorem nonempty_ba {s : ByteArray} (h : 0 < s.size) : ¬ s.data.toList = [] := fun e => by
  have h1 := congrArg List.length e
  rw [Array.length_toList, List.length_nil] at h1
  have h2 : s.data.size = s.size := rfl
  omega
theorem lineW_ok {f : Fld} (h : fldB f.1 f.2 = true) : noCL (lineW f) ∧ ¬ lineW f = [] := by
  unfold fldB at h
  rw [Bool.and_eq_true] at h
  have hv := h.2
  unfold valS at hv
  rw [Bool.and_eq_true] at hv
  refine ⟨((tok_noCL h.1).app (noCLb_ok (by decide))).app (vis_noCL hv.1), fun e => ?_⟩
  have h1 := congrArg List.length e
  unfold lineW at h1
  simp at h1
theorem fieldsGo_words : ∀ x : List Fld, allB x = true → fieldsGo (x.map fun f => (⟨(lineW f).toArray⟩ : ByteArray)) = some x
  | [], _ => rfl
  | f :: r, h => by
    have h0 := h
    unfold allB at h0
    rw [List.all_cons, Bool.and_eq_true] at h0
    have hf := h0.1
    unfold fldB at hf
    rw [Bool.and_eq_true] at hf
    have hp : parseF (⟨(lineW f).toArray⟩ : ByteArray) = some f := parse_line f.1 f.2 _ hf.1 hf.2 (by show lineW f = _; unfold lineW; simp)
    rw [List.map_cons]
    unfold fieldsGo
    rw [hp]
    simp only []
    rw [fieldsGo_words r h0.2]; rfl
theorem fieldsS_words {x : List Fld} (h : allB x = true) : fieldsS (x.map fun f => (⟨(lineW f).toArray⟩ : ByteArray)) = if 64 < x.length then (3, []) else (0, x) := by
  unfold fieldsS
  rw [List.length_map, fieldsGo_words x h]
theorem linesS_head {s : ByteArray} {x : List Fld} (hs : noCL s.data.toList) (h0 : 0 < s.size) (hx : allB x = true) : linesS (headB s x) = some (s :: x.map fun f => (⟨(lineW f).toArray⟩ : ByteArray)) := by
  have e : headB s x = wordsB (s.data.toList :: x.map lineW) ++ [13, 10] := by
    rw [headB_yes (by omega) hx, wordsB_cons, linesB_words x]
    simp
  rw [e, linesS_words _ (by simp) (fun w hw => by
    rcases List.mem_cons.1 hw with rfl | hw
    · exact ⟨hs, nonempty_ba h0⟩
    · obtain ⟨f, hf, rfl⟩ := List.mem_map.1 hw
      unfold allB at hx
      exact lineW_ok (List.all_eq_true.1 hx f hf)), List.map_cons, List.map_map]
  rfl
theorem fmtRep_line {st z : Int} {r : ByteArray} (h0 : 100 ≤ st) (h1 : st ≤ 599) (hz : z = 0 ∨ z = 1) (hr : visS r = true) : noCL (fmtRep st r z).data.toList := by
  unfold fmtRep
  rw [if_pos ⟨h0, h1, by omega, by omega, hr⟩]
  rw [ba_app_list, ba_app_list, ba_app_list, ba_app_list, ba_app_list]
  exact (((((noCLb_ok (by decide) : noCL http0.data.toList).app (num_noCL (by omega) (by omega))).app (noCLb_ok (by decide))).app (num_noCL (by omega) h1)).app (noCLb_ok (by decide))).app (vis_noCL hr)
theorem headA_made {st z : Int} {r : ByteArray} {x : List Fld} (h0 : 100 ≤ st) (h1 : st ≤ 599) (hz : z = 0 ∨ z = 1) (hr : visS r = true) (hx : allB x = true) (hl : x.length ≤ 64) : headA (headB (fmtRep st r z) x) = (0, st, r, z, x) := by
  obtain ⟨h2, h3⟩ := twice_rep h0 h1 hz hr
  have h4 := linesS_head (fmtRep_line h0 h1 hz hr) h3 hx
  have h5 := fieldsS_words hx
  rw [if_neg (by omega)] at h5
  unfold headA
  rw [h4]
  simp only []
  rw [h2]
  simp only []
  rw [h5]; rfl
end Go.Proofs.YtejbkbccljoldaaGreatDoor
namespace Go.Proofs.YtejbkbccljoldaaGreatDoor
open Go.RowKit

theorem linesGo_two : ∀ (l cur : List UInt8) (G : List ByteArray), linesGo cur l = some G → ∀ s ∈ G, s.size + 2 ≤ cur.length + l.length
  | [], cur, G, h, s, hs => by
    unfold linesGo at h
    obtain rfl := Option.some.inj h
    exact absurd hs (by simp)
  | x :: r, cur, G, h, s, hs => by
    unfold linesGo at h
    split at h
    · cases h
    · rename_i hc
      split at h
      · rename_i hx
        cases hq : linesGo [] r with
        | none => rw [hq] at h; cases h
        | some G' =>
          rw [hq] at h
          simp only [Option.map_some, Option.some.injEq] at h
          subst h
          rcases List.mem_cons.1 hs with rfl | hs
          · have h1 : cur.getLast? = some 13 := by
              refine Classical.byContradiction fun h2 => hc (.inr ⟨hx, h2⟩)
            have h2 : cur ≠ [] := fun e => by rw [e] at h1; cases h1
            have h3 : 0 < cur.length := List.length_pos_iff.2 h2
            show cur.dropLast.toArray.size + 2 ≤ _
            rw [List.size_toArray, List.length_dropLast, List.length_cons]
            omega
          · have := linesGo_two r [] G' hq s hs
            simp only [List.length_nil, List.length_cons] at *
            omega
      · have := linesGo_two r (cur ++ [x]) G h s hs
        simp only [List.length_append, List.length_cons, List.length_nil] at *
        omega
theorem linesS_two {b : List UInt8} {L : List ByteArray} (h : linesS b = some L) : ∀ s ∈ L, s.size + 2 ≤ b.length := fun s hs => by
  unfold linesS at h
  split at h
  · cases hq : linesGo [] b with
    | none => rw [hq] at h; cases h
    | some G =>
      rw [hq] at h
      simp only [Option.map_some, Option.some.injEq] at h
      subst h
      have := linesGo_two b [] G hq s (List.dropLast_subset _ hs)
      simpa using this
  · cases h
theorem fieldsGo_from : ∀ (l : List ByteArray) (x : List Fld), fieldsGo l = some x → ∀ f ∈ x, ∃ s ∈ l, parseF s = some f
  | [], x, h, f, hf => by
    cases h
    exact absurd hf (by simp)
  | t :: l, x, h, f, hf => by
    unfold fieldsGo at h
    cases ht : parseF t with
    | none => rw [ht] at h; cases h
    | some g =>
      rw [ht] at h
      simp only at h
      cases hx : fieldsGo l with
      | none => rw [hx] at h; cases h
      | some y =>
        rw [hx] at h
        simp only [Option.map_some, Option.some.injEq] at h
        subst h
        rcases List.mem_cons.1 hf with rfl | hf
        · exact ⟨t, List.mem_cons_self .., ht⟩
        · obtain ⟨s, h1, h2⟩ := fieldsGo_from l y hx f hf
          exact ⟨s, List.mem_cons_of_mem _ h1, h2⟩
theorem fieldsS_from {l : List ByteArray} {f : Fld} (hf : f ∈ (fieldsS l).2) : ∃ s ∈ l, parseF s = some f := by
  unfold fieldsS at hf
  split at hf
  · exact absurd hf (by simp)
  · cases hx : fieldsGo l with
    | none => rw [hx] at hf; exact absurd hf (by simp)
    | some y => rw [hx] at hf; exact fieldsGo_from l y hx f hf
theorem parseF_sum {s : ByteArray} {f : Fld} (h : parseF s = some f) : f.1.size + 1 + f.2.size ≤ s.size := by
  unfold parseF at h
  split at h
  · rename_i h0
    split at h
    · have e := Option.some.inj h
      subst e
      have h1 : (colonI s).toNat < s.size := colonI_lt s (k := (colonI s).toNat) (by omega)
      have h2 := trimBA_size (s.extract ((colonI s).toNat + 1) s.size)
      rw [ByteArray.size_extract] at h2
      show (s.extract 0 (colonI s).toNat).size + 1 + (trimBA (s.extract ((colonI s).toNat + 1) s.size)).size ≤ s.size
      rw [ByteArray.size_extract]
      omega
    · cases h
  · cases h
theorem foldS_size {a b : ByteArray} (h : foldS a b = true) : a.size = b.size := by
  have h1 := eq_of_beq h
  have h2 := congrArg List.length h1
  rw [ByteArray.toList_eq, ByteArray.toList_eq] at h2
  have h3 := lowS_sizeF a
  have h4 := lowS_sizeF b
  simp only [Array.length_toList] at h2
  rw [← h3, ← h4]
  exact h2
theorem frame3_long {v : Int} {ls : List ByteArray} {k0 : Int} {h : List UInt8} (hL : ∀ s ∈ ls, s.size + 2 ≤ h.length) (hk : ¬ k0 = 3) (hf : (frameS v (fieldsS ls).2 k0).1 = 3) : 26 ≤ h.length := by
  have key : chunkedB (listL (valuesL (fieldsS ls).2 teN)) = true := by
    unfold frameS at hf
    split at hf
    · split at hf
      · exact absurd hf (by show ¬ (0 : Int) = 3; decide)
      · rename_i hc
        cases hb : chunkedB (listL (valuesL (fieldsS ls).2 teN)) with
        | true => rfl
        | false => exact absurd (.inr (.inr hb)) hc
    · split at hf
      · exact absurd hf hk
      · split at hf
        · exact absurd hf (by show ¬ (0 : Int) = 3; decide)
        · split at hf
          · exact absurd hf (by show ¬ (2 : Int) = 3; decide)
          · exact absurd hf (by show ¬ (0 : Int) = 3; decide)
  unfold chunkedB at key
  split at key
  · rename_i y hy
    have h1 := foldS_size key
    have hmem : y ∈ listL (valuesL (fieldsS ls).2 teN) := by rw [hy]; exact List.mem_singleton.2 rfl
    unfold listL at hmem
    obtain ⟨v0, hv0, hy0⟩ := List.mem_flatMap.1 hmem
    have h2 := total_mem hy0
    have h3 := total_elemL v0
    unfold valuesL at hv0
    obtain ⟨f, hf0, rfl⟩ := List.mem_map.1 hv0
    obtain ⟨hf1, hf2⟩ := List.mem_filter.1 hf0
    have h4 := foldS_size hf2
    obtain ⟨s, hs, hp⟩ := fieldsS_from hf1
    have h5 := parseF_sum hp
    have h6 := hL s hs
    have h7 : chunkedN.size = 7 := rfl
    have h8 : teN.size = 17 := rfl
    omega
  · cases key
theorem headX_size {s : RS} {h : List UInt8} {body : Int} (h0 : (headX s h body).er = 0) (h1 : (headX s h body).kind = 1) : (headX s h body).r.size = 0 := by
  have hf : ∀ (x : RS) (f : Int × Int × Int) (n : Nat), (finX x f n body).er = 0 → (finX x f n body).r.size = 0 := fun x f n h0 => by
    unfold finX at h0 ⊢
    split
    · rfl
    · split
      · rfl
      · rfl
  unfold headX at h0 h1 ⊢
  split
  · rename_i hr
    rw [if_pos hr] at h0 h1
    split
    · rfl
    · rename_i hc
      rw [if_neg hc] at h0 h1
      split
      · rfl
      · rename_i hc2
        rw [if_neg hc2] at h0 h1
        split
        · rename_i hc3
          rw [if_pos hc3] at h1
          exact absurd h1 (by show ¬ (4 : Int) = 1; decide)
        · rename_i hc3
          rw [if_neg hc3] at h0
          exact hf _ _ _ h0
  · rename_i hr
    rw [if_neg hr] at h0 h1
    split
    · rfl
    · rename_i hc
      rw [if_neg hc] at h0
      exact hf _ _ _ h0
/-- A head that begins a chunked body is not short. -/
theorem headX_chunk {s : RS} {h : List UInt8} {body : Int} (h0 : (headX s h body).er = 0) (h1 : (headX s h body).kind = 1) (h3 : (headX s h body).r.fk = 3) : 26 ≤ h.length := by
  have hf : ∀ (x : RS) (f : Int × Int × Int) (n : Nat), (finX x f n body).er = 0 → (finX x f n body).r.fk = 3 → f.1 = 3 := fun x f n h0 h3 => by
    unfold finX at h0 h3
    split at h0
    · rename_i hc
      exfalso
      unfold errX at h0
      dsimp only at h0
      split at h0
      · cases h0
      · exact hc h0
    · rename_i hc
      rw [if_neg hc] at h3
      split at h0
      · exact absurd h0 (by decide)
      · rename_i hc2
        rw [if_neg hc2] at h3
        exact h3
  unfold headX at h0 h1 h3
  split at h0
  · rename_i hr
    rw [if_pos hr] at h1 h3
    split at h0
    · rename_i hc; exact absurd h0 hc
    · rename_i hc
      rw [if_neg hc] at h1 h3
      split at h0
      · exact absurd h0 (by decide)
      · rename_i hc2
        rw [if_neg hc2] at h1 h3
        split at h0
        · rename_i hc3
          rw [if_pos hc3] at h1
          exact absurd h1 (by show ¬ (4 : Int) = 1; decide)
        · rename_i hc3
          rw [if_neg hc3] at h3
          have hk := hf _ _ _ h0 h3
          unfold replyS at hk
          split at hk
          · exact absurd hk (by show ¬ (1 : Int) = 3; decide)
          · unfold headA at hk
            split at hk
            · rename_i l0 ls hL
              have hL2 := linesS_two hL
              split at hk
              · split at hk
                · exact frame3_long (fun s hs => hL2 s (List.mem_cons_of_mem _ hs)) (by decide) hk
                · exact absurd hk (by show ¬ (frameS 0 [] 4).1 = 3; decide +kernel)
              · exact absurd hk (by show ¬ (frameS 0 [] 4).1 = 3; decide +kernel)
            · exact absurd hk (by show ¬ (frameS 0 [] 4).1 = 3; decide +kernel)
  · rename_i hr
    rw [if_neg hr] at h1 h3
    split at h0
    · rename_i hc; exact absurd h0 hc
    · rename_i hc
      rw [if_neg hc] at h3
      have hk := hf _ _ _ h0 h3
      unfold headR at hk
      split at hk
      · rename_i l0 ls hL
        have hL2 := linesS_two hL
        split at hk
        · split at hk
          · split at hk
            · exact absurd hk (by show ¬ (frameS 0 [] 1).1 = 3; decide +kernel)
            · exact frame3_long (fun s hs => hL2 s (List.mem_cons_of_mem _ hs)) (by decide) hk
          · exact absurd hk (by show ¬ (frameS 0 [] 1).1 = 3; decide +kernel)
        · exact absurd hk (by show ¬ (frameS 0 [] 1).1 = 3; decide +kernel)
      · exact absurd hk (by show ¬ (frameS 0 [] 1).1 = 3; decide +kernel)
theorem allC_more : ∀ (N f : Nat) (s : RS) (b : List UInt8), b.length ≤ N → b.length < f → allC f s b = allC (b.length + 1) s b
  | N, 0, s, b, _, h => absurd h (Nat.not_lt_zero _)
  | N, f + 1, s, b, hN, h => by
    unfold allC
    split
    · split
      · rfl
      · split
        · rfl
        · rename_i h0
          split
          · rfl
          · have h0' : (endS b 400).2 = 0 := Decidable.not_not.1 h0
            obtain ⟨n, hn, h1, h2⟩ := endS_ok h0'
            rw [hn]
            show (allC f _ (b.drop (Int.toNat (n : Int)))).add _ _ = (allC b.length _ (b.drop (Int.toNat (n : Int)))).add _ _
            rw [Int.toNat_natCast]
            have hd : (b.drop n).length = b.length - n := List.length_drop
            match N, hN with
            | 0, hN => omega
            | N + 1, hN => rw [allC_more N f _ (b.drop n) (by omega) (by omega), allC_more N b.length _ (b.drop n) (by omega) (by omega)]
    · rfl
/-- All of a message. -/
def CW (s : RS) (b : List UInt8) : RW := allC (b.length + 1) s b
theorem CW_body {s : RS} {b : List UInt8} (h : ¬ s.ph = 0) : CW s b = bodyC s b := by unfold CW allC; rw [if_neg h]
theorem CW_more {s : RS} {b : List UInt8} (h : s.ph = 0) (h4 : endS b 400 = (0, 4)) : CW s b = .got 4 s [] 0 := by
  unfold CW allC; rw [if_pos h, if_pos (by rw [h4])]
theorem CW_lim {s : RS} {b : List UInt8} (h : s.ph = 0) (h4 : endS b 400 = (0, 3)) : CW s b = .err 3 := by
  unfold CW allC
  rw [if_pos h, if_neg (by rw [h4]; show ¬ (3 : Int) = 4; decide), if_pos (by rw [h4]; show (3 : Int) ≠ 0; decide), h4]
theorem CW_head {s : RS} {b : List UInt8} {n : Nat} (h : s.ph = 0) (hE : endS b 400 = ((n : Int), 0)) : CW s b = if (headX s (b.take n) 100).er ≠ 0 then .err (headX s (b.take n) 100).er else (CW (headX s (b.take n) 100).r (b.drop n)).add [] n := by
  have h1 := endS_end hE
  have hd : (b.drop n).length = b.length - n := List.length_drop
  unfold CW
  rw [← allC_more b.length b.length _ (b.drop n) (by omega) (by omega)]
  conv => lhs; unfold allC
  rw [if_pos h, if_neg (by rw [hE]; show ¬ (0 : Int) = 4; decide), if_neg (by rw [hE]; exact fun h => h rfl), hE]
  show (if (headX s (b.take (Int.toNat (n : Int))) 100).er ≠ 0 then RW.err (headX s (b.take (Int.toNat (n : Int))) 100).er else (allC b.length (headX s (b.take (Int.toNat (n : Int))) 100).r (b.drop (Int.toNat (n : Int)))).add [] (Int.toNat (n : Int))) = _
  rw [Int.toNat_natCast]
/-- One round at a head. -/
theorem head_round {s : RS} {b : List UInt8} (hg : GoodS s b) (hp : s.ph = 0) (q : Nat) (hq : q ≤ b.length) (room : Int) (hl : b.length ≤ 1000000) {x : NX} (hx : x = nextX s (b.take q) 400 100 room) :
    (¬ x.er = 0 → CW s b = .err x.er) ∧
    (x.er = 0 → ¬ x.kind = 3) ∧
    (x.er = 0 → x.kind = 0 ∧ x.n = 0 → x.data = [] ∧ x.r = s ∧ (q = b.length → CW s b = .got 4 s [] 0)) ∧
    (x.er = 0 → ¬ (x.kind = 0 ∧ x.n = 0) → 1 ≤ x.n ∧ x.n ≤ q ∧ GoodS x.r (b.drop x.n) ∧ CW s b = (CW x.r (b.drop x.n)).add x.data x.n) := by
  have hnx : nextX s (b.take q) 400 100 room = firstX s (b.take q) 400 100 := by unfold nextX; rw [if_pos hp]
  rw [hnx] at hx
  rcases endS_cases (b.take q) 400 with h | h | ⟨n, hE, h4, hn⟩
  · have e : x = ⟨0, s, 0, [], 0⟩ := by rw [hx]; unfold firstX; rw [if_pos (by rw [h])]
    rw [e]
    refine ⟨fun h => absurd rfl h, fun _ => by show ¬ (0 : Int) = 3; decide, fun _ _ => ⟨rfl, rfl, fun hqb => ?_⟩, fun _ h => absurd ⟨rfl, rfl⟩ h⟩
    rw [hqb, List.take_length] at h
    exact CW_more hp h
  · have e : x = errX 3 := by
      rw [hx]; unfold firstX
      rw [if_neg (by rw [h]; show ¬ (3 : Int) = 4; decide), if_pos (by rw [h]; show (3 : Int) ≠ 0; decide), h]
    rw [e]
    refine ⟨fun _ => CW_lim hp (endS_take_lim h), fun h => absurd h (by decide), fun h => absurd h (by decide), fun h => absurd h (by decide)⟩
  · obtain ⟨hE2, hnq⟩ := endS_take_ok hE
    have htt : (b.take q).take n = b.take n := by rw [List.take_take, Nat.min_eq_left hnq]
    have hln : (b.take n).length = n := by rw [List.length_take]; omega
    have e : x = headX s (b.take n) 100 := by
      rw [hx]; unfold firstX
      rw [if_neg (by rw [hE]; show ¬ (0 : Int) = 4; decide), if_neg (by rw [hE]; exact fun h => h rfl), hE]
      show headX s ((b.take q).take (Int.toNat (n : Int))) 100 = _
      rw [Int.toNat_natCast, htt]
    have hc := CW_head hp hE2
    rw [← e] at hc
    refine ⟨fun h0 => by rw [hc, if_pos h0], fun h0 => ?_, fun h0 hk => ?_, fun h0 _ => ?_⟩
    · have hk := headX_ok (s := s) (h := b.take n) (body := 100) (by decide) (by omega) hg.ok hp (by rw [← e]; exact h0)
      rw [← e] at hk
      omega
    · have hk2 := headX_ok (s := s) (h := b.take n) (body := 100) (by decide) (by omega) hg.ok hp (by rw [← e]; exact h0)
      rw [← e] at hk2
      omega
    · have hk := headX_ok (s := s) (h := b.take n) (body := 100) (by decide) (by omega) hg.ok hp (by rw [← e]; exact h0)
      rw [← e, hln] at hk
      obtain ⟨k1, k2, k3, k4⟩ := hk
      have hgb := hg.hd hp
      rw [k2]
      refine ⟨by omega, hnq, ⟨k1, ?_, fun _ => hgb.drop n, fun hp1 h3 => ?_⟩, by rw [hc, if_neg (fun h => h h0), k3]⟩
      · rcases k4 with ⟨_, h⟩ | ⟨_, h⟩
        · exact .inr h
        · rw [h]; exact .inl hp
      · rcases k4 with ⟨hk1, _⟩ | ⟨_, h⟩
        · have hlong := headX_chunk (s := s) (h := b.take n) (body := 100) (by rw [← e]; exact h0) (by rw [← e]; exact hk1) (by rw [← e]; exact h3)
          rw [hln] at hlong
          have hw := endS_end hE2
          have := hgb n hw.2.2.1 hw.2.2.2.1 hw.2.2.2.2
          have hsz : x.r.size = 0 := by
            rw [e]
            exact headX_size (by rw [← e]; exact h0) (by rw [← e]; exact hk1)
          rw [hsz, List.length_drop]
          omega
        · rw [h] at hp1; omega
end Go.Proofs.YtejbkbccljoldaaGreatDoor
namespace Go.Proofs.YtejbkbccljoldaaGreatDoor
open Go.RowKit

def NmS (s : RS) : Prop := (∀ f ∈ s.xs, ¬ f.1.size = 0) ∧ ∀ f ∈ s.ys, ¬ f.1.size = 0
theorem nmS_zero : NmS zeroR := ⟨fun f hf => absurd hf (by simp [zeroR]), fun f hf => absurd hf (by simp [zeroR])⟩
theorem parseF_name {s : ByteArray} {f : Fld} (h : parseF s = some f) : ¬ f.1.size = 0 := by
  unfold parseF at h
  split at h
  · split at h
    · rename_i hb
      have e := Option.some.inj h
      rw [← e]
      intro hz
      have hb2 : tokS (s.extract 0 (colonI s).toNat) = true := by
        cases ht : tokS (s.extract 0 (colonI s).toNat) with
        | true => rfl
        | false => rw [fldB_tok ht] at hb; cases hb
      have hz2 : (s.extract 0 (colonI s).toNat).data.toList = [] := List.eq_nil_of_length_eq_zero (by simpa using hz)
      unfold tokS at hb2
      rw [hz2] at hb2
      exact absurd hb2 (by decide)
    · cases h
  · cases h
theorem fieldsS_names {l : List ByteArray} : ∀ f ∈ (fieldsS l).2, ¬ f.1.size = 0 := fun f hf => by
  obtain ⟨s, _, hp⟩ := fieldsS_from hf
  exact parseF_name hp
theorem headA_names (h : List UInt8) : ∀ f ∈ (headA h).2.2.2.2, ¬ f.1.size = 0 := by
  unfold headA
  split
  · split
    · split
      · exact fieldsS_names
      · exact fun f hf => absurd hf (by simp)
    · exact fun f hf => absurd hf (by simp)
  · exact fun f hf => absurd hf (by simp)
theorem headR_names (h : List UInt8) : ∀ f ∈ (headR h).2.2.2.2, ¬ f.1.size = 0 := by
  unfold headR
  split
  · split
    · split
      · split
        · exact fun f hf => absurd hf (by simp)
        · exact fieldsS_names
      · exact fun f hf => absurd hf (by simp)
    · exact fun f hf => absurd hf (by simp)
  · exact fun f hf => absurd hf (by simp)
theorem finX_names {x : RS} (h : NmS x) (f : Int × Int × Int) (n : Nat) (body : Int) : NmS (finX x f n body).r := by
  unfold finX
  split
  · exact nmS_zero
  · split
    · exact nmS_zero
    · exact h
theorem moreX_names {s : RS} (hs : NmS s) (b : List UInt8) (body room : Int) : NmS (moreX s b body room).r := by
  unfold moreX
  split
  · split
    · exact hs
    · split <;> exact hs
  · split
    · split
      · exact nmS_zero
      · split
        · exact nmS_zero
        · split
          · exact hs
          · split <;> exact hs
    · split
      · exact hs
      · split
        · exact nmS_zero
        · exact hs
theorem nextX_names {s : RS} (hs : NmS s) (b : List UInt8) (most body room : Int) : NmS (nextX s b most body room).r := by
  unfold nextX
  split
  · unfold firstX
    split
    · exact hs
    · split
      · exact nmS_zero
      · unfold headX
        split
        · split
          · exact nmS_zero
          · split
            · exact nmS_zero
            · split
              · exact hs
              · refine finX_names ?_ _ _ _
                exact ⟨hs.1, headA_names _⟩
        · split
          · exact nmS_zero
          · refine finX_names ?_ _ _ _
            exact ⟨headR_names _, hs.2⟩
  · split
    · exact moreX_names hs b body _
    · exact hs
end Go.Proofs.YtejbkbccljoldaaGreatDoor
namespace Go.Proofs.YtejbkbccljoldaaGreatDoor
open Go.RowKit

/-- Bytes that lie at B or beyond. -/
def BytesF (B : Nat) (w : World) (v : Value) (l : List UInt8) : Prop := ∃ a c, v = .slice a l.length c ∧ IsBytes w a l c ∧ ∀ x, a = some x → B ≤ x.block
theorem BytesF.keep {B : Nat} {w w' : World} {v : Value} {l : List UInt8} (h : BytesF B w v l) (hb : Below w.heap.size w w') : BytesF B w' v l := by
  obtain ⟨a, c, h1, h2, h3⟩ := h
  exact ⟨a, c, h1, h2.keep hb, h3⟩
theorem BytesF.mono {B B' : Nat} {w : World} {v : Value} {l : List UInt8} (h : BytesF B w v l) (hB : B' ≤ B) : BytesF B' w v l := by
  obtain ⟨a, c, h1, h2, h3⟩ := h
  exact ⟨a, c, h1, h2, fun x hx => Nat.le_trans hB (h3 x hx)⟩
theorem BytesF.bytes {B : Nat} {w : World} {v : Value} {l : List UInt8} (h : BytesF B w v l) : BytesV w v l := by
  obtain ⟨a, c, h1, h2, _⟩ := h
  exact ⟨a, c, h1, h2⟩
theorem BytesF.nil (B : Nat) (w : World) : BytesF B w (.slice none 0 0) [] := ⟨none, 0, rfl, .inl ⟨rfl, rfl, rfl⟩, fun x hx => by cases hx⟩
def Spec.fresh (B : Nat) (l : List UInt8) : Spec := ⟨fun v w => BytesF B w v l, fun _ _ _ h hb => h.keep hb⟩
end Go.Proofs.YtejbkbccljoldaaGreatDoor
namespace Go.Proofs.YtejbkbccljoldaaGreatDoor
open Go.RowKit

theorem sizeOf_u8Q (W : World) : (sizeOf 5).run Tryz.prog W = .ok 1 W := by
  have h : (Tryz.prog.info? 5).map (·.size) = some 1 := by kernel_rfl
  cases hq : Tryz.prog.info? 5 with
  | none => rw [hq] at h; cases h
  | some i => rw [hq] at h; simp at h; simp [sizeOf, typeInfo, hq, h]

section
variable {Q : Exit → Act → World → Prop} {a : Act} {w : World} {o : Oper} {s : Spec}
theorem run_part_q (W : World) (x : Addr) (len cap n : Nat) (hn : n ≤ len) :
    (Instr.sliceAt 23 (.slice (some x) len cap) (some (.int .i64 (n : Int))) none none).run Tryz.prog W = .ok (.slice (some (if cap = n then x else x.add n)) (len - n) (cap - n)) W := by
  have es : (sizeOf (Tryz.prog.elem 23)).run Tryz.prog W = .ok 1 W := by rw [show Tryz.prog.elem 23 = 5 by kernel_rfl]; exact sizeOf_u8Q W
  rw [run_sliceAt_slice W 23 _ _ _ _ (by kernel_rfl), run_slice_l W 23 _ _ _ (by kernel_rfl) .i64 (n : Int) (by omega) (by omega), es]
  simp only [Result.andThen, sliced, Int.toNat_natCast, Nat.mul_one]
  split <;> rfl
theorem part_bytes_q {w : World} {x : Addr} {l : List UInt8} {cap n : Nat} (h : IsBytes w (some x) l cap) (hn : n ≤ l.length) : IsBytes w (some (if cap = n then x else x.add n)) (l.drop n) (cap - n) := by
  rcases h with ⟨h, _⟩ | ⟨y, hy, h1, h2, h3⟩
  · cases h
  · obtain rfl := Option.some.inj hy
    refine .inr ⟨_, rfl, by simp; omega, by omega, fun j hj => ?_⟩
    have hj' : j < l.length - n := by simpa using hj
    rw [if_neg (by omega), List.getElem_drop, ← h3 (n + j) (by omega)]
    congr 1
    unfold Addr.add
    by_cases h0 : n = 0
    · subst h0; simp
    · by_cases hj0 : j = 0
      · subst hj0; simp [h0]
      · simp [h0, hj0, Nat.add_assoc]
/-- l from place i on. -/
theorem part_q {w : World} {a : Option Addr} {l : List UInt8} {cap i : Nat} (h : IsBytes w a l cap) (hi : i ≤ l.length) :
    ∃ a' c', (∀ W, (Instr.sliceAt 23 (.slice a l.length cap) (some (.int .i64 (i : Int))) none none).run Tryz.prog W = .ok (.slice a' (l.length - i) c') W) ∧ IsBytes w a' (l.drop i) c' := by
  cases a with
  | some x => exact ⟨_, _, fun W => run_part_q W x l.length cap i hi, part_bytes_q h hi⟩
  | none =>
    rcases h with ⟨_, rfl, rfl⟩ | ⟨x, h, _⟩
    · have h0 : i = 0 := by simpa using hi
      subst h0
      refine ⟨none, 0, fun W => ?_, .inl ⟨rfl, rfl, rfl⟩⟩
      have es : (sizeOf (Tryz.prog.elem 23)).run Tryz.prog W = .ok 1 W := by rw [show Tryz.prog.elem 23 = 5 by kernel_rfl]; exact sizeOf_u8Q W
      rw [run_sliceAt_slice W 23 _ _ _ _ (by kernel_rfl), run_slice_l W 23 _ _ _ (by kernel_rfl) .i64 ((0 : Nat) : Int) (by omega) (by simp), es]
      rfl
    · cases h
theorem loc_from {x y : Operand} (ho : o.op = .slice 23 x (some y) none none) {l : List UInt8} {i : Nat} (hx : BytesV w (a.eval x) l) (hy : a.eval y = .int .i64 i) (hi : i ≤ l.length) (hs : ∀ v, BytesV w v (l.drop i) → s.p v w) :
    o.wp Tryz.prog a w (fun a' w' => ∃ v, a' = a.put o.dst v ∧ Below w.heap.size w w' ∧ s.p v w') Q := by
  obtain ⟨ad, c, h1, h2⟩ := hx
  obtain ⟨a', c', h3, h4⟩ := part_q h2 hi
  refine loc_run (v := .slice a' (l.length - i) c') ?_ (Below.refl _ _) (hs _ ⟨a', c', by rw [List.length_drop], h4⟩)
  unfold execOp
  simp only [ho, h1, hy, Option.map_some, Option.map_none, Sem.run_bind, h3, Result.andThen_ok, Sem.run_pure]
end
end Go.Proofs.YtejbkbccljoldaaGreatDoor
namespace Go.Proofs.YtejbkbccljoldaaGreatDoor
open Go.RowKit

set_option linter.unusedVariables false
/-- What a reader's slices hold: where its fields may lie, and its line. -/
structure RMemQ (L : (Nat → Prop) × (Nat → Prop)) (w : World) (s : RS) (fa ga la : Option Addr) (lc : Nat) : Prop where
  m : RMem L.1 w s fa ga la lc
  l : ∀ y, la = some y → s.ck.line ≠ [] → L.2 y.block
theorem RMemQ.keep {L : (Nat → Prop) × (Nat → Prop)} {w w' : World} {s : RS} {fa ga la : Option Addr} {lc : Nat} (h : RMemQ L w s fa ga la lc) (hb : Below w.heap.size w w') : RMemQ L w' s fa ga la lc := ⟨h.m.keep hb, h.l⟩
/-- A reader's variable and what it holds; its fields lie in blocks that L allows. -/
def StV (L : (Nat → Prop) × (Nat → Prop)) (s : RS) (w : World) (g : Nat) : Prop := ∃ fa fc ga gc la lc, RVr w g #[.bool s.rep, .string s.meth, .int .i64 s.ph, .string s.m, .string s.t, .int .i64 s.z, .slice fa (List.length s.xs) fc, .bool s.fr, .slice none 0 0, .int .i64 s.st, .string s.rs, .int .i64 s.z2, .slice ga (List.length s.ys) gc, .slice none 0 0, .int .i64 s.fk, .int .i64 s.fl, .int .i64 s.left, .int .i64 s.size, .int .i64 s.ck.ph, .int .i64 s.ck.left, .int .i64 s.ck.tr, .slice la (List.length s.ck.line) lc] ∧ RMemQ L w s fa ga la lc
def AgS (L : (Nat → Prop) × (Nat → Prop)) (s : RS) (w : World) (v : Value) : Prop := ∃ fa fc ga gc la lc, v = .agg #[.bool s.rep, .string s.meth, .int .i64 s.ph, .string s.m, .string s.t, .int .i64 s.z, .slice fa (List.length s.xs) fc, .bool s.fr, .slice none 0 0, .int .i64 s.st, .string s.rs, .int .i64 s.z2, .slice ga (List.length s.ys) gc, .slice none 0 0, .int .i64 s.fk, .int .i64 s.fl, .int .i64 s.left, .int .i64 s.size, .int .i64 s.ck.ph, .int .i64 s.ck.left, .int .i64 s.ck.tr, .slice la (List.length s.ck.line) lc] ∧ RMemQ L w s fa ga la lc
def PtV (x : NX) (w : World) (g : Nat) : Prop := ∃ pa pc, PVr w g #[.int .i64 x.kind, .slice pa (List.length x.data) pc] ∧ IsBytes w pa x.data pc
def AgP (x : NX) (w : World) (v : Value) : Prop := ∃ pa pc, v = .agg #[.int .i64 x.kind, .slice pa (List.length x.data) pc] ∧ IsBytes w pa x.data pc
def NxV (L : (Nat → Prop) × (Nat → Prop)) (x : NX) (w : World) (v : Value) : Prop := ∃ fa fc ga gc la lc pa pc, v = .tuple #[.agg #[.bool x.r.rep, .string x.r.meth, .int .i64 x.r.ph, .string x.r.m, .string x.r.t, .int .i64 x.r.z, .slice fa (List.length x.r.xs) fc, .bool x.r.fr, .slice none 0 0, .int .i64 x.r.st, .string x.r.rs, .int .i64 x.r.z2, .slice ga (List.length x.r.ys) gc, .slice none 0 0, .int .i64 x.r.fk, .int .i64 x.r.fl, .int .i64 x.r.left, .int .i64 x.r.size, .int .i64 x.r.ck.ph, .int .i64 x.r.ck.left, .int .i64 x.r.ck.tr, .slice la (List.length x.r.ck.line) lc], .agg #[.int .i64 x.kind, .slice pa (List.length x.data) pc], .int .i64 x.n, .int .i64 x.er] ∧ RMemQ L w x.r fa ga la lc ∧ IsBytes w pa x.data pc
def RNew (N : Nat) (w : World) (v : Value) : Prop := ∃ g, v = .pointer (some ⟨g, 0, none⟩) ∧ N ≤ g ∧ RVr w g #[.bool false, .string ⟨#[]⟩, .int .i64 0, .string ⟨#[]⟩, .string ⟨#[]⟩, .int .i64 0, .slice none 0 0, .bool false, .slice none 0 0, .int .i64 0, .string ⟨#[]⟩, .int .i64 0, .slice none 0 0, .slice none 0 0, .int .i64 0, .int .i64 0, .int .i64 0, .int .i64 0, .int .i64 0, .int .i64 0, .int .i64 0, .slice none 0 0]
def PNew (N : Nat) (w : World) (v : Value) : Prop := ∃ g, v = .pointer (some ⟨g, 0, none⟩) ∧ N ≤ g ∧ PVr w g #[.int .i64 0, .slice none 0 0]
def RSt (N : Nat) (L : (Nat → Prop) × (Nat → Prop)) (s : RS) (w : World) (v : Value) : Prop := ∃ g, v = .pointer (some ⟨g, 0, none⟩) ∧ N ≤ g ∧ StV L s w g
def PSt (N : Nat) (x : NX) (w : World) (v : Value) : Prop := ∃ g, v = .pointer (some ⟨g, 0, none⟩) ∧ N ≤ g ∧ PtV x w g
theorem StV.keep {L : (Nat → Prop) × (Nat → Prop)} {s : RS} {w w' : World} {g : Nat} (h : StV L s w g) (hb : Below w.heap.size w w') : StV L s w' g := by
  obtain ⟨fa, fc, ga, gc, la, lc, h1, h2⟩ := h
  exact ⟨fa, fc, ga, gc, la, lc, h1.keep hb, h2.keep hb⟩
theorem AgS.keep {L : (Nat → Prop) × (Nat → Prop)} {s : RS} {w w' : World} {v : Value} (h : AgS L s w v) (hb : Below w.heap.size w w') : AgS L s w' v := by
  obtain ⟨fa, fc, ga, gc, la, lc, h1, h2⟩ := h
  exact ⟨fa, fc, ga, gc, la, lc, h1, h2.keep hb⟩
theorem PtV.keep {x : NX} {w w' : World} {g : Nat} (h : PtV x w g) (hb : Below w.heap.size w w') : PtV x w' g := by
  obtain ⟨pa, pc, h1, h2⟩ := h
  exact ⟨pa, pc, h1.keep hb, h2.keep hb⟩
theorem AgP.keep {x : NX} {w w' : World} {v : Value} (h : AgP x w v) (hb : Below w.heap.size w w') : AgP x w' v := by
  obtain ⟨pa, pc, h1, h2⟩ := h
  exact ⟨pa, pc, h1, h2.keep hb⟩
theorem NxV.keep {L : (Nat → Prop) × (Nat → Prop)} {x : NX} {w w' : World} {v : Value} (h : NxV L x w v) (hb : Below w.heap.size w w') : NxV L x w' v := by
  obtain ⟨fa, fc, ga, gc, la, lc, pa, pc, h1, h2, h3⟩ := h
  exact ⟨fa, fc, ga, gc, la, lc, pa, pc, h1, h2.keep hb, h3.keep hb⟩
theorem StV.lt {L : (Nat → Prop) × (Nat → Prop)} {s : RS} {w : World} {g : Nat} (h : StV L s w g) : g < w.heap.size := by
  obtain ⟨_, _, _, _, _, _, h1, _⟩ := h
  exact h1.lt
theorem PtV.lt {x : NX} {w : World} {g : Nat} (h : PtV x w g) : g < w.heap.size := by
  obtain ⟨_, _, h1, _⟩ := h
  exact (Array.getElem?_eq_some_iff.1 h1).1
def Spec.srow (L : (Nat → Prop) × (Nat → Prop)) (s : RS) : Spec := ⟨fun v w => AgS L s w v, fun _ _ _ h hb => h.keep hb⟩
def Spec.prow (x : NX) : Spec := ⟨fun v w => AgP x w v, fun _ _ _ h hb => h.keep hb⟩
def Spec.nxt (L : (Nat → Prop) × (Nat → Prop)) (x : NX) : Spec := ⟨fun v w => NxV L x w v, fun _ _ _ h hb => h.keep hb⟩
def Spec.rnew (N : Nat) : Spec := ⟨fun v w => RNew N w v, fun _ _ _ h hb => by
  obtain ⟨g, h1, h2, h3⟩ := h
  exact ⟨g, h1, h2, h3.keep hb⟩⟩
def Spec.pnew (N : Nat) : Spec := ⟨fun v w => PNew N w v, fun _ _ _ h hb => by
  obtain ⟨g, h1, h2, h3⟩ := h
  exact ⟨g, h1, h2, h3.keep hb⟩⟩
def Spec.rst (N : Nat) (L : (Nat → Prop) × (Nat → Prop)) (s : RS) : Spec := ⟨fun v w => RSt N L s w v, fun _ _ _ h hb => by
  obtain ⟨g, h1, h2, h3⟩ := h
  exact ⟨g, h1, h2, h3.keep hb⟩⟩
def Spec.pst (N : Nat) (x : NX) : Spec := ⟨fun v w => PSt N x w v, fun _ _ _ h hb => by
  obtain ⟨g, h1, h2, h3⟩ := h
  exact ⟨g, h1, h2, h3.keep hb⟩⟩
/-- No name lies in this row: its strings are empty. -/
def NoStr (cs : Array Value) : Prop := ∀ (i : Nat) (b : ByteArray), cs[i]? = some (.string b) → b.size = 0
theorem noStr_of {cs : Array Value} (h : cs.toList.all (fun v => match v with | .string b => b.size == 0 | _ => true) = true) : NoStr cs := fun i b e => by
  have h1 := List.all_eq_true.1 h (.string b) (by
    have : cs.toList[i]? = some (.string b) := by rw [Array.getElem?_toList]; exact e
    exact List.mem_of_getElem? this)
  exact eq_of_beq h1
theorem flds_away {w : World} {g : Nat} {cs : Array Value} {T : TypeId} {fz : Nat × Nat} (h : w.heap[g]? = some (.cells cs T fz)) (hn : NoStr cs) {a : Option Addr} {l : List Fld} (hb : FldsIn w a l) (hl : ∀ f ∈ l, ¬ f.1.size = 0) : ∀ y, a = some y → l ≠ [] → y.block ≠ g := by
  intro y hy hne hg
  have h0 := List.length_pos_iff.2 hne
  obtain ⟨x, hx, h5, _⟩ := hb 0 h0
  rw [hy] at hx
  obtain rfl := Option.some.inj hx
  have h6 : w.heap[(y.add (0 * 2)).block]? = some (.cells cs T fz) := by rw [add_blockC, hg]; exact h
  unfold World.cell? at h5
  rw [h6] at h5
  simp only at h5
  split at h5
  · cases h5
  · exact hl l[0] (List.getElem_mem h0) (hn _ _ h5)
theorem RMem.rowZ {P : Nat → Prop} {w : World} {s : RS} {fa ga la : Option Addr} {lc q : Nat} {cs ds : Array Value} {T : TypeId} {fz : Nat × Nat} (h : RMem P w s fa ga la lc) (hm : NmS s) (hr : w.heap[q]? = some (.cells cs T fz)) (hs : NoStr cs) (hu : NoU8 cs) : RMem P (w.setRow q ds) s fa ga la lc :=
  ⟨sameNe h.f1 fun y e hx => setRow_other _ _ _ _ (flds_away hr hs h.f1 hm.1 y e hx), sameNe h.f2 fun y e hx => setRow_other _ _ _ _ (flds_away hr hs h.f2 hm.2 y e hx), isBytes_rowR hr hu h.ln, h.n1, h.n2⟩
theorem RMemQ.rowL {L : (Nat → Prop) × (Nat → Prop)} {q : Nat} {w : World} {s : RS} {fa ga la : Option Addr} {lc : Nat} {cs ds : Array Value} {T : TypeId} {fz : Nat × Nat} (h : RMemQ L w s fa ga la lc) (hq : ¬ L.1 q) (hr : w.heap[q]? = some (.cells cs T fz)) (hu : NoU8 cs) : RMemQ L (w.setRow q ds) s fa ga la lc :=
  ⟨⟨sameNe h.m.f1 fun y e hx => setRow_other _ _ _ _ (fun e2 => hq (e2 ▸ h.m.n1 y e hx)), sameNe h.m.f2 fun y e hx => setRow_other _ _ _ _ (fun e2 => hq (e2 ▸ h.m.n2 y e hx)), isBytes_rowR hr hu h.m.ln, h.m.n1, h.m.n2⟩, h.l⟩
theorem RMemQ.rowZ {L : (Nat → Prop) × (Nat → Prop)} {w : World} {s : RS} {fa ga la : Option Addr} {lc q : Nat} {cs ds : Array Value} {T : TypeId} {fz : Nat × Nat} (h : RMemQ L w s fa ga la lc) (hm : NmS s) (hr : w.heap[q]? = some (.cells cs T fz)) (hs : NoStr cs) (hu : NoU8 cs) : RMemQ L (w.setRow q ds) s fa ga la lc := ⟨h.m.rowZ hm hr hs hu, h.l⟩
theorem rv_ne_pv {w : World} {g q : Nat} {cs ds : Array Value} (h1 : RVr w g cs) (h2 : PVr w q ds) : g ≠ q := fun e => by
  subst e
  unfold RVr at h1
  unfold PVr at h2
  rw [h1] at h2
  injection h2 with h2
  injection h2 with a b c
  exact absurd b (by decide)
theorem zero_noStr : NoStr #[.bool false, .string ⟨#[]⟩, .int .i64 0, .string ⟨#[]⟩, .string ⟨#[]⟩, .int .i64 0, .slice none 0 0, .bool false, .slice none 0 0, .int .i64 0, .string ⟨#[]⟩, .int .i64 0, .slice none 0 0, .slice none 0 0, .int .i64 0, .int .i64 0, .int .i64 0, .int .i64 0, .int .i64 0, .int .i64 0, .int .i64 0, .slice none 0 0] := noStr_of rfl
theorem zp_noStr : NoStr #[.int .i64 0, .slice none 0 0] := noStr_of rfl
theorem zero_noU8 : NoU8 #[.bool false, .string ⟨#[]⟩, .int .i64 0, .string ⟨#[]⟩, .string ⟨#[]⟩, .int .i64 0, .slice none 0 0, .bool false, .slice none 0 0, .int .i64 0, .string ⟨#[]⟩, .int .i64 0, .slice none 0 0, .slice none 0 0, .int .i64 0, .int .i64 0, .int .i64 0, .int .i64 0, .int .i64 0, .int .i64 0, .int .i64 0, .slice none 0 0] := noU8_22 rfl
theorem zp_noU8 : NoU8 #[.int .i64 0, .slice none 0 0] := noU8_22 rfl
section
variable {L : (Nat → Prop) × (Nat → Prop)} {N q : Nat} {s : RS} {x : NX} {w : World} {v : Value} {cs ds : Array Value} {T : TypeId} {fz : Nat × Nat}
theorem NxV.rowZ (h : NxV L x w v) (hm : NmS x.r) (hr : w.heap[q]? = some (.cells cs T fz)) (hs : NoStr cs) (hu : NoU8 cs) : NxV L x (w.setRow q ds) v := by
  obtain ⟨fa, fc, ga, gc, la, lc, pa, pc, h1, h2, h3⟩ := h
  exact ⟨fa, fc, ga, gc, la, lc, pa, pc, h1, h2.rowZ hm hr hs hu, isBytes_rowR hr hu h3⟩
theorem AgP.rowZ (h : AgP x w v) (hr : w.heap[q]? = some (.cells cs T fz)) (hu : NoU8 cs) : AgP x (w.setRow q ds) v := by
  obtain ⟨pa, pc, h1, h2⟩ := h
  exact ⟨pa, pc, h1, isBytes_rowR hr hu h2⟩
theorem AgS.rowZ (h : AgS L s w v) (hm : NmS s) (hr : w.heap[q]? = some (.cells cs T fz)) (hs : NoStr cs) (hu : NoU8 cs) : AgS L s (w.setRow q ds) v := by
  obtain ⟨fa, fc, ga, gc, la, lc, h1, h2⟩ := h
  exact ⟨fa, fc, ga, gc, la, lc, h1, h2.rowZ hm hr hs hu⟩
theorem StV.rowZ {g : Nat} (h : StV L s w g) (hm : NmS s) (hg : g ≠ q) (hr : w.heap[q]? = some (.cells cs T fz)) (hs : NoStr cs) (hu : NoU8 cs) : StV L s (w.setRow q ds) g := by
  obtain ⟨fa, fc, ga, gc, la, lc, h1, h2⟩ := h
  exact ⟨fa, fc, ga, gc, la, lc, (setRow_other _ _ _ _ hg).trans h1, h2.rowZ hm hr hs hu⟩
theorem StV.rowL {g : Nat} (h : StV L s w g) (hg : g ≠ q) (hq : ¬ L.1 q) (hr : w.heap[q]? = some (.cells cs T fz)) (hu : NoU8 cs) : StV L s (w.setRow q ds) g := by
  obtain ⟨fa, fc, ga, gc, la, lc, h1, h2⟩ := h
  exact ⟨fa, fc, ga, gc, la, lc, (setRow_other _ _ _ _ hg).trans h1, h2.rowL hq hr hu⟩
theorem PtV.rowZ {g : Nat} (h : PtV x w g) (hg : g ≠ q) (hr : w.heap[q]? = some (.cells cs T fz)) (hu : NoU8 cs) : PtV x (w.setRow q ds) g := by
  obtain ⟨pa, pc, h1, h2⟩ := h
  exact ⟨pa, pc, (setRow_other _ _ _ _ hg).trans h1, isBytes_rowR hr hu h2⟩
end
section
variable {Q : Exit → Act → World → Prop} {a : Act} {w : World} {o : Oper} {s : Spec}
theorem loc_loadS {y : Operand} (ho : o.op = .load 37 y) {L : (Nat → Prop) × (Nat → Prop)} {g : Nat} {r : RS} (hy : a.eval y = .pointer (some ⟨g, 0, none⟩)) (h : StV L r w g) (hs : ∀ v, AgS L r w v → s.p v w) :
    o.wp Tryz.prog a w (fun a' w' => ∃ v, a' = a.put o.dst v ∧ Below w.heap.size w w' ∧ s.p v w') Q := by
  obtain ⟨fa, fc, ga, gc, la, lc, h1, h2⟩ := h
  exact loc_load ho (by rw [hy]; exact run_loadRR _ _ _ h1 rfl) (hs _ ⟨fa, fc, ga, gc, la, lc, rfl, h2⟩)
theorem loc_nx0 {y : Operand} (ho : o.op = .extract y 0) {L : (Nat → Prop) × (Nat → Prop)} {x : NX} (h : NxV L x w (a.eval y)) (hs : ∀ v, AgS L x.r w v → s.p v w) :
    o.wp Tryz.prog a w (fun a' w' => ∃ v, a' = a.put o.dst v ∧ Below w.heap.size w w' ∧ s.p v w') Q := by
  obtain ⟨fa, fc, ga, gc, la, lc, pa, pc, h1, h2, h3⟩ := h
  exact loc_extractR0 ho h1 (hs _ ⟨fa, fc, ga, gc, la, lc, rfl, h2⟩)
theorem loc_nx1 {y : Operand} (ho : o.op = .extract y 1) {L : (Nat → Prop) × (Nat → Prop)} {x : NX} (h : NxV L x w (a.eval y)) (hs : ∀ v, AgP x w v → s.p v w) :
    o.wp Tryz.prog a w (fun a' w' => ∃ v, a' = a.put o.dst v ∧ Below w.heap.size w w' ∧ s.p v w') Q := by
  obtain ⟨fa, fc, ga, gc, la, lc, pa, pc, h1, h2, h3⟩ := h
  exact loc_extractR1 ho h1 (hs _ ⟨pa, pc, rfl, h3⟩)
theorem loc_nx2 {y : Operand} (ho : o.op = .extract y 2) {L : (Nat → Prop) × (Nat → Prop)} {x : NX} (h : NxV L x w (a.eval y)) (hs : s.p (.int .i64 x.n) w) :
    o.wp Tryz.prog a w (fun a' w' => ∃ v, a' = a.put o.dst v ∧ Below w.heap.size w w' ∧ s.p v w') Q := by
  obtain ⟨fa, fc, ga, gc, la, lc, pa, pc, h1, h2, h3⟩ := h
  exact loc_extractR2 ho h1 hs
theorem loc_nx3 {y : Operand} (ho : o.op = .extract y 3) {L : (Nat → Prop) × (Nat → Prop)} {x : NX} (h : NxV L x w (a.eval y)) (hs : s.p (.int .i64 x.er) w) :
    o.wp Tryz.prog a w (fun a' w' => ∃ v, a' = a.put o.dst v ∧ Below w.heap.size w w' ∧ s.p v w') Q := by
  obtain ⟨fa, fc, ga, gc, la, lc, pa, pc, h1, h2, h3⟩ := h
  exact loc_extractR3 ho h1 hs
theorem loc_allocRn (ho : o.op = .alloc 37) {N : Nat} (hB : N ≤ w.heap.size) (hs : ∀ v w', RNew N w' v → s.p v w') :
    o.wp Tryz.prog a w (fun a' w' => ∃ v, a' = a.put o.dst v ∧ Below w.heap.size w w' ∧ s.p v w') Q := by
  have hz : (Tryz.prog.info? 37).bind (·.zero) = some (.agg #[.bool false, .string ⟨#[]⟩, .int .i64 0, .string ⟨#[]⟩, .string ⟨#[]⟩, .int .i64 0, .slice none 0 0, .bool false, .slice none 0 0, .int .i64 0, .string ⟨#[]⟩, .int .i64 0, .slice none 0 0, .slice none 0 0, .int .i64 0, .int .i64 0, .int .i64 0, .int .i64 0, .int .i64 0, .int .i64 0, .int .i64 0, .slice none 0 0]) := by kernel_rfl
  refine loc_run (v := .pointer (some ⟨w.heap.size, 0, none⟩)) (w' := w.alloc (.cells #[.bool false, .string ⟨#[]⟩, .int .i64 0, .string ⟨#[]⟩, .string ⟨#[]⟩, .int .i64 0, .slice none 0 0, .bool false, .slice none 0 0, .int .i64 0, .string ⟨#[]⟩, .int .i64 0, .slice none 0 0, .slice none 0 0, .int .i64 0, .int .i64 0, .int .i64 0, .int .i64 0, .int .i64 0, .int .i64 0, .int .i64 0, .slice none 0 0] 37)) ?_ (below_oneF _ _) (hs _ _ ⟨_, rfl, hB, heap_alloc_new _ _⟩)
  cases hq : Tryz.prog.info? 37 with
  | none => rw [hq] at hz; cases hz
  | some i =>
    rw [hq] at hz
    simp only [Option.bind_some] at hz
    unfold execOp
    simp [ho, Instr.alloc, zeroValue, typeInfo, hq, hz, newRow, newVar, Value.cells]
theorem loc_allocPn (ho : o.op = .alloc 41) {N : Nat} (hB : N ≤ w.heap.size) (hs : ∀ v w', PNew N w' v → s.p v w') :
    o.wp Tryz.prog a w (fun a' w' => ∃ v, a' = a.put o.dst v ∧ Below w.heap.size w w' ∧ s.p v w') Q := by
  have hz : (Tryz.prog.info? 41).bind (·.zero) = some (.agg #[.int .i64 0, .slice none 0 0]) := by kernel_rfl
  refine loc_run (v := .pointer (some ⟨w.heap.size, 0, none⟩)) (w' := w.alloc (.cells #[.int .i64 0, .slice none 0 0] 41)) ?_ (below_oneF _ _) (hs _ _ ⟨_, rfl, hB, heap_alloc_new _ _⟩)
  cases hq : Tryz.prog.info? 41 with
  | none => rw [hq] at hz; cases hz
  | some i =>
    rw [hq] at hz
    simp only [Option.bind_some] at hz
    unfold execOp
    simp [ho, Instr.alloc, zeroValue, typeInfo, hq, hz, newRow, newVar, Value.cells]
theorem loc_part {x y z : Operand} (ho : o.op = .slice 23 x (some y) (some z) none) {l : List UInt8} {k u : Nat} (hx : BytesV w (a.eval x) l) (hy : a.eval y = .int .i64 (k : Int)) (hz : a.eval z = .int .i64 (u : Int)) (hku : k ≤ u) (hu : u ≤ l.length) (hs : ∀ v, BytesV w v ((l.take u).drop k) → s.p v w) :
    o.wp Tryz.prog a w (fun a' w' => ∃ v, a' = a.put o.dst v ∧ Below w.heap.size w w' ∧ s.p v w') Q := by
  obtain ⟨ad, c, h1, h2⟩ := hx
  have hc : l.length ≤ c := isBytes_cap h2
  have key : ∃ a' c', (Instr.sliceAt 23 (.slice ad l.length c) (some (.int .i64 (k : Int))) (some (.int .i64 (u : Int))) none).run Tryz.prog w = .ok (.slice a' (u - k) c') w ∧ IsBytes w a' ((l.take u).drop k) c' := by
    have es : (sizeOf (Tryz.prog.elem 23)).run Tryz.prog w = .ok 1 w := by rw [show Tryz.prog.elem 23 = 5 by kernel_rfl]; exact sizeOf_u8H w
    have hrun : (Instr.sliceAt 23 (.slice ad l.length c) (some (.int .i64 (k : Int))) (some (.int .i64 (u : Int))) none).run Tryz.prog w = .ok (.slice (if c = k then ad else ad.map (·.add k)) (u - k) (c - k)) w := by
      rw [run_sliceAt_slice w 23 _ _ _ _ (by kernel_rfl), run_slice_lh w 23 _ _ _ (by kernel_rfl) .i64 .i64 (k : Int) (u : Int) (by omega) (by omega) (by omega), es]
      simp only [Result.andThen, sliced, Int.toNat_natCast, Nat.mul_one]
    refine ⟨_, _, hrun, ?_⟩
    rw [List.drop_take]
    refine isBytes_takeR ?_ (u - k)
    cases ad with
    | some x =>
      have := part_bytes_q h2 (show k ≤ l.length by omega)
      split
      · rename_i e; rw [if_pos e] at this; exact this
      · rename_i e; rw [if_neg e] at this; exact this
    | none =>
      rcases h2 with ⟨_, rfl, rfl⟩ | ⟨x, h, _⟩
      · refine .inl ⟨by split <;> rfl, by simp, by omega⟩
      · cases h
  obtain ⟨a', c', h3, h4⟩ := key
  refine loc_run (v := .slice a' (u - k) c') ?_ (Below.refl _ _) (hs _ ⟨a', c', by rw [List.length_drop, List.length_take, Nat.min_eq_left hu], h4⟩)
  unfold execOp
  simp only [ho, h1, hy, hz, Option.map_some, Option.map_none, Sem.run_bind, h3, Result.andThen_ok, Sem.run_pure]
theorem loc_callPx {y1 y2 y3 y4 y5 : Operand} {ts : Array TypeId} (ho : o.op = .call { callee := .value (.func 12), args := #[y1, y2, y3, y4, y5], argTypes := ts }) {L : (Nat → Prop) × (Nat → Prop)} {r : RS} {l : List UInt8} {most body room : Int} {mm : Int} (hok : HdOk w mm) (h1 : AgS L r w (a.eval y1)) (h2 : BytesV w (a.eval y2) l) (h3 : a.eval y3 = .int .i64 most) (h4 : a.eval y4 = .int .i64 body) (h5 : a.eval y5 = .int .i64 room)
    (hl : l.length ≤ 1000000) (hr : OkN body r) (hb0 : 0 ≤ body ∧ body ≤ 1000000000) (hr0 : -1000000000 ≤ room ∧ room ≤ 1000000000) (hL : ∀ k, w.heap.size ≤ k → L.1 k ∧ L.2 k) (hs : ∀ v w', NxV L (nextX r l most body room) w' v → s.p v w') :
    o.wp Tryz.prog a w (fun a' w' => ∃ v, a' = a.put o.dst v ∧ Below w.heap.size w w' ∧ s.p v w') Q := by
  obtain ⟨fa, fc, ga, gc, la, lc, e1, hm⟩ := h1
  obtain ⟨ba, bc, e2, hb⟩ := h2
  refine loc_call (args := [y1, y2, y3, y4, y5]) ho (by kernel_rfl) ?_
  show Calls _ _ #[a.eval y1, a.eval y2, a.eval y3, a.eval y4, a.eval y5] _ _
  rw [e1, e2, h3, h4, h5]
  refine (projNextF_any L.1 r l most body room ba bc fa ga la fc gc lc w mm hb hl hm.m hok hr hb0 hr0 (fun k hk => (hL k hk).1)).mono ?_
  rintro e w' ⟨fa', fc', ga', gc', la', lc', pa, pc, he, hm', hlf, hd, hbb⟩
  exact ⟨_, he, hbb, hs _ _ ⟨fa', fc', ga', gc', la', lc', pa, pc, rfl, ⟨hm', fun y e hx => (hL _ (hlf y e hx)).2⟩, hd⟩⟩
/-- A reader is stored in a new variable. -/
theorem wp_storeRn {K : Act → World → Prop} {y z : Operand} (ho : o.op = .store 37 y z) {N : Nat} {L : (Nat → Prop) × (Nat → Prop)} {r : RS} (h1 : RNew N w (a.eval y)) (h2 : AgS L r w (a.eval z)) (hm : NmS r) (hK : ∀ g cs, a.eval y = .pointer (some ⟨g, 0, none⟩) → N ≤ g → RVr w g #[.bool false, .string ⟨#[]⟩, .int .i64 0, .string ⟨#[]⟩, .string ⟨#[]⟩, .int .i64 0, .slice none 0 0, .bool false, .slice none 0 0, .int .i64 0, .string ⟨#[]⟩, .int .i64 0, .slice none 0 0, .slice none 0 0, .int .i64 0, .int .i64 0, .int .i64 0, .int .i64 0, .int .i64 0, .int .i64 0, .int .i64 0, .slice none 0 0] → RSt N L r (w.setRow g cs) (a.eval y) → K (a.put o.dst undef) (w.setRow g cs)) : o.wp Tryz.prog a w K Q := by
  obtain ⟨g, e1, hN, hg⟩ := h1
  obtain ⟨fa, fc, ga, gc, la, lc, e2, h3⟩ := h2
  refine wp_store_row 37 _ _ ho g #[.bool r.rep, .string r.meth, .int .i64 r.ph, .string r.m, .string r.t, .int .i64 r.z, .slice fa (List.length r.xs) fc, .bool r.fr, .slice none 0 0, .int .i64 r.st, .string r.rs, .int .i64 r.z2, .slice ga (List.length r.ys) gc, .slice none 0 0, .int .i64 r.fk, .int .i64 r.fl, .int .i64 r.left, .int .i64 r.size, .int .i64 r.ck.ph, .int .i64 r.ck.left, .int .i64 r.ck.tr, .slice la (List.length r.ck.line) lc] e1 e2 37 _ hg sizeRd rfl (oneRd ..) ?_
  refine hK g _ e1 hN hg ?_
  rw [e1]
  exact ⟨g, rfl, hN, fa, fc, ga, gc, la, lc, setRow_heap _ _ _ _ _ _ hg, h3.rowZ hm hg zero_noStr zero_noU8⟩
theorem wp_storePn {K : Act → World → Prop} {y z : Operand} (ho : o.op = .store 41 y z) {N : Nat} {x : NX} (h1 : PNew N w (a.eval y)) (h2 : AgP x w (a.eval z)) (hK : ∀ g cs, a.eval y = .pointer (some ⟨g, 0, none⟩) → N ≤ g → PVr w g #[.int .i64 0, .slice none 0 0] → PSt N x (w.setRow g cs) (a.eval y) → K (a.put o.dst undef) (w.setRow g cs)) : o.wp Tryz.prog a w K Q := by
  obtain ⟨g, e1, hN, hg⟩ := h1
  obtain ⟨pa, pc, e2, h3⟩ := h2
  refine wp_store_row 41 _ _ ho g #[.int .i64 x.kind, .slice pa (List.length x.data) pc] e1 e2 41 _ hg sizePt rfl (onePt ..) ?_
  refine hK g _ e1 hN hg ?_
  rw [e1]
  exact ⟨g, rfl, hN, pa, pc, setRow_heap _ _ _ _ _ _ hg, isBytes_rowR hg zp_noU8 h3⟩
/-- A reader is stored in an elder variable. -/
theorem wp_storeRo {K : Act → World → Prop} {y z : Operand} (ho : o.op = .store 37 y z) {L : (Nat → Prop) × (Nat → Prop)} {g : Nat} {r r0 : RS} (h1 : a.eval y = .pointer (some ⟨g, 0, none⟩)) (h0 : StV L r0 w g) (hg : ¬ L.1 g) (h2 : AgS L r w (a.eval z)) (hK : ∀ cs ds, RVr w g ds → NoU8 ds → StV L r (w.setRow g cs) g → K (a.put o.dst undef) (w.setRow g cs)) : o.wp Tryz.prog a w K Q := by
  obtain ⟨fa0, fc0, ga0, gc0, la0, lc0, hr0, _⟩ := h0
  obtain ⟨fa, fc, ga, gc, la, lc, e2, h3⟩ := h2
  refine wp_store_row 37 _ _ ho g #[.bool r.rep, .string r.meth, .int .i64 r.ph, .string r.m, .string r.t, .int .i64 r.z, .slice fa (List.length r.xs) fc, .bool r.fr, .slice none 0 0, .int .i64 r.st, .string r.rs, .int .i64 r.z2, .slice ga (List.length r.ys) gc, .slice none 0 0, .int .i64 r.fk, .int .i64 r.fl, .int .i64 r.left, .int .i64 r.size, .int .i64 r.ck.ph, .int .i64 r.ck.left, .int .i64 r.ck.tr, .slice la (List.length r.ck.line) lc] h1 e2 37 _ hr0 sizeRd rfl (oneRd ..) ?_
  exact hK _ _ hr0 (noU8_22 rfl) ⟨fa, fc, ga, gc, la, lc, setRow_heap _ _ _ _ _ _ hr0, h3.rowL hg hr0 (noU8_22 rfl)⟩
end
end Go.Proofs.YtejbkbccljoldaaGreatDoor
namespace Go.Proofs.YtejbkbccljoldaaGreatDoor
open Go.RowKit

set_option linter.unusedVariables false
def akR : List UInt8 := [80, 79, 83, 84, 32, 47, 32, 72, 84, 84, 80, 47, 49, 46, 49, 13, 10, 72, 111, 115, 116, 58, 32, 97, 13, 10, 67, 111, 110, 116, 101, 110, 116, 45, 76, 101, 110, 103, 116, 104, 58, 32, 51, 13, 10, 13, 10, 97, 98, 99, 71, 69, 84]
def ak1 : NX := nextX zeroR akR 100 10 10
def ak2 : NX := nextX ak1.r (akR.drop 47) 100 10 10
def ak3 : NX := nextX ak2.r (akR.drop 50) 100 10 10
theorem ak1_f : ak1.er = 0 ∧ ak1.kind = 1 ∧ ak1.n = 47 ∧ ak1.r.fr = true := by decide +kernel
theorem ak2_f : ak2.er = 0 ∧ ak2.kind = 2 ∧ ak2.n = 3 ∧ ak2.data = [97, 98, 99] := by decide +kernel
theorem ak3_f : ak3.er = 0 ∧ ak3.kind = 3 ∧ ak3.n = 0 := by decide +kernel
theorem okN_zero : OkN 10 zeroR := ⟨okC_zeroR, .inl rfl, fun h => absurd h (by decide), fun h => absurd h (by decide), fun h => absurd h (by decide), fun h => absurd h (by decide)⟩
theorem ak1_ok : OkN 10 ak1.r := (nextX_ok (by decide) (by decide) okN_zero ak1_f.1).1
theorem ak2_ok : OkN 10 ak2.r := (nextX_ok (by decide) (by decide) ak1_ok ak2_f.1).1
theorem ak1_nm : NmS ak1.r := nextX_names nmS_zero _ _ _ _
theorem ak2_nm : NmS ak2.r := nextX_names ak1_nm _ _ _ _
theorem ak3_nm : NmS ak3.r := nextX_names ak2_nm _ _ _ _
section
variable {L : (Nat → Prop) × (Nat → Prop)} {N q : Nat} {s : RS} {x : NX} {w : World} {v : Value} {cs ds : Array Value} {T : TypeId} {fz : Nat × Nat}
theorem NxV.rowL (h : NxV L x w v) (hq : ¬ L.1 q) (hr : w.heap[q]? = some (.cells cs T fz)) (hu : NoU8 cs) : NxV L x (w.setRow q ds) v := by
  obtain ⟨fa, fc, ga, gc, la, lc, pa, pc, h1, h2, h3⟩ := h
  exact ⟨fa, fc, ga, gc, la, lc, pa, pc, h1, h2.rowL hq hr hu, isBytes_rowR hr hu h3⟩
theorem AgS.rowL (h : AgS L s w v) (hq : ¬ L.1 q) (hr : w.heap[q]? = some (.cells cs T fz)) (hu : NoU8 cs) : AgS L s (w.setRow q ds) v := by
  obtain ⟨fa, fc, ga, gc, la, lc, h1, h2⟩ := h
  exact ⟨fa, fc, ga, gc, la, lc, h1, h2.rowL hq hr hu⟩
theorem prow_noStr (k : Int) (a : Option Addr) (n c : Nat) : NoStr #[.int .i64 k, .slice a n c] := noStr_of rfl
theorem prow_noU8 (k : Int) (a : Option Addr) (n c : Nat) : NoU8 #[.int .i64 k, .slice a n c] := noU8_22 rfl
end
theorem wp_storePo {a : Act} {w : World} {o : Oper} {Q : Exit → Act → World → Prop} {K : Act → World → Prop} {y z : Operand} (ho : o.op = .store 41 y z) {g : Nat} {x x0 : NX} (h1 : a.eval y = .pointer (some ⟨g, 0, none⟩)) (h0 : PtV x0 w g) (h2 : AgP x w (a.eval z)) (hK : ∀ cs ds, PVr w g ds → NoU8 ds → NoStr ds → PtV x (w.setRow g cs) g → K (a.put o.dst undef) (w.setRow g cs)) : o.wp Tryz.prog a w K Q := by
  obtain ⟨pa0, pc0, hr0, _⟩ := h0
  obtain ⟨pa, pc, e2, h3⟩ := h2
  refine wp_store_row 41 _ _ ho g #[.int .i64 x.kind, .slice pa (List.length x.data) pc] h1 e2 41 _ hr0 sizePt rfl (onePt ..) ?_
  exact hK _ _ hr0 (prow_noU8 _ _ _ _) (prow_noStr _ _ _ _) ⟨pa, pc, setRow_heap _ _ _ _ _ _ hr0, isBytes_rowR hr0 (prow_noU8 _ _ _ _) h3⟩
/-- In awake: the two variables, the bytes. -/
structure AwJ (w : World) (g2 g3 : Nat) (s : RS) (y : NX) (W : World) : Prop where
  st : StV (fun k => k ≠ g2, fun _ => True) s W g2
  pt : PtV y W g3
  bt : IsBytes W (some ⟨w.heap.size, 0, none⟩) akR 53
  bl : Below w.heap.size w W
  ne : g3 ≠ g2 ∧ w.heap.size ≤ g2 ∧ w.heap.size ≤ g3 ∧ g2 < W.heap.size ∧ g3 < W.heap.size
theorem AwJ.keep {w : World} {g2 g3 : Nat} {s : RS} {y : NX} {W W' : World} (h : AwJ w g2 g3 s y W) (hb : Below W.heap.size W W') : AwJ w g2 g3 s y W' :=
  ⟨h.st.keep hb, h.pt.keep hb, h.bt.keep hb, below_trans h.bl hb, h.ne.1, h.ne.2.1, h.ne.2.2.1, Nat.lt_of_lt_of_le h.ne.2.2.2.1 hb.size, Nat.lt_of_lt_of_le h.ne.2.2.2.2 hb.size⟩
set_option maxRecDepth 100000 in
set_option maxHeartbeats 2000000 in
theorem awakeN_any (mm : Int) (w : World) (hm : HdOk w mm) : Calls Tryz.prog 17 #[] w fun e w' => e = .returned (.bool true) ∧ Below w.heap.size w w' := by
  have kc := fun (w : World) (C : Array Value) (n c : Nat) => Lib.run_convert_bytes_const (P := Tryz.prog) w 23 5 C n c Tryz.underlying23 Tryz.underlying5
  have HM := Box.mk hm
  clear hm
  go_enter Tryz.func17, Tryz.ntmps17
  go_wp2_with fail
  clear kc
  obtain ⟨W1, hW1⟩ : ∃ W1, W1 = w.alloc (.cells (bytesV akR).toArray 5 (53, 54)) := ⟨_, rfl⟩
  have HB1 := Box.mk (show Below w.heap.size w W1 by rw [hW1]; exact below_oneF w _)
  have HBY := Box.mk (show IsBytes W1 (some ⟨w.heap.size, 0, none⟩) akR 53 by rw [hW1]; exact row_bytesH (heap_alloc_new w (.cells (bytesV akR).toArray 5 (53, 54))) (by decide))
  change Calls _ _ _ (w.alloc (.cells (bytesV akR).toArray 5 (53, 54))) _
  rw [← hW1]
  clear hW1
  refine (forRequest_any W1).mono ?_
  rintro e w2 ⟨rfl, hb2⟩
  have HBY2 := Box.mk (HBY.out.keep hb2)
  have HB2 := Box.mk (below_trans HB1.out hb2)
  clear hb2 HBY HB1
  have HC := Box.mk (show Calls Tryz.prog 12 #[.agg #[.bool false, .string ⟨#[]⟩, .int .i64 0, .string ⟨#[]⟩, .string ⟨#[]⟩, .int .i64 0, .slice none 0 0, .bool false, .slice none 0 0, .int .i64 0, .string ⟨#[]⟩, .int .i64 0, .slice none 0 0, .slice none 0 0, .int .i64 0, .int .i64 0, .int .i64 0, .int .i64 0, .int .i64 0, .int .i64 0, .int .i64 0, .slice none 0 0], .slice (some ⟨w.heap.size, 0, none⟩) 53 53, .int .i64 100, .int .i64 10, .int .i64 10] w2 (RetX (fun _ => True) w2 ak1) from projNext_any (fun _ => True) zeroR akR 100 10 10 (some ⟨w.heap.size, 0, none⟩) 53 none none none 0 0 0 w2 mm HBY2.out (by decide) ⟨FldsIn.nil _ _, FldsIn.nil _ _, .inl ⟨rfl, rfl, rfl⟩, (fun y e => by cases e), (fun y e => by cases e)⟩ (HM.out.keep HB2.out) okN_zero (by decide) (by decide) (fun _ _ => trivial))
  go_wp2_with fail
  refine HC.out.mono ?_
  rintro e w3 ⟨f4, c4, g4, d4, l4, e4, pa, pc, he, hm3, hd3, hb3⟩
  obtain ⟨cr, hcr⟩ : ∃ cr : Array Value, cr = #[.bool ak1.r.rep, .string ak1.r.meth, .int .i64 ak1.r.ph, .string ak1.r.m, .string ak1.r.t, .int .i64 ak1.r.z, .slice f4 (List.length ak1.r.xs) c4, .bool ak1.r.fr, .slice none 0 0, .int .i64 ak1.r.st, .string ak1.r.rs, .int .i64 ak1.r.z2, .slice g4 (List.length ak1.r.ys) d4, .slice none 0 0, .int .i64 ak1.r.fk, .int .i64 ak1.r.fl, .int .i64 ak1.r.left, .int .i64 ak1.r.size, .int .i64 ak1.r.ck.ph, .int .i64 ak1.r.ck.left, .int .i64 ak1.r.ck.tr, .slice l4 (List.length ak1.r.ck.line) e4] := ⟨_, rfl⟩
  obtain ⟨pr, hpr⟩ : ∃ pr : Array Value, pr = #[.int .i64 ak1.kind, .slice pa (List.length ak1.data) pc] := ⟨_, rfl⟩
  rw [← hcr, ← hpr, ak1_f.1, ak1_f.2.2.1] at he
  subst he
  have HCR := Box.mk hcr
  have HPR := Box.mk hpr
  have hcr22 : cr.size = 22 := by rw [hcr]; rfl
  have hcr1 : cr.all (·.oneCell') = true := by rw [hcr]; exact oneRd ..
  have hpr2 : pr.size = 2 := by rw [hpr]; rfl
  have hpr1 : pr.all (·.oneCell') = true := by rw [hpr]; exact onePt ..
  have HSR := Box.mk (show (Tryz.prog.info? 37).map (·.size) = some cr.size by rw [hcr22]; exact sizeRd)
  have HSP := Box.mk (show (Tryz.prog.info? 41).map (·.size) = some pr.size by rw [hpr2]; exact sizePt)
  have HB3 := Box.mk (below_trans HB2.out hb3)
  have HBY3 := Box.mk (HBY2.out.keep hb3)
  have HR3 := Box.mk hm3
  have HD3 := Box.mk hd3
  have hw3 := HB3.out.size
  clear hcr hpr hm3 hd3 hb3 HC HB2 HBY2
  obtain ⟨W4, hW4⟩ : ∃ W4, W4 = (w3.alloc (.cells #[.bool false, .string ⟨#[]⟩, .int .i64 0, .string ⟨#[]⟩, .string ⟨#[]⟩, .int .i64 0, .slice none 0 0, .bool false, .slice none 0 0, .int .i64 0, .string ⟨#[]⟩, .int .i64 0, .slice none 0 0, .slice none 0 0, .int .i64 0, .int .i64 0, .int .i64 0, .int .i64 0, .int .i64 0, .int .i64 0, .int .i64 0, .slice none 0 0] 37)).alloc (.cells #[.int .i64 0, .slice none 0 0] 41) := ⟨_, rfl⟩
  have HV2 := Box.mk (show RVr W4 w3.heap.size #[.bool false, .string ⟨#[]⟩, .int .i64 0, .string ⟨#[]⟩, .string ⟨#[]⟩, .int .i64 0, .slice none 0 0, .bool false, .slice none 0 0, .int .i64 0, .string ⟨#[]⟩, .int .i64 0, .slice none 0 0, .slice none 0 0, .int .i64 0, .int .i64 0, .int .i64 0, .int .i64 0, .int .i64 0, .int .i64 0, .int .i64 0, .slice none 0 0] by rw [hW4]; exact RVr.keep (heap_alloc_new w3 (.cells #[.bool false, .string ⟨#[]⟩, .int .i64 0, .string ⟨#[]⟩, .string ⟨#[]⟩, .int .i64 0, .slice none 0 0, .bool false, .slice none 0 0, .int .i64 0, .string ⟨#[]⟩, .int .i64 0, .slice none 0 0, .slice none 0 0, .int .i64 0, .int .i64 0, .int .i64 0, .int .i64 0, .int .i64 0, .int .i64 0, .int .i64 0, .slice none 0 0] 37)) (below_oneF _ _))
  have HV3 := Box.mk (show PVr W4 (w3.heap.size + 1) #[.int .i64 0, .slice none 0 0] by
    have h := heap_alloc_new (w3.alloc (.cells #[.bool false, .string ⟨#[]⟩, .int .i64 0, .string ⟨#[]⟩, .string ⟨#[]⟩, .int .i64 0, .slice none 0 0, .bool false, .slice none 0 0, .int .i64 0, .string ⟨#[]⟩, .int .i64 0, .slice none 0 0, .slice none 0 0, .int .i64 0, .int .i64 0, .int .i64 0, .int .i64 0, .int .i64 0, .int .i64 0, .int .i64 0, .slice none 0 0] 37)) (.cells #[.int .i64 0, .slice none 0 0] 41)
    rw [World.size_alloc] at h
    rw [hW4]; exact h)
  have HB4 := Box.mk (show Below w3.heap.size w3 W4 by rw [hW4]; exact below_twoF (below_oneF _ _) _)
  have HV3b := Box.mk (show PVr (W4.setRow w3.heap.size cr) (w3.heap.size + 1) #[.int .i64 0, .slice none 0 0] from (setRow_other _ _ _ _ (by omega)).trans HV3.out)
  rw [hW4] at HV2 HV3b
  go_upto_region 3 with (first | refine wpList_store_row rfl 37 _ _ rfl w3.heap.size cr rfl rfl 37 _ HV2.out HSR.out (by rw [hcr22]; rfl) hcr1 ?_ | refine wpList_store_row rfl 41 _ _ rfl (w3.heap.size + 1) pr rfl rfl 41 _ HV3b.out HSP.out (by rw [hpr2]; rfl) hpr1 ?_)
  rw [← hW4] at HV2 HV3b
  rw [← hW4]
  clear hW4
  obtain ⟨g2, hg2⟩ : ∃ g2, g2 = w3.heap.size := ⟨_, rfl⟩
  obtain ⟨g3, hg3⟩ : ∃ g3, g3 = w3.heap.size + 1 := ⟨_, rfl⟩
  obtain ⟨W5, hW5⟩ : ∃ W5, W5 = (W4.setRow w3.heap.size cr).setRow (w3.heap.size + 1) pr := ⟨_, rfl⟩
  have hR5 : RVr W5 g2 #[.bool ak1.r.rep, .string ak1.r.meth, .int .i64 ak1.r.ph, .string ak1.r.m, .string ak1.r.t, .int .i64 ak1.r.z, .slice f4 (List.length ak1.r.xs) c4, .bool ak1.r.fr, .slice none 0 0, .int .i64 ak1.r.st, .string ak1.r.rs, .int .i64 ak1.r.z2, .slice g4 (List.length ak1.r.ys) d4, .slice none 0 0, .int .i64 ak1.r.fk, .int .i64 ak1.r.fl, .int .i64 ak1.r.left, .int .i64 ak1.r.size, .int .i64 ak1.r.ck.ph, .int .i64 ak1.r.ck.left, .int .i64 ak1.r.ck.tr, .slice l4 (List.length ak1.r.ck.line) e4] := by rw [hW5, hg2, ← HCR.out]; exact (setRow_other _ _ _ _ (by omega)).trans (setRow_heap _ _ _ _ _ _ HV2.out)
  have hP5 : PVr W5 g3 #[.int .i64 ak1.kind, .slice pa (List.length ak1.data) pc] := by rw [hW5, hg3, ← HPR.out]; exact setRow_heap _ _ _ _ _ _ HV3b.out
  have hb35 : Below w3.heap.size w3 W5 := by rw [hW5]; exact below_setRow (below_setRow HB4.out (Nat.le_refl _) _) (by omega) _
  have hm5 := HR3.out.keep hb35
  have HJ := Box.mk (show AwJ w g2 g3 ak1.r ak1 W5 from ⟨⟨f4, c4, g4, d4, l4, e4, hR5, ⟨hm5.f1, hm5.f2, hm5.ln, fun y e hx => by have := HR3.out.f1.old e hx; show y.block ≠ g2; omega, fun y e hx => by have := HR3.out.f2.old e hx; show y.block ≠ g2; omega⟩, fun _ _ _ => trivial⟩, ⟨pa, pc, hP5, HD3.out.keep hb35⟩, HBY3.out.keep hb35, below_trans HB3.out hb35, by omega, by omega, by omega, hR5.lt, (Array.getElem?_eq_some_iff.1 hP5).1⟩)
  have hk0 : W5.cell? ⟨g3, 0, none⟩ = some (.int .i64 1) := by rw [cell_of_row _ _ _ _ _ _ hP5]; show some (Value.int .i64 ak1.kind) = _; rw [ak1_f.2.1]
  have hk7 : W5.cell? ⟨g2, 7, none⟩ = some (.bool true) := by rw [RVr.cell hR5]; show some (Value.bool ak1.r.fr) = _; rw [ak1_f.2.2.2]
  rw [← hg3]
  rw [← hg3] at hW5
  rw [← hg2]
  rw [← hg2] at hW5
  rw [← hW5]
  clear hW5 hR5 hP5 hb35 hm5 HV2 HV3 HV3b HB4 HCR HPR HSR HSP hcr1 hpr1 hcr22 hpr2 HB3 HBY3 HR3 HD3 hg2 hg3 hw3
  go_wp2_with fail
  rename_i K hK
  clear hk0 hk7
  refine wp_region_phases [9, 10] (fun p => match p with | 0 => [0, 1, 2, 3, 4, 5, 6, 7, 8] | 1 => [6, 7, 8] | _ => [7, 8, 11, 12])
    (fun p => match p with | 0 => [.srow (fun k => k ≠ g2, fun _ => True) ak1.r, .val (.slice (some ⟨w.heap.size, 0, none⟩) 53 53), .bytes (akR.drop 47), .nxt (fun k => k ≠ g2, fun _ => True) ak2, .nxt (fun k => k ≠ g2, fun _ => True) ak2, .srow (fun k => k ≠ g2, fun _ => True) ak2.r, .prow ak2, .val (.int .i64 (ak2.n : Int)), .val (.int .i64 ak2.er), .any, .any, .nope, .nope] | 1 => [.any, .any, .any, .any, .nxt (fun k => k ≠ g2, fun _ => True) ak2, .any, .prow ak2, .val (.int .i64 (ak2.n : Int)), .val (.int .i64 ak2.er), .any, .any, .nope, .nope] | _ => [.any, .any, .any, .any, .nxt (fun k => k ≠ g2, fun _ => True) ak2, .any, .any, .val (.int .i64 (ak2.n : Int)), .val (.int .i64 ak2.er), .any, .any, .val (.int .i64 (ak2.n : Int)), .val (.int .i64 ak2.er)])
    (fun p => match p with | 0 => AwJ w g2 g3 ak1.r ak1 | 1 => AwJ w g2 g3 ak2.r ak1 | _ => AwJ w g2 g3 ak2.r ak2)
    (by kernel_rfl) (by kernel_rfl) (by kernel_rfl) (by kernel_rfl) (by kernel_rfl) (by kernel_rfl) ?_ HJ.out ?_ ?_ ?_
  · intro p wa wb h hb
    match p, h with
    | 0, h => exact AwJ.keep h hb
    | 1, h => exact AwJ.keep h hb
    | (_ + 2), h => exact AwJ.keep h hb
  · intro p hp
    match p, hp with
    | 0, _ =>
      refine ⟨?_, ?_, ?_, ?_, ?_, ?_, ?_, ?_, ?_, trivial⟩ <;> intro a1 wx hv hf hd
      · exact ⟨wanted_none rfl, loc_loadS rfl (hf.base 2 rfl) hv.st fun v h => h⟩
      · exact ⟨wanted_none rfl, loc_move rfl (hf.base 1 rfl)⟩
      · exact ⟨wanted_none rfl, loc_from rfl (l := akR) (i := 47) ⟨_, _, hd 1 rfl, hv.bt⟩ rfl (by decide) fun v h => h⟩
      · exact ⟨wanted_none rfl, loc_callPx rfl (HM.out.keep hv.bl) (hd 0 rfl) (hd 2 rfl) rfl rfl rfl (by decide) ak1_ok (by decide) (by decide) (fun k hk => ⟨by have := hv.ne.2.2.2.1; show k ≠ g2; omega, trivial⟩) fun v w' h => h⟩
      · exact ⟨wanted_none rfl, loc_move rfl (hd 3 rfl)⟩
      · exact ⟨wanted_none rfl, loc_nx0 rfl (hd 4 rfl) fun v h => h⟩
      · exact ⟨wanted_none rfl, loc_nx1 rfl (hd 4 rfl) fun v h => h⟩
      · exact ⟨wanted_none rfl, loc_nx2 rfl (hd 4 rfl) rfl⟩
      · exact ⟨wanted_none rfl, loc_nx3 rfl (hd 4 rfl) rfl⟩
    | 1, _ =>
      refine ⟨?_, ?_, ?_, trivial⟩ <;> intro a1 wx hv hf hd
      · exact ⟨wanted_none rfl, loc_nx1 rfl (hd 4 rfl) fun v h => h⟩
      · exact ⟨wanted_none rfl, loc_nx2 rfl (hd 4 rfl) rfl⟩
      · exact ⟨wanted_none rfl, loc_nx3 rfl (hd 4 rfl) rfl⟩
    | 2, _ =>
      refine ⟨?_, ?_, ?_, ?_, trivial⟩ <;> intro a1 wx hv hf hd
      · exact ⟨wanted_none rfl, loc_nx2 rfl (hd 4 rfl) rfl⟩
      · exact ⟨wanted_none rfl, loc_nx3 rfl (hd 4 rfl) rfl⟩
      · exact ⟨wanted_none rfl, loc_assign rfl (hd 7 rfl)⟩
      · exact ⟨wanted_none rfl, loc_assign rfl (hd 8 rfl)⟩
  · intro p hp
    match p, hp with
    | 0, _ =>
      intro a2 wx hv hf hd
      refine ⟨wanted_none rfl, wp_storeRo rfl (hf.base 2 rfl) hv.st (fun e => e rfl) (hd 5 rfl) fun cs ds hr hu hst => ?_⟩
      have hsz : (wx.setRow g2 cs).heap.size = wx.heap.size := by simp [World.setRow]
      exact ⟨undef, rfl, ⟨hst, hv.pt.rowZ hv.ne.1 hr hu, isBytes_rowR hr hu hv.bt, below_setRow hv.bl hv.ne.2.1 _, hv.ne.1, hv.ne.2.1, hv.ne.2.2.1, by rw [hsz]; exact hv.ne.2.2.2.1, by rw [hsz]; exact hv.ne.2.2.2.2⟩, trivial, ⟨.inr fun _ _ _ => trivial, .inr fun _ _ _ => trivial, .inr fun _ _ _ => trivial, .inr fun _ _ _ => trivial, .inr fun _ _ h => NxV.rowL h (fun e => e rfl) hr hu, .inr fun _ _ _ => trivial, .inr fun _ _ h => AgP.rowZ h hr hu, .inr fun _ _ h => h, .inr fun _ _ h => h, .inl rfl, .inr fun _ _ _ => trivial, .inr fun _ _ h => h.elim, .inr fun _ _ h => h.elim, trivial⟩⟩
    | 1, _ =>
      intro a2 wx hv hf hd
      refine ⟨wanted_none rfl, wp_storePo rfl (hf.base 3 rfl) hv.pt (hd 6 rfl) fun cs ds hr hu hs hpt => ?_⟩
      have hsz : (wx.setRow g3 cs).heap.size = wx.heap.size := by simp [World.setRow]
      exact ⟨undef, rfl, ⟨hv.st.rowZ ak2_nm (fun e => hv.ne.1 e.symm) hr hs hu, hpt, isBytes_rowR hr hu hv.bt, below_setRow hv.bl hv.ne.2.2.1 _, hv.ne.1, hv.ne.2.1, hv.ne.2.2.1, by rw [hsz]; exact hv.ne.2.2.2.1, by rw [hsz]; exact hv.ne.2.2.2.2⟩, trivial, ⟨.inr fun _ _ _ => trivial, .inr fun _ _ _ => trivial, .inr fun _ _ _ => trivial, .inr fun _ _ _ => trivial, .inr fun _ _ h => NxV.rowZ h ak2_nm hr hs hu, .inr fun _ _ _ => trivial, .inr fun _ _ _ => trivial, .inr fun _ _ h => h, .inr fun _ _ h => h, .inr fun _ _ _ => trivial, .inl rfl, .inr fun _ _ h => h.elim, .inr fun _ _ h => h.elim, trivial⟩⟩
  · intro a2 w9 hv hf hh
    have e4 : a2.eval (.tmp 4) = .int .i64 (ak2.n : Int) := hh 11 (by decide)
    have e5 : a2.eval (.tmp 5) = .int .i64 ak2.er := hh 12 (by decide)
    clear hh
    rw [fr_putAll hf]
    clear hf
    simp only [putAll, e4, e5]
    generalize a2.eval (.tmp 34) = u34
    generalize a2.eval (.tmp 35) = u35
    generalize a2.eval (.tmp 36) = u36
    generalize a2.eval (.tmp 37) = u37
    generalize a2.eval (.tmp 33) = u33
    generalize a2.eval (.tmp 38) = u38
    generalize a2.eval (.tmp 39) = u39
    generalize a2.eval (.tmp 40) = u40
    generalize a2.eval (.tmp 41) = u41
    clear e4 e5 a2
    simp only [Act.put, List.setIfInBounds_toArray, List.set_cons_succ, List.set_cons_zero]
    rw [ak2_f.1, ak2_f.2.2.1]
    refine hK _ _ ?_
    clear hK
    obtain ⟨pa, pc, hp, hd⟩ := hv.pt
    have hk0 : w9.cell? ⟨g3, 0, none⟩ = some (.int .i64 2) := by rw [cell_of_row _ _ _ _ _ _ hp]; show some (Value.int .i64 ak2.kind) = _; rw [ak2_f.2.1]
    have hk1 : w9.cell? ⟨g3, 1, none⟩ = some (.slice pa (List.length ak2.data) pc) := by rw [cell_of_row _ _ _ _ _ _ hp]; rfl
    have hcv := conv_bytes hd
    rw [show (⟨ak2.data.toArray⟩ : ByteArray) = ⟨#[97, 98, 99]⟩ by rw [ak2_f.2.2.2]] at hcv
    have HV := Box.mk hv
    clear hv hp hd
    go_wp2_with fail
    rename_i K hK
    clear hk0 hk1 hcv
    refine wp_region_phases [9] (fun p => match p with | 0 => [0, 1, 2, 3, 4, 5, 6, 7, 8] | _ => [5, 7, 8, 10, 11])
      (fun p => match p with | 0 => [.srow (fun k => k ≠ g2, fun _ => True) ak2.r, .val (.slice (some ⟨w.heap.size, 0, none⟩) 53 53), .bytes (akR.drop 50), .nxt (fun k => k ≠ g2, fun _ => True) ak3, .nxt (fun k => k ≠ g2, fun _ => True) ak3, .srow (fun k => k ≠ g2, fun _ => True) ak3.r, .prow ak3, .val (.int .i64 (ak3.n : Int)), .val (.int .i64 ak3.er), .any, .nope, .nope] | _ => [.any, .any, .any, .any, .nxt (fun k => k ≠ g2, fun _ => True) ak3, .srow (fun k => k ≠ g2, fun _ => True) ak3.r, .any, .val (.int .i64 (ak3.n : Int)), .val (.int .i64 ak3.er), .any, .val (.int .i64 (ak3.n : Int)), .val (.int .i64 ak3.er)])
      (fun p => match p with | 0 => AwJ w g2 g3 ak2.r ak2 | _ => AwJ w g2 g3 ak2.r ak3)
      (by kernel_rfl) (by kernel_rfl) (by kernel_rfl) (by kernel_rfl) (by kernel_rfl) (by kernel_rfl) ?_ HV.out ?_ ?_ ?_
    · intro p wa wb h hb
      match p, h with
      | 0, h => exact AwJ.keep h hb
      | (_ + 1), h => exact AwJ.keep h hb
    · intro p hp
      match p, hp with
      | 0, _ =>
        refine ⟨?_, ?_, ?_, ?_, ?_, ?_, ?_, ?_, ?_, trivial⟩ <;> intro a1 wx hv hf hd
        · exact ⟨wanted_none rfl, loc_loadS rfl (hf.base 2 rfl) hv.st fun v h => h⟩
        · exact ⟨wanted_none rfl, loc_move rfl (hf.base 1 rfl)⟩
        · exact ⟨wanted_none rfl, loc_from rfl (l := akR) (i := 50) ⟨_, _, hd 1 rfl, hv.bt⟩ rfl (by decide) fun v h => h⟩
        · exact ⟨wanted_none rfl, loc_callPx rfl (HM.out.keep hv.bl) (hd 0 rfl) (hd 2 rfl) rfl rfl rfl (by decide) ak2_ok (by decide) (by decide) (fun k hk => ⟨by have := hv.ne.2.2.2.1; show k ≠ g2; omega, trivial⟩) fun v w' h => h⟩
        · exact ⟨wanted_none rfl, loc_move rfl (hd 3 rfl)⟩
        · exact ⟨wanted_none rfl, loc_nx0 rfl (hd 4 rfl) fun v h => h⟩
        · exact ⟨wanted_none rfl, loc_nx1 rfl (hd 4 rfl) fun v h => h⟩
        · exact ⟨wanted_none rfl, loc_nx2 rfl (hd 4 rfl) rfl⟩
        · exact ⟨wanted_none rfl, loc_nx3 rfl (hd 4 rfl) rfl⟩
      | 1, _ =>
        refine ⟨?_, ?_, ?_, ?_, ?_, trivial⟩ <;> intro a1 wx hv hf hd
        · exact ⟨wanted_none rfl, loc_nx0 rfl (hd 4 rfl) fun v h => h⟩
        · exact ⟨wanted_none rfl, loc_nx2 rfl (hd 4 rfl) rfl⟩
        · exact ⟨wanted_none rfl, loc_nx3 rfl (hd 4 rfl) rfl⟩
        · exact ⟨wanted_none rfl, loc_assign rfl (hd 7 rfl)⟩
        · exact ⟨wanted_none rfl, loc_assign rfl (hd 8 rfl)⟩
    · intro p hp
      match p, hp with
      | 0, _ =>
        intro a2 wx hv hf hd
        refine ⟨wanted_none rfl, wp_storePo rfl (hf.base 3 rfl) hv.pt (hd 6 rfl) fun cs ds hr hu hs hpt => ?_⟩
        have hsz : (wx.setRow g3 cs).heap.size = wx.heap.size := by simp [World.setRow]
        exact ⟨undef, rfl, ⟨hv.st.rowZ ak2_nm (fun e => hv.ne.1 e.symm) hr hs hu, hpt, isBytes_rowR hr hu hv.bt, below_setRow hv.bl hv.ne.2.2.1 _, hv.ne.1, hv.ne.2.1, hv.ne.2.2.1, by rw [hsz]; exact hv.ne.2.2.2.1, by rw [hsz]; exact hv.ne.2.2.2.2⟩, trivial, ⟨.inr fun _ _ _ => trivial, .inr fun _ _ _ => trivial, .inr fun _ _ _ => trivial, .inr fun _ _ _ => trivial, .inr fun _ _ h => NxV.rowZ h ak3_nm hr hs hu, .inr fun _ _ h => AgS.rowZ h ak3_nm hr hs hu, .inr fun _ _ _ => trivial, .inr fun _ _ h => h, .inr fun _ _ h => h, .inl rfl, .inr fun _ _ h => h.elim, .inr fun _ _ h => h.elim, trivial⟩⟩
    · intro a2 w9 hv hf hh
      have e4 : a2.eval (.tmp 4) = .int .i64 (ak3.n : Int) := hh 10 (by decide)
      have e5 : a2.eval (.tmp 5) = .int .i64 ak3.er := hh 11 (by decide)
      clear hh
      rw [fr_putAll hf]
      clear hf
      simp only [putAll, e4, e5]
      generalize a2.eval (.tmp 60) = u60
      generalize a2.eval (.tmp 61) = u61
      generalize a2.eval (.tmp 62) = u62
      generalize a2.eval (.tmp 63) = u63
      generalize a2.eval (.tmp 59) = u59
      generalize a2.eval (.tmp 64) = u64
      generalize a2.eval (.tmp 65) = u65
      generalize a2.eval (.tmp 66) = u66
      generalize a2.eval (.tmp 67) = u67
      clear e4 e5 a2
      simp only [Act.put, List.setIfInBounds_toArray, List.set_cons_succ, List.set_cons_zero]
      rw [ak3_f.1, ak3_f.2.2]
      refine hK _ _ ?_
      clear hK
      obtain ⟨pa, pc, hp, hd⟩ := hv.pt
      have hk0 : w9.cell? ⟨g3, 0, none⟩ = some (.int .i64 3) := by rw [cell_of_row _ _ _ _ _ _ hp]; show some (Value.int .i64 ak3.kind) = _; rw [ak3_f.2.1]
      have HB := Box.mk hv.bl
      clear hv hp hd
      go_wp2_with fail
      go_ret
      exact ⟨rfl, HB.out⟩
end Go.Proofs.YtejbkbccljoldaaGreatDoor
namespace Go.Proofs.YtejbkbccljoldaaGreatDoor
open Go.RowKit

/-- One byte of a slice of the call's own is written. -/
theorem AccB.store {w0 w : World} {k n cap : Nat} {l : List UInt8} (h : AccB w0 w (.slice (some ⟨k, 0, none⟩) n cap) l) (i : Nat) (hi : i < l.length) (c : UInt8) :
    (∃ u, w.cell? ⟨k, i, none⟩ = some u) ∧ w.frozen? ⟨k, i, none⟩ = false ∧ AccB w0 (w.setCell ⟨k, i, none⟩ (.int .u8 (c.toNat : Int))) (.slice (some ⟨k, 0, none⟩) n cap) (l.set i c) := by
  obtain ⟨⟨h1, h2⟩, hb⟩ := h
  rcases h2 with ⟨e, _⟩ | ⟨g, cap', cur, e, hg, hh, hn, hm, hs, ht⟩
  · cases e
  · injection e with e1 e2 e3
    injection e1 with e1
    injection e1 with e1
    subst e1 e2 e3
    have hlt : i < cur.size := by rw [hs]; omega
    refine ⟨⟨cur[i], by rw [cell_of_row _ _ _ _ _ _ hh]; simp [hlt]⟩, frozen_of_row _ _ _ _ _ hh, ⟨?_, ?_⟩, hb.setCell (p := ⟨k, i, none⟩) hg _⟩
    · simp [Go.Proofs.YtejbkbccljoldaaGreatDoor.bytesV]
    · refine .inr ⟨k, cap, cur.setIfInBounds i (.int .u8 (c.toNat : Int)), by simp, hg, heap_setCell_same _ _ _ _ _ _ hh, by simpa using hn, hm, by simpa using hs, ?_⟩
      rw [Array.toList_setIfInBounds, List.length_set, List.take_set, ht]
      unfold Go.Proofs.YtejbkbccljoldaaGreatDoor.bytesV
      rw [List.map_set]

end Go.Proofs.YtejbkbccljoldaaGreatDoor
namespace Go.Proofs.YtejbkbccljoldaaGreatDoor
open Go.RowKit

/-- The worlds that keep what was there in W. -/
structure BelowOf (W : World) where
  val : World
  prop : Below W.heap.size W val
instance (W : World) : Nonempty (BelowOf W) := ⟨⟨W, Below.refl _ _⟩⟩
theorem wp_region_below_tail {P : Program} {id : Nat} {Q : Exit → Act → World → Prop} {a : Act} {w : World} {full : List Oper} (n : Nat) (hm : P.follows .mixedOrders = true)
    (hlen : full.length = n + 1) (hB : backB full = true) (hS : sinkAll .any full n = true)
    (hL : (Region.noSelect (full.take n).toArray && Region.lexFrom .any (full.take n).toArray n 0 (Array.replicate (n + 1) false)) = true)
    (h : wpQuiet P (full.take n).toArray (fun w' => ∃ b : BelowOf w, w' = b.val) (fun a' => ∀ w', (∃ b : BelowOf w, w' = b.val) → wpList P full.toArray Q (full.drop n) a' w') (full.take n) a) : (Code.region id full.toArray true).wp P Q a w :=
  wp_region_quiet_tail (C := fun w' => ∃ b : BelowOf w, w' = b.val) n hm hlen hB hS hL ⟨⟨{ w with drawn := w.drawn + 1 }, ⟨rfl, rfl, rfl, Nat.le_refl _, fun _ _ => rfl⟩⟩, rfl⟩ h
end Go.Proofs.YtejbkbccljoldaaGreatDoor
namespace Go.Proofs.YtejbkbccljoldaaGreatDoor
open Go.RowKit

theorem within_val (z : Int) (n : Nat) (h0 : 0 < n) (hn : n ≤ 1000) : ∃ k : Nat, k < n ∧ (wrap64 (z.tmod n + n)).tmod n = (k : Int) := by
  have h1 : z.tmod n < n := Int.tmod_lt_of_pos z (by omega)
  have h2 : -(n : Int) < z.tmod n := Int.lt_tmod_of_pos z (by omega)
  generalize z.tmod n = y at *
  have e : wrap64 (y + n) = y + n := by simp only [wrap64]; omega
  rw [e, Int.tmod_eq_emod_of_nonneg (by omega)]
  exact ⟨((y + n) % n).toNat, by have := Int.emod_lt_of_pos (y + n) (show (0 : Int) < n by omega); have := Int.emod_nonneg (y + n) (show (n : Int) ≠ 0 by omega); omega, by have := Int.emod_nonneg (y + n) (show (n : Int) ≠ 0 by omega); omega⟩
set_option maxHeartbeats 400000 in
theorem within_any (z : Int) (n : Nat) (w : World) (h0 : 0 < n) (hn : n ≤ 1000) :
    Calls Tryz.prog 10 #[.int .i64 z, .int .i64 n] w fun e w' => ∃ k : Nat, k < n ∧ e = .returned (.int .i64 k) ∧ w = w' := by
  obtain ⟨k, hk, he⟩ := within_val z n h0 hn
  go_enter Tryz.func10, Tryz.ntmps10
  go_wp2
  go_ret
  exact ⟨k, hk, rfl, rfl⟩

end Go.Proofs.YtejbkbccljoldaaGreatDoor
