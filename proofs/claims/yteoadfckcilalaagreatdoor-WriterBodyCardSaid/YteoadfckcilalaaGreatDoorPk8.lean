/- The reference's reader: a chunked body. Plain mathematics of the decoder: pieces and room, the beginning of a body, a line. The reader: what its states keep. Plain mathematics of the decoder: lines, chunks, whole bodies. Package chunked: the mathematics of its line and its blocks of data; what a call may touch. The project's reader: variables, what a method leaves alone; copies of slices. The project's reader: small methods. The project's reader: room, checks, the start of a body. OfRequest, OfReply and Persistent of package framing, and what they call. -/
import Derived.Test.YteoadfckcilalaaGreatDoorPk1
import Derived.Test.YteoadfckcilalaaGreatDoorPk2
import Derived.Test.YteoadfckcilalaaGreatDoorPk3
import Derived.Test.YteoadfckcilalaaGreatDoorPk4
import Derived.Test.YteoadfckcilalaaGreatDoorPk5
import Derived.Test.YteoadfckcilalaaGreatDoorPk6
import Derived.Test.YteoadfckcilalaaGreatDoorPk7
import Derived.Test.YteoadfckcilalaaGreatDoorRows
import Derived.WalkKit
import Derived.WalkSpells
import Derived.WalkLawsBesides
import Derived.BigQuiet
import Derived.Deep.QuietTactic
import Derived.Lib.Bytealg
import Derived.Lib.IndexLaws
import Derived.Lib.Hide
import Derived.Laws.IdiomStrings
import Derived.Lib.SlTrimSet
import Derived.Lib.IndexBytes
import Derived.Lib.Split
import Derived.Deep.AppendLies
import Derived.Shelf.Strings.SlTrimAscii
import Derived.Shelf.Strings.SplitShaped
import Derived.Shelf.LaysM
import Derived.Shelf.Strings.BuilderK
import Derived.Shelf.Strconv.Itoa4
import Derived.Shelf.Strings.Prefix
import Derived.Shelf.Bytes.SlIndexWhole
import Derived.Test.YteoadfckcilalaaGreatDoorProg
import Derived.Lib.SplitLaws
import Derived.WalkSmall
import Derived.ProofKit
import Derived.OpenShut
import Derived.Lib.Strings
import Derived.SliceStrings
import Derived.Deep.Quiet
import Derived.Tactics
import Derived.KernelRfl
import Derived.Below
import Derived.Laws.Bits64
import Derived.Lib.SlBytesConst
import Derived.Maps.AppendAt
import Derived.Laws.AppendOwnNone
import Derived.Great.BuildSlice
import Derived.Laws.Rows
import Derived.Laws.BitsAllLaws
import Derived.Laws.Shifts
import Derived.Maps.OwnOps
import Derived.Maps.OwnSet
import Derived.Deep.SlicePairs
import Derived.Lib.AppendZerosOnto
import Derived.Lib.AppendStr
import Derived.Laws.CopyOwn
import Derived.OwnWalk
import Derived.Laws.Strings3
import Derived.Laws.Concat
import Derived.Lib.ItoaMem
import Derived.Deep.RegionHeld3
import Derived.IntWalk
import Derived.Laws.RangeAny
import Derived.LoopTactic
import Derived.Sort.Grow
import Derived.Lib.ConvBytes
import Derived.Deep.DeepCutAuto
import Derived.Deep.MidRow
import Derived.Laws.Tables
import Derived.Deep.WholeRow
import Derived.StillTailTactics
import Derived.Deep.CutBlock
import Derived.Lib.LaidTab
import Derived.LaidSub
import Derived.Laws.Bits64b
import Derived.Lib.FrozenHead2
import Derived.Deep.Matrix
import Derived.Lib.LazyBuf
namespace Go.Proofs.YteoadfckcilalaaGreatDoor
open Go.RowKit

theorem row_awayR {w : World} {g : Nat} {cs : Array Value} {T : TypeId} {fz : Nat × Nat} (h : w.heap[g]? = some (.cells cs T fz)) (hn : ∀ (i : Nat) (z : Int), cs[i]? ≠ some (.int .u8 z)) {a : Option Addr} {l : List UInt8} {c : Nat} (hb : IsBytes w a l c) : ∀ x, a = some x → l ≠ [] → x.block ≠ g := by
  intro x hx hl hg
  rcases hb with ⟨h1, _⟩ | ⟨y, h1, _, _, h4⟩
  · rw [h1] at hx; cases hx
  · rw [h1] at hx
    obtain rfl := Option.some.inj hx
    have h5 := h4 0 (List.length_pos_iff.2 hl)
    have h6 : w.heap[(y.add 0).block]? = some (.cells cs T fz) := by rw [add_blockC, hg]; exact h
    unfold World.cell? at h5
    rw [h6] at h5
    simp only at h5
    split at h5
    · cases h5
    · exact hn _ _ h5
theorem noU8_22 {cs : Array Value} (h : cs.toList.all (fun v => match v with | .int .u8 _ => false | _ => true) = true) : ∀ (i : Nat) (z : Int), cs[i]? ≠ some (.int .u8 z) := fun i z e => by
  have h1 := List.all_eq_true.1 h (.int .u8 z) (by
    have : cs.toList[i]? = some (.int .u8 z) := by rw [Array.getElem?_toList]; exact e
    exact List.mem_of_getElem? this)
  cases h1
set_option linter.unusedVariables false
section
variable (B : Nat → Prop) (s : RS) (b : List UInt8) (body room : Int) (ba : Option Addr) (bc : Nat) (fa ga la : Option Addr) (fc gc lc : Nat) (w : World)
end
end Go.Proofs.YteoadfckcilalaaGreatDoor
namespace Go.Proofs.YteoadfckcilalaaGreatDoor
open Go.RowKit

/-- One byte of the body. -/
def dataS (s : Chk) : Chk := ⟨if s.left - 1 = 0 then 2 else 1, s.left - 1, s.tr, s.line⟩
/-- The decoder with as much room as it likes. -/
def feedU : Chk → List UInt8 → Nat → List UInt8 → Int × Chk × List UInt8 × Nat
  | s, out, i, [] => (0, s, out, i)
  | s, out, i, x :: r =>
    if s.ph = 4 then (0, s, out, i)
    else if s.ph = 1 then feedU (dataS s) (out ++ [x]) (i + 1) r
    else if (stepS s x).1 = 0 then feedU (stepS s x).2 out (i + 1) r
    else ((stepS s x).1, zeroC, [], 0)
theorem feedU_data {s : Chk} (h : s.ph = 1) (out : List UInt8) (i : Nat) (x : UInt8) (r : List UInt8) : feedU s out i (x :: r) = feedU (dataS s) (out ++ [x]) (i + 1) r := by
  rw [feedU, if_neg (by omega), if_pos h]
theorem feedU_ok {s : Chk} {x : UInt8} (h4 : ¬ s.ph = 4) (h1 : ¬ s.ph = 1) (h0 : (stepS s x).1 = 0) (out : List UInt8) (i : Nat) (r : List UInt8) : feedU s out i (x :: r) = feedU (stepS s x).2 out (i + 1) r := by
  rw [feedU, if_neg h4, if_neg h1, if_pos h0]
/-- A piece, with little room: what is left goes on where it stopped. -/
theorem feedS_piece (q : List UInt8) (room : Int) : ∀ (p : List UInt8) (s : Chk) (o : List UInt8) (k : Nat) (out : List UInt8) (i : Nat), (feedS room s o k p).1 = 0 →
    ∃ d m, (feedS room s o k p).2.2.1 = o ++ d ∧ (feedS room s o k p).2.2.2 = k + m ∧ m ≤ p.length ∧ d.length ≤ m ∧ feedU s out i (p ++ q) = feedU (feedS room s o k p).2.1 (out ++ d) (i + m) ((p ++ q).drop m)
  | [], s, o, k, out, i, _ => ⟨[], 0, by rw [feedS_nil]; simp, by rw [feedS_nil]; simp, Nat.le_refl _, Nat.le_refl _, by rw [feedS_nil]; simp⟩
  | x :: p, s, o, k, out, i, h => by
    by_cases hs : s.ph = 4 ∨ s.ph = 1 ∧ room ≤ o.length
    · rw [feedS_stop hs] at h ⊢
      exact ⟨[], 0, by simp, by simp, Nat.zero_le _, Nat.le_refl _, by simp⟩
    · have h4 : ¬ s.ph = 4 := fun e => hs (.inl e)
      by_cases h1 : s.ph = 1
      · have hr : ¬ room ≤ o.length := fun e => hs (.inr ⟨h1, e⟩)
        rw [feedS_data h1 hr] at h ⊢
        obtain ⟨d, m, e1, e2, e3, e4, e5⟩ := feedS_piece q room p _ _ _ (out ++ [x]) (i + 1) h
        refine ⟨x :: d, m + 1, by rw [e1]; simp, by rw [e2]; omega, by simp; omega, by simp; omega, ?_⟩
        rw [List.cons_append, feedU_data h1]
        unfold dataS
        rw [e5, List.drop_succ_cons, List.append_assoc, List.singleton_append, show i + 1 + m = i + (m + 1) by omega]
      · by_cases h0 : (stepS s x).1 = 0
        · rw [feedS_ok h4 h1 h0] at h ⊢
          obtain ⟨d, m, e1, e2, e3, e4, e5⟩ := feedS_piece q room p _ _ _ out (i + 1) h
          refine ⟨d, m + 1, e1, by rw [e2]; omega, by simp; omega, by omega, ?_⟩
          rw [List.cons_append, feedU_ok h4 h1 h0, e5, List.drop_succ_cons, show i + 1 + m = i + (m + 1) by omega]
        · rw [feedS_err h4 h1 h0] at h
          exact absurd h h0
theorem feedS_okC (room : Int) : ∀ (p : List UInt8) (s : Chk) (o : List UInt8) (k : Nat), OkC s → (feedS room s o k p).1 = 0 → OkC (feedS room s o k p).2.1
  | [], s, o, k, hs, _ => hs
  | x :: p, s, o, k, hs, h => by
    by_cases hst : s.ph = 4 ∨ s.ph = 1 ∧ room ≤ o.length
    · rw [feedS_stop hst]; exact hs
    · have h4 : ¬ s.ph = 4 := fun e => hst (.inl e)
      by_cases h1 : s.ph = 1
      · have hr : ¬ room ≤ o.length := fun e => hst (.inr ⟨h1, e⟩)
        rw [feedS_data h1 hr] at h ⊢
        exact feedS_okC room p _ _ _ (okC_data hs h1) h
      · by_cases h0 : (stepS s x).1 = 0
        · rw [feedS_ok h4 h1 h0] at h ⊢
          exact feedS_okC room p _ _ _ (okC_step hs h1 h4 h0) h
        · rw [feedS_err h4 h1 h0] at h
          exact absurd h h0
end Go.Proofs.YteoadfckcilalaaGreatDoor
namespace Go.Proofs.YteoadfckcilalaaGreatDoor
open Go.RowKit

set_option linter.unusedVariables false
theorem parse10_range (s : ByteArray) : 0 ≤ (parseS 10 1000000000 s).1 ∧ (parseS 10 1000000000 s).1 ≤ 1000000000 ∧ ((parseS 10 1000000000 s).2 = 0 ∨ (parseS 10 1000000000 s).2 = 2 ∨ (parseS 10 1000000000 s).2 = 3) := by
  unfold parseS
  split
  · rename_i h
    have hne : s.data.toList ≠ [] := by
      intro e
      unfold numS at h
      rw [e] at h; simp at h
    have h1 := vgo_ge 10 (by decide) s.data.toList 0 (by decide)
    rw [pgo_eq 10 1000000000 (by decide) _ 0 (by decide) (.inr hne)]
    split
    · exact ⟨h1, by assumption, .inl rfl⟩
    · exact ⟨by decide, by decide, .inr (.inr rfl)⟩
  · exact ⟨by decide, by decide, .inr (.inl rfl)⟩
/-- A frame: none of it with an error, and what it may be without. -/
theorem frameS_range (v : Int) (l : List Fld) (k0 : Int) : ((frameS v l k0).2.2 = 0 ∧ ((frameS v l k0).1 = k0 ∧ (frameS v l k0).2.1 = 0 ∨ (frameS v l k0).1 = 3 ∧ (frameS v l k0).2.1 = 0 ∨ (frameS v l k0).1 = 2 ∧ 0 ≤ (frameS v l k0).2.1 ∧ (frameS v l k0).2.1 ≤ 1000000000)) ∨ (¬ (frameS v l k0).2.2 = 0 ∧ (frameS v l k0).1 = 0 ∧ (frameS v l k0).2.1 = 0) := by
  unfold frameS
  split
  · split
    · exact .inr ⟨by decide, rfl, rfl⟩
    · exact .inl ⟨rfl, .inr (.inl ⟨rfl, rfl⟩)⟩
  · split
    · exact .inl ⟨rfl, .inl ⟨rfl, rfl⟩⟩
    · rename_i y r _
      split
      · exact .inr ⟨by decide, rfl, rfl⟩
      · split
        · have h := parse10_range y
          exact .inl ⟨rfl, .inr (.inr ⟨rfl, h.1, h.2.1⟩)⟩
        · rename_i h0
          exact .inr ⟨h0, rfl, rfl⟩
theorem replyS_range (m : ByteArray) (st v : Int) (l : List Fld) : ((replyS m st v l).2.2 = 0 ∧ ((replyS m st v l).1 = 1 ∧ (replyS m st v l).2.1 = 0 ∨ (replyS m st v l).1 = 4 ∧ (replyS m st v l).2.1 = 0 ∨ (replyS m st v l).1 = 3 ∧ (replyS m st v l).2.1 = 0 ∨ (replyS m st v l).1 = 2 ∧ 0 ≤ (replyS m st v l).2.1 ∧ (replyS m st v l).2.1 ≤ 1000000000)) ∨ (¬ (replyS m st v l).2.2 = 0 ∧ (replyS m st v l).1 = 0 ∧ (replyS m st v l).2.1 = 0) := by
  unfold replyS
  split
  · exact .inl ⟨rfl, .inl ⟨rfl, rfl⟩⟩
  · rcases frameS_range v l 4 with ⟨h1, h2⟩ | h
    · exact .inl ⟨h1, .inr h2⟩
    · exact .inr h
/-- The states that come up, with this limit of a body. -/
structure OkN (body : Int) (s : RS) : Prop where
  ok : OkR s
  ph : s.ph = 0 ∨ s.ph = 1 ∨ s.ph = 2
  k1 : s.ph = 1 → s.fk = 1 ∨ s.fk = 2 ∨ s.fk = 3 ∨ s.fk = 4
  n1 : s.ph = 1 → s.fk = 1 → s.left = 0
  sz : s.ph = 1 → s.size ≤ body
  lf : s.ph = 1 → s.fk = 2 → s.left + s.size ≤ body
/-- The errors of a head. -/
theorem endS_cases (b : List UInt8) (most : Int) : endS b most = (0, 4) ∨ endS b most = (0, 3) ∨ ∃ n : Nat, endS b most = ((n : Int), 0) ∧ 4 ≤ n ∧ n ≤ b.length := by
  by_cases h : (endS b most).2 = 0
  · obtain ⟨n, h1, h2⟩ := endS_ok h
    exact .inr (.inr ⟨n, h1, h2⟩)
  · unfold endS at h ⊢
    split at h
    · exact absurd rfl h
    · rename_i hc
      rw [if_neg hc] at *
      split
      · exact .inr (.inl rfl)
      · exact .inl rfl
theorem minI_le (a b : Int) : minI a b ≤ a ∧ minI a b ≤ b ∧ (minI a b = a ∨ minI a b = b) := by
  unfold minI; split <;> refine ⟨by omega, by omega, ?_⟩ <;> simp
theorem smallF_short {l : List Fld} (h : SmallF l) : ShortF l := fun f hf => ⟨Nat.le_trans (h f hf).1 (by decide), Nat.le_trans (h f hf).2 (by decide)⟩
theorem finX_ok {x : RS} {f : Int × Int × Int} {n : Nat} {body : Int} (hb0 : 0 ≤ body ∧ body ≤ 1000000000) (hxs : ShortF x.xs ∧ x.xs.length ≤ 64) (hys : ShortF x.ys ∧ x.ys.length ≤ 64)
    (hf : (f.2.2 = 0 ∧ (f.1 = 1 ∧ f.2.1 = 0 ∨ f.1 = 4 ∧ f.2.1 = 0 ∨ f.1 = 3 ∧ f.2.1 = 0 ∨ f.1 = 2 ∧ 0 ≤ f.2.1 ∧ f.2.1 ≤ 1000000000)) ∨ (¬ f.2.2 = 0 ∧ f.1 = 0 ∧ f.2.1 = 0)) (h0 : (finX x f n body).er = 0) :
    OkN body (finX x f n body).r ∧ (finX x f n body).n = n ∧ (finX x f n body).data = [] ∧ (finX x f n body).kind = 1 ∧ (finX x f n body).r.ph = 1 := by
  unfold finX at h0 ⊢
  by_cases h1 : f.2.2 ≠ 0
  · rw [if_pos h1] at h0
    refine absurd h0 ?_
    show ¬ (if f.2.2 = 3 then (9 : Int) else f.2.2) = 0
    split
    · decide
    · exact h1
  · rw [if_neg h1] at h0 ⊢
    have h1' : f.2.2 = 0 := Decidable.not_not.1 h1
    by_cases h2 : f.1 = 2 ∧ body < f.2.1
    · rw [if_pos h2] at h0
      exact absurd h0 (by decide)
    · rw [if_neg h2]
      rcases hf with ⟨_, hf⟩ | ⟨hf, _⟩
      · refine ⟨⟨⟨okC_zero, fun h => ?_, ⟨by show (0 : Int) ≤ 0; omega, by show (0 : Int) ≤ _; omega⟩, hxs, hys⟩, .inr (.inl rfl), fun _ => ?_, fun _ h => ?_, fun _ => hb0.1, fun _ h => ?_⟩, rfl, rfl, rfl, rfl⟩
        · dsimp only at h ⊢; omega
        · dsimp only; omega
        · dsimp only at h ⊢; omega
        · dsimp only at h ⊢; omega
      · exact absurd h1' hf
theorem headX_ok {s : RS} {h : List UInt8} {body : Int} (hb0 : 0 ≤ body ∧ body ≤ 1000000000) (hl : h.length ≤ 1000000) (hs : OkN body s) (hp : s.ph = 0) (h0 : (headX s h body).er = 0) :
    OkN body (headX s h body).r ∧ (headX s h body).n = h.length ∧ (headX s h body).data = [] ∧ ((headX s h body).kind = 1 ∧ (headX s h body).r.ph = 1 ∨ (headX s h body).kind = 4 ∧ (headX s h body).r = s) := by
  unfold headX at h0 ⊢
  split at h0
  · rename_i hrep
    rw [if_pos hrep]
    split at h0
    · rename_i h1; exact absurd h0 h1
    · rename_i h1
      rw [if_neg h1]
      split at h0
      · exact absurd h0 (by decide)
      · rename_i h2
        rw [if_neg h2]
        split at h0
        · rename_i h3
          rw [if_pos h3]
          exact ⟨hs, rfl, rfl, .inr ⟨rfl, rfl⟩⟩
        · rename_i h3
          rw [if_neg h3]
          have hA := headA_sm hl
          have := finX_ok (x := { s with st := (headA h).2.1, rs := (headA h).2.2.1, z2 := (headA h).2.2.2.1, ys := (headA h).2.2.2.2 }) hb0 hs.ok.xs ⟨smallF_short hA.1, hA.2⟩ (replyS_range _ _ _ _) h0
          exact ⟨this.1, this.2.1, this.2.2.1, .inl ⟨this.2.2.2.1, this.2.2.2.2⟩⟩
  · rename_i hrep
    rw [if_neg hrep]
    split at h0
    · rename_i h1; exact absurd h0 h1
    · rename_i h1
      rw [if_neg h1]
      have hA := headR_sm hl
      have := finX_ok (x := { s with m := (headR h).2.1, t := (headR h).2.2.1, z := (headR h).2.2.2.1, xs := (headR h).2.2.2.2, fr := !decide ((frameS (headR h).2.2.2.1 (headR h).2.2.2.2 1).1 = 1) }) hb0 ⟨smallF_short hA.1, hA.2⟩ hs.ok.ys (by
        rcases frameS_range (headR h).2.2.2.1 (headR h).2.2.2.2 1 with ⟨h1, h2⟩ | h2
        · exact .inl ⟨h1, by omega⟩
        · exact .inr h2) h0
      exact ⟨this.1, this.2.1, this.2.2.1, .inl ⟨this.2.2.2.1, this.2.2.2.2⟩⟩
theorem firstX_ok {s : RS} {b : List UInt8} {most body : Int} (hb0 : 0 ≤ body ∧ body ≤ 1000000000) (hl : b.length ≤ 1000000) (hs : OkN body s) (hp : s.ph = 0) (h0 : (firstX s b most body).er = 0) :
    OkN body (firstX s b most body).r ∧ (firstX s b most body).n ≤ b.length ∧ (firstX s b most body).data = [] := by
  rcases endS_cases b most with h | h | ⟨n, hE, h4, hn⟩
  · unfold firstX at h0 ⊢
    rw [if_pos (by rw [h])]
    exact ⟨hs, Nat.zero_le _, rfl⟩
  · unfold firstX at h0
    rw [if_neg (by rw [h]; show ¬ (3 : Int) = 4; decide), if_pos (by rw [h]; show (3 : Int) ≠ 0; decide), h] at h0
    exact absurd h0 (by decide)
  · unfold firstX at h0 ⊢
    rw [if_neg (by rw [hE]; show ¬ (0 : Int) = 4; decide), if_neg (by rw [hE]; exact fun h => h rfl), hE] at h0 ⊢
    have e : (b.take ((n : Int), (0 : Int)).1.toNat).length = n := by rw [List.length_take]; show min (Int.toNat (n : Int)) _ = n; rw [Int.toNat_natCast]; omega
    have := headX_ok hb0 (by rw [e]; omega) hs hp h0
    exact ⟨this.1, by rw [this.2.1, e]; exact hn, this.2.2.1⟩
/-- Sizes of what a piece of a chunked body gives. -/
theorem feedS_len (room : Int) (s : Chk) (p : List UInt8) : (feedS room s [] 0 p).2.2.1.length ≤ p.length ∧ (feedS room s [] 0 p).2.2.2 ≤ p.length := by
  by_cases h : (feedS room s [] 0 p).1 = 0
  · obtain ⟨d, m, e1, e2, e3, e4, _⟩ := feedS_piece [] room p s [] 0 [] 0 h
    rw [e1, e2]
    simp only [List.nil_append]
    omega
  · have : ∀ (l : List UInt8) (s : Chk) (o : List UInt8) (k : Nat), ¬ (feedS room s o k l).1 = 0 → (feedS room s o k l).2.2.1 = [] ∧ (feedS room s o k l).2.2.2 = 0 := by
      intro l
      induction l with
      | nil => intro s o k h; exact absurd rfl h
      | cons x l ih =>
        intro s o k h
        by_cases hs : s.ph = 4 ∨ s.ph = 1 ∧ room ≤ o.length
        · rw [feedS_stop hs] at h; exact absurd rfl h
        · have h4 : ¬ s.ph = 4 := fun e => hs (.inl e)
          by_cases h1 : s.ph = 1
          · have hr : ¬ room ≤ o.length := fun e => hs (.inr ⟨h1, e⟩)
            rw [feedS_data h1 hr] at h ⊢
            exact ih _ _ _ h
          · by_cases h0 : (stepS s x).1 = 0
            · rw [feedS_ok h4 h1 h0] at h ⊢
              exact ih _ _ _ h
            · rw [feedS_err h4 h1 h0]
              exact ⟨rfl, rfl⟩
    have h2 := this p s [] 0 h
    rw [h2.1, h2.2]
    exact ⟨Nat.zero_le _, Nat.zero_le _⟩
theorem take_minI {b : List UInt8} {k : Int} (h0 : 0 ≤ k) (hk : k ≤ b.length) : (b.take k.toNat).length = k.toNat ∧ ((k.toNat : Nat) : Int) = k := by
  rw [List.length_take]
  omega
theorem moreX_ok {s : RS} {b : List UInt8} {body room : Int} (hb0 : 0 ≤ body ∧ body ≤ 1000000000) (hl : b.length ≤ 1000000) (hr0 : 0 ≤ room) (hs : OkN body s) (hp : s.ph = 1) (h0 : (moreX s b body room).er = 0) :
    OkN body (moreX s b body room).r ∧ (moreX s b body room).n ≤ b.length ∧ (moreX s b body room).data.length ≤ b.length := by
  unfold moreX at h0 ⊢
  have hsz := hs.sz hp
  have hs0 := hs.ok.size
  split at h0
  · rename_i hk
    rw [if_pos hk]
    split at h0
    · rename_i h1
      rw [if_pos h1]
      exact ⟨⟨⟨hs.ok.ck, hs.ok.left, hs.ok.size, hs.ok.xs, hs.ok.ys⟩, .inr (.inr rfl), fun h => absurd h (by show ¬ (2 : Int) = 1; decide), fun h => absurd h (by show ¬ (2 : Int) = 1; decide), fun h => absurd h (by show ¬ (2 : Int) = 1; decide), fun h => absurd h (by show ¬ (2 : Int) = 1; decide)⟩, Nat.zero_le _, Nat.zero_le _⟩
    · rename_i h1
      rw [if_neg h1]
      split at h0
      · rename_i h2
        rw [if_pos h2]
        exact ⟨hs, Nat.zero_le _, Nat.zero_le _⟩
      · rename_i h2
        rw [if_neg h2]
        have hk2 : s.fk = 2 := by omega
        have hlf := hs.ok.left hk2
        have hm1 := minI_le s.left room
        have hm2 := minI_le (minI s.left room) b.length
        generalize minI (minI s.left room) b.length = k at *
        have hkk : 0 ≤ k ∧ k ≤ s.left ∧ k ≤ b.length := by omega
        have ht := take_minI hkk.1 hkk.2.2
        refine ⟨⟨⟨hs.ok.ck, fun _ => ?_, ?_, hs.ok.xs, hs.ok.ys⟩, hs.ph, hs.k1, fun _ h => ?_, fun _ => ?_, fun _ h => ?_⟩, by dsimp only; omega, by dsimp only; omega⟩
        · dsimp only; omega
        · dsimp only; omega
        · dsimp only at h; omega
        · have := hs.lf hp hk2; dsimp only; omega
        · have := hs.lf hp hk2; dsimp only; omega
  · rename_i hk
    rw [if_neg hk]
    split at h0
    · rename_i hk3
      rw [if_pos hk3]
      have hfl := feedS_len (minI room (body + 1 - s.size)) s.ck b
      have hok := feedS_okC (minI room (body + 1 - s.size)) b s.ck [] 0 hs.ok.ck
      generalize feedS (minI room (body + 1 - s.size)) s.ck [] 0 b = f at *
      split at h0
      · rename_i h1; exact absurd h0 h1
      · rename_i h1
        rw [if_neg h1]
        have h1' : f.1 = 0 := Decidable.not_not.1 h1
        split at h0
        · exact absurd h0 (by decide)
        · rename_i h2
          rw [if_neg h2]
          have hnew : ∀ (p : Int), p = 1 ∨ p = 2 → OkN body { s with ck := f.2.1, size := s.size + f.2.2.1.length, ph := p } := fun p hp2 => by
            refine ⟨⟨hok h1', fun h => absurd h (by dsimp only; omega), by dsimp only; omega, hs.ok.xs, hs.ok.ys⟩, .inr hp2, fun _ => hs.k1 hp, fun _ h => absurd h (by dsimp only; omega), fun _ => by dsimp only; omega, fun _ h => absurd h (by dsimp only; omega)⟩
          split at h0
          · rename_i h3
            rw [if_pos h3]
            have := hnew 1 (.inl rfl)
            rw [← hp] at this
            exact ⟨this, hfl.2, hfl.1⟩
          · rename_i h3
            rw [if_neg h3]
            have hz : ((f.2.2.1.length : Nat) : Int) = 0 := by omega
            rw [hz] at hnew
            simp only [Int.add_zero] at hnew
            split at h0
            · rename_i h4
              rw [if_pos h4]
              exact ⟨hnew 2 (.inr rfl), hfl.2, Nat.zero_le _⟩
            · rename_i h4
              rw [if_neg h4]
              have := hnew 1 (.inl rfl)
              rw [← hp] at this
              exact ⟨this, hfl.2, Nat.zero_le _⟩
    · rename_i hk3
      rw [if_neg hk3]
      have hm1 := minI_le room b.length
      have hm2 := minI_le (minI room b.length) (body + 1 - s.size)
      generalize minI (minI room b.length) (body + 1 - s.size) = k at *
      split at h0
      · rename_i h1
        rw [if_pos h1]
        exact ⟨hs, Nat.zero_le _, Nat.zero_le _⟩
      · rename_i h1
        rw [if_neg h1]
        split at h0
        · exact absurd h0 (by decide)
        · rename_i h2
          rw [if_neg h2]
          have hkk : 0 ≤ k ∧ k ≤ b.length := by omega
          have ht := take_minI hkk.1 hkk.2
          refine ⟨⟨⟨hs.ok.ck, fun h => absurd h (by dsimp only; omega), by dsimp only; omega, hs.ok.xs, hs.ok.ys⟩, hs.ph, hs.k1, fun _ h => absurd h (by dsimp only; omega), fun _ => by dsimp only; omega, fun _ h => absurd h (by dsimp only; omega)⟩, by dsimp only; omega, by dsimp only; omega⟩
theorem nextX_ok {s : RS} {b : List UInt8} {most body room : Int} (hb0 : 0 ≤ body ∧ body ≤ 1000000000) (hl : b.length ≤ 1000000) (hs : OkN body s) (h0 : (nextX s b most body room).er = 0) :
    OkN body (nextX s b most body room).r ∧ (nextX s b most body room).n ≤ b.length ∧ (nextX s b most body room).data.length ≤ b.length := by
  unfold nextX at h0 ⊢
  split at h0
  · rename_i hp
    rw [if_pos hp]
    have := firstX_ok hb0 hl hs hp h0
    exact ⟨this.1, this.2.1, by rw [this.2.2]; exact Nat.zero_le _⟩
  · rename_i hp
    rw [if_neg hp]
    split at h0
    · rename_i hp1
      rw [if_pos hp1]
      exact moreX_ok hb0 hl (by split <;> omega) hs hp1 h0
    · rename_i hp1
      rw [if_neg hp1]
      exact ⟨hs, Nat.zero_le _, Nat.zero_le _⟩
end Go.Proofs.YteoadfckcilalaaGreatDoor
namespace Go.Proofs.YteoadfckcilalaaGreatDoor
open Go.RowKit

theorem lineS_zero {l t : Int} {y : ByteArray} {n : Int} (hp : parseS 16 1000000000 (szS y) = (n, 0)) (hv : visS y = true) : lineS ⟨0, l, t, []⟩ y = (0, ⟨if n = 0 then 3 else 1, n, t, []⟩) := by
  have h := lineS_size (l := l) (t := t) (y := y) (by rw [hp, hv]; simp) (by rw [hp])
  rw [h, hp]
theorem splitL_head (c : UInt8) : ∀ (a b : List UInt8), ¬ c ∈ a → (splitL c (a ++ c :: b))[0]? = some a := fun a b h => by
  rw [splitL_append, splitL_whole c a h]; rfl
theorem szS_plain {a : List UInt8} (h : ¬ (59 : UInt8) ∈ a) : szS ⟨a.toArray⟩ = ⟨a.toArray⟩ := by
  unfold szS splitS
  show (((splitL 59 a).map ofL)[0]?).getD _ = _
  rw [splitL_whole 59 a h]; rfl
theorem szS_ext {a b : List UInt8} (h : ¬ (59 : UInt8) ∈ a) : szS ⟨(a ++ 59 :: b).toArray⟩ = ⟨a.toArray⟩ := by
  unfold szS splitS
  show (((splitL 59 (a ++ 59 :: b)).map ofL)[0]?).getD _ = _
  rw [List.getElem?_map, splitL_head 59 a b h]; rfl
end Go.Proofs.YteoadfckcilalaaGreatDoor
namespace Go.Proofs.YteoadfckcilalaaGreatDoor
open Go.RowKit

theorem blank_val {c : UInt8} (h : blankB c = true) : valB c = true := by
  unfold blankB blanks at h
  simp only [List.contains_cons, List.contains_nil, Bool.or_false, Bool.or_eq_true, beq_iff_eq] at h
  rcases h with rfl | rfl <;> decide
theorem all_dropWhile (l : List UInt8) : (l.dropWhile blankB).all valB = l.all valB := by
  induction l with
  | nil => rfl
  | cons c r ih =>
    rw [List.dropWhile_cons]
    by_cases h : blankB c = true
    · rw [if_pos h, ih, List.all_cons, blank_val h, Bool.true_and]
    · rw [if_neg h]
theorem all_trimL (l : List UInt8) : (trimL l).all valB = l.all valB := by
  unfold trimL rdrop
  rw [all_dropWhile, List.all_reverse, all_dropWhile, List.all_reverse]
theorem valS_trim (s : ByteArray) : valS (trimBA s) = visS s := by
  unfold valS
  rw [trimBA_idem]
  simp only [beq_self_eq_true, Bool.and_true]
  unfold visS
  rw [trimBA_list, all_trimL]
theorem num_val {c : UInt8} (h : numB 16 c = true) : valB c = true := by
  unfold numB at h
  have h2 := of_decide_eq_true h
  unfold dv at h2
  have h3 : 48 ≤ c.toNat ∧ c.toNat ≤ 57 ∨ 97 ≤ c.toNat ∧ c.toNat ≤ 102 ∨ 65 ≤ c.toNat ∧ c.toNat ≤ 70 := by
    split at h2
    · omega
    · split at h2
      · omega
      · split at h2
        · omega
        · omega
  unfold valB
  simp
  omega
theorem parse_vis {s : ByteArray} (h : ¬ (parseS 16 1000000000 s).2 = 2) : visS s = true := by
  unfold parseS at h
  split at h
  · rename_i hn
    unfold numS at hn
    rw [Bool.and_eq_true] at hn
    exact List.all_eq_true.2 fun x hx => num_val (List.all_eq_true.1 hn.1 x hx)
  · simp at h
theorem cutS_list (s : ByteArray) : (¬ (59 : UInt8) ∈ s.data.toList ∧ cutS 59 s = (s, ⟨#[]⟩)) ∨ ∃ a b : List UInt8, ¬ (59 : UInt8) ∈ a ∧ s = ⟨(a ++ 59 :: b).toArray⟩ ∧ cutS 59 s = (⟨a.toArray⟩, ⟨b.toArray⟩) := by
  rcases idxI_cases 59 s with h | ⟨k, h, hk⟩
  · refine .inl ⟨fun hm => ?_, cutS_no h⟩
    obtain ⟨j, hj⟩ := List.getElem?_of_mem hm
    exact Lib.indexByte_none h j hj
  · obtain ⟨h1, h2⟩ := Lib.indexByte_some h
    have hl : k < s.data.toList.length := by simpa using hk
    refine .inr ⟨s.data.toList.take k, s.data.toList.drop (k + 1), fun hm => ?_, ?_, ?_⟩
    · obtain ⟨j, hj⟩ := List.getElem?_of_mem hm
      rw [List.getElem?_take] at hj
      split at hj
      · rename_i hlt
        exact h2 j hlt hj
      · cases hj
    · refine ba_ext ?_
      have e : s.data.toList = s.data.toList.take k ++ 59 :: s.data.toList.drop (k + 1) := by
        rw [List.getElem?_eq_getElem hl] at h1
        rw [← Option.some.inj h1, ← List.drop_eq_getElem_cons hl, List.take_append_drop]
      exact e
    · rw [cutS_at h]
      refine Prod.ext (ba_ext ?_) (ba_ext ?_)
      · simp
      · show (s.extract (k + 1) s.size).data.toList = s.data.toList.drop (k + 1)
        rw [ByteArray.data_extract, Array.toList_extract, List.extract_eq_take_drop]
        exact List.take_of_length_le (by rw [List.length_drop]; show _ - _ ≤ s.data.size - _; rw [Array.length_toList]; exact Nat.le_refl _)
theorem cutS_sz (y : ByteArray) : szS y = (cutS 59 y).1 := by
  rcases cutS_list y with ⟨h, e⟩ | ⟨a, b, h, rfl, e⟩
  · rw [e]
    exact szS_plain (a := y.data.toList) h
  · rw [e]
    exact szS_ext h
theorem cutS_vis (y : ByteArray) : visS y = (visS (cutS 59 y).1 && visS (cutS 59 y).2) := by
  rcases cutS_list y with ⟨h, e⟩ | ⟨a, b, h, rfl, e⟩
  · rw [e]
    show visS y = (visS y && true)
    rw [Bool.and_true]
  · rw [e]
    unfold visS
    show (a ++ 59 :: b).all valB = (a.all valB && b.all valB)
    rw [List.all_append, List.all_cons, show valB 59 = true by decide, Bool.true_and]
/-- What a size line leads to, in the order of the project. -/
theorem lineS_ext {l t : Int} {y : ByteArray} (h : visS (cutS 59 y).2 = false) : lineS ⟨0, l, t, []⟩ y = (2, zeroC) :=
  lineS_bad (.inr (by rw [cutS_vis, h, Bool.and_false]))
theorem lineS_err {l t n e : Int} {y : ByteArray} (h : visS (cutS 59 y).2 = true) (hp : parseS 16 1000000000 (cutS 59 y).1 = (n, e)) (h0 : ¬ e = 0) : lineS ⟨0, l, t, []⟩ y = (e, zeroC) := by
  have hp2 : parseS 16 1000000000 (szS y) = (n, e) := by rw [cutS_sz]; exact hp
  by_cases h2 : e = 2
  · subst h2
    exact lineS_bad (.inl (by rw [hp2]))
  · have hv : visS y = true := by
      rw [cutS_vis, h, Bool.and_true]
      exact parse_vis (by rw [hp]; exact h2)
    have := lineS_big (l := l) (t := t) (y := y) (by rw [hp2, hv]; simp [h2]) (by rw [hp2]; exact h0)
    rw [hp2] at this
    exact this
theorem lineS_ok {l t n : Int} {y : ByteArray} (h : visS (cutS 59 y).2 = true) (hp : parseS 16 1000000000 (cutS 59 y).1 = (n, 0)) : lineS ⟨0, l, t, []⟩ y = (0, ⟨if n = 0 then 3 else 1, n, t, []⟩) :=
  lineS_zero (by rw [cutS_sz]; exact hp) (by
    rw [cutS_vis, h, Bool.and_true]
    exact parse_vis (by rw [hp]; exact (by decide : ¬ (0 : Int) = 2)))
/-- As many bytes of the body at once as there are. -/
theorem feedS_block (room : Int) : ∀ (n : Nat) (s : Chk) (out : List UInt8) (i : Nat) (l : List UInt8), s.ph = 1 → n + 1 ≤ l.length → ((n + 1 : Nat) : Int) ≤ s.left → (out.length : Int) + (n + 1 : Nat) ≤ room →
    feedS room s out i l = feedS room ⟨if s.left - (n + 1 : Nat) = 0 then 2 else 1, s.left - (n + 1 : Nat), s.tr, s.line⟩ (out ++ l.take (n + 1)) (i + (n + 1)) (l.drop (n + 1))
  | n, s, out, i, [], _, h, _, _ => absurd h (by simp)
  | 0, s, out, i, x :: r, h1, _, _, h4 => by
    rw [feedS_data h1 (by omega)]
    rfl
  | n + 1, s, out, i, x :: r, h1, h2, h3, h4 => by
    rw [feedS_data h1 (by omega), if_neg (by omega)]
    have ih := feedS_block room n ⟨1, s.left - 1, s.tr, s.line⟩ (out ++ [x]) (i + 1) r rfl (by simp at h2; omega) (by show _ ≤ s.left - 1; omega) (by simp; omega)
    rw [ih]
    simp only [List.take_succ_cons, List.drop_succ_cons, List.append_assoc, List.singleton_append]
    rw [show s.left - 1 - ((n + 1 : Nat) : Int) = s.left - ((n + 1 + 1 : Nat) : Int) by omega, show i + 1 + (n + 1) = i + (n + 1 + 1) by omega]

/-- A call may touch the block g, the block r, and what is new. -/
structure Touch (w w' : World) (g : Nat) (r : Option Nat) : Prop where
  os : w'.os = w.os
  tape : w'.tape = w.tape
  output : w'.output = w.output
  size : w.heap.size ≤ w'.heap.size
  block : ∀ k, k < w.heap.size → k ≠ g → some k ≠ r → w'.heap[k]? = w.heap[k]?
theorem Touch.refl (w : World) (g : Nat) (r : Option Nat) : Touch w w g r := ⟨rfl, rfl, rfl, Nat.le_refl _, fun _ _ _ _ => rfl⟩
theorem Touch.ofVar {w w' : World} {g : Nat} (h : w.grownBy w' (some g)) (r : Option Nat) : Touch w w' g r := ⟨h.os, h.tape, h.output, h.size, fun k hk hg _ => h.block k hk (fun e => hg (Option.some.inj e))⟩
theorem Touch.ofRow {w w' : World} {r : Option Nat} (h : w.grownBy w' r) (g : Nat) : Touch w w' g r := ⟨h.os, h.tape, h.output, h.size, fun k hk _ hr => h.block k hk hr⟩
theorem Touch.trans {w w1 w2 : World} {g : Nat} {r r' : Option Nat} (h : Touch w w1 g r) (k : Touch w1 w2 g r') (hr : r' = r ∨ r' = none ∨ ∃ q, r' = some q ∧ w.heap.size ≤ q) : Touch w w2 g r :=
  ⟨k.os.trans h.os, k.tape.trans h.tape, k.output.trans h.output, Nat.le_trans h.size k.size, fun i hi hg hne => (k.block i (Nat.lt_of_lt_of_le hi h.size) hg (fun e => by
    rcases hr with rfl | rfl | ⟨q, rfl, hq⟩
    · exact hne e
    · cases e
    · have := Option.some.inj e; omega)).trans (h.block i hi hg hne)⟩
theorem grownBy_setC (w : World) (g i : Nat) (u : Value) : w.grownBy (w.setCell ⟨g, i, none⟩ u) (some g) :=
  ⟨by unfold World.setCell; split <;> rfl, by unfold World.setCell; split <;> rfl, by unfold World.setCell; split <;> rfl, Nat.le_of_eq (World.size_setCell w _ u).symm, fun k _ hne => heap_setCell_other _ _ _ _ (fun e => hne (by rw [e]))⟩
theorem grownBy_of {w w' : World} (h : Below w.heap.size w w') (r : Option Nat) : w.grownBy w' r := ⟨h.os, h.tape, h.output, h.size, fun k hk _ => h.block k hk⟩
theorem Own.touch {B g : Nat} {w w' : World} {v : Value} {l : List UInt8} {r : Option Nat} (h : Own B w v l) (t : Touch w w' g r) (hg : g < B) (hne : ∀ k, v.ownBlock = some k → some k ≠ r) : Own B w' v l :=
  h.same fun k hk => t.block k (h.lt hk).2 (by have := (h.lt hk).1; omega) (hne k hk)
theorem Below.touch {B g : Nat} {w0 w w' : World} {r : Option Nat} (h : Below B w0 w) (t : Touch w w' g r) (hB : B ≤ w.heap.size) (hg : B ≤ g) (hr : ∀ k, r = some k → B ≤ k) : Below B w0 w' :=
  ⟨t.os.trans h.os, t.tape.trans h.tape, t.output.trans h.output, Nat.le_trans h.size t.size, fun i hi => (t.block i (by omega) (by omega) (fun e => by have := hr i e.symm; omega)).trans (h.block i hi)⟩
theorem CVar.touch {w w' : World} {g g2 : Nat} {p l t : Int} {v : Value} {r : Option Nat} (h : CVar w g2 p l t v) (k : Touch w w' g r) (hg : g2 ≠ g) (hr : some g2 ≠ r) : CVar w' g2 p l t v := by
  unfold CVar at *
  rw [k.block g2 (Array.getElem?_eq_some_iff.1 h).1 hg hr]; exact h
end Go.Proofs.YteoadfckcilalaaGreatDoor
namespace Go.Proofs.YteoadfckcilalaaGreatDoor
open Go.RowKit

/-- A message's variable. -/
def MVr (w : World) (g : Nat) (cs : Array Value) : Prop := w.heap[g]? = some (.cells cs 73 (0, 0))
theorem MVr.keep {w w' : World} {g : Nat} {cs : Array Value} (h : MVr w g cs) (hb : Below w.heap.size w w') : MVr w' g cs := by
  unfold MVr at *
  rw [hb.block g (Array.getElem?_eq_some_iff.1 h).1]; exact h
theorem MVr.lt {w : World} {g : Nat} {cs : Array Value} (h : MVr w g cs) : g < w.heap.size := (Array.getElem?_eq_some_iff.1 h).1
theorem MVr.cell {w : World} {g : Nat} {cs : Array Value} (h : MVr w g cs) (i : Nat) : w.cell? ⟨g, i, none⟩ = cs[i]? := cell_of_row _ _ _ _ _ _ h
theorem MVr.put {w : World} {g i : Nat} {cs : Array Value} {v : Value} (h : MVr w g cs) : MVr (w.setCell ⟨g, i, none⟩ v) g (cs.setIfInBounds i v) := heap_setCell_same w g i _ _ _ h
theorem MVr.frozen {w : World} {g : Nat} {cs : Array Value} (h : MVr w g cs) (i : Nat) : w.frozen? ⟨g, i, none⟩ = false := frozen_of_row w g i _ _ h
/-- The limits' variable. -/
def LVr (w : World) (g : Nat) (a b c : Int) : Prop := w.heap[g]? = some (.cells #[.int .i64 a, .int .i64 b, .int .i64 c] 81 (0, 0))
theorem LVr.keep {w w' : World} {g : Nat} {a b c : Int} (h : LVr w g a b c) (hb : Below w.heap.size w w') : LVr w' g a b c := by
  unfold LVr at *
  rw [hb.block g (Array.getElem?_eq_some_iff.1 h).1]; exact h
theorem LVr.lt {w : World} {g : Nat} {a b c : Int} (h : LVr w g a b c) : g < w.heap.size := (Array.getElem?_eq_some_iff.1 h).1
theorem sizeMs : (Tryz.prog.info? 73).map (·.size) = some 22 := by kernel_rfl
theorem sizeLm : (Tryz.prog.info? 81).map (·.size) = some 3 := by kernel_rfl
theorem oneLm (a b c : Int) : (#[.int .i64 a, .int .i64 b, .int .i64 c] : Array Value).all (·.oneCell') = true := by simp [Value.oneCell']
theorem grownBy_setRowM (w : World) (g : Nat) (cs : Array Value) : w.grownBy (w.setRow g cs) (some g) :=
  ⟨rfl, rfl, rfl, by simp [World.setRow], fun k _ hk => setRow_other _ _ _ _ (fun e => hk (by rw [e]))⟩
/-- What a variable of the call's own stores is nobody else's. -/
theorem grownBy_own {w w' : World} {r : Option Nat} {g : Nat} (h : w.grownBy w' r) (hg : w.heap.size ≤ g) (cs : Array Value) : w.grownBy (w'.setRow g cs) r :=
  grownBy_new h (grownBy_setRowM w' g cs) (fun i e => by injection e with e; omega)
theorem cell_lt {w : World} {x : Addr} {j : Nat} {v : Value} (h : w.cell? (x.add j) = some v) : x.block < w.heap.size := by
  unfold World.cell? at h
  rw [add_blockC] at h
  split at h
  · rename_i c t f he
    exact (Array.getElem?_eq_some_iff.1 he).1
  · cases h
theorem sameNe {w w' : World} {a : Option Addr} {l : List Fld} (h : FldsIn w a l) (hb : ∀ y, a = some y → l ≠ [] → w'.heap[y.block]? = w.heap[y.block]?) : FldsIn w' a l := by
  by_cases hl : l = []
  · subst hl; exact FldsIn.nil _ _
  · exact h.same fun y e => hb y e hl
theorem FldsIn.old {w : World} {a : Option Addr} {l : List Fld} (h : FldsIn w a l) {y : Addr} (e : a = some y) (hl : l ≠ []) : y.block < w.heap.size := by
  obtain ⟨x, hx, hc, _⟩ := h 0 (List.length_pos_iff.2 hl)
  rw [e] at hx
  obtain rfl := Option.some.inj hx
  exact cell_lt hc
theorem IsBytes.old {w : World} {a : Option Addr} {l : List UInt8} {c : Nat} (h : IsBytes w a l c) {y : Addr} (e : a = some y) (hl : l ≠ []) : y.block < w.heap.size := by
  rcases h with ⟨h1, _⟩ | ⟨x, h1, _, _, h4⟩
  · rw [h1] at e; cases e
  · rw [h1] at e
    obtain rfl := Option.some.inj e
    exact cell_lt (h4 0 (List.length_pos_iff.2 hl))
theorem FldsIn.grownR {w w' : World} {g : Nat} {a : Option Addr} {l : List Fld} (h : FldsIn w a l) (hg : w.grownBy w' (some g)) (hne : ∀ y, a = some y → l ≠ [] → y.block ≠ g) : FldsIn w' a l :=
  sameNe h fun y e hl => hg.block _ (h.old e hl) (fun e2 => hne y e hl (Option.some.inj e2))
theorem IsBytes.grownR {w w' : World} {g : Nat} {a : Option Addr} {l : List UInt8} {c : Nat} (h : IsBytes w a l c) (hg : w.grownBy w' (some g)) (hne : ∀ y, a = some y → l ≠ [] → y.block ≠ g) : IsBytes w' a l c :=
  h.same fun y e hl => hg.block _ (h.old e hl) (fun e2 => hne y e hl (Option.some.inj e2))
/-- No byte lies in this row. -/
def NoU8 (cs : Array Value) : Prop := ∀ (i : Nat) (z : Int), cs[i]? ≠ some (.int .u8 z)
theorem RMem.grown {P : Nat → Prop} {w w' : World} {s : RS} {fa ga la : Option Addr} {lc g : Nat} {cs : Array Value} (h : RMem P w s fa ga la lc) (hg : w.grownBy w' (some g)) (hP : ∀ k, P k → k ≠ g) (hm : MVr w g cs) (hn : NoU8 cs) : RMem P w' s fa ga la lc :=
  ⟨h.f1.grownR hg fun y e hl => hP _ (h.n1 y e hl), h.f2.grownR hg fun y e hl => hP _ (h.n2 y e hl), h.ln.grownR hg (row_awayR hm hn h.ln), h.n1, h.n2⟩
theorem results_rtt {P : Program} {fn : Func} {q1 q2 p1 : Tmp} {ty1 : TypeId} (h : fn.results = #[.cell p1 ty1, .tmp q1, .tmp q2]) (tmps : Array Value) (w : World) (g1 : Nat) (t1 : TypeId) (c1 : Array Value) (f1 : Nat × Nat) (d1 : TypeDesc)
    (hp1 : tmps.getD p1 undef = .pointer (some ⟨g1, 0, none⟩)) (hg1 : w.heap[g1]? = some (.cells c1 t1 f1))
    (hu1 : P.underlying ty1 = some d1) (hd1 : (match d1 with | .struct _ | .array _ _ => true | _ => false) = true) (hi1 : (P.info? ty1).map (·.size) = some c1.size) :
    (results fn tmps).run P w = .ok (.tuple #[.agg c1, tmps.getD q1 undef, tmps.getD q2 undef]) w := by
  have hp1' : tmps[p1]?.getD undef = .pointer (some ⟨g1, 0, none⟩) := by simpa using hp1
  simp [results, h, hp1', asAddr, run_loadVar_row w g1 t1 ty1 c1 f1 d1 hg1 hu1 hd1 hi1]
theorem results_r {P : Program} {fn : Func} {p1 : Tmp} {ty1 : TypeId} (h : fn.results = #[.cell p1 ty1]) (tmps : Array Value) (w : World) (g1 : Nat) (t1 : TypeId) (c1 : Array Value) (f1 : Nat × Nat) (d1 : TypeDesc)
    (hp1 : tmps.getD p1 undef = .pointer (some ⟨g1, 0, none⟩)) (hg1 : w.heap[g1]? = some (.cells c1 t1 f1))
    (hu1 : P.underlying ty1 = some d1) (hd1 : (match d1 with | .struct _ | .array _ _ => true | _ => false) = true) (hi1 : (P.info? ty1).map (·.size) = some c1.size) :
    (results fn tmps).run P w = .ok (.agg c1) w := by
  have hp1' : tmps[p1]?.getD undef = .pointer (some ⟨g1, 0, none⟩) := by simpa using hp1
  simp [results, h, hp1', asAddr, run_loadVar_row w g1 t1 ty1 c1 f1 d1 hg1 hu1 hd1 hi1]
theorem AccF.freshC {w0 w : World} {v : Value} {l : List Fld} (h : AccF w0 w v l) : ∃ a cap, v = .slice a l.length cap ∧ FldsIn w a l ∧ (∀ y, a = some y → w0.heap.size ≤ y.block) ∧ (a = none → cap = 0) := by
  obtain ⟨a, cap, e, hs, hn⟩ := h.shapeC
  refine ⟨a, cap, e, hs, fun y ha => ?_, fun ha => (hn ha).2⟩
  subst ha
  obtain ⟨⟨h1, h2⟩, _⟩ := h
  rcases h2 with ⟨rfl, h2⟩ | ⟨g, cap', cur, rfl, hg, _⟩
  · cases e
  · injection e with e1
    obtain rfl := Option.some.inj e1
    exact hg
theorem AccB.freshB {w0 w : World} {v : Value} {l : List UInt8} (h : AccB w0 w v l) : ∃ a cap, v = .slice a l.length cap ∧ IsBytes w a l cap ∧ ∀ y, a = some y → w0.heap.size ≤ y.block := by
  obtain ⟨a, cap, e, hs⟩ := h.shape
  refine ⟨a, cap, e, hs, fun y ha => ?_⟩
  subst ha
  obtain ⟨⟨h1, h2⟩, _⟩ := h
  rcases h2 with ⟨rfl, h2⟩ | ⟨g, cap', cur, rfl, hg, _⟩
  · cases e
  · injection e with e1
    obtain rfl := Option.some.inj e1
    exact hg

set_option maxRecDepth 100000 in
set_option maxHeartbeats 1000000 in
theorem cloneF_any (l : List Fld) (a : Option Addr) (c : Nat) (w : World) (h : FldsIn w a l) (hl : l.length ≤ 1000000) :
    Calls Tryz.prog 55 #[.slice a l.length c] w fun e w' => ∃ a' c', e = .returned (.slice a' l.length c') ∧ FldsIn w' a' l ∧ (∀ y, a' = some y → w.heap.size ≤ y.block) ∧ Below w.heap.size w w' := by
  cases a with
  | none =>
    have hl0 : l = [] := by
      cases l with
      | nil => rfl
      | cons x r => obtain ⟨y, hy, _⟩ := h 0 (by simp); cases hy
    subst hl0
    have hnil : ∀ W, (binOp .eql 27 (.slice none 0 c) (.slice none 0 0)).run Tryz.prog W = .ok (.bool true) W := fun W => run_eql_slice_nil W _ _ none 0 c Tryz.underlying27
    go_enter Tryz.func55, Tryz.ntmps55
    go_wp2_with fail
    go_ret
    exact ⟨none, 0, rfl, FldsIn.nil _ _, fun y e => (by cases e), Below.refl _ _⟩
  | some ad =>
    have H0 := Box.mk h
    clear h
    have HE := Box.mk (AccF.empty w)
    have hnil : ∀ W, (binOp .eql 27 (.slice (some ad) l.length c) (.slice none 0 0)).run Tryz.prog W = .ok (.bool false) W := fun W => run_eql_slice_nil W _ _ (some ad) l.length c Tryz.underlying27
    go_enter Tryz.func55, Tryz.ntmps55
    go_wp2_with (at_builtin; refine wpList_append_accfs _ rfl _ _ rfl rfl HE.out rfl ⟨H0.out.keep (below_oneF _ _), fun e => by cases e⟩ (by simp; omega) ?c1)
    case c1 =>
      intro v1 w1 hacc
      have H1 := Box.mk hacc
      clear hacc
      go_wp2_with fail
      go_ret
      obtain ⟨a2, c2, e2, h2, h3, _⟩ := H1.out.freshC
      exact ⟨a2, c2, by rw [e2]; rfl, h2, h3, H1.out.2⟩
set_option maxRecDepth 100000 in
set_option maxHeartbeats 1000000 in
theorem cloneY_any (l : List UInt8) (a : Option Addr) (c : Nat) (w : World) (h : IsBytes w a l c) (hl : l.length ≤ 1000000) :
    Calls Tryz.prog 56 #[.slice a l.length c] w fun e w' => ∃ a' c', e = .returned (.slice a' l.length c') ∧ IsBytes w' a' l c' ∧ (∀ y, a' = some y → w.heap.size ≤ y.block) ∧ Below w.heap.size w w' := by
  rcases h with ⟨rfl, rfl, rfl⟩ | ⟨ad, rfl, hr1, hr2, hr3⟩
  · have hnil : ∀ W, (binOp .eql 23 (.slice none 0 0) (.slice none 0 0)).run Tryz.prog W = .ok (.bool true) W := fun W => run_eql_slice_nil W _ _ none 0 0 Tryz.underlying23
    simp only [List.length_nil]
    go_enter Tryz.func56, Tryz.ntmps56
    go_wp2_with fail
    go_ret
    exact ⟨none, 0, rfl, .inl ⟨rfl, rfl, rfl⟩, (fun y e => by cases e), Below.refl _ _⟩
  · have H0 := Box.mk (show IsBytes w (some ad) l c from .inr ⟨ad, rfl, hr1, hr2, hr3⟩)
    clear hr1 hr2 hr3
    have HE := Box.mk (AccB.empty w)
    have hnil : ∀ W, (binOp .eql 23 (.slice (some ad) l.length c) (.slice none 0 0)).run Tryz.prog W = .ok (.bool false) W := fun W => run_eql_slice_nil W _ _ (some ad) l.length c Tryz.underlying23
    go_enter Tryz.func56, Tryz.ntmps56
    go_wp2_with (at_builtin; refine wpList_append_accs _ rfl _ _ rfl rfl HE.out rfl (H0.out.keep (below_oneF _ _)) (by simp; omega) ?c1)
    case c1 =>
      intro v1 w1 hacc
      have H1 := Box.mk hacc
      clear hacc
      go_wp2_with fail
      go_ret
      obtain ⟨a2, c2, e2, h2, h3⟩ := H1.out.freshB
      exact ⟨a2, c2, by rw [e2]; rfl, h2, h3, H1.out.2⟩
set_option maxRecDepth 100000 in
set_option maxHeartbeats 1000000 in
theorem cloneB_any (l : List UInt8) (a : Option Addr) (c : Nat) (w : World) (h : IsBytes w a l c) (hl : l.length ≤ 1000000) :
    Calls Tryz.prog 152 #[.slice a l.length c] w fun e w' => ∃ a' c', e = .returned (.slice a' l.length c') ∧ IsBytes w' a' l c' ∧ Below w.heap.size w w' := by
  rcases h with ⟨rfl, rfl, rfl⟩ | ⟨ad, rfl, hr1, hr2, hr3⟩
  · have hnil : ∀ W, (binOp .eql 23 (.slice none 0 0) (.slice none 0 0)).run Tryz.prog W = .ok (.bool true) W := fun W => run_eql_slice_nil W _ _ none 0 0 Tryz.underlying23
    simp only [List.length_nil]
    go_enter Tryz.func152, Tryz.ntmps152
    go_wp2_with fail
    go_ret
    exact ⟨none, 0, rfl, .inl ⟨rfl, rfl, rfl⟩, Below.refl _ _⟩
  · have H0 := Box.mk (show IsBytes w (some ad) l c from .inr ⟨ad, rfl, hr1, hr2, hr3⟩)
    clear hr1 hr2 hr3
    have HE := Box.mk (AccB.empty w)
    have hnil : ∀ W, (binOp .eql 23 (.slice (some ad) l.length c) (.slice none 0 0)).run Tryz.prog W = .ok (.bool false) W := fun W => run_eql_slice_nil W _ _ (some ad) l.length c Tryz.underlying23
    go_enter Tryz.func152, Tryz.ntmps152
    go_wp2_with (at_builtin; refine wpList_append_accs _ rfl _ _ rfl rfl HE.out rfl (H0.out.keep (below_oneF _ _)) (by simp; omega) ?c1)
    case c1 =>
      intro v1 w1 hacc
      have H1 := Box.mk hacc
      clear hacc
      go_wp2_with fail
      go_ret
      obtain ⟨a2, c2, e2, h2⟩ := H1.out.shape
      exact ⟨a2, c2, by rw [e2]; rfl, h2, H1.out.2⟩
end Go.Proofs.YteoadfckcilalaaGreatDoor
namespace Go.Proofs.YteoadfckcilalaaGreatDoor
open Go.RowKit

set_option linter.unusedVariables false
set_option maxRecDepth 100000 in
set_option maxHeartbeats 1000000 in
theorem mEnd_any (g : Nat) (cs : Array Value) (p n : Int) (w : World) (hm : MVr w g cs) (h2 : cs[2]? = some (.int .i64 p)) :
    Calls Tryz.prog 115 #[.pointer (some ⟨g, 0, none⟩), .int .i64 n] w fun e w' => e = .returned (.tuple #[.agg #[.int .i64 3, .slice none 0 0], .int .i64 n, .int .i64 0]) ∧ MVr w' g (cs.setIfInBounds 2 (.int .i64 2)) ∧ w.grownBy w' (some g) := by
  obtain ⟨W1, hW1⟩ : ∃ W1, W1 = w.alloc (.cells #[.int .i64 0, .slice none 0 0] 41) := ⟨_, rfl⟩
  have HB1 := Box.mk (show Below w.heap.size w W1 by rw [hW1]; exact below_oneF _ _)
  have HO := Box.mk (show PVr W1 w.heap.size #[.int .i64 0, .slice none 0 0] by rw [hW1]; exact heap_alloc_new _ _)
  have HW1 := Box.mk hW1
  clear hW1
  have HM1 := Box.mk (hm.keep HB1.out)
  have hlt := hm.lt
  have hc2 : W1.cell? ⟨g, 2, none⟩ = some (.int .i64 p) := by rw [HM1.out.cell]; exact h2
  have hz2 : W1.frozen? ⟨g, 2, none⟩ = false := HM1.out.frozen 2
  have HPN := Box.mk (show PVr (W1.setCell ⟨g, 2, none⟩ (.int .i64 2)) w.heap.size #[.int .i64 0, .slice none 0 0] from (heap_setCell_other _ _ _ _ (by show w.heap.size ≠ g; omega)).trans HO.out)
  clear hm h2
  go_enter Tryz.func115, Tryz.ntmps115
  go_upto_region 1 with fail
  rw [← HW1.out]
  clear HW1
  go_wp2_with (refine wpList_store_row rfl 41 _ _ rfl w.heap.size #[.int .i64 3, .slice none 0 0] rfl rfl 41 _ HPN.out sizePt rfl (onePt ..) ?_)
  (try simp only [Exit.inBlock, Exit.then])
  refine bodyPost_ret (results_rtt rfl _ _ w.heap.size 41 #[.int .i64 3, .slice none 0 0] (0, 0) _ rfl (setRow_heap _ _ _ _ _ _ HPN.out) Tryz.underlying41 rfl sizePt) rfl ?_
  exact ⟨rfl, (setRow_other _ _ _ _ (by omega)).trans HM1.out.put, grownBy_own (grownBy_afterC HB1.out (grownBy_setC _ _ _ _)) (Nat.le_refl _) _⟩
set_option maxRecDepth 100000 in
set_option maxHeartbeats 1000000 in
theorem mTake_nil (g : Nat) (cs : Array Value) (da : Option Addr) (dc : Nat) (w : World) (hm : MVr w g cs) :
    Calls Tryz.prog 116 #[.pointer (some ⟨g, 0, none⟩), .slice da 0 dc] w fun e w' => e = .returned (.tuple #[.agg #[.int .i64 0, .slice none 0 0], .int .i64 0, .int .i64 0]) ∧ MVr w' g cs ∧ w.grownBy w' (some g) := by
  obtain ⟨W1, hW1⟩ : ∃ W1, W1 = w.alloc (.cells #[.int .i64 0, .slice none 0 0] 41) := ⟨_, rfl⟩
  have HB1 := Box.mk (show Below w.heap.size w W1 by rw [hW1]; exact below_oneF _ _)
  have HO := Box.mk (show PVr W1 w.heap.size #[.int .i64 0, .slice none 0 0] by rw [hW1]; exact heap_alloc_new _ _)
  have HW1 := Box.mk hW1
  clear hW1
  have HM1 := Box.mk (hm.keep HB1.out)
  have hlt := hm.lt
  clear hm
  go_enter Tryz.func116, Tryz.ntmps116
  go_upto_region 1 with fail
  rw [← HW1.out]
  clear HW1
  go_wp2_with (refine wpList_store_row rfl 41 _ _ rfl w.heap.size #[.int .i64 0, .slice none 0 0] rfl rfl 41 _ HO.out sizePt rfl (onePt ..) ?_)
  (try simp only [Exit.inBlock, Exit.then])
  refine bodyPost_ret (results_rtt rfl _ _ w.heap.size 41 #[.int .i64 0, .slice none 0 0] (0, 0) _ rfl (setRow_heap _ _ _ _ _ _ HO.out) Tryz.underlying41 rfl sizePt) rfl ?_
  exact ⟨rfl, (setRow_other _ _ _ _ (by omega)).trans HM1.out, grownBy_own (grownBy_of HB1.out _) (Nat.le_refl _) _⟩
set_option maxRecDepth 100000 in
set_option maxHeartbeats 1000000 in
theorem mTake_some (g : Nat) (cs : Array Value) (z : Int) (d : List UInt8) (da : Option Addr) (dc : Nat) (w : World) (hm : MVr w g cs) (h17 : cs[17]? = some (.int .i64 z)) (hz : 0 ≤ z ∧ z ≤ 1000000000) (hn : NoU8 cs) (hd : IsBytes w da d dc) (hl : d.length ≤ 1000000) (h0 : 0 < d.length) :
    Calls Tryz.prog 116 #[.pointer (some ⟨g, 0, none⟩), .slice da d.length dc] w fun e w' => ∃ pa pc, e = .returned (.tuple #[.agg #[.int .i64 2, .slice pa d.length pc], .int .i64 d.length, .int .i64 0]) ∧ IsBytes w' pa d pc ∧ MVr w' g (cs.setIfInBounds 17 (.int .i64 (z + d.length))) ∧ w.grownBy w' (some g) := by
  obtain ⟨W1, hW1⟩ : ∃ W1, W1 = w.alloc (.cells #[.int .i64 0, .slice none 0 0] 41) := ⟨_, rfl⟩
  have HB1 := Box.mk (show Below w.heap.size w W1 by rw [hW1]; exact below_oneF _ _)
  have HO := Box.mk (show PVr W1 w.heap.size #[.int .i64 0, .slice none 0 0] by rw [hW1]; exact heap_alloc_new _ _)
  have HW1 := Box.mk hW1
  clear hW1
  have HM1 := Box.mk (hm.keep HB1.out)
  have hlt := hm.lt
  have hc17 : W1.cell? ⟨g, 17, none⟩ = some (.int .i64 z) := by rw [HM1.out.cell]; exact h17
  have hz17 : W1.frozen? ⟨g, 17, none⟩ = false := HM1.out.frozen 17
  have HAW := Box.mk (row_awayR hm hn hd)
  have HD := Box.mk hd
  have hlt1 : w.heap.size < W1.heap.size := (Array.getElem?_eq_some_iff.1 HO.out).1
  have el : ((d.length : Int) == 0) = false := by rw [beq_eq_false_iff_ne]; omega
  obtain ⟨hz0, hz1⟩ := hz
  clear hm h17 hn hd
  go_enter Tryz.func116, Tryz.ntmps116
  go_upto_region 1 with fail
  rw [← HW1.out]
  clear HW1
  go_upto_region 4 with fail
  obtain ⟨W2, hW2⟩ : ∃ W2, W2 = W1.setCell ⟨g, 17, none⟩ (.int .i64 (z + d.length)) := ⟨_, rfl⟩
  have HG2 := Box.mk (show w.grownBy W2 (some g) by rw [hW2]; exact grownBy_afterC HB1.out (grownBy_setC _ _ _ _))
  have HM2 := Box.mk (show MVr W2 g (cs.setIfInBounds 17 (.int .i64 (z + d.length))) by rw [hW2]; exact HM1.out.put)
  have HP2 := Box.mk (show PVr W2 w.heap.size #[.int .i64 0, .slice none 0 0] by rw [hW2]; exact (heap_setCell_other _ _ _ _ (by show w.heap.size ≠ g; omega)).trans HO.out)
  have HD2 := Box.mk (HD.out.grownR HG2.out HAW.out)
  rw [← hW2]
  clear hW2 hc17 hz17 HM1 HO HB1 HD HAW
  go_wp2_with fail
  refine (cloneB_any d da dc W2 HD2.out hl).mono ?_
  rintro e w3 ⟨pa, pc, rfl, hd3, hb3⟩
  have HD3 := Box.mk hd3
  have HM3 := Box.mk (HM2.out.keep hb3)
  have HP3 := Box.mk (HP2.out.keep hb3)
  have HG3 := Box.mk (grownBy_trans HG2.out (grownBy_of hb3 (some g)))
  clear hd3 hb3 HM2 HP2 HG2 HD2
  go_wp2_with (refine wpList_store_row rfl 41 _ _ rfl w.heap.size #[.int .i64 2, .slice pa d.length pc] rfl rfl 41 _ HP3.out sizePt rfl (onePt ..) ?_)
  (try simp only [Exit.inBlock, Exit.then])
  refine bodyPost_ret (results_rtt rfl _ _ w.heap.size 41 #[.int .i64 2, .slice pa d.length pc] (0, 0) _ rfl (setRow_heap _ _ _ _ _ _ HP3.out) Tryz.underlying41 rfl sizePt) rfl ?_
  exact ⟨pa, pc, rfl, HD3.out.same fun x e hl => setRow_other _ _ _ _ (row_awayR HP3.out (noU8_22 rfl) HD3.out x e hl), (setRow_other _ _ _ _ (by omega)).trans HM3.out, grownBy_own HG3.out (Nat.le_refl _) _⟩
set_option maxRecDepth 100000 in
set_option maxHeartbeats 1000000 in
theorem mNothing_any (g : Nat) (ba : Option Addr) (bn bc : Nat) (x y z : Int) (w : World) :
    Calls Tryz.prog 59 #[.pointer (some ⟨g, 0, none⟩), .slice ba bn bc, .agg #[.int .i64 x, .int .i64 y, .int .i64 z]] w fun e w' => e = .returned (.tuple #[.agg #[.int .i64 0, .slice none 0 0], .int .i64 0, .int .i64 0]) ∧ Below w.heap.size w w' := by
  obtain ⟨W1, hW1⟩ : ∃ W1, W1 = (w.alloc (.cells #[.int .i64 x, .int .i64 y, .int .i64 z] 81)).alloc (.cells #[.int .i64 0, .slice none 0 0] 41) := ⟨_, rfl⟩
  have HB1 := Box.mk (show Below w.heap.size w W1 by rw [hW1]; exact below_twoF (below_oneF _ _) _)
  have HO := Box.mk (show PVr W1 (w.heap.size + 1) #[.int .i64 0, .slice none 0 0] by
    have h := heap_alloc_new (w.alloc (.cells #[.int .i64 x, .int .i64 y, .int .i64 z] 81)) (.cells #[.int .i64 0, .slice none 0 0] 41)
    rw [World.size_alloc] at h
    rw [hW1]; exact h)
  have HW1 := Box.mk hW1
  clear hW1
  go_enter Tryz.func59, Tryz.ntmps59
  go_upto_region 1 with fail
  rw [← HW1.out]
  clear HW1
  go_wp2_with (refine wpList_store_row rfl 41 _ _ rfl (w.heap.size + 1) #[.int .i64 0, .slice none 0 0] rfl rfl 41 _ HO.out sizePt rfl (onePt ..) ?_)
  (try simp only [Exit.inBlock, Exit.then])
  refine bodyPost_ret (results_rtt rfl _ _ (w.heap.size + 1) 41 #[.int .i64 0, .slice none 0 0] (0, 0) _ rfl (setRow_heap _ _ _ _ _ _ HO.out) Tryz.underlying41 rfl sizePt) rfl ?_
  exact ⟨rfl, below_setRow HB1.out (by omega) _⟩
set_option maxRecDepth 100000 in
set_option maxHeartbeats 1000000 in
theorem limitsOf_any (x y z : Int) (w : World) (hy : 0 ≤ y ∧ y ≤ 1000000000) :
    Calls Tryz.prog 38 #[.int .i64 x, .int .i64 y, .int .i64 z] w fun e w' => e = .returned (.agg #[.int .i64 x, .int .i64 y, .int .i64 (if z ≤ 0 then 0 else z)]) ∧ Below w.heap.size w w' := by
  obtain ⟨W1, hW1⟩ : ∃ W1, W1 = w.alloc (.cells #[.int .i64 0, .int .i64 0, .int .i64 0] 81) := ⟨_, rfl⟩
  have HB1 := Box.mk (show Below w.heap.size w W1 by rw [hW1]; exact below_oneF _ _)
  have HO := Box.mk (show LVr W1 w.heap.size 0 0 0 by rw [hW1]; exact heap_alloc_new _ _)
  have HW1 := Box.mk hW1
  clear hW1
  have h1 : ∀ (ts : Array TypeId) (t : TypeId) (W : World), (Builtin.max_ ts t #[.int .i64 y, .int .i64 (-2)]).run Tryz.prog W = .ok (.int .i64 y) W := fun ts t W => by
    rw [run_max_int2, if_neg (by omega)]
  have h2 : ∀ (ts : Array TypeId) (t : TypeId) (W : World), (Builtin.min_ ts t #[.int .i64 y, .int .i64 9223372036854775806]).run Tryz.prog W = .ok (.int .i64 y) W := fun ts t W => by
    rw [run_min_int2, if_neg (by omega)]
  have h3 : ∀ (ts : Array TypeId) (t : TypeId) (W : World), (Builtin.max_ ts t #[.int .i64 z, .int .i64 0]).run Tryz.prog W = .ok (.int .i64 (if z ≤ 0 then 0 else z)) W := fun ts t W => by
    rw [run_max_int2]
    congr 2
    split <;> split <;> omega
  obtain ⟨r, hr⟩ : ∃ r : Int, r = if z ≤ 0 then 0 else z := ⟨_, rfl⟩
  rw [← hr] at h3
  rw [← hr]
  clear hr
  go_enter Tryz.func38, Tryz.ntmps38
  go_upto_region 1 with fail
  rw [← HW1.out]
  clear HW1
  go_wp2_with (refine wpList_store_row rfl 81 _ _ rfl w.heap.size #[.int .i64 x, .int .i64 y, .int .i64 r] rfl rfl 81 _ HO.out sizeLm rfl (oneLm ..) ?_)
  (try simp only [Exit.inBlock, Exit.then])
  refine bodyPost_ret (results_r rfl _ _ w.heap.size 81 #[.int .i64 x, .int .i64 y, .int .i64 r] (0, 0) _ rfl (setRow_heap _ _ _ _ _ _ HO.out) Tryz.underlying81 rfl sizeLm) rfl ?_
  exact ⟨rfl, below_setRow HB1.out (Nat.le_refl _) _⟩
set_option maxRecDepth 100000 in
set_option maxHeartbeats 1000000 in
theorem bodyStep_any (k : Int) (w : World) (hk : k = 1 ∨ k = 2 ∨ k = 3 ∨ k = 4) :
    Calls Tryz.prog 58 #[.int .i64 k] w fun e w' => e = .returned (if k = 3 then .func (.func 84) #[] #[] else if k = 4 then .func (.func 85) #[] #[] else .func (.func 83) #[] #[]) ∧ w = w' := by
  rcases hk with rfl | rfl | rfl | rfl <;>
  · go_enter Tryz.func58, Tryz.ntmps58
    go_wp2_with fail
    go_ret
    exact ⟨rfl, rfl⟩
set_option maxRecDepth 100000 in
set_option maxHeartbeats 1000000 in
theorem mStep_head (g : Nat) (cs : Array Value) (w : World) (hm : MVr w g cs) (h2 : cs[2]? = some (.int .i64 0)) :
    Calls Tryz.prog 37 #[.pointer (some ⟨g, 0, none⟩)] w fun e w' => e = .returned (.func (.func 57) #[] #[]) ∧ w = w' := by
  have hc2 : w.cell? ⟨g, 2, none⟩ = some (.int .i64 0) := by rw [hm.cell]; exact h2
  clear hm h2
  go_enter Tryz.func37, Tryz.ntmps37
  go_wp2_with fail
  go_ret
  exact ⟨rfl, rfl⟩
set_option maxRecDepth 100000 in
set_option maxHeartbeats 1000000 in
theorem mStep_body (g : Nat) (cs : Array Value) (k : Int) (v : Value) (w : World) (hm : MVr w g cs) (h2 : cs[2]? = some (.int .i64 1)) (h14 : cs[14]? = some (.int .i64 k)) (hk : k = 1 ∨ k = 2 ∨ k = 3 ∨ k = 4) (hv : (if k = 3 then .func (.func 84) #[] #[] else if k = 4 then .func (.func 85) #[] #[] else .func (.func 83) #[] #[]) = v) :
    Calls Tryz.prog 37 #[.pointer (some ⟨g, 0, none⟩)] w fun e w' => e = .returned v ∧ w = w' := by
  have hc2 : w.cell? ⟨g, 2, none⟩ = some (.int .i64 1) := by rw [hm.cell]; exact h2
  have hc14 : w.cell? ⟨g, 14, none⟩ = some (.int .i64 k) := by rw [hm.cell]; exact h14
  have HS := Box.mk (bodyStep_any k w hk)
  rw [hv] at HS
  clear hm h2 h14 hk hv
  go_enter Tryz.func37, Tryz.ntmps37
  go_wp2_with fail
  refine HS.out.mono ?_
  rintro e w1 ⟨rfl, rfl⟩
  go_wp2_with fail
  go_ret
  exact ⟨rfl, rfl⟩
set_option maxRecDepth 100000 in
set_option maxHeartbeats 1000000 in
theorem mStep_done (g : Nat) (cs : Array Value) (w : World) (hm : MVr w g cs) (h2 : cs[2]? = some (.int .i64 2)) :
    Calls Tryz.prog 37 #[.pointer (some ⟨g, 0, none⟩)] w fun e w' => e = .returned (.func (.func 59) #[] #[]) ∧ w = w' := by
  have hc2 : w.cell? ⟨g, 2, none⟩ = some (.int .i64 2) := by rw [hm.cell]; exact h2
  clear hm h2
  go_enter Tryz.func37, Tryz.ntmps37
  go_wp2_with fail
  go_ret
  exact ⟨rfl, rfl⟩
end Go.Proofs.YteoadfckcilalaaGreatDoor
namespace Go.Proofs.YteoadfckcilalaaGreatDoor
open Go.RowKit

section
variable {Q : Exit → Act → World → Prop} {a : Act} {w : World} {o : Oper} {s : Spec}
theorem run_fieldMsR (w : World) (g : Nat) : ∀ i, i < 9 → (Instr.fieldAt 73 (.pointer (some ⟨g, 0, none⟩)) i).run Tryz.prog w = .ok (.pointer (some ⟨g, [0, 1, 2, 3, 9, 14, 16, 17, 18].getD i 0, none⟩)) w
  | 0, _ => by simp [Instr.fieldAt, run_underlying Tryz.underlying73, Instr.sureAddr, fieldPlace, Addr.add]
  | 1, _ => by simp [Instr.fieldAt, run_underlying Tryz.underlying73, Instr.sureAddr, fieldPlace, Addr.add]
  | 2, _ => by simp [Instr.fieldAt, run_underlying Tryz.underlying73, Instr.sureAddr, fieldPlace, Addr.add]
  | 3, _ => by simp [Instr.fieldAt, run_underlying Tryz.underlying73, Instr.sureAddr, fieldPlace, Addr.add]
  | 4, _ => by simp [Instr.fieldAt, run_underlying Tryz.underlying73, Instr.sureAddr, fieldPlace, Addr.add]
  | 5, _ => by simp [Instr.fieldAt, run_underlying Tryz.underlying73, Instr.sureAddr, fieldPlace, Addr.add]
  | 6, _ => by simp [Instr.fieldAt, run_underlying Tryz.underlying73, Instr.sureAddr, fieldPlace, Addr.add]
  | 7, _ => by simp [Instr.fieldAt, run_underlying Tryz.underlying73, Instr.sureAddr, fieldPlace, Addr.add]
  | 8, _ => by simp [Instr.fieldAt, run_underlying Tryz.underlying73, Instr.sureAddr, fieldPlace, Addr.add]
theorem run_fieldLmR (w : World) (g : Nat) : ∀ i, i < 3 → (Instr.fieldAt 81 (.pointer (some ⟨g, 0, none⟩)) i).run Tryz.prog w = .ok (.pointer (some ⟨g, i, none⟩)) w
  | 0, _ => by simp [Instr.fieldAt, run_underlying Tryz.underlying81, Instr.sureAddr, fieldPlace, Addr.add]
  | 1, _ => by simp [Instr.fieldAt, run_underlying Tryz.underlying81, Instr.sureAddr, fieldPlace, Addr.add]
  | 2, _ => by simp [Instr.fieldAt, run_underlying Tryz.underlying81, Instr.sureAddr, fieldPlace, Addr.add]
theorem loc_fieldMs {x : Operand} {i : Nat} (ho : o.op = .fieldAddr 73 x i) {g j : Nat} (hx : a.eval x = .pointer (some ⟨g, 0, none⟩)) (hi : i < 9) (hj : [0, 1, 2, 3, 9, 14, 16, 17, 18].getD i 0 = j) (hs : s.p (.pointer (some ⟨g, j, none⟩)) w) :
    o.wp Tryz.prog a w (fun a' w' => ∃ v, a' = a.put o.dst v ∧ Below w.heap.size w w' ∧ s.p v w') Q := by
  subst hj
  exact loc_run (v := .pointer (some ⟨g, _, none⟩)) (by unfold execOp; rw [ho]; simp only [hx, Sem.run_bind, run_fieldMsR _ _ _ hi, Result.andThen_ok, Sem.run_pure]) (Below.refl _ _) hs
theorem loc_fieldLm {x : Operand} {i : Nat} (ho : o.op = .fieldAddr 81 x i) {g : Nat} (hx : a.eval x = .pointer (some ⟨g, 0, none⟩)) (hi : i < 3) (hs : s.p (.pointer (some ⟨g, i, none⟩)) w) :
    o.wp Tryz.prog a w (fun a' w' => ∃ v, a' = a.put o.dst v ∧ Below w.heap.size w w' ∧ s.p v w') Q :=
  loc_run (v := .pointer (some ⟨g, i, none⟩)) (by unfold execOp; rw [ho]; simp only [hx, Sem.run_bind, run_fieldLmR _ _ _ hi, Result.andThen_ok, Sem.run_pure]) (Below.refl _ _) hs
theorem loc_nilCheck {x : Operand} (ho : o.op = .nilCheck x) {p : Addr} (hx : a.eval x = .pointer (some p)) (hs : s.p (.pointer (some p)) w) :
    o.wp Tryz.prog a w (fun a' w' => ∃ v, a' = a.put o.dst v ∧ Below w.heap.size w w' ∧ s.p v w') Q :=
  loc_run (v := .pointer (some p)) (by unfold execOp; rw [ho]; simp only [hx]; rfl) (Below.refl _ _) hs
theorem loc_addZ {x y : Operand} {t : TypeId} (ho : o.op = .binOp .add 3 x y t) {m k r : Int} (hx : a.eval x = .int .i64 m) (hy : a.eval y = .int .i64 k) (hr : m + k = r) (hn : -1000000000000 ≤ r ∧ r ≤ 1000000000000) (hs : s.p (.int .i64 r) w) :
    o.wp Tryz.prog a w (fun a' w' => ∃ v, a' = a.put o.dst v ∧ Below w.heap.size w w' ∧ s.p v w') Q :=
  loc_run (v := .int .i64 r) (by
    have e : IntKind.i64.wrap (m + k) = r := by
      simp only [IntKind.wrap, IntKind.bits, IntKind.signed]; simp; omega
    have h : (Op.intArith .add .i64 m k).run Tryz.prog w = .ok (.int .i64 r) w := by
      unfold Op.intArith
      rw [← e]; rfl
    unfold execOp
    simp only [ho, hx, hy]
    simp [eqGuard, binOp, h, Result.andThen]) (Below.refl _ _) hs
theorem loc_subZ {x y : Operand} {t : TypeId} (ho : o.op = .binOp .sub 3 x y t) {m k r : Int} (hx : a.eval x = .int .i64 m) (hy : a.eval y = .int .i64 k) (hr : m - k = r) (hn : -1000000000000 ≤ r ∧ r ≤ 1000000000000) (hs : s.p (.int .i64 r) w) :
    o.wp Tryz.prog a w (fun a' w' => ∃ v, a' = a.put o.dst v ∧ Below w.heap.size w w' ∧ s.p v w') Q :=
  loc_run (v := .int .i64 r) (by
    have e : IntKind.i64.wrap (m - k) = r := by
      simp only [IntKind.wrap, IntKind.bits, IntKind.signed]; simp; omega
    have h : (Op.intArith .sub .i64 m k).run Tryz.prog w = .ok (.int .i64 r) w := by
      unfold Op.intArith
      rw [← e]; rfl
    unfold execOp
    simp only [ho, hx, hy]
    simp [eqGuard, binOp, h, Result.andThen]) (Below.refl _ _) hs
theorem loc_minZ2 {x y : Operand} {ts : Array TypeId} (ho : o.op = .call { callee := .builtin .min, args := #[x, y], argTypes := ts }) {m k r : Int} (hx : a.eval x = .int .i64 m) (hy : a.eval y = .int .i64 k) (hr : minI m k = r) (hs : s.p (.int .i64 r) w) :
    o.wp Tryz.prog a w (fun a' w' => ∃ v, a' = a.put o.dst v ∧ Below w.heap.size w w' ∧ s.p v w') Q :=
  loc_run (v := .int .i64 r) (by
    have e : (if k < m then k else m) = r := by rw [← hr]; unfold minI; split <;> split <;> omega
    unfold execOp
    simp only [ho, hx, hy, resolve, invoke, builtin, List.map_toArray, List.map_cons, List.map_nil, run_min_int2, e, Sem.run_bind, Sem.run_pure, Result.andThen_ok]) (Below.refl _ _) hs
theorem loc_minZ3 {x y z : Operand} {ts : Array TypeId} (ho : o.op = .call { callee := .builtin .min, args := #[x, y, z], argTypes := ts }) {m k l r : Int} (hx : a.eval x = .int .i64 m) (hy : a.eval y = .int .i64 k) (hz : a.eval z = .int .i64 l) (hr : minI (minI m k) l = r) (hs : s.p (.int .i64 r) w) :
    o.wp Tryz.prog a w (fun a' w' => ∃ v, a' = a.put o.dst v ∧ Below w.heap.size w w' ∧ s.p v w') Q :=
  loc_run (v := .int .i64 r) (by
    have e : (if l < (if k < m then k else m) then l else (if k < m then k else m)) = r := by rw [← hr]; unfold minI; split <;> split <;> (try split) <;> (try split) <;> omega
    unfold execOp
    simp only [ho, hx, hy, hz, resolve, invoke, builtin, List.map_toArray, List.map_cons, List.map_nil, run_min_int3, e, Sem.run_bind, Sem.run_pure, Result.andThen_ok]) (Below.refl _ _) hs
theorem wp_callV {P : Program} {K : Act → World → Prop} {y : Operand} {f : FuncId} {args : List Operand} {ts : Array TypeId} (ho : o.op = .call { callee := .value y, args := args.toArray, argTypes := ts }) (hy : a.eval y = .func (.func f) #[] #[])
    (hf : (P.funcs[f]?).map (fun fn => fn.name != "runtime.NumGoroutine" && fn.body.isSome) = some true) {R : Ending → World → Prop} (h : Calls P f (args.map a.eval).toArray w R) (hK : ∀ e w', R e w' → ∃ v, e = .returned v ∧ K (a.put o.dst v) w') : o.wp P a w K Q := by
  have hrun : (execOp a.eval o).run P w = .ok (.enter f (args.map a.eval).toArray) w := by
    unfold execOp; rw [ho]
    cases hfn : P.funcs[f]? with
    | none => rw [hfn] at hf; cases hf
    | some fn =>
      rw [hfn] at hf
      simp only [Option.map_some, Option.some.injEq, Bool.and_eq_true, bne_iff_ne, ne_eq] at hf
      have hb : fn.body ≠ none := fun e => by rw [e] at hf; exact absurd hf.2 (by simp)
      simp [resolve, Deferred.ofValue, invoke, callFunc, hy, hfn, hf.1, hb]
  unfold Oper.wp
  rw [hrun, Oper.upon_enter]
  refine h.mono ?_
  intro e w' hr
  obtain ⟨v, rfl, hk⟩ := hK e w' hr
  exact hk
end
set_option linter.unusedVariables false
set_option maxRecDepth 100000 in
set_option maxHeartbeats 1000000 in
theorem mRoom_any (g : Nat) (cs : Array Value) (x y r z : Int) (w : World) (hm : MVr w g cs) (h17 : cs[17]? = some (.int .i64 z)) (hy : 0 ≤ y ∧ y ≤ 1000000000) (hz : 0 ≤ z ∧ z ≤ 1000000000) :
    Calls Tryz.prog 118 #[.pointer (some ⟨g, 0, none⟩), .agg #[.int .i64 x, .int .i64 y, .int .i64 r]] w fun e w' => e = .returned (.int .i64 (minI r (y + 1 - z))) ∧ Below w.heap.size w w' := by
  obtain ⟨W1, hW1⟩ : ∃ W1, W1 = w.alloc (.cells #[.int .i64 x, .int .i64 y, .int .i64 r] 81) := ⟨_, rfl⟩
  have HB1 := Box.mk (show Below w.heap.size w W1 by rw [hW1]; exact below_oneF _ _)
  have HO := Box.mk (show LVr W1 w.heap.size x y r by rw [hW1]; exact heap_alloc_new _ _)
  have HW1 := Box.mk hW1
  clear hW1
  have HM1 := Box.mk (hm.keep HB1.out)
  have H17 := Box.mk h17
  clear hm h17
  go_enter Tryz.func118, Tryz.ntmps118
  go_upto_region 1 with fail
  rw [← HW1.out]
  clear HW1
  go_wp2_with fail
  rename_i K hK
  refine wp_region_local (S := [.val (.pointer (some ⟨w.heap.size, 2, none⟩)), .val (.int .i64 r), .val (.pointer (some ⟨w.heap.size, 1, none⟩)), .val (.int .i64 y), .val (.int .i64 (y + 1)), .val (.pointer (some ⟨g, 0, none⟩)), .val (.pointer (some ⟨g, 0, none⟩)), .val (.pointer (some ⟨g, 17, none⟩)), .val (.int .i64 z), .val (.int .i64 (y + 1 - z)), .val (.int .i64 (minI r (y + 1 - z))), .val (.int .i64 (minI r (y + 1 - z)))])
    (by kernel_rfl) (by kernel_rfl) (by kernel_rfl) ?_ ?_
  · refine ⟨?_, ?_, ?_, ?_, ?_, ?_, ?_, ?_, ?_, ?_, ?_, ?_, trivial⟩ <;> intro a w' hb hf hd
    · exact ⟨wanted_none rfl, loc_fieldLm rfl (hf.base 3 rfl) (by decide) rfl⟩
    · exact ⟨wanted_none rfl, loc_cell rfl (hd 0 rfl) (by rw [cell_of_row _ _ _ _ _ _ (HO.out.keep hb)]; rfl) (agg_int _) rfl⟩
    · exact ⟨wanted_none rfl, loc_fieldLm rfl (hf.base 3 rfl) (by decide) rfl⟩
    · exact ⟨wanted_none rfl, loc_cell rfl (hd 2 rfl) (by rw [cell_of_row _ _ _ _ _ _ (HO.out.keep hb)]; rfl) (agg_int _) rfl⟩
    · exact ⟨wanted_none rfl, loc_addZ rfl (hd 3 rfl) rfl rfl (by omega) rfl⟩
    · exact ⟨wanted_none rfl, loc_move rfl (hf.base 0 rfl)⟩
    · exact ⟨wanted_none rfl, loc_nilCheck rfl (hd 5 rfl) rfl⟩
    · exact ⟨wanted_none rfl, loc_fieldMs rfl (hd 6 rfl) (by decide) rfl rfl⟩
    · exact ⟨wanted_none rfl, loc_cell rfl (hd 7 rfl) (by rw [(HM1.out.keep hb).cell]; exact H17.out) (agg_int _) rfl⟩
    · exact ⟨wanted_none rfl, loc_subZ rfl (hd 4 rfl) (hd 8 rfl) rfl (by omega) rfl⟩
    · exact ⟨wanted_none rfl, loc_minZ2 rfl (hd 1 rfl) (hd 9 rfl) rfl rfl⟩
    · exact ⟨wanted_none rfl, loc_assign rfl (hd 10 rfl)⟩
  · intro a w' hb hf hh
    refine hK a w' ?_
    go_wp2_with fail
    exact local_ret rfl hf.defers (show a.eval (.tmp 4) = .int .i64 (minI r (y + 1 - z)) from hh 11 (by decide)) ⟨rfl, below_trans HB1.out hb⟩
set_option maxRecDepth 100000 in
set_option maxHeartbeats 1000000 in
theorem checkFrame_any (k l er body : Int) (w : World) :
    Calls Tryz.prog 112 #[.agg #[.int .i64 k, .int .i64 l], .int .i64 er, .int .i64 body] w fun e w' => e = .returned (.int .i64 (if er = 3 ∨ k = 2 ∧ body < l then 9 else er)) ∧ Below w.heap.size w w' := by
  obtain ⟨W1, hW1⟩ : ∃ W1, W1 = w.alloc (.cells #[.int .i64 k, .int .i64 l] 33) := ⟨_, rfl⟩
  have HB1 := Box.mk (show Below w.heap.size w W1 by rw [hW1]; exact below_oneF _ _)
  have HO := Box.mk (show KVar W1 w.heap.size k l by rw [hW1]; exact heap_alloc_new _ _)
  have HW1 := Box.mk hW1
  clear hW1
  have hk0 : W1.cell? ⟨w.heap.size, 0, none⟩ = some (.int .i64 k) := by rw [cell_of_row _ _ _ _ _ _ HO.out]; rfl
  have hk1 : W1.cell? ⟨w.heap.size, 1, none⟩ = some (.int .i64 l) := by rw [cell_of_row _ _ _ _ _ _ HO.out]; rfl
  by_cases h3 : er = 3
  · rw [if_pos (.inl h3)]
    have e3 : (er == 3) = true := by rw [h3]; rfl
    clear h3
    go_enter Tryz.func112, Tryz.ntmps112
    go_upto_region 1 with fail
    rw [← HW1.out]
    clear HW1
    go_wp2_with fail
    go_ret
    exact ⟨rfl, HB1.out⟩
  · have e3 : (er == 3) = false := by rw [beq_eq_false_iff_ne]; exact h3
    by_cases h2 : k = 2
    · have e2 : (k == 2) = true := by rw [h2]; rfl
      by_cases hb : body < l
      · rw [if_pos (.inr ⟨h2, hb⟩)]
        have hgt : l > body := hb
        clear h3 h2 hb
        go_enter Tryz.func112, Tryz.ntmps112
        go_upto_region 1 with fail
        rw [← HW1.out]
        clear HW1
        go_wp2_with fail
        go_ret
        exact ⟨rfl, HB1.out⟩
      · rw [if_neg (fun h => h.elim h3 fun h => hb h.2)]
        have hgt : ¬ l > body := hb
        clear h3 h2 hb
        go_enter Tryz.func112, Tryz.ntmps112
        go_upto_region 1 with fail
        rw [← HW1.out]
        clear HW1
        go_wp2_with fail
        go_ret
        exact ⟨rfl, HB1.out⟩
    · rw [if_neg (fun h => h.elim h3 fun h => h2 h.1)]
      have e2 : (k == 2) = false := by rw [beq_eq_false_iff_ne]; exact h2
      clear h3 h2
      go_enter Tryz.func112, Tryz.ntmps112
      go_upto_region 1 with fail
      rw [← HW1.out]
      clear HW1
      go_wp2_with fail
      go_ret
      exact ⟨rfl, HB1.out⟩
set_option maxRecDepth 100000 in
set_option maxHeartbeats 4000000 in
theorem mBody_any (g : Nat) (v0 v1 v3 v4 v5 v6 v7 v8 v9 v10 v11 v12 v13 : Value) (p k0 l0 left0 size0 q0 q1 q2 k l : Int) (qa : Option Addr) (qn qc : Nat) (w : World) (hm : MVr w g #[v0, v1, .int .i64 p, v3, v4, v5, v6, v7, v8, v9, v10, v11, v12, v13, .int .i64 k0, .int .i64 l0, .int .i64 left0, .int .i64 size0, .int .i64 q0, .int .i64 q1, .int .i64 q2, .slice qa qn qc]) :
    Calls Tryz.prog 111 #[.pointer (some ⟨g, 0, none⟩), .agg #[.int .i64 k, .int .i64 l]] w fun e w' => e = .returned (.tuple #[]) ∧ MVr w' g #[v0, v1, .int .i64 1, v3, v4, v5, v6, v7, v8, v9, v10, v11, v12, v13, .int .i64 k, .int .i64 l, .int .i64 l, .int .i64 0, .int .i64 0, .int .i64 0, .int .i64 0, .slice none 0 0] ∧ w.grownBy w' (some g) := by
  obtain ⟨c0, hc0⟩ : ∃ y0 : Array Value, y0 = #[v0, v1, .int .i64 p, v3, v4, v5, v6, v7, v8, v9, v10, v11, v12, v13, .int .i64 k0, .int .i64 l0, .int .i64 left0, .int .i64 size0, .int .i64 q0, .int .i64 q1, .int .i64 q2, .slice qa qn qc] := ⟨_, rfl⟩
  have HC0 := Box.mk hc0
  obtain ⟨c1, hc1⟩ : ∃ y0 : Array Value, y0 = #[v0, v1, .int .i64 1, v3, v4, v5, v6, v7, v8, v9, v10, v11, v12, v13, .int .i64 k0, .int .i64 l0, .int .i64 left0, .int .i64 size0, .int .i64 q0, .int .i64 q1, .int .i64 q2, .slice qa qn qc] := ⟨_, rfl⟩
  have HC1 := Box.mk hc1
  obtain ⟨c2, hc2⟩ : ∃ y0 : Array Value, y0 = #[v0, v1, .int .i64 1, v3, v4, v5, v6, v7, v8, v9, v10, v11, v12, v13, .int .i64 k, .int .i64 l, .int .i64 left0, .int .i64 size0, .int .i64 q0, .int .i64 q1, .int .i64 q2, .slice qa qn qc] := ⟨_, rfl⟩
  have HC2 := Box.mk hc2
  obtain ⟨c3, hc3⟩ : ∃ y0 : Array Value, y0 = #[v0, v1, .int .i64 1, v3, v4, v5, v6, v7, v8, v9, v10, v11, v12, v13, .int .i64 k, .int .i64 l, .int .i64 l, .int .i64 size0, .int .i64 q0, .int .i64 q1, .int .i64 q2, .slice qa qn qc] := ⟨_, rfl⟩
  have HC3 := Box.mk hc3
  obtain ⟨c4, hc4⟩ : ∃ y0 : Array Value, y0 = #[v0, v1, .int .i64 1, v3, v4, v5, v6, v7, v8, v9, v10, v11, v12, v13, .int .i64 k, .int .i64 l, .int .i64 l, .int .i64 0, .int .i64 q0, .int .i64 q1, .int .i64 q2, .slice qa qn qc] := ⟨_, rfl⟩
  have HC4 := Box.mk hc4
  obtain ⟨c5, hc5⟩ : ∃ y0 : Array Value, y0 = #[v0, v1, .int .i64 1, v3, v4, v5, v6, v7, v8, v9, v10, v11, v12, v13, .int .i64 k, .int .i64 l, .int .i64 l, .int .i64 0, .int .i64 0, .int .i64 0, .int .i64 0, .slice none 0 0] := ⟨_, rfl⟩
  have HC5 := Box.mk hc5
  rw [← hc0] at hm
  rw [← hc5]
  clear hc0 hc1 hc2 hc3 hc4 hc5
  obtain ⟨W1, hW1⟩ : ∃ W1, W1 = w.alloc (.cells #[.int .i64 k, .int .i64 l] 33) := ⟨_, rfl⟩
  have HB1 := Box.mk (show Below w.heap.size w W1 by rw [hW1]; exact below_oneF _ _)
  have HO := Box.mk (show KVar W1 w.heap.size k l by rw [hW1]; exact heap_alloc_new _ _)
  have HW1 := Box.mk hW1
  clear hW1
  have HM1 := Box.mk (hm.keep HB1.out)
  have hlt := hm.lt
  have HG1 := Box.mk (grownBy_of HB1.out (some g))
  have hm2 : W1.cell? ⟨g, 2, none⟩ = some (.int .i64 p) := by rw [HM1.out.cell, HC0.out]; rfl
  have hz2 : W1.frozen? ⟨g, 2, none⟩ = false := HM1.out.frozen 2
  clear hm
  go_enter Tryz.func111, Tryz.ntmps111
  go_upto_region 1 with fail
  rw [← HW1.out]
  clear HW1
  go_upto_region 2 with fail
  obtain ⟨W2, hW2⟩ : ∃ W2, W2 = W1.setCell ⟨g, 2, none⟩ (.int .i64 1) := ⟨_, rfl⟩
  have HM2 := Box.mk (show MVr W2 g c1 by rw [hW2]; have h := HM1.out.put (i := 2) (v := .int .i64 1); rw [show c0.setIfInBounds 2 (.int .i64 1) = c1 by rw [HC0.out, HC1.out]; rfl] at h; exact h)
  have HO2 := Box.mk (show KVar W2 w.heap.size k l by rw [hW2]; exact (heap_setCell_other _ _ _ _ (by show w.heap.size ≠ g; omega)).trans HO.out)
  have HG2 := Box.mk (show w.grownBy W2 (some g) by rw [hW2]; exact grownBy_trans HG1.out (grownBy_setC _ _ _ _))
  have hs1 : c1.size = 22 := by rw [HC1.out]; rfl
  rw [← hW2]
  clear hW2 hm2 hz2 HM1 HO HG1 HB1
  go_upto_region 3 with (first | refine wpList_load_row rfl 33 _ rfl w.heap.size rfl 33 #[.int .i64 k, .int .i64 l] (0, 0) _ HO2.out Tryz.underlying33 rfl sizeK ?_ | refine wpList_store_sub rfl 33 _ _ rfl g 14 #[.int .i64 k, .int .i64 l] rfl rfl 73 _ c2 HM2.out sizeK (by rw [hs1]; show 14 + 2 ≤ 22; decide) (oneK ..) (by rw [HC1.out, HC2.out]; rfl) ?_)
  obtain ⟨W3, hW3⟩ : ∃ W3, W3 = W2.setRow g c2 := ⟨_, rfl⟩
  have HM3 := Box.mk (show MVr W3 g c2 by rw [hW3]; exact setRow_heap _ _ _ _ _ _ HM2.out)
  have HO3 := Box.mk (show KVar W3 w.heap.size k l by rw [hW3]; exact (setRow_other _ _ _ _ (by omega)).trans HO2.out)
  have HG3 := Box.mk (show w.grownBy W3 (some g) by rw [hW3]; exact grownBy_trans HG2.out (grownBy_setRowM _ _ _))
  have hk1 : W3.cell? ⟨w.heap.size, 1, none⟩ = some (.int .i64 l) := by rw [cell_of_row _ _ _ _ _ _ HO3.out]; rfl
  have hm16 : W3.cell? ⟨g, 16, none⟩ = some (.int .i64 left0) := by rw [HM3.out.cell, HC2.out]; rfl
  have hz16 : W3.frozen? ⟨g, 16, none⟩ = false := HM3.out.frozen 16
  rw [← hW3]
  clear hW3 HM2 HO2 HG2 hs1
  go_upto_region 4 with fail
  obtain ⟨W4, hW4⟩ : ∃ W4, W4 = W3.setCell ⟨g, 16, none⟩ (.int .i64 l) := ⟨_, rfl⟩
  have HM4 := Box.mk (show MVr W4 g c3 by rw [hW4]; have h := HM3.out.put (i := 16) (v := .int .i64 l); rw [show c2.setIfInBounds 16 (.int .i64 l) = c3 by rw [HC2.out, HC3.out]; rfl] at h; exact h)
  have HG4 := Box.mk (show w.grownBy W4 (some g) by rw [hW4]; exact grownBy_trans HG3.out (grownBy_setC _ _ _ _))
  have hm17 : W4.cell? ⟨g, 17, none⟩ = some (.int .i64 size0) := by rw [HM4.out.cell, HC3.out]; rfl
  have hz17 : W4.frozen? ⟨g, 17, none⟩ = false := HM4.out.frozen 17
  rw [← hW4]
  clear hW4 HM3 HO3 HG3 hk1 hm16 hz16
  go_upto_region 5 with fail
  obtain ⟨W5, hW5⟩ : ∃ W5, W5 = W4.setCell ⟨g, 17, none⟩ (.int .i64 0) := ⟨_, rfl⟩
  have HM5 := Box.mk (show MVr W5 g c4 by rw [hW5]; have h := HM4.out.put (i := 17) (v := .int .i64 0); rw [show c3.setIfInBounds 17 (.int .i64 0) = c4 by rw [HC3.out, HC4.out]; rfl] at h; exact h)
  have HG5 := Box.mk (show w.grownBy W5 (some g) by rw [hW5]; exact grownBy_trans HG4.out (grownBy_setC _ _ _ _))
  have hs4 : c4.size = 22 := by rw [HC4.out]; rfl
  rw [← hW5]
  clear hW5 HM4 HG4 hm17 hz17
  go_wp2_with (refine wpList_store_sub rfl 35 _ _ rfl g 18 #[.int .i64 0, .int .i64 0, .int .i64 0, .slice none 0 0] rfl rfl 73 _ c5 HM5.out sizeC (by rw [hs4]; show 18 + 4 ≤ 22; decide) (oneC ..) (by rw [HC4.out, HC5.out]; rfl) ?_)
  go_end0
  exact ⟨rfl, setRow_heap _ _ _ _ _ _ HM5.out, grownBy_trans HG5.out (grownBy_setRowM _ _ _)⟩
end Go.Proofs.YteoadfckcilalaaGreatDoor
namespace Go.Proofs.YteoadfckcilalaaGreatDoor
open Go.RowKit

/-- What package bytealg holds. -/
def MaxOk (w : World) (mm : Int) : Prop := w.cell? ⟨1, 0, none⟩ = some (.int .i64 mm)
theorem MaxOk.keep {w w' : World} {mm : Int} (h : MaxOk w mm) (hb : Below w.heap.size w w') : MaxOk w' mm := below_cell hb h
def clP : ByteArray := ⟨#[67, 111, 110, 116, 101, 110, 116, 45, 76, 101, 110, 103, 116, 104]⟩
def teP : ByteArray := ⟨#[84, 114, 97, 110, 115, 102, 101, 114, 45, 69, 110, 99, 111, 100, 105, 110, 103]⟩
theorem low_cl : lowS clP = lowS clN := by decide +kernel
theorem low_te : lowS teP = lowS teN := by decide +kernel
theorem foldS_low {a n m : ByteArray} (h : lowS n = lowS m) : foldS a n = foldS a m := by unfold foldS; rw [h]
theorem valuesL_low {n m : ByteArray} (l : List Fld) (h : lowS n = lowS m) : valuesL l n = valuesL l m := by
  unfold valuesL; simp only [foldS_low h]
theorem hasL_low {n m : ByteArray} (l : List Fld) (h : lowS n = lowS m) : hasL l n = hasL l m := by
  unfold hasL; simp only [foldS_low h]
theorem fValues_low {n m : ByteArray} (e : lowS n = lowS m) (l : List Fld) (a : Option Addr) (cap : Nat) (w : World) (h : FldsIn w a l) (hz : ShortF l) (hn : n.size ≤ maxLen) (hl : l.length ≤ 1000000) :
    Calls Tryz.prog 171 #[.slice a l.length cap, .string n] w (RetStrs w (valuesL l m)) := by
  rw [← valuesL_low l e]; exact fValues_any l n a cap w h hz hn hl
theorem fHas_low {n m : ByteArray} (e : lowS n = lowS m) (l : List Fld) (a : Option Addr) (cap : Nat) (w : World) (h : FldsIn w a l) (hz : ShortF l) (hn : n.size ≤ maxLen) (hl : l.length ≤ 1000000) :
    Calls Tryz.prog 172 #[.slice a l.length cap, .string n] w fun e w' => e = .returned (.bool (hasL l m)) ∧ Below w.heap.size w w' := by
  rw [← hasL_low l e]; exact fHas_any l n a cap w h hz hn hl
theorem fElements_low {n m : ByteArray} (e : lowS n = lowS m) (w : World) (mm : Int) (l : List Fld) (a : Option Addr) (cap : Nat) (h : FldsIn w a l) (hz : ShortF l) (hn : n.size ≤ maxLen) (hl : l.length ≤ 1000000) (hm : MaxOk w mm) (ht : total (valuesL l m) ≤ 4000000000) :
    Calls Tryz.prog 174 #[.slice a l.length cap, .string n] w (RetStrs w (listL (valuesL l m))) := by
  rw [← valuesL_low l e]; exact fElements_any w mm l n a cap h hz hn hl hm (by rw [valuesL_low l e]; exact ht)

set_option maxHeartbeats 1000000 in
theorem isChunked_any (x : List ByteArray) (a : Option Addr) (cap : Nat) (w : World) (h : StrsAt w a x) (hz : ∀ y ∈ x, y.size ≤ maxLen) (hl : x.length ≤ 4000000000) :
    Calls Tryz.prog 173 #[.slice a x.length cap] w fun e w' => e = .returned (.bool (chunkedB x)) ∧ Below w.heap.size w w' := by
  by_cases hx : x.length = 1
  · obtain ⟨y, rfl⟩ : ∃ y, x = [y] := by
      match x, hx with
      | [y], _ => exact ⟨y, rfl⟩
    have hyz := hz y (by simp)
    obtain ⟨b3, o3, e3, hc3⟩ := h 0 (by simp)
    subst e3
    simp only [List.getElem_cons_zero, Nat.add_zero] at hc3
    have HP := Box.mk (show chunkedB [y] = foldS y chunkedN from rfl)
    clear hx h hz hl
    rw [show ([y] : List ByteArray).length = 1 from rfl]
    go_enter Tryz.func173, Tryz.ntmps173
    go_wp2_with fail
    refine (fold_any y chunkedN _ hyz (by decide)).mono ?_
    rintro e w1 ⟨rfl, hb⟩
    have HB := Box.mk hb
    clear hb hc3
    generalize hr : foldS y chunkedN = r at *
    have HR := Box.mk hr
    clear hr
    go_wp2_with fail
    go_ret
    exact ⟨ret_bool HP.out.symm, HB.out⟩
  · have HP := Box.mk (chunkedB_ne hx)
    have ex : (((x.length : Nat) : Int) == 1) = false := by rw [beq_eq_false_iff_ne]; omega
    clear hx h hz
    go_enter Tryz.func173, Tryz.ntmps173
    go_wp2_with fail
    go_ret
    exact ⟨ret_bool HP.out.symm, Below.refl _ _⟩

def lenS (y : ByteArray) : Int × Int × Int :=
  if (parseS 10 1000000000 y).2 = 0 then (2, (parseS 10 1000000000 y).1, 0) else if (parseS 10 1000000000 y).2 = 2 then (0, 0, 5) else (0, 0, (parseS 10 1000000000 y).2)

set_option maxRecDepth 100000 in
set_option maxHeartbeats 2000000 in
theorem ofLength_any (y : ByteArray) (w : World) (hy : y.size ≤ maxLen) :
    Calls Tryz.prog 175 #[.string y] w fun e w' => e = .returned (frameV (lenS y)) ∧ Below w.heap.size w w' := by
  have HB := Box.mk (below_oneF w (.cells #[.int .i64 0, .int .i64 0] 33))
  have HR := Box.mk (show KVar (w.alloc (.cells #[.int .i64 0, .int .i64 0] 33)) w.heap.size 0 0 from heap_alloc_new _ _)
  have HP0 := Box.mk (show lenS y = if (parseS 10 1000000000 y).2 = 0 then (2, (parseS 10 1000000000 y).1, 0) else if (parseS 10 1000000000 y).2 = 2 then (0, 0, 5) else (0, 0, (parseS 10 1000000000 y).2) from rfl)
  go_enter Tryz.func175, Tryz.ntmps175
  go_wp2_with fail
  refine (parseDecimal_any y 1000000000 _ hy (by decide) (by decide)).mono ?_
  rintro e w1 ⟨he, rfl⟩
  generalize parseS 10 1000000000 y = pp at *
  obtain ⟨n, er⟩ := pp
  simp only [] at HP0
  subst he
  by_cases h0 : er = 0
  · have HP := Box.mk (show lenS y = (2, n, 0) by rw [HP0.out, if_pos h0])
    have e0 : (er == 0) = true := by rw [h0]; rfl
    clear HP0 h0
    go_wp2_with (refine wpList_store_row rfl 33 _ _ rfl (w.heap.size) #[.int .i64 2, .int .i64 n] rfl rfl 33 _ HR.out sizeK rfl (oneK _ _) ?_)
    (try simp only [Exit.inBlock, Exit.then])
    refine bodyPost_ret (results_row_tmpF rfl _ _ (w.heap.size) _ _ _ _ rfl (setRow_heap _ _ _ _ _ _ HR.out) Tryz.underlying33 rfl sizeK) rfl ?_
    exact ⟨by rw [HP.out]; rfl, below_setRow HB.out (Nat.le_refl _) _⟩
  · have e0 : (er == 0) = false := by rw [beq_eq_false_iff_ne]; exact h0
    by_cases h2 : er = 2
    · have HP := Box.mk (show lenS y = (0, 0, 5) by rw [HP0.out, if_neg h0, if_pos h2])
      have e2 : (er == 2) = true := by rw [h2]; rfl
      clear HP0 h0 h2
      go_wp2_with (refine wpList_store_row rfl 33 _ _ rfl (w.heap.size) #[.int .i64 0, .int .i64 0] rfl rfl 33 _ HR.out sizeK rfl (oneK _ _) ?_)
      (try simp only [Exit.inBlock, Exit.then])
      refine bodyPost_ret (results_row_tmpF rfl _ _ (w.heap.size) _ _ _ _ rfl (setRow_heap _ _ _ _ _ _ HR.out) Tryz.underlying33 rfl sizeK) rfl ?_
      exact ⟨by rw [HP.out]; rfl, below_setRow HB.out (Nat.le_refl _) _⟩
    · have HP := Box.mk (show lenS y = (0, 0, er) by rw [HP0.out, if_neg h0, if_neg h2])
      have e2 : (er == 2) = false := by rw [beq_eq_false_iff_ne]; exact h2
      clear HP0 h0 h2
      go_wp2_with (refine wpList_store_row rfl 33 _ _ rfl (w.heap.size) #[.int .i64 0, .int .i64 0] rfl rfl 33 _ HR.out sizeK rfl (oneK _ _) ?_)
      (try simp only [Exit.inBlock, Exit.then])
      refine bodyPost_ret (results_row_tmpF rfl _ _ (w.heap.size) _ _ _ _ rfl (setRow_heap _ _ _ _ _ _ HR.out) Tryz.underlying33 rfl sizeK) rfl ?_
      exact ⟨by rw [HP.out]; rfl, below_setRow HB.out (Nat.le_refl _) _⟩

theorem frameS_one {v : Int} {l : List Fld} {k0 : Int} {y : ByteArray} (h : hasL l teN = false) (h2 : valuesL l clN = [y]) : frameS v l k0 = lenS y := by
  rw [frameS_len h h2]
  unfold lenS
  by_cases h0 : (parseS 10 1000000000 y).2 = 0
  · rw [if_neg (by rw [h0]; simp), if_pos h0, if_pos h0]
  · by_cases h2 : (parseS 10 1000000000 y).2 = 2
    · rw [if_pos (.inr h2), if_neg h0, if_pos h2]
    · rw [if_neg (by simp [h2]), if_neg h0, if_neg h0, if_neg h2]

set_option maxRecDepth 100000 in
set_option maxHeartbeats 4000000 in
theorem ofFields_any (v : Int) (l : List Fld) (a : Option Addr) (cap : Nat) (mm : Int) (w : World) (h : FldsIn w a l) (hz : ShortF l) (hl : l.length ≤ 1000000) (ht : total (valuesL l teN) ≤ 4000000000) (hm : MaxOk w mm) :
    Calls Tryz.prog 149 #[.int .i64 v, .slice a l.length cap] w fun e w' => e = .returned (frameV (frameS v l 1)) ∧ Below w.heap.size w w' := by
  have HB := Box.mk (below_oneF w (.cells #[.int .i64 0, .int .i64 0] 33))
  have HR := Box.mk (show KVar (w.alloc (.cells #[.int .i64 0, .int .i64 0] 33)) w.heap.size 0 0 from heap_alloc_new _ _)
  have H0 := Box.mk (And.intro (h.keep HB.out) (And.intro hz ht))
  have HMX := Box.mk hm
  have HVS := Box.mk (fun (n y : ByteArray) => valuesL_small hz (n := n) (y := y))
  have hcl : (valuesL l clN).length ≤ 1000000 := Nat.le_trans (valuesL_len l clN) hl
  clear h hz ht hm
  go_enter Tryz.func149, Tryz.ntmps149
  go_wp2_with fail
  refine (fValues_low low_cl l a cap _ H0.out.1 H0.out.2.1 (by decide) hl).mono ?_
  rintro e w1 ⟨a1, c1, rfl, hs1, hb1⟩
  have HB1 := Box.mk (below_trans HB.out hb1)
  have HR1 := Box.mk (HR.out.keep hb1)
  have HS1 := Box.mk hs1
  have HF1 := Box.mk (H0.out.1.keep hb1)
  clear hb1 hs1 HB HR
  go_wp2_with fail
  refine (fHas_low low_te l a cap _ HF1.out H0.out.2.1 (by decide) hl).mono ?_
  rintro e w2 ⟨he, hb2⟩
  have HB2 := Box.mk (below_trans HB1.out hb2)
  have HR2 := Box.mk (HR1.out.keep hb2)
  have HS2 := Box.mk (HS1.out.keep hb2)
  have HF2 := Box.mk (HF1.out.keep hb2)
  have HM2 := Box.mk (HMX.out.keep HB2.out)
  clear hb2 HB1 HR1 HS1 HF1 HMX
  cases hte : hasL l teN with
  | true =>
    have HTE := Box.mk hte
    rw [HTE.out] at he
    subst he
    clear hte
    have HP0 := Box.mk (frameS_te (v := v) (k0 := 1) HTE.out)
    by_cases hv : v = 0
    · have HP := Box.mk (show frameS v l 1 = (0, 0, 5) by rw [HP0.out, if_pos (.inl hv)])
      have ev : (v != 0) = false := by rw [hv]; rfl
      clear hv HP0 HS2 HF2 HTE HVS
      generalize (valuesL l clN).length = q at *
      go_wp2_with (refine wpList_store_row rfl 33 _ _ rfl (w.heap.size) #[.int .i64 0, .int .i64 0] rfl rfl 33 _ HR2.out sizeK rfl (oneK _ _) ?_)
      (try simp only [Exit.inBlock, Exit.then])
      refine bodyPost_ret (results_row_tmpF rfl _ _ (w.heap.size) _ _ _ _ rfl (setRow_heap _ _ _ _ _ _ HR2.out) Tryz.underlying33 rfl sizeK) rfl ?_
      exact ⟨by rw [HP.out]; rfl, below_setRow HB2.out (Nat.le_refl _) _⟩
    · have ev : (v != 0) = true := by rw [bne_iff_ne]; exact hv
      by_cases hc : 0 < (valuesL l clN).length
      · have HP := Box.mk (show frameS v l 1 = (0, 0, 5) by rw [HP0.out, if_pos (.inr (.inl hc))])
        clear hv HP0 HS2 HF2 HTE HVS
        generalize (valuesL l clN).length = q at *
        have eq : (((q : Nat) : Int) == 0) = false := by rw [beq_eq_false_iff_ne]; omega
        go_wp2_with (refine wpList_store_row rfl 33 _ _ rfl (w.heap.size) #[.int .i64 0, .int .i64 0] rfl rfl 33 _ HR2.out sizeK rfl (oneK _ _) ?_)
        (try simp only [Exit.inBlock, Exit.then])
        refine bodyPost_ret (results_row_tmpF rfl _ _ (w.heap.size) _ _ _ _ rfl (setRow_heap _ _ _ _ _ _ HR2.out) Tryz.underlying33 rfl sizeK) rfl ?_
        exact ⟨by rw [HP.out]; rfl, below_setRow HB2.out (Nat.le_refl _) _⟩
      · have HP1 := Box.mk (show frameS v l 1 = if chunkedB (listL (valuesL l teN)) = false then (0, 0, 5) else (3, 0, 0) by
          rw [HP0.out]
          by_cases hf : chunkedB (listL (valuesL l teN)) = false
          · rw [if_pos (.inr (.inr hf)), if_pos hf]
          · rw [if_neg hf, if_neg]
            rintro (h | h | h)
            · exact hv h
            · exact hc h
            · exact hf h)
        have HXZ := Box.mk (show ∀ y ∈ listL (valuesL l teN), y.size ≤ maxLen from fun y hy => by
          have := listL_small hy
          have := H0.out.2.2
          unfold maxLen; omega)
        have hxl : (listL (valuesL l teN)).length ≤ 4000000000 := Nat.le_trans (listL_length _) H0.out.2.2
        clear hv HP0 HS2 HTE HVS
        generalize (valuesL l clN).length = q at *
        have eq : (((q : Nat) : Int) == 0) = true := by rw [beq_iff_eq]; omega
        go_wp2_with fail
        refine (fElements_low low_te _ mm l a cap HF2.out H0.out.2.1 (by decide) hl HM2.out H0.out.2.2).mono ?_
        rintro e w3 ⟨a3, c3, rfl, hs3, hb3⟩
        have HB3 := Box.mk (below_trans HB2.out hb3)
        have HR3 := Box.mk (HR2.out.keep hb3)
        have HS3 := Box.mk hs3
        clear hb3 HB2 HR2 HF2 hs3 HM2
        generalize listL (valuesL l teN) = x at *
        go_wp2_with fail
        refine (isChunked_any x a3 c3 _ HS3.out HXZ.out hxl).mono ?_
        rintro e w4 ⟨he, hb4⟩
        have HB4 := Box.mk (below_trans HB3.out hb4)
        have HR4 := Box.mk (HR3.out.keep hb4)
        clear hb4 HB3 HR3 HS3 HXZ
        cases hf : chunkedB x with
        | false =>
          have HP := Box.mk (show frameS v l 1 = (0, 0, 5) by rw [HP1.out, if_pos hf])
          rw [hf] at he
          subst he
          clear hf HP1
          go_wp2_with (refine wpList_store_row rfl 33 _ _ rfl (w.heap.size) #[.int .i64 0, .int .i64 0] rfl rfl 33 _ HR4.out sizeK rfl (oneK _ _) ?_)
          (try simp only [Exit.inBlock, Exit.then])
          refine bodyPost_ret (results_row_tmpF rfl _ _ (w.heap.size) _ _ _ _ rfl (setRow_heap _ _ _ _ _ _ HR4.out) Tryz.underlying33 rfl sizeK) rfl ?_
          exact ⟨by rw [HP.out]; rfl, below_setRow HB4.out (Nat.le_refl _) _⟩
        | true =>
          have HP := Box.mk (show frameS v l 1 = (3, 0, 0) by rw [HP1.out, if_neg (by rw [hf]; decide)])
          rw [hf] at he
          subst he
          clear hf HP1
          go_wp2_with (refine wpList_store_row rfl 33 _ _ rfl (w.heap.size) #[.int .i64 3, .int .i64 0] rfl rfl 33 _ HR4.out sizeK rfl (oneK _ _) ?_)
          (try simp only [Exit.inBlock, Exit.then])
          refine bodyPost_ret (results_row_tmpF rfl _ _ (w.heap.size) _ _ _ _ rfl (setRow_heap _ _ _ _ _ _ HR4.out) Tryz.underlying33 rfl sizeK) rfl ?_
          exact ⟨by rw [HP.out]; rfl, below_setRow HB4.out (Nat.le_refl _) _⟩
  | false =>
    have HTE := Box.mk hte
    rw [HTE.out] at he
    subst he
    clear hte
    match hcv : valuesL l clN with
    | [] =>
      have HP := Box.mk (frameS_none (v := v) (k0 := 1) HTE.out hcv)
      rw [hcv] at hcl
      rw [show ([] : List ByteArray).length = 0 from rfl]
      clear hcv HS2 HF2 HTE HVS
      go_wp2_with (refine wpList_store_row rfl 33 _ _ rfl (w.heap.size) #[.int .i64 1, .int .i64 0] rfl rfl 33 _ HR2.out sizeK rfl (oneK _ _) ?_)
      (try simp only [Exit.inBlock, Exit.then])
      refine bodyPost_ret (results_row_tmpF rfl _ _ (w.heap.size) _ _ _ _ rfl (setRow_heap _ _ _ _ _ _ HR2.out) Tryz.underlying33 rfl sizeK) rfl ?_
      exact ⟨by rw [HP.out]; rfl, below_setRow HB2.out (Nat.le_refl _) _⟩
    | [y] =>
      have HP := Box.mk (frameS_one (v := v) (k0 := 1) HTE.out hcv)
      have hyz := HVS.out clN y (by rw [hcv]; simp)
      rw [hcv] at HS2 hcl
      obtain ⟨b3, o3, e3, hc3⟩ := HS2.out 0 (by simp)
      subst e3
      simp only [List.getElem_cons_zero, Nat.add_zero] at hc3
      rw [show ([y] : List ByteArray).length = 1 from rfl]
      clear hcv HS2 HF2 HTE HVS
      go_wp2_with fail
      refine (ofLength_any y _ hyz).mono ?_
      rintro e w3 ⟨he, hb3⟩
      have HB3 := Box.mk (below_trans HB2.out hb3)
      have HR3 := Box.mk (HR2.out.keep hb3)
      clear hb3 HB2 HR2 hc3
      generalize lenS y = pp at *
      obtain ⟨k, n, er⟩ := pp
      simp only [frameV] at he
      subst he
      go_wp2_with (refine wpList_store_row rfl 33 _ _ rfl (w.heap.size) #[.int .i64 k, .int .i64 n] rfl rfl 33 _ HR3.out sizeK rfl (oneK _ _) ?_)
      (try simp only [Exit.inBlock, Exit.then])
      refine bodyPost_ret (results_row_tmpF rfl _ _ (w.heap.size) _ _ _ _ rfl (setRow_heap _ _ _ _ _ _ HR3.out) Tryz.underlying33 rfl sizeK) rfl ?_
      exact ⟨by rw [HP.out]; rfl, below_setRow HB3.out (Nat.le_refl _) _⟩
    | y :: z :: r =>
      have HP := Box.mk (show frameS v l 1 = (0, 0, 5) by rw [frameS_len HTE.out hcv, if_pos (.inl (by simp))])
      rw [hcv] at hcl
      obtain ⟨q, hq⟩ : ∃ q, (y :: z :: r).length = q := ⟨_, rfl⟩
      rw [hq] at hcl ⊢
      have hq1 : 1 < q := by rw [← hq]; simp
      clear hcv HS2 HF2 HTE HVS hq
      go_wp2_with (refine wpList_store_row rfl 33 _ _ rfl (w.heap.size) #[.int .i64 0, .int .i64 0] rfl rfl 33 _ HR2.out sizeK rfl (oneK _ _) ?_)
      (try simp only [Exit.inBlock, Exit.then])
      refine bodyPost_ret (results_row_tmpF rfl _ _ (w.heap.size) _ _ _ _ rfl (setRow_heap _ _ _ _ _ _ HR2.out) Tryz.underlying33 rfl sizeK) rfl ?_
      exact ⟨by rw [HP.out]; rfl, below_setRow HB2.out (Nat.le_refl _) _⟩

set_option maxRecDepth 100000 in
set_option maxHeartbeats 2000000 in
theorem projOfReq_any (m t : ByteArray) (v : Int) (l : List Fld) (a : Option Addr) (cap : Nat) (fr : Bool) (ba : Option Addr) (bn bc : Nat) (mm : Int) (w : World) (h : FldsIn w a l) (hz : ShortF l) (hl : l.length ≤ 1000000) (ht : total (valuesL l teN) ≤ 4000000000) (hm : MaxOk w mm) :
    Calls Tryz.prog 110 #[.agg #[.string m, .string t, .int .i64 v, .slice a l.length cap, .bool fr, .slice ba bn bc]] w fun e w' => e = .returned (frameV (frameS v l 1)) ∧ Below w.heap.size w w' := by
  have hbw := below_twoF (below_oneF w (.cells #[.string m, .string t, .int .i64 v, .slice a l.length cap, .bool fr, .slice ba bn bc] 29)) (.cells #[.int .i64 0, .int .i64 0] 33)
  have HB := Box.mk hbw
  have HR := Box.mk (show KVar ((w.alloc (.cells #[.string m, .string t, .int .i64 v, .slice a l.length cap, .bool fr, .slice ba bn bc] 29)).alloc (.cells #[.int .i64 0, .int .i64 0] 33)) (w.heap.size + 1) 0 0 by
    have h := heap_alloc_new (w.alloc (.cells #[.string m, .string t, .int .i64 v, .slice a l.length cap, .bool fr, .slice ba bn bc] 29)) (.cells #[.int .i64 0, .int .i64 0] 33)
    rw [World.size_alloc] at h; exact h)
  have H0 := Box.mk (And.intro (h.keep hbw) (And.intro hz (And.intro ht (hm.keep hbw))))
  clear h hz ht hbw hm
  go_enter Tryz.func110, Tryz.ntmps110
  go_wp2_with fail
  refine (ofFields_any v l a cap mm _ H0.out.1 H0.out.2.1 hl H0.out.2.2.1 H0.out.2.2.2).mono ?_
  rintro e w1 ⟨he, hb1⟩
  have HB1 := Box.mk (below_trans HB.out hb1)
  have HR1 := Box.mk (HR.out.keep hb1)
  generalize hq : frameS v l 1 = q at *
  have HP := Box.mk hq
  obtain ⟨k, n, er⟩ := q
  simp only [frameV] at he
  clear hb1 HB HR hq H0
  subst he
  go_wp2_with (refine wpList_store_row rfl 33 _ _ rfl (w.heap.size + 1) #[.int .i64 k, .int .i64 n] rfl rfl 33 _ HR1.out sizeK rfl (oneK _ _) ?_)
  (try simp only [Exit.inBlock, Exit.then])
  refine bodyPost_ret (results_row_tmpF rfl _ _ (w.heap.size + 1) _ _ _ _ rfl (setRow_heap _ _ _ _ _ _ HR1.out) Tryz.underlying33 rfl sizeK) rfl ?_
  exact ⟨by rw [HP.out]; rfl, below_setRow HB1.out (by omega) _⟩

set_option maxHeartbeats 2000000 in
theorem isBodiless_any (method : ByteArray) (st : Int) (w : World) :
    Calls Tryz.prog 151 #[.string method, .int .i64 st] w fun e w' => e = .returned (.bool (noBody method st)) ∧ w = w' := by
  rcases noBody_cases method st with ⟨hn, hc⟩ | ⟨hn, h0, hst⟩
  · have HP := Box.mk hn
    rcases hc with h0 | ⟨h0, h1, h2⟩ | ⟨h0, h1⟩ | ⟨h0, h1⟩
    · have hm : (method.toList == [72, 69, 65, 68]) = true := by rw [litHead, toList_eq]; simp; exact h0
      clear h0 hn
      go_enter Tryz.func151, Tryz.ntmps151
      go_wp2_with fail
      go_ret
      exact ⟨ret_bool HP.out.symm, rfl⟩
    · have hm : (method.toList == [72, 69, 65, 68]) = false := by rw [litHead, toList_eq]; simp; exact h0
      clear h0 hn
      go_enter Tryz.func151, Tryz.ntmps151
      go_wp2_with fail
      go_ret
      exact ⟨ret_bool HP.out.symm, rfl⟩
    · have hm : (method.toList == [72, 69, 65, 68]) = false := by rw [litHead, toList_eq]; simp; exact h0
      clear h0 hn
      subst h1
      go_enter Tryz.func151, Tryz.ntmps151
      go_wp2_with fail
      go_ret
      exact ⟨ret_bool HP.out.symm, rfl⟩
    · have hm : (method.toList == [72, 69, 65, 68]) = false := by rw [litHead, toList_eq]; simp; exact h0
      clear h0 hn
      subst h1
      go_enter Tryz.func151, Tryz.ntmps151
      go_wp2_with fail
      go_ret
      exact ⟨ret_bool HP.out.symm, rfl⟩
  · have HP := Box.mk hn
    have hm : (method.toList == [72, 69, 65, 68]) = false := by rw [litHead, toList_eq]; simp; exact h0
    clear h0 hn
    rcases hst with hst | ⟨hst, h2, h3⟩
    · have e2 : (st == 204) = false := by rw [beq_eq_false_iff_ne]; omega
      have e3 : (st == 304) = false := by rw [beq_eq_false_iff_ne]; omega
      go_enter Tryz.func151, Tryz.ntmps151
      go_wp2_with fail
      go_ret
      exact ⟨ret_bool HP.out.symm, rfl⟩
    · have e2 : (st == 204) = false := by rw [beq_eq_false_iff_ne]; exact h2
      have e3 : (st == 304) = false := by rw [beq_eq_false_iff_ne]; exact h3
      clear h2 h3
      go_enter Tryz.func151, Tryz.ntmps151
      go_wp2_with fail
      go_ret
      exact ⟨ret_bool ((decide_eq_false (by omega)).trans HP.out.symm), rfl⟩

theorem frameS_close (v : Int) (l : List Fld) : frameS v l 4 = if (frameS v l 1).1 = 1 then (4, (frameS v l 1).2.1, (frameS v l 1).2.2) else frameS v l 1 := by
  unfold frameS
  repeat' split
  all_goals (first | rfl | simp_all)

set_option maxRecDepth 100000 in
set_option maxHeartbeats 4000000 in
theorem projOfReply_any (method : ByteArray) (st : Int) (r : ByteArray) (v : Int) (l : List Fld) (a : Option Addr) (cap : Nat) (ba : Option Addr) (bn bc : Nat) (mm : Int) (w : World) (h : FldsIn w a l) (hz : ShortF l) (hl : l.length ≤ 1000000) (ht : total (valuesL l teN) ≤ 4000000000) (hm : MaxOk w mm) :
    Calls Tryz.prog 114 #[.string method, .agg #[.int .i64 st, .string r, .int .i64 v, .slice a l.length cap, .slice ba bn bc]] w fun e w' => e = .returned (frameV (replyS method st v l)) ∧ Below w.heap.size w w' := by
  have hbw := below_twoF (below_oneF w (.cells #[.int .i64 st, .string r, .int .i64 v, .slice a l.length cap, .slice ba bn bc] 31)) (.cells #[.int .i64 0, .int .i64 0] 33)
  have HB := Box.mk hbw
  have HR := Box.mk (show KVar ((w.alloc (.cells #[.int .i64 st, .string r, .int .i64 v, .slice a l.length cap, .slice ba bn bc] 31)).alloc (.cells #[.int .i64 0, .int .i64 0] 33)) (w.heap.size + 1) 0 0 by
    have h := heap_alloc_new (w.alloc (.cells #[.int .i64 st, .string r, .int .i64 v, .slice a l.length cap, .slice ba bn bc] 31)) (.cells #[.int .i64 0, .int .i64 0] 33)
    rw [World.size_alloc] at h; exact h)
  have H0 := Box.mk (And.intro (h.keep hbw) (And.intro hz (And.intro ht (hm.keep hbw))))
  have HPN := Box.mk (show noBody method st = true → replyS method st v l = (1, 0, 0) from fun e => by unfold replyS; rw [if_pos e])
  have HPS := Box.mk (show noBody method st = false → replyS method st v l = if (frameS v l 1).1 = 1 then (4, (frameS v l 1).2.1, (frameS v l 1).2.2) else frameS v l 1 from fun e => by unfold replyS; rw [if_neg (by rw [e]; decide), frameS_close])
  clear h hz ht hbw hm
  go_enter Tryz.func114, Tryz.ntmps114
  go_wp2_with fail
  refine (isBodiless_any method st _).mono ?_
  rintro e w1 ⟨he, rfl⟩
  cases hn : noBody method st with
  | true =>
    have HP := Box.mk (HPN.out hn)
    rw [hn] at he
    subst he
    clear hn HPN HPS
    go_wp2_with (refine wpList_store_row rfl 33 _ _ rfl (w.heap.size + 1) #[.int .i64 1, .int .i64 0] rfl rfl 33 _ HR.out sizeK rfl (oneK _ _) ?_)
    (try simp only [Exit.inBlock, Exit.then])
    refine bodyPost_ret (results_row_tmpF rfl _ _ (w.heap.size + 1) _ _ _ _ rfl (setRow_heap _ _ _ _ _ _ HR.out) Tryz.underlying33 rfl sizeK) rfl ?_
    exact ⟨by rw [HP.out]; rfl, below_setRow HB.out (by omega) _⟩
  | false =>
    have HP0 := Box.mk (HPS.out hn)
    rw [hn] at he
    subst he
    clear hn HPN HPS
    go_wp2_with fail
    refine (ofFields_any v l a cap mm _ H0.out.1 H0.out.2.1 hl H0.out.2.2.1 H0.out.2.2.2).mono ?_
    rintro e w1 ⟨he, hb1⟩
    have HB1 := Box.mk (below_trans HB.out hb1)
    have HR1 := Box.mk (HR.out.keep hb1)
    generalize frameS v l 1 = q at *
    obtain ⟨k, n, er⟩ := q
    simp only [frameV] at he
    simp only [] at HP0
    clear hb1 HB HR H0
    subst he
    by_cases hk : k = 1
    · subst hk
      have HP := Box.mk (show replyS method st v l = (4, n, er) by rw [HP0.out]; rfl)
      have HR2 := Box.mk (HR1.out.keep (below_oneF w1 (.cells #[.int .i64 4, .int .i64 n] 33)))
      have HB2 := Box.mk (below_twoF HB1.out (.cells #[.int .i64 4, .int .i64 n] 33))
      clear HP0 HR1 HB1
      go_wp2_with (refine wpList_store_row rfl 33 _ _ rfl (w.heap.size + 1) #[.int .i64 4, .int .i64 n] rfl rfl 33 _ HR2.out sizeK rfl (oneK _ _) ?_)
      (try simp only [Exit.inBlock, Exit.then])
      refine bodyPost_ret (results_row_tmpF rfl _ _ (w.heap.size + 1) _ _ _ _ rfl (setRow_heap _ _ _ _ _ _ HR2.out) Tryz.underlying33 rfl sizeK) rfl ?_
      exact ⟨by rw [HP.out]; rfl, below_setRow HB2.out (by omega) _⟩
    · have HP := Box.mk (show replyS method st v l = (k, n, er) by rw [HP0.out]; exact if_neg hk)
      have ek : (k == 1) = false := by rw [beq_eq_false_iff_ne]; exact hk
      have HR2 := Box.mk (HR1.out.keep (below_oneF w1 (.cells #[.int .i64 k, .int .i64 n] 33)))
      have HB2 := Box.mk (below_twoF HB1.out (.cells #[.int .i64 k, .int .i64 n] 33))
      clear HP0 hk HR1 HB1
      go_wp2_with (refine wpList_store_row rfl 33 _ _ rfl (w.heap.size + 1) #[.int .i64 k, .int .i64 n] rfl rfl 33 _ HR2.out sizeK rfl (oneK _ _) ?_)
      (try simp only [Exit.inBlock, Exit.then])
      refine bodyPost_ret (results_row_tmpF rfl _ _ (w.heap.size + 1) _ _ _ _ rfl (setRow_heap _ _ _ _ _ _ HR2.out) Tryz.underlying33 rfl sizeK) rfl ?_
      exact ⟨by rw [HP.out]; rfl, below_setRow HB2.out (by omega) _⟩
end Go.Proofs.YteoadfckcilalaaGreatDoor
