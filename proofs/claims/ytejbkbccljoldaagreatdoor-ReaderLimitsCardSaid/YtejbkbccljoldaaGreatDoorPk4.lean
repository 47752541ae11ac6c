/- The reference's End. The reference's lines. The reference's fields of lines. A slice of bytes of the call's own, beside other memory: what an append leaves alone. The reference's ParseRequest. The reference's ParseReply. The reference's FormatRequest and FormatReply. Chunked bodies: the state of the decoder, one byte, many bytes. The reference's step: bytes of a line that is not complete. The reference's step: a line that ends with CR. The decoder's states stay in order; the reference's step in one contract. The reference's Feed. The reader of messages: its state, what Next does. What heads lead to: sizes. The reference's reader: a head that is not complete, or too long. Write: a text that comes in pieces. The reference's reader: a reply whose head is not in order. The reference's reader: the region that sets the new state: local laws. The law LineStatus. Bytes of the source. The contracts of awake and of the laws of layer 2. The request that the source makes: what is said of it. The request that the source makes. A line that was formatted is parsed to the same fields; the law LineTwice. The reference's reader: a reply whose head is in order. A slice of bytes in a block of the call's own that may bear the mark of a conversion: append in place, one byte stored. Sizes of what the source makes; local laws for wire. The reference's reader: a chunked body. A region that draws its order, whose last operation waits for all others and may write a slot that they read (s = s + f(..)); the rest goes on from there. Slices of slices of bytes: read, built in a region, opened among the arguments. -/
import Derived.Test.YtejbkbccljoldaaGreatDoorPk1
import Derived.Test.YtejbkbccljoldaaGreatDoorPk2
import Derived.Test.YtejbkbccljoldaaGreatDoorPk3
import Derived.Test.YtejbkbccljoldaaGreatDoorRows
import Derived.WalkKit
import Derived.WalkSpells
import Derived.WalkLawsBesides
import Derived.BigQuiet
import Derived.Deep.QuietTactic
import Derived.Lib.Bytealg
import Derived.Lib.IndexLaws
import Derived.Lib.Hide
import Derived.Laws.IdiomStrings
import Derived.Lib.SlTrimSet
import Derived.Lib.IndexBytes
import Derived.Lib.Split
import Derived.Deep.AppendLies
import Derived.Shelf.Strings.SlTrimAscii
import Derived.Shelf.Strings.SplitShaped
import Derived.Shelf.LaysM
import Derived.Shelf.Strings.BuilderK
import Derived.Shelf.Strconv.Itoa4
import Derived.Shelf.Strings.Prefix
import Derived.Shelf.Bytes.SlIndexWhole
import Derived.Test.YtejbkbccljoldaaGreatDoorProg
import Derived.Lib.SplitLaws
import Derived.WalkSmall
import Derived.ProofKit
import Derived.OpenShut
import Derived.Lib.Strings
import Derived.SliceStrings
import Derived.Deep.Quiet
import Derived.Tactics
import Derived.KernelRfl
import Derived.Below
import Derived.Laws.Bits64
import Derived.Lib.SlBytesConst
import Derived.Maps.AppendAt
import Derived.Laws.AppendOwnNone
import Derived.Great.BuildSlice
import Derived.Laws.Rows
import Derived.Laws.BitsAllLaws
import Derived.Laws.Shifts
import Derived.Maps.OwnOps
import Derived.Maps.OwnSet
import Derived.Deep.SlicePairs
import Derived.Lib.AppendZerosOnto
import Derived.Lib.AppendStr
import Derived.Laws.CopyOwn
import Derived.OwnWalk
import Derived.Laws.Strings3
import Derived.Laws.Concat
import Derived.Lib.ItoaMem
import Derived.IntWalk
import Derived.Laws.RangeAny
import Derived.LoopTactic
import Derived.Sort.Grow
import Derived.Lib.ConvBytes
import Derived.Deep.RegionHeld3
import Derived.Deep.DeepCutAuto
import Derived.Deep.MidRow
import Derived.Laws.Tables
import Derived.Deep.WholeRow
import Derived.StillTailTactics
import Derived.Deep.CutBlock
import Derived.Lib.LaidTab
import Derived.LaidSub
import Derived.Laws.Bits64b
import Derived.Lib.FrozenHead2
import Derived.Deep.Matrix
namespace Go.Proofs.YtejbkbccljoldaaGreatDoor
open Go.RowKit

theorem isBytes_cap {w : World} {a : Option Addr} {l : List UInt8} {c : Nat} (h : IsBytes w a l c) : l.length ≤ c := by
  rcases h with ⟨_, e, e2⟩ | ⟨_, _, h1, _, _⟩
  · subst e; simp
  · exact h1
end Go.Proofs.YtejbkbccljoldaaGreatDoor
namespace Go.Proofs.YtejbkbccljoldaaGreatDoor
open Go.RowKit

theorem lines_nil (cur : List UInt8) : linesGo cur [] = some [] := by unfold linesGo; rfl
theorem lines_bad {cur : List UInt8} {x : UInt8} {r : List UInt8} (h : (x = 13 ∧ ¬ r.head? = some 10) ∨ (x = 10 ∧ ¬ cur.getLast? = some 13)) : linesGo cur (x :: r) = none := by
  unfold linesGo; rw [if_pos h]
theorem lines_end {cur : List UInt8} {r : List UInt8} (h : cur.getLast? = some 13) : linesGo cur (10 :: r) = (linesGo [] r).map (⟨cur.dropLast.toArray⟩ :: ·) := by
  conv => lhs; unfold linesGo
  rw [if_neg (by rintro (h2 | h2); · exact absurd h2.1 (by decide)
                 · exact h2.2 h), if_pos rfl]
theorem lines_more {cur : List UInt8} {x : UInt8} {r : List UInt8} (hx : ¬ x = 10) (h : x = 13 → r.head? = some 10) : linesGo cur (x :: r) = linesGo (cur ++ [x]) r := by
  conv => lhs; unfold linesGo
  rw [if_neg (by rintro (h2 | h2); · exact h2.2 (h h2.1)
                 · exact hx h2.1), if_neg hx]
theorem lines_count : ∀ (l cur : List UInt8) (L : List ByteArray), linesGo cur l = some L → L.length = l.count 10
  | [], _, L, h => by
    unfold linesGo at h
    cases h; rfl
  | x :: r, cur, L, h => by
    by_cases hb : (x = 13 ∧ ¬ r.head? = some 10) ∨ (x = 10 ∧ ¬ cur.getLast? = some 13)
    · rw [lines_bad hb] at h; cases h
    · by_cases hx : x = 10
      · subst hx
        have hl : cur.getLast? = some 13 := Decidable.byContradiction fun e => hb (.inr ⟨rfl, e⟩)
        rw [lines_end hl] at h
        cases hq : linesGo [] r with
        | none => rw [hq] at h; cases h
        | some L2 =>
          rw [hq] at h
          simp only [Option.map_some, Option.some.injEq] at h
          subst h
          rw [List.length_cons, lines_count r [] L2 hq, List.count_cons_self]
      · rw [lines_more hx (fun e => Decidable.byContradiction fun e2 => hb (.inl ⟨e, e2⟩))] at h
        rw [lines_count r _ L h, List.count_cons_of_ne (by simpa using hx)]
theorem end_suffix : ∀ (l : List UInt8) (i : Nat), endGo i l = ((i + l.length : Nat) : Int) → 4 ≤ l.length ∧ l.drop (l.length - 4) = crlf2
  | [], i, h => by
    unfold endGo at h
    omega
  | x :: r, i, h => by
    unfold endGo at h
    by_cases hm : (x :: r).take 4 = crlf2
    · rw [if_pos hm] at h
      have hl : (x :: r).length = 4 := by omega
      refine ⟨by omega, ?_⟩
      rw [hl, Nat.sub_self, List.drop_zero, ← hm, List.take_of_length_le (by omega)]
    · rw [if_neg hm] at h
      obtain ⟨h1, h2⟩ := end_suffix r (i + 1) (by rw [h, List.length_cons]; omega)
      refine ⟨by rw [List.length_cons]; omega, ?_⟩
      rw [List.length_cons, show r.length + 1 - 4 = (r.length - 4) + 1 by omega, List.drop_succ_cons]
      exact h2
theorem StrsAt.dropLast {w : World} {a : Option Addr} {l : List ByteArray} (h : StrsAt w a l) : StrsAt w a l.dropLast := fun j hj => by
  rw [List.length_dropLast] at hj
  obtain ⟨b, off, e, hc⟩ := h j (by omega)
  exact ⟨b, off, e, by rw [List.getElem_dropLast]; exact hc⟩
end Go.Proofs.YtejbkbccljoldaaGreatDoor
namespace Go.Proofs.YtejbkbccljoldaaGreatDoor
open Go.RowKit

theorem fieldsGo_stop {l : List ByteArray} {k : Nat} {x : List Fld} {s : ByteArray} (hk : k < l.length) (hs : l[k] = s) (h : fieldsGo (l.take k) = some x) : fieldsGo (l.take (k + 1)) = (parseF s).map fun f => x ++ [f] := by
  rw [List.take_succ_eq_append_getElem hk, hs]
  exact fieldsGo_snoc _ _ _ h
theorem AccF.fresh {w0 w : World} {a : Option Addr} {n c : Nat} {l : List Fld} (h : AccF w0 w (.slice a n c) l) : ∀ y, a = some y → w0.heap.size ≤ y.block := fun y hy => by
  obtain ⟨⟨_, h2⟩, _⟩ := h
  rcases h2 with ⟨e, _⟩ | ⟨g, cap, cur, hv, hg, _⟩
  · injection e with e1 _ _
    rw [e1] at hy; cases hy
  · injection hv with e1 _ _
    rw [e1] at hy
    obtain rfl := Option.some.inj hy
    exact hg
theorem fieldsS_big {l : List ByteArray} (h : 64 < l.length) : fieldsS l = (3, []) := by unfold fieldsS; rw [if_pos h]
theorem fieldsS_some {l : List ByteArray} {x : List Fld} (h : ¬ 64 < l.length) (hx : fieldsGo l = some x) : fieldsS l = (0, x) := by unfold fieldsS; rw [if_neg h, hx]
theorem fieldsS_none {l : List ByteArray} (h : ¬ 64 < l.length) (hx : fieldsGo l = none) : fieldsS l = (2, []) := by unfold fieldsS; rw [if_neg h, hx]
end Go.Proofs.YtejbkbccljoldaaGreatDoor
namespace Go.Proofs.YtejbkbccljoldaaGreatDoor
open Go.RowKit

/-- v is a slice with the bytes l in a block of its own, at B or beyond. -/
def Own (B : Nat) (w : World) (v : Value) (l : List UInt8) : Prop := w.ownsRow B 5 1 v l.length (bytesV l)
theorem Own.start (B : Nat) (w : World) : Own B w (.slice none 0 0) [] := World.ownsRow_nil _ _ _ _
theorem Own.same {B : Nat} {w w' : World} {v : Value} {l : List UInt8} (h : Own B w v l) (hs : ∀ k, v.ownBlock = some k → w'.heap[k]? = w.heap[k]?) : Own B w' v l := by
  obtain ⟨h1, h2⟩ := h
  refine ⟨h1, ?_⟩
  rcases h2 with h2 | ⟨g, cap, cur, hv, hg, hc, r⟩
  · exact .inl h2
  · exact .inr ⟨g, cap, cur, hv, hg, by rw [hs g (by rw [hv]; rfl)]; exact hc, r⟩
theorem Own.lt {B : Nat} {w : World} {v : Value} {l : List UInt8} (h : Own B w v l) {k : Nat} (hk : v.ownBlock = some k) : B ≤ k ∧ k < w.heap.size := World.ownsRow.lt h k hk
theorem Own.keep {B : Nat} {w w' : World} {v : Value} {l : List UInt8} (h : Own B w v l) (hb : Below w.heap.size w w') : Own B w' v l :=
  h.same fun k hk => hb.block k (h.lt hk).2
theorem Own.val {B : Nat} {w : World} {v : Value} {l : List UInt8} (h : Own B w v l) : BytesV w v l := by
  obtain ⟨h1, h2⟩ := h
  rcases h2 with ⟨rfl, h2⟩ | ⟨g, cap, cur, rfl, hg, hc, hcap, hm, hsz, ht⟩
  · have : l = [] := List.eq_nil_of_length_eq_zero h2
    subst this
    exact ⟨none, 0, rfl, .inl ⟨rfl, rfl, rfl⟩⟩
  · refine ⟨_, cap, rfl, .inr ⟨_, rfl, hcap, hm, fun j hj => ?_⟩⟩
    have e : cur.toList[j]? = some (Value.int .u8 (l[j].toNat : Int)) := by
      have := congrArg (fun x => x[j]?) ht
      simp only [Nat.mul_one, bytesV] at this
      rw [List.getElem?_take_of_lt hj, List.getElem?_map, List.getElem?_eq_getElem hj] at this
      exact this
    rw [Addr.add_lit]
    simp only [World.cell?, hc, Nat.zero_add]
    simpa using e
theorem cell_same {w w' : World} {p : Addr} (h : w'.heap[p.block]? = w.heap[p.block]?) : w'.cell? p = w.cell? p := by
  unfold World.cell?
  rw [h]
theorem add_block (x : Addr) (j : Nat) : (x.add j).block = x.block := by unfold Addr.add; split <;> rfl
theorem IsBytes.same {w w' : World} {a : Option Addr} {l : List UInt8} {c : Nat} (h : IsBytes w a l c) (hs : ∀ x, a = some x → l ≠ [] → w'.heap[x.block]? = w.heap[x.block]?) : IsBytes w' a l c := by
  rcases h with h | ⟨x, h1, h2, h3, h4⟩
  · exact .inl h
  · refine .inr ⟨x, h1, h2, h3, fun j hj => ?_⟩
    have e : w'.heap[(x.add j).block]? = w.heap[(x.add j).block]? := by
      rw [add_block]
      exact hs x h1 (fun e => by rw [e] at hj; exact absurd hj (Nat.not_lt_zero _))
    rw [cell_same e]
    exact h4 j hj
theorem IsBytes.lt {w : World} {x : Addr} {l : List UInt8} {c : Nat} (h : IsBytes w (some x) l c) (hl : l ≠ []) : x.block < w.heap.size := by
  rcases h with ⟨h, _⟩ | ⟨y, h1, h2, h3, h4⟩
  · cases h
  · obtain rfl := Option.some.inj h1
    have h0 : 0 < l.length := List.length_pos_iff.2 hl
    have := h4 0 h0
    have h5 := World.block_lt_of_cell? w _ this
    rw [add_block] at h5; exact h5
section
variable {ops : Array Oper} {rest : List Oper} {o : Oper} {act : Act} {Q : Exit → Act → World → Prop}
/-- APPEND of a slice of bytes that is read; all other blocks stay as they are. -/
theorem wpList_append_ownb (w : World) (hgd : o.guard = none) (s x : Operand) (ho : o.op = .call { callee := .builtin .append, args := #[s, x], argTypes := #[23, 23] })
    {B : Nat} {v : Value} {l : List UInt8} (hs : act.eval s = v) (h : Own B w v l) {a : Option Addr} {r : List UInt8} {c : Nat} (hx : act.eval x = .slice a r.length c) (hr : IsBytes w a r c)
    (hn : l.length + r.length ≤ 140737488355328) (hB : B ≤ w.heap.size)
    (K : ∀ v' w', Own B w' v' (l ++ r) → w.grownBy w' v.ownBlock → (v'.ownBlock = v.ownBlock ∨ v'.ownBlock = some w.heap.size) → wpList Tryz.prog ops Q rest (act.put o.dst v') w') : wpList Tryz.prog ops Q (o :: rest) act w := by
  obtain ⟨i0, hi, hz0, hz1, hz2⟩ := info_parts Tryz.info5
  rcases hr with ⟨rfl, rfl, rfl⟩ | ⟨ad, rfl, hr1, hr2, hr3⟩
  · refine wpList_append_own_none hgd s x 23 ho B 5 i0 1 Tryz.underlying23 hi v l.length (bytesV l) hs h hx (K _ _ ?_ (World.grownBy.refl _ _) (.inl rfl))
    rw [List.append_nil]; exact h
  · refine wpList_append_own_at w hgd s x 23 ho B 5 i0 (.int .u8 0) 1 1 Tryz.underlying23 hi hz0 hz1 hz2 rfl (by decide) v l.length (bytesV l) hs h ad r.length c (bytesV r) hx (by rw [bytesV_len, Nat.mul_one]) ?_ ?_ (by unfold maxLen; omega) (by omega) hB ?_
    · intro j u hj
      unfold bytesV at hj
      rw [List.getElem?_map] at hj
      obtain ⟨c', hc', rfl⟩ := Option.map_eq_some_iff.1 hj
      obtain ⟨hlt, rfl⟩ := List.getElem?_eq_some_iff.1 hc'
      exact hr3 j hlt
    · intro u hu
      unfold bytesV at hu
      obtain ⟨c', _, rfl⟩ := List.mem_map.1 hu
      rfl
    · intro v' w' hown hgrow _ h5
      refine K v' w' ?_ hgrow h5
      unfold Own
      rw [List.length_append]
      have e : bytesV (l ++ r) = bytesV l ++ bytesV r := by unfold bytesV; rw [List.map_append]
      rw [e]; exact hown
end
end Go.Proofs.YtejbkbccljoldaaGreatDoor
namespace Go.Proofs.YtejbkbccljoldaaGreatDoor
open Go.RowKit

theorem lineR_ne (l : List ByteArray) (h : (lineR l).1 = none) : ¬ (lineR l).2 = 0 := by
  unfold lineR at h ⊢
  split at h
  · rename_i m t v
    by_cases h1 : tokS m = true ∧ targetS t = true
    · rw [if_pos h1] at h ⊢
      by_cases h2 : (verZ v).2 = 0
      · rw [if_pos h2] at h; cases h
      · rw [if_neg h2]; exact h2
    · rw [if_neg h1]; decide
  · decide
theorem lines_small : ∀ (l cur : List UInt8) (L : List ByteArray), linesGo cur l = some L → ∀ s ∈ L, s.size ≤ cur.length + l.length
  | [], _, L, h, s, hs => by
    rw [lines_nil] at h
    cases h; cases hs
  | x :: r, cur, L, h, s, hs => by
    by_cases hb : (x = 13 ∧ ¬ r.head? = some 10) ∨ (x = 10 ∧ ¬ cur.getLast? = some 13)
    · rw [lines_bad hb] at h; cases h
    · by_cases hx : x = 10
      · subst hx
        have hl : cur.getLast? = some 13 := Decidable.byContradiction fun e => hb (.inr ⟨rfl, e⟩)
        rw [lines_end hl] at h
        cases hq : linesGo [] r with
        | none => rw [hq] at h; cases h
        | some L2 =>
          rw [hq] at h
          simp only [Option.map_some, Option.some.injEq] at h
          subst h
          rcases List.mem_cons.1 hs with rfl | hs
          · show cur.dropLast.toArray.size ≤ _
            rw [List.size_toArray, List.length_dropLast]; omega
          · have := lines_small r [] L2 hq s hs
            rw [List.length_cons]
            simp at this
            omega
      · rw [lines_more hx (fun e => Decidable.byContradiction fun e2 => hb (.inl ⟨e, e2⟩))] at h
        have := lines_small r _ L h s hs
        rw [List.length_append] at this
        rw [List.length_cons]
        simp at this
        omega
theorem linesS_facts {b : List UInt8} {L : List ByteArray} (h : linesS b = some L) : (∀ s ∈ L, s.size ≤ b.length) ∧ L.length ≤ b.length := by
  unfold linesS at h
  split at h
  · cases hq : linesGo [] b with
    | none => rw [hq] at h; cases h
    | some G =>
      rw [hq] at h
      simp only [Option.map_some, Option.some.injEq] at h
      subst h
      refine ⟨fun s hs => ?_, ?_⟩
      · have := lines_small b [] G hq s ((List.dropLast_sublist G).subset hs)
        simpa using this
      · have := lines_count b [] G hq
        have h2 := List.count_le_length (a := (10 : UInt8)) (l := b)
        rw [List.length_dropLast]; omega
  · cases h
theorem parseF_small {s : ByteArray} {f : Fld} (h : parseF s = some f) : f.1.size ≤ s.size ∧ f.2.size ≤ s.size := by
  unfold parseF at h
  split at h
  · split at h
    · cases h
      exact ⟨extract_le _ _ _, Nat.le_trans (trimBA_size _) (extract_le _ _ _)⟩
    · cases h
  · cases h
theorem fieldsGo_small : ∀ (l : List ByteArray) (x : List Fld), fieldsGo l = some x → (∀ s ∈ l, s.size ≤ maxLen) → ShortF x ∧ x.length = l.length
  | [], x, h, _ => by
    cases h
    exact ⟨fun f hf => absurd hf (by simp), rfl⟩
  | t :: l, x, h, hz => by
    unfold fieldsGo at h
    cases ht : parseF t with
    | none => rw [ht] at h; cases h
    | some f =>
      rw [ht] at h
      simp only at h
      cases hx : fieldsGo l with
      | none => rw [hx] at h; cases h
      | some y =>
        rw [hx] at h
        simp only [Option.map_some, Option.some.injEq] at h
        subst h
        obtain ⟨h1, h2⟩ := fieldsGo_small l y hx (fun s hs => hz s (List.mem_cons_of_mem _ hs))
        have h3 := parseF_small ht
        have h4 := hz t (List.mem_cons_self ..)
        refine ⟨fun g hg => ?_, by simp [h2]⟩
        rcases List.mem_cons.1 hg with rfl | hg
        · exact ⟨Nat.le_trans h3.1 h4, Nat.le_trans h3.2 h4⟩
        · exact h1 g hg
theorem fieldsS_small {l : List ByteArray} {x : List Fld} {er : Int} (h : fieldsS l = (er, x)) (hz : ∀ s ∈ l, s.size ≤ maxLen) : ShortF x ∧ x.length ≤ 64 ∧ (¬ er = 0 → x = []) := by
  unfold fieldsS at h
  split at h
  · cases h
    exact ⟨fun f hf => absurd hf (by simp), by simp, fun _ => rfl⟩
  · rename_i h64
    cases hx : fieldsGo l with
    | none =>
      rw [hx] at h
      cases h
      exact ⟨fun f hf => absurd hf (by simp), by simp, fun _ => rfl⟩
    | some y =>
      rw [hx] at h
      cases h
      obtain ⟨h1, h2⟩ := fieldsGo_small l x hx hz
      exact ⟨h1, by omega, fun e => absurd rfl e⟩
def hostN : ByteArray := ⟨#[104, 111, 115, 116]⟩
/-- What ParseRequest returns: error, method, target, minor version, fields. -/
def headR (b : List UInt8) : Int × ByteArray × ByteArray × Int × List Fld :=
  match linesS b with
  | some (l0 :: ls) =>
    match lineR (splitS 32 l0) with
    | (some f, _) =>
      if (fieldsS ls).1 = 0 then (if 1 < (valuesL (fieldsS ls).2 hostN).length ∨ ((valuesL (fieldsS ls).2 hostN).length = 0 ∧ f.2.2 = 1) then (2, ⟨#[]⟩, ⟨#[]⟩, 0, []) else (0, f.1, f.2.1, f.2.2, (fieldsS ls).2))
      else ((fieldsS ls).1, ⟨#[]⟩, ⟨#[]⟩, 0, [])
    | (none, e) => (e, ⟨#[]⟩, ⟨#[]⟩, 0, [])
  | _ => (2, ⟨#[]⟩, ⟨#[]⟩, 0, [])
def QVarH (w : World) (g : Nat) (m t : ByteArray) (z : Int) (v : Value) : Prop := w.heap[g]? = some (.cells #[.string m, .string t, .int .i64 z, v, .bool false, .slice none 0 0] 29 (0, 0))
theorem QVarH.keep {w w' : World} {g : Nat} {m t : ByteArray} {z : Int} {v : Value} (h : QVarH w g m t z v) (hb : Below w.heap.size w w') : QVarH w' g m t z v := by
  unfold QVarH at *
  rw [hb.block g (Array.getElem?_eq_some_iff.1 h).1]; exact h
theorem oneQH (m t : ByteArray) (z : Int) (a : Option Addr) (n c : Nat) : (#[.string m, .string t, .int .i64 z, .slice a n c, .bool false, .slice none 0 0] : Array Value).all (·.oneCell') = true := by simp [Value.oneCell']
theorem QVarH.cells {w : World} {g : Nat} {m t : ByteArray} {z : Int} {v : Value} (h : QVarH w g m t z v) : w.cell? ⟨g, 2, none⟩ = some (.int .i64 z) ∧ w.cell? ⟨g, 3, none⟩ = some v := by
  refine ⟨?_, ?_⟩ <;> rw [cell_of_row _ _ _ _ _ _ h] <;> rfl
theorem QVarH.put {w : World} {g : Nat} {m t : ByteArray} {z : Int} {v u : Value} (h : QVarH w g m t z v) : QVarH (w.setCell ⟨g, 3, none⟩ u) g m t z u := by
  unfold QVarH; rw [heap_setCell_same _ _ _ _ _ _ h]; rfl
theorem QVarH.frozen {w : World} {g i : Nat} {m t : ByteArray} {z : Int} {v : Value} (h : QVarH w g m t z v) : w.frozen? ⟨g, i, none⟩ = false := by
  unfold QVarH at h; simp [World.frozen?, h]
theorem QVarH.cells6 {w : World} {g : Nat} {m t : ByteArray} {z : Int} {v : Value} (h : QVarH w g m t z v) : w.cell? ⟨g, 0, none⟩ = some (.string m) ∧ w.cell? ⟨g, 1, none⟩ = some (.string t) ∧ w.cell? ⟨g, 2, none⟩ = some (.int .i64 z) ∧ w.cell? ⟨g, 3, none⟩ = some v ∧ w.cell? ⟨g, 4, none⟩ = some (.bool false) ∧ w.cell? ⟨g, 5, none⟩ = some (.slice none 0 0) := by
  refine ⟨?_, ?_, ?_, ?_, ?_, ?_⟩ <;> rw [cell_of_row _ _ _ _ _ _ h] <;> rfl
theorem FldsIn.same {w w' : World} {a : Option Addr} {l : List Fld} (h : FldsIn w a l) (hs : ∀ y, a = some y → w'.heap[y.block]? = w.heap[y.block]?) : FldsIn w' a l := fun j hj => by
  obtain ⟨x, e, h1, h2⟩ := h j hj
  have hx := hs x e
  exact ⟨x, e, (cell_same (w := w) (w' := w') (by rw [add_block]; exact hx)).trans h1, (cell_same (w := w) (w' := w') (by rw [add_block]; exact hx)).trans h2⟩
theorem StrsAt.tail {w : World} {g : Nat} {s : ByteArray} {l : List ByteArray} (h : StrsAt w (some ⟨g, 0, none⟩) (s :: l)) : StrsAt w (some ⟨g, 1, none⟩) l := fun j hj => by
  obtain ⟨b, off, e, hc⟩ := h (j + 1) (by rw [List.length_cons]; omega)
  cases e
  refine ⟨g, 1, rfl, ?_⟩
  rw [show 1 + j = 0 + (j + 1) by omega]
  exact hc
theorem StrsAt.head {w : World} {g : Nat} {s : ByteArray} {l : List ByteArray} (h : StrsAt w (some ⟨g, 0, none⟩) (s :: l)) : w.cell? ⟨g, 0, none⟩ = some (.string s) := by
  obtain ⟨b, off, e, hc⟩ := h 0 (by simp)
  cases e
  exact hc
/-- As RetReqH, and the fields lie in a block of the call's own. -/
def RetReqF (w : World) (r : Int × ByteArray × ByteArray × Int × List Fld) (e : Ending) (w' : World) : Prop :=
  ∃ fa fc, e = .returned (.tuple #[.agg #[.string r.2.1, .string r.2.2.1, .int .i64 r.2.2.2.1, .slice fa r.2.2.2.2.length fc, .bool false, .slice none 0 0], .int .i64 r.1]) ∧ FldsIn w' fa r.2.2.2.2 ∧ (∀ y, fa = some y → w.heap.size ≤ y.block) ∧ Below w.heap.size w w'
end Go.Proofs.YtejbkbccljoldaaGreatDoor
namespace Go.Proofs.YtejbkbccljoldaaGreatDoor
open Go.RowKit

/-- What ParseReply returns: error, status, reason, minor version, fields. -/
def headA (b : List UInt8) : Int × Int × ByteArray × Int × List Fld :=
  match linesS b with
  | some (l0 :: ls) =>
    match parseA l0 with
    | some f => if (fieldsS ls).1 = 0 then (0, f.1, f.2.1, f.2.2, (fieldsS ls).2) else ((fieldsS ls).1, 0, ⟨#[]⟩, 0, [])
    | none => (2, 0, ⟨#[]⟩, 0, [])
  | _ => (2, 0, ⟨#[]⟩, 0, [])
/-- A reply's variable with its fields. -/
def AVarH (w : World) (g : Nat) (m : Int) (t : ByteArray) (z : Int) (v : Value) : Prop := w.heap[g]? = some (.cells #[.int .i64 m, .string t, .int .i64 z, v, .slice none 0 0] 31 (0, 0))
theorem AVarH.keep {w w' : World} {g : Nat} {m : Int} {t : ByteArray} {z : Int} {v : Value} (h : AVarH w g m t z v) (hb : Below w.heap.size w w') : AVarH w' g m t z v := by
  unfold AVarH at *
  rw [hb.block g (Array.getElem?_eq_some_iff.1 h).1]; exact h
theorem oneAH (m : Int) (t : ByteArray) (z : Int) (a : Option Addr) (n c : Nat) : (#[.int .i64 m, .string t, .int .i64 z, .slice a n c, .slice none 0 0] : Array Value).all (·.oneCell') = true := by simp [Value.oneCell']
theorem AVarH.cells {w : World} {g : Nat} {m : Int} {t : ByteArray} {z : Int} {v : Value} (h : AVarH w g m t z v) : w.cell? ⟨g, 2, none⟩ = some (.int .i64 z) ∧ w.cell? ⟨g, 3, none⟩ = some v := by
  refine ⟨?_, ?_⟩ <;> rw [cell_of_row _ _ _ _ _ _ h] <;> rfl
theorem AVarH.put {w : World} {g : Nat} {m : Int} {t : ByteArray} {z : Int} {v u : Value} (h : AVarH w g m t z v) : AVarH (w.setCell ⟨g, 3, none⟩ u) g m t z u := by
  unfold AVarH; rw [heap_setCell_same _ _ _ _ _ _ h]; rfl
theorem AVarH.frozen {w : World} {g i : Nat} {m : Int} {t : ByteArray} {z : Int} {v : Value} (h : AVarH w g m t z v) : w.frozen? ⟨g, i, none⟩ = false := by
  unfold AVarH at h; simp [World.frozen?, h]
theorem AVarH.cells5 {w : World} {g : Nat} {m : Int} {t : ByteArray} {z : Int} {v : Value} (h : AVarH w g m t z v) : w.cell? ⟨g, 0, none⟩ = some (.int .i64 m) ∧ w.cell? ⟨g, 1, none⟩ = some (.string t) ∧ w.cell? ⟨g, 2, none⟩ = some (.int .i64 z) ∧ w.cell? ⟨g, 3, none⟩ = some v ∧ w.cell? ⟨g, 4, none⟩ = some (.slice none 0 0) := by
  refine ⟨?_, ?_, ?_, ?_, ?_⟩ <;> rw [cell_of_row _ _ _ _ _ _ h] <;> rfl
/-- As RetRepH, and the fields lie in a block of the call's own. -/
def RetRepF (w : World) (r : Int × Int × ByteArray × Int × List Fld) (e : Ending) (w' : World) : Prop :=
  ∃ fa fc, e = .returned (.tuple #[.agg #[.int .i64 r.2.1, .string r.2.2.1, .int .i64 r.2.2.2.1, .slice fa r.2.2.2.2.length fc, .slice none 0 0], .int .i64 r.1]) ∧ FldsIn w' fa r.2.2.2.2 ∧ (∀ y, fa = some y → w.heap.size ≤ y.block) ∧ Below w.heap.size w w'
end Go.Proofs.YtejbkbccljoldaaGreatDoor
namespace Go.Proofs.YtejbkbccljoldaaGreatDoor
open Go.RowKit

theorem allB_no {l : List Fld} {k : Nat} (hk : k < l.length) (h : fldB l[k].1 l[k].2 = false) : allB l = false := by
  unfold allB
  rw [← Bool.not_eq_true, List.all_eq_true]
  intro h2
  have := h2 _ (List.getElem_mem hk)
  rw [h] at this; cases this
theorem allB_yes {l : List Fld} (h : ∀ f ∈ l, fldB f.1 f.2 = true) : allB l = true := by
  unfold allB
  exact List.all_eq_true.2 h
set_option maxRecDepth 100000 in
set_option maxHeartbeats 2000000 in
theorem refAllValid_any (l : List Fld) (a : Option Addr) (cap : Nat) (w : World) (h : FldsIn w a l) (hz : ShortF l) (hl : l.length ≤ 4000000) :
    Calls Tryz.prog 44 #[.slice a l.length cap] w fun e w' => e = .returned (.bool (allB l)) ∧ Below w.heap.size w w' := by
  have H0 := Box.mk h
  have HZ := Box.mk hz
  have HN := Box.mk (fun (k : Nat) (hk : k < l.length) h => allB_no hk h)
  have HY := Box.mk (fun h => allB_yes (l := l) h)
  generalize hR : allB l = R at *
  clear h hz hR
  go_enter Tryz.func44, Tryz.ntmps44
  go_wp2_with fail
  go_loopw [3] (fun iv wr => ∃ k : Nat, k ≤ l.length ∧ iv = .int .i64 k ∧ Box (Below w.heap.size w wr ∧ ∀ f ∈ l.take k, fldB f.1 f.2 = true)) (fun iv _ => l.length - (intOf iv).toNat)
  case atStart => exact ⟨0, Nat.zero_le _, rfl, ⟨Below.refl _ _, by simp⟩⟩
  case round =>
    obtain ⟨k, hk, rfl, HM⟩ := hrel
    by_cases hlt : k < l.length
    · obtain ⟨x, rfl, hx1, hx2⟩ := (H0.out.keep HM.out.1) k hlt
      have hx2 := cell_next hx2
      have HSZ := Box.mk (HZ.out _ (List.getElem_mem hlt))
      by_cases hv : fldB l[k].1 l[k].2 = true
      · have HALL := Box.mk (all_stepF hlt HM.out.2 hv)
        have HV := Box.mk hv
        clear hv
        generalize l[k] = f at *
        go_wp2_with fail
        refine (refFieldValid_any f.1 f.2 _ HSZ.out.1 HSZ.out.2).mono ?_
        rintro e w1 ⟨he, hb1⟩
        rw [HV.out] at he
        subst he
        have HB1 := Box.mk (below_trans HM.out.1 hb1)
        clear hb1 hx1 hx2
        go_wp2_with fail
        go_roundw
        case rel => exact ⟨k + 1, by omega, by go_num, ⟨HB1.out, HALL.out⟩⟩
        case measure => simp [intOf]; omega
      · have HV := Box.mk (show fldB l[k].1 l[k].2 = false by simpa using hv)
        have HP := Box.mk (HN.out k hlt HV.out)
        clear hv
        generalize l[k] = f at *
        go_wp2_with fail
        refine (refFieldValid_any f.1 f.2 _ HSZ.out.1 HSZ.out.2).mono ?_
        rintro e w1 ⟨he, hb1⟩
        rw [HV.out] at he
        subst he
        have HB1 := Box.mk (below_trans HM.out.1 hb1)
        clear hb1 hx1 hx2
        go_wp2_with fail
        go_ret
        exact ⟨ret_bool HP.out.symm, HB1.out⟩
    · have HP := Box.mk (HY.out (by have := HM.out.2; rw [List.take_of_length_le (by omega)] at this; exact this))
      go_wp2_with fail
      go_ret
      exact ⟨ret_bool HP.out.symm, HM.out.1⟩
/-- The bytes of a head with the start line s and the fields x; none if one of them cannot be written. -/
def headB (s : ByteArray) (x : List Fld) : List UInt8 := if s.size = 0 ∨ allB x = false then [] else s.data.toList ++ [13, 10] ++ linesB x ++ [13, 10]
theorem headB_no {s : ByteArray} {x : List Fld} (h : s.size = 0 ∨ allB x = false) : headB s x = [] := by unfold headB; rw [if_pos h]
theorem headB_yes {s : ByteArray} {x : List Fld} (h : ¬ s.size = 0) (h2 : allB x = true) : headB s x = s.data.toList ++ [13, 10] ++ linesB x ++ [13, 10] := by
  unfold headB
  rw [if_neg (fun e => e.elim h (fun e => by rw [h2] at e; cases e))]
/-- What FormatRequest and FormatReply return: nil, or the bytes of a string. -/
def RetHd (w : World) (l : List UInt8) (e : Ending) (w' : World) : Prop :=
  (l = [] ∧ e = .returned (.slice none 0 0) ∧ Below w.heap.size w w') ∨
  ∃ W s, s.data.toList = l ∧ 0 < l.length ∧ e = .returned (.slice (some ⟨W.heap.size, 0, none⟩) s.size (grownCap W s.size 0 5)) ∧ w' = Lib.bytesWorld W 5 s ∧ Below w.heap.size w W
theorem empty_s {y : ByteArray} (h : y.size = 0) : y.toList.isEmpty = true := by
  rw [ByteArray.toList_eq, List.isEmpty_iff, ← List.length_eq_zero_iff, Array.length_toList]; exact h
theorem full_s {y : ByteArray} (h : ¬ y.size = 0) : y.toList.isEmpty = false := by
  rw [← Bool.not_eq_true, ByteArray.toList_eq, List.isEmpty_iff, ← List.length_eq_zero_iff, Array.length_toList]; exact h
set_option maxRecDepth 100000 in
set_option maxHeartbeats 4000000 in
theorem refFmtReq_any (m t : ByteArray) (z : Int) (fr : Bool) (x : List Fld) (fa ba : Option Addr) (fc bn bc : Nat) (w : World) (hm : m.size ≤ 1000000000) (ht : t.size ≤ 1000000000) (hx : FldsIn w fa x) (hz : SmallF x) (hl : x.length ≤ 1000) (hq : (fmtReq m t z).size ≤ 4000000000) :
    Calls Tryz.prog 42 #[.agg #[.string m, .string t, .int .i64 z, .slice fa x.length fc, .bool fr, .slice ba bn bc]] w (RetHd w (headB (fmtReq m t z) x)) := by
  have HB0 := Box.mk (below_oneF w (.cells #[.string m, .string t, .int .i64 z, .slice fa x.length fc, .bool fr, .slice ba bn bc] 29))
  have hc3 : (w.alloc (.cells #[.string m, .string t, .int .i64 z, .slice fa x.length fc, .bool fr, .slice ba bn bc] 29)).cell? ⟨w.heap.size, 3, none⟩ = some (.slice fa x.length fc) := by rw [new_cellF]; rfl
  have HC3 := Box.mk hc3
  have HX0 := Box.mk (hx.keep HB0.out)
  have HZ := Box.mk hz
  have HCALL := Box.mk (fun W => refFormatReq_any m t z fa ba x.length fc bn bc fr W hm ht)
  have HN := Box.mk (fun h => headB_no (s := fmtReq m t z) (x := x) h)
  have HY := Box.mk (fun h h2 => headB_yes (s := fmtReq m t z) (x := x) h h2)
  generalize headB (fmtReq m t z) x = R at *
  generalize fmtReq m t z = s at *
  clear hx hz hc3
  go_enter Tryz.func42, Tryz.ntmps42
  go_wp2_with fail
  refine (HCALL.out _).mono ?_
  rintro e w1 ⟨rfl, hb1⟩
  have hd3 := below_cell hb1 HC3.out
  have HX1 := Box.mk (HX0.out.keep hb1)
  have HB1 := Box.mk (below_trans HB0.out hb1)
  have HD3 := Box.mk hd3
  clear hb1 HX0 HB0 HC3
  by_cases h0 : s.size = 0
  · have he := empty_s h0
    have HP := Box.mk (HN.out (.inl h0))
    clear h0 hd3
    go_wp2_with fail
    go_ret
    exact .inl ⟨HP.out, rfl, HB1.out⟩
  · have he := full_s h0
    have H0 := Box.mk h0
    clear h0
    go_wp2_with fail
    refine (refAllValid_any x fa fc _ HX1.out (fun f hf => ⟨le_maxLen (HZ.out f hf).1, le_maxLen (HZ.out f hf).2⟩) (by omega)).mono ?_
    rintro e w2 ⟨he2, hb2⟩
    have hd3 := below_cell hb2 HD3.out
    have HX2 := Box.mk (HX1.out.keep hb2)
    have HB2 := Box.mk (below_trans HB1.out hb2)
    clear hb2 HX1 HB1 HD3
    by_cases hv : allB x = true
    · rw [hv] at he2
      subst he2
      have HP := Box.mk (HY.out H0.out hv)
      have HF := Box.mk (show (fmtF x).data.toList = linesB x by unfold fmtF; rw [if_pos hv])
      have hfz : (fmtF x).size ≤ 1000 * 2097156 := by
        have h1 := linesB_len x HZ.out x.length
        rw [List.take_length] at h1
        have h2 := congrArg List.length HF.out
        rw [Array.length_toList] at h2
        have h3 : (fmtF x).data.size = (fmtF x).size := rfl
        have h4 : x.length * 2097156 ≤ 1000 * 2097156 := Nat.mul_le_mul_right _ hl
        omega
      have hadd1 := fun W => run_string_add_sum (P := Tryz.prog) (w := W) s ⟨#[13, 10]⟩ (by show s.size + 2 ≤ _; omega)
      obtain ⟨s1, hs1⟩ : ∃ s1, s1 = s ++ (⟨#[13, 10]⟩ : ByteArray) := ⟨_, rfl⟩
      rw [← hs1] at hadd1
      have hs1z : s1.size = s.size + 2 := by rw [hs1, ByteArray.size_append]; rfl
      have HFM := Box.mk (fun W (h : FldsIn W fa x) => refFormat_any x fa fc W h HZ.out (by omega))
      generalize fmtF x = f at *
      have hadd2 := fun W => run_string_add_sum (P := Tryz.prog) (w := W) s1 f (by omega)
      obtain ⟨s2, hs2⟩ : ∃ s2, s2 = s1 ++ f := ⟨_, rfl⟩
      rw [← hs2] at hadd2
      have hs2z : s2.size = s.size + 2 + f.size := by rw [hs2, ByteArray.size_append, hs1z]
      have hadd3 := fun W => run_string_add_sum (P := Tryz.prog) (w := W) s2 ⟨#[13, 10]⟩ (by show s2.size + 2 ≤ _; omega)
      obtain ⟨s3, hs3⟩ : ∃ s3, s3 = s2 ++ (⟨#[13, 10]⟩ : ByteArray) := ⟨_, rfl⟩
      rw [← hs3] at hadd3
      have HS3 := Box.mk (show s3.data.toList = R by
        rw [HP.out, hs3, hs2, hs1, ← HF.out]
        simp)
      have HRP := Box.mk (show 0 < R.length by rw [HP.out]; simp; omega)
      have hcvb := fun W => Lib.run_convert_string_bytes (P := Tryz.prog) W 9 23 5 s3 Tryz.underlying9 Tryz.underlying23 Tryz.underlying5
      clear hs1 hs2 hs3 hs1z hs2z hv
      go_wp2_with fail
      refine (HFM.out _ HX2.out).mono ?_
      rintro e w3 ⟨rfl, hb3⟩
      have HB3 := Box.mk (below_trans HB2.out hb3)
      clear hb3
      go_wp2_with fail
      go_ret
      exact .inr ⟨w3, s3, HS3.out, HRP.out, rfl, rfl, HB3.out⟩
    · have hv2 : allB x = false := by rw [← Bool.not_eq_true]; exact hv
      rw [hv2] at he2
      subst he2
      have HP := Box.mk (HN.out (.inr hv2))
      clear hv hv2
      go_wp2_with fail
      go_ret
      exact .inl ⟨HP.out, rfl, HB2.out⟩
end Go.Proofs.YtejbkbccljoldaaGreatDoor
namespace Go.Proofs.YtejbkbccljoldaaGreatDoor
open Go.RowKit

/-- The state of the decoder: the phase, the bytes left, the size of the trailer section, the line so far. -/
structure Chk where
  ph : Int
  left : Int
  tr : Int
  line : List UInt8
def zeroC : Chk := ⟨0, 0, 0, []⟩
/-- What stands ahead of the first semicolon. -/
def szS (y : ByteArray) : ByteArray := ((splitS 59 y)[0]?).getD ⟨#[]⟩
/-- What a complete line leads to: an error, or the state. -/
def lineS (s : Chk) (y : ByteArray) : Int × Chk :=
  if s.ph = 0 then
    (if (parseS 16 1000000000 (szS y)).2 = 2 ∨ visS y = false then (2, zeroC)
    else if (parseS 16 1000000000 (szS y)).2 = 0 then (0, ⟨if (parseS 16 1000000000 (szS y)).1 = 0 then 3 else 1, (parseS 16 1000000000 (szS y)).1, s.tr, []⟩)
    else ((parseS 16 1000000000 (szS y)).2, zeroC))
  else if s.ph = 2 then (if y.size = 0 then (0, ⟨0, s.left, s.tr, []⟩) else (2, zeroC))
  else if s.ph = 3 then (if y.size = 0 then (0, ⟨4, s.left, s.tr, []⟩) else if (parseF y).isSome = true then (0, ⟨3, s.left, s.tr, []⟩) else (2, zeroC))
  else (0, ⟨s.ph, s.left, s.tr, []⟩)
/-- The line ends with CR. -/
def crB (l : List UInt8) : Bool := l.getLast? == some 13
/-- One byte that belongs to a line, with the trailer section at t. -/
def byteS (s : Chk) (t : Int) (x : UInt8) : Int × Chk :=
  if crB s.line = false then
    (if x = 10 then (2, zeroC) else if 128 < s.line.length + 1 ∧ ¬ x = 13 then (3, zeroC) else (0, ⟨s.ph, s.left, t, s.line ++ [x]⟩))
  else if x = 10 then lineS ⟨s.ph, s.left, t, []⟩ ⟨s.line.dropLast.toArray⟩ else (2, zeroC)
/-- One byte that is not one of the body. -/
def stepS (s : Chk) (x : UInt8) : Int × Chk :=
  if s.ph = 3 then (if 1024 < s.tr + 1 then (3, zeroC) else byteS s (s.tr + 1) x) else byteS s s.tr x
/-- The decoder over many bytes: error, state, bytes of the body, number of bytes read. -/
def feedS (room : Int) : Chk → List UInt8 → Nat → List UInt8 → Int × Chk × List UInt8 × Nat
  | s, out, i, [] => (0, s, out, i)
  | s, out, i, x :: r =>
    if s.ph = 4 ∨ s.ph = 1 ∧ room ≤ out.length then (0, s, out, i)
    else if s.ph = 1 then feedS room ⟨if s.left - 1 = 0 then 2 else 1, s.left - 1, s.tr, s.line⟩ (out ++ [x]) (i + 1) r
    else if (stepS s x).1 = 0 then feedS room (stepS s x).2 out (i + 1) r
    else ((stepS s x).1, zeroC, [], 0)

/-- A variable with a state. -/
def CVar (w : World) (g : Nat) (p l t : Int) (v : Value) : Prop := w.heap[g]? = some (.cells #[.int .i64 p, .int .i64 l, .int .i64 t, v] 35 (0, 0))
theorem CVar.keep {w w' : World} {g : Nat} {p l t : Int} {v : Value} (h : CVar w g p l t v) (hb : Below w.heap.size w w') : CVar w' g p l t v := by
  unfold CVar at *
  rw [hb.block g (Array.getElem?_eq_some_iff.1 h).1]; exact h
theorem CVar.lt {w : World} {g : Nat} {p l t : Int} {v : Value} (h : CVar w g p l t v) : g < w.heap.size := (Array.getElem?_eq_some_iff.1 h).1
theorem CVar.cells {w : World} {g : Nat} {p l t : Int} {v : Value} (h : CVar w g p l t v) : w.cell? ⟨g, 0, none⟩ = some (.int .i64 p) ∧ w.cell? ⟨g, 1, none⟩ = some (.int .i64 l) ∧ w.cell? ⟨g, 2, none⟩ = some (.int .i64 t) ∧ w.cell? ⟨g, 3, none⟩ = some v := by
  refine ⟨?_, ?_, ?_, ?_⟩ <;> rw [cell_of_row _ _ _ _ _ _ h] <;> rfl
theorem sizeC : (Tryz.prog.info? 35).map (·.size) = some 4 := by kernel_rfl
theorem oneC (p l t : Int) (a : Option Addr) (n c : Nat) : (#[.int .i64 p, .int .i64 l, .int .i64 t, .slice a n c] : Array Value).all (·.oneCell') = true := by simp [Value.oneCell']
theorem CVar.setV {w : World} {g : Nat} {p l t : Int} {v u : Value} (h : CVar w g p l t v) : CVar (w.setCell ⟨g, 3, none⟩ u) g p l t u := by
  unfold CVar; rw [heap_setCell_same _ _ _ _ _ _ h]; rfl
theorem CVar.setP {w : World} {g : Nat} {p l t z : Int} {v : Value} (h : CVar w g p l t v) : CVar (w.setCell ⟨g, 0, none⟩ (.int .i64 z)) g z l t v := by
  unfold CVar; rw [heap_setCell_same _ _ _ _ _ _ h]; rfl
theorem CVar.setL {w : World} {g : Nat} {p l t z : Int} {v : Value} (h : CVar w g p l t v) : CVar (w.setCell ⟨g, 1, none⟩ (.int .i64 z)) g p z t v := by
  unfold CVar; rw [heap_setCell_same _ _ _ _ _ _ h]; rfl
theorem CVar.setT {w : World} {g : Nat} {p l t z : Int} {v : Value} (h : CVar w g p l t v) : CVar (w.setCell ⟨g, 2, none⟩ (.int .i64 z)) g p l z v := by
  unfold CVar; rw [heap_setCell_same _ _ _ _ _ _ h]; rfl
theorem CVar.other {w : World} {g : Nat} {p l t : Int} {v u : Value} {x : Addr} (h : CVar w g p l t v) (hne : g ≠ x.block) : CVar (w.setCell x u) g p l t v := by
  unfold CVar; rw [heap_setCell_other _ _ _ _ hne]; exact h
theorem CVar.frozen {w : World} {g i : Nat} {p l t : Int} {v : Value} (h : CVar w g p l t v) : w.frozen? ⟨g, i, none⟩ = false := by
  unfold CVar at h; simp [World.frozen?, h]
section
variable {ops : Array Oper} {rest : List Oper} {o : Oper} {act : Act} {Q : Exit → Act → World → Prop} {w : World}
theorem wpList_store_slice {P : Program} (hgd : o.guard = none) (ty : TypeId) (x y : Operand) (ho : o.op = .store ty x y) {p : Addr} {sa : Option Addr} {sn sc : Nat} {u : Value} (hx : act.eval x = .pointer (some p)) (hy : act.eval y = .slice sa sn sc) (hi : (P.info? ty).map (·.size) = some 1)
    (hc : w.cell? p = some u) (hf : w.frozen? p = false) (h : wpList P ops Q rest (act.put o.dst undef) (w.setCell p (.slice sa sn sc))) : wpList P ops Q (o :: rest) act w :=
  wpList_plain hgd fun K hK => by
    have hz : (sizeOf ty).run P w = .ok 1 w := by
      cases hq : P.info? ty with
      | none => rw [hq] at hi; cases hi
      | some i => rw [hq] at hi; simp at hi; simp [sizeOf, typeInfo, hq, hi]
    have h2 := hK _ _ h
    unfold Oper.wp execOp
    simp_all [Instr.storeAt, Instr.sureAddr, storeVar, storeCells, Value.cells, go_sem]
end
theorem Own.setC {B g i : Nat} {w : World} {v u : Value} {l : List UInt8} (h : Own B w v l) (hg : g < B) : Own B (w.setCell ⟨g, i, none⟩ u) v l :=
  h.same fun k hk => heap_setCell_other _ _ _ _ (by have := (h.lt hk).1; show k ≠ g; omega)
theorem Own.bytes {B : Nat} {w : World} {a : Option Addr} {l : List UInt8} {n c : Nat} (h : Own B w (.slice a n c) l) : IsBytes w a l c := by
  obtain ⟨a', c', e, hb⟩ := h.val
  injection e with e1 e2 e3
  subst e1 e3
  exact hb
theorem last_cases (l : List UInt8) : l = [] ∨ ∃ m z, l = m ++ [z] := by
  rcases List.eq_nil_or_concat l with h | ⟨m, z, h⟩
  · exact .inl h
  · exact .inr ⟨m, z, by rw [h, List.concat_eq_append]⟩
theorem crB_app (m : List UInt8) (z : UInt8) : crB (m ++ [z]) = (z == 13) := by unfold crB; simp
end Go.Proofs.YtejbkbccljoldaaGreatDoor
namespace Go.Proofs.YtejbkbccljoldaaGreatDoor
open Go.RowKit

theorem byteS_ten {s : Chk} {t : Int} (h : crB s.line = false) : byteS s t 10 = (2, zeroC) := by unfold byteS; rw [if_pos h, if_pos rfl]
theorem byteS_long {s : Chk} {t : Int} {x : UInt8} (h : crB s.line = false) (hx : ¬ x = 10) (hl : 128 < s.line.length + 1) (h13 : ¬ x = 13) : byteS s t x = (3, zeroC) := by
  unfold byteS; rw [if_pos h, if_neg hx, if_pos ⟨hl, h13⟩]
theorem byteS_more {s : Chk} {t : Int} {x : UInt8} (h : crB s.line = false) (hx : ¬ x = 10) (hl : ¬ (128 < s.line.length + 1 ∧ ¬ x = 13)) : byteS s t x = (0, ⟨s.ph, s.left, t, s.line ++ [x]⟩) := by
  unfold byteS; rw [if_pos h, if_neg hx, if_neg hl]
theorem byteS_bad {s : Chk} {t : Int} {x : UInt8} (h : crB s.line = true) (hx : ¬ x = 10) : byteS s t x = (2, zeroC) := by
  unfold byteS; rw [if_neg (by rw [h]; decide), if_neg hx]
theorem byteS_line {m : List UInt8} {p l t0 t : Int} : byteS ⟨p, l, t0, m ++ [13]⟩ t 10 = lineS ⟨p, l, t, []⟩ ⟨m.toArray⟩ := by
  unfold byteS; rw [if_neg (by rw [crB_app]; decide), if_pos rfl]; simp
theorem isBytes_front {w : World} {a : Option Addr} {m : List UInt8} {z : UInt8} {c : Nat} (h : IsBytes w a (m ++ [z]) c) : IsBytes w a m c := by
  rcases h with ⟨_, e, _⟩ | ⟨x, e, h1, h2, h3⟩
  · simp at e
  · refine .inr ⟨x, e, by simp at h1; omega, h2, fun j hj => ?_⟩
    have := h3 j (by simp; omega)
    rwa [List.getElem_append_left hj] at this

end Go.Proofs.YtejbkbccljoldaaGreatDoor
namespace Go.Proofs.YtejbkbccljoldaaGreatDoor
open Go.RowKit

theorem lineS_bad {l t : Int} {y : ByteArray} (h : (parseS 16 1000000000 (szS y)).2 = 2 ∨ visS y = false) : lineS ⟨0, l, t, []⟩ y = (2, zeroC) := by
  unfold lineS; rw [if_pos rfl, if_pos h]
theorem lineS_size {l t : Int} {y : ByteArray} (h : ¬ ((parseS 16 1000000000 (szS y)).2 = 2 ∨ visS y = false)) (h0 : (parseS 16 1000000000 (szS y)).2 = 0) : lineS ⟨0, l, t, []⟩ y = (0, ⟨if (parseS 16 1000000000 (szS y)).1 = 0 then 3 else 1, (parseS 16 1000000000 (szS y)).1, t, []⟩) := by
  unfold lineS; rw [if_pos rfl, if_neg h, if_pos h0]
theorem lineS_big {l t : Int} {y : ByteArray} (h : ¬ ((parseS 16 1000000000 (szS y)).2 = 2 ∨ visS y = false)) (h0 : ¬ (parseS 16 1000000000 (szS y)).2 = 0) : lineS ⟨0, l, t, []⟩ y = ((parseS 16 1000000000 (szS y)).2, zeroC) := by
  unfold lineS; rw [if_pos rfl, if_neg h, if_neg h0]
end Go.Proofs.YtejbkbccljoldaaGreatDoor
namespace Go.Proofs.YtejbkbccljoldaaGreatDoor
open Go.RowKit

theorem parse_range (s : ByteArray) : 0 ≤ (parseS 16 1000000000 s).1 ∧ (parseS 16 1000000000 s).1 ≤ 1000000000 ∧ ((parseS 16 1000000000 s).2 = 0 ∨ (parseS 16 1000000000 s).2 = 2 ∨ (parseS 16 1000000000 s).2 = 3) := by
  unfold parseS
  split
  · rename_i h
    have hne : s.data.toList ≠ [] := by
      intro e
      unfold numS at h
      rw [e] at h; simp at h
    have h1 := vgo_ge 16 (by decide) s.data.toList 0 (by decide)
    rw [pgo_eq 16 1000000000 (by decide) _ 0 (by decide) (.inr hne)]
    split
    · exact ⟨h1, by assumption, .inl rfl⟩
    · exact ⟨by decide, by decide, .inr (.inr rfl)⟩
  · exact ⟨by decide, by decide, .inr (.inl rfl)⟩

/-- A state that the decoder comes to. -/
structure OkC (s : Chk) : Prop where
  ph : 0 ≤ s.ph ∧ s.ph ≤ 4
  line : s.line.length ≤ 128 ∨ crB s.line = true ∧ s.line.length ≤ 129
  tr : 0 ≤ s.tr ∧ s.tr ≤ 1024
  tr0 : s.ph ≤ 2 → s.tr = 0
  data : s.ph = 1 → 1 ≤ s.left ∧ s.left ≤ 1000000000
  left : ¬ s.ph = 1 → s.left = 0
  empty : s.ph = 1 ∨ s.ph = 4 → s.line = []
theorem okC_mk {p l t : Int} {ln : List UInt8} (h1 : 0 ≤ p ∧ p ≤ 4) (h2 : ln.length ≤ 128 ∨ crB ln = true ∧ ln.length ≤ 129) (h3 : 0 ≤ t ∧ t ≤ 1024) (h4 : p ≤ 2 → t = 0) (h5 : p = 1 → 1 ≤ l ∧ l ≤ 1000000000) (h6 : ¬ p = 1 → l = 0) (h7 : p = 1 ∨ p = 4 → ln = []) : OkC ⟨p, l, t, ln⟩ := ⟨h1, h2, h3, h4, h5, h6, h7⟩
theorem isBytes_some {w : World} {a : Option Addr} {m : List UInt8} {z : UInt8} {c : Nat} (h : IsBytes w a (m ++ [z]) c) : ∃ ad, a = some ad := by
  rcases h with ⟨_, e, _⟩ | ⟨x, e, _⟩
  · simp at e
  · exact ⟨x, e⟩
theorem OkC.len {s : Chk} (h : OkC s) : s.line.length ≤ 129 := by
  rcases h.line with h | ⟨_, h⟩ <;> omega
theorem okC_zero : OkC zeroC := ⟨by decide, .inl (by decide), by decide, fun _ => rfl, fun h => absurd h (by decide), fun _ => rfl, fun _ => rfl⟩
theorem okC_line {s : Chk} {y : ByteArray} (h : OkC s) (hl : s.line = []) (h1 : ¬ s.ph = 1) (h0 : (lineS s y).1 = 0) : OkC (lineS s y).2 := by
  obtain ⟨p, l, t, ln⟩ := s
  simp only [] at hl h1
  subst hl
  have hp := h.ph
  have hlf := h.left h1
  simp only [] at hp hlf
  have hpr := parse_range (szS y)
  unfold lineS at h0 ⊢
  simp only [] at h0 ⊢
  by_cases e0 : p = 0
  · rw [if_pos e0] at h0 ⊢
    have ht := h.tr0 (by show p ≤ 2; omega)
    simp only [] at ht
    split at h0
    · simp at h0
    · rename_i hn
      rw [if_neg hn]
      split at h0
      · rename_i hz
        rw [if_pos hz]
        by_cases hn0 : (parseS 16 1000000000 (szS y)).1 = 0
        · simp only [if_pos hn0]
          exact okC_mk (by decide) (.inl (by decide)) (by omega) (fun h => absurd h (by decide)) (fun h => absurd h (by decide)) (fun _ => hn0) (fun _ => rfl)
        · simp only [if_neg hn0]
          exact okC_mk (by decide) (.inl (by decide)) (by omega) (fun _ => ht) (fun _ => by omega) (fun h => absurd rfl h) (fun _ => rfl)
      · rename_i hz
        exact absurd h0 hz
  · rw [if_neg e0] at h0 ⊢
    by_cases e2 : p = 2
    · rw [if_pos e2] at h0 ⊢
      have ht := h.tr0 (by show p ≤ 2; omega)
      simp only [] at ht
      split at h0
      · rename_i hs
        rw [if_pos hs]
        exact okC_mk (by decide) (.inl (by decide)) (by omega) (fun _ => ht) (fun h => absurd h (by decide)) (fun _ => hlf) (fun _ => rfl)
      · simp at h0
    · rw [if_neg e2] at h0 ⊢
      have htr := h.tr
      simp only [] at htr
      by_cases e3 : p = 3
      · rw [if_pos e3] at h0 ⊢
        split at h0
        · rename_i hs
          rw [if_pos hs]
          exact okC_mk (by decide) (.inl (by decide)) htr (fun h => absurd h (by decide)) (fun h => absurd h (by decide)) (fun _ => hlf) (fun _ => rfl)
        · rename_i hs
          rw [if_neg hs]
          split at h0
          · rename_i hf
            rw [if_pos hf]
            exact okC_mk (by decide) (.inl (by decide)) htr (fun h => absurd h (by decide)) (fun h => absurd h (by decide)) (fun _ => hlf) (fun _ => rfl)
          · simp at h0
      · rw [if_neg e3]
        exact okC_mk hp (.inl (by decide)) htr h.tr0 h.data h.left (fun _ => rfl)
theorem okC_byte {s : Chk} {t : Int} {x : UInt8} (h : OkC s) (h1 : ¬ s.ph = 1) (h4 : ¬ s.ph = 4) (ht : 0 ≤ t ∧ t ≤ 1024) (ht0 : s.ph ≤ 2 → t = 0) (h0 : (byteS s t x).1 = 0) : OkC (byteS s t x).2 := by
  unfold byteS at h0 ⊢
  by_cases hc : crB s.line = false
  · rw [if_pos hc] at h0 ⊢
    have hl : s.line.length ≤ 128 := by
      rcases h.line with h | ⟨h, _⟩
      · exact h
      · rw [hc] at h; cases h
    by_cases hx : x = 10
    · rw [if_pos hx] at h0; simp at h0
    · rw [if_neg hx] at h0 ⊢
      by_cases hb : 128 < s.line.length + 1 ∧ ¬ x = 13
      · rw [if_pos hb] at h0; simp at h0
      · rw [if_neg hb]
        refine ⟨h.ph, ?_, ht, ht0, h.data, h.left, fun e => ?_⟩
        · by_cases h13 : x = 13
          · exact .inr ⟨by show crB (s.line ++ [x]) = true; rw [crB_app, h13]; rfl, by show (s.line ++ [x]).length ≤ 129; simp; omega⟩
          · refine .inl ?_
            show (s.line ++ [x]).length ≤ 128
            simp
            have : ¬ 128 < s.line.length + 1 := fun h => hb ⟨h, h13⟩
            omega
        · rcases e with e | e
          · exact absurd e h1
          · exact absurd e h4
  · rw [if_neg hc] at h0 ⊢
    by_cases hx : x = 10
    · rw [if_pos hx] at h0 ⊢
      exact okC_line ⟨h.ph, .inl (by show ([] : List UInt8).length ≤ 128; simp), ht, ht0, h.data, h.left, fun _ => rfl⟩ rfl h1 h0
    · rw [if_neg hx] at h0; simp at h0
theorem okC_step {s : Chk} {x : UInt8} (h : OkC s) (h1 : ¬ s.ph = 1) (h4 : ¬ s.ph = 4) (h0 : (stepS s x).1 = 0) : OkC (stepS s x).2 := by
  unfold stepS at h0 ⊢
  by_cases h3 : s.ph = 3
  · rw [if_pos h3] at h0 ⊢
    by_cases hm : 1024 < s.tr + 1
    · rw [if_pos hm] at h0; simp at h0
    · rw [if_neg hm] at h0 ⊢
      exact okC_byte h h1 h4 (by have := h.tr; omega) (fun e => by omega) h0
  · rw [if_neg h3] at h0 ⊢
    exact okC_byte h h1 h4 h.tr h.tr0 h0
theorem okC_data {s : Chk} (h : OkC s) (h1 : s.ph = 1) : OkC ⟨if s.left - 1 = 0 then 2 else 1, s.left - 1, s.tr, s.line⟩ := by
  have hd := h.data h1
  by_cases e : s.left - 1 = 0
  · simp only [if_pos e]
    exact okC_mk (by decide) h.line h.tr (fun _ => h.tr0 (by omega)) (fun h => absurd h (by decide)) (fun _ => e) (fun _ => h.empty (.inl h1))
  · simp only [if_neg e]
    exact okC_mk (by decide) h.line h.tr (fun _ => h.tr0 (by omega)) (fun _ => by omega) (fun h => absurd rfl h) (fun _ => h.empty (.inl h1))
end Go.Proofs.YtejbkbccljoldaaGreatDoor
namespace Go.Proofs.YtejbkbccljoldaaGreatDoor
open Go.RowKit

theorem results_row_tmp3C {P : Program} {fn : Func} {q1 q2 q3 p : Tmp} {ty : TypeId} (h : fn.results = #[.cell p ty, .tmp q1, .tmp q2, .tmp q3]) (tmps : Array Value) (w : World) (g : Nat) (t : TypeId) (cs : Array Value) (fr : Nat × Nat) (d : TypeDesc)
    (hp : tmps.getD p undef = .pointer (some ⟨g, 0, none⟩)) (hg : w.heap[g]? = some (.cells cs t fr))
    (hu : P.underlying ty = some d) (hd : (match d with | .struct _ | .array _ _ => true | _ => false) = true) (hi : (P.info? ty).map (·.size) = some cs.size) :
    (results fn tmps).run P w = .ok (.tuple #[.agg cs, tmps.getD q1 undef, tmps.getD q2 undef, tmps.getD q3 undef]) w := by
  have hp' : tmps[p]?.getD undef = .pointer (some ⟨g, 0, none⟩) := by simpa using hp
  simp [results, h, hp', asAddr, run_loadVar_row w g t ty cs fr d hg hu hd hi]

theorem feedS_nil (room : Int) (s : Chk) (out : List UInt8) (i : Nat) : feedS room s out i [] = (0, s, out, i) := rfl
theorem feedS_stop {room : Int} {s : Chk} {out : List UInt8} {i : Nat} {x : UInt8} {r : List UInt8} (h : s.ph = 4 ∨ s.ph = 1 ∧ room ≤ out.length) : feedS room s out i (x :: r) = (0, s, out, i) := by rw [feedS, if_pos h]
theorem feedS_data {room : Int} {s : Chk} {out : List UInt8} {i : Nat} {x : UInt8} {r : List UInt8} (h1 : s.ph = 1) (h : ¬ room ≤ out.length) : feedS room s out i (x :: r) = feedS room ⟨if s.left - 1 = 0 then 2 else 1, s.left - 1, s.tr, s.line⟩ (out ++ [x]) (i + 1) r := by
  rw [feedS, if_neg (by rintro (h4 | h4); · omega
                        · exact h h4.2), if_pos h1]
theorem feedS_ok {room : Int} {s : Chk} {out : List UInt8} {i : Nat} {x : UInt8} {r : List UInt8} (h4 : ¬ s.ph = 4) (h1 : ¬ s.ph = 1) (h0 : (stepS s x).1 = 0) : feedS room s out i (x :: r) = feedS room (stepS s x).2 out (i + 1) r := by
  rw [feedS, if_neg (by rintro (h | h); · exact h4 h
                        · exact h1 h.1), if_neg h1, if_pos h0]
theorem feedS_err {room : Int} {s : Chk} {out : List UInt8} {i : Nat} {x : UInt8} {r : List UInt8} (h4 : ¬ s.ph = 4) (h1 : ¬ s.ph = 1) (h0 : ¬ (stepS s x).1 = 0) : feedS room s out i (x :: r) = ((stepS s x).1, zeroC, [], 0) := by
  rw [feedS, if_neg (by rintro (h | h); · exact h4 h
                        · exact h1 h.1), if_neg h1, if_neg h0]
theorem add_blockC (x : Addr) (j : Nat) : (x.add j).block = x.block := by unfold Addr.add; split <;> rfl
theorem isBytes_at {w : World} {a : Option Addr} {l : List UInt8} {c : Nat} (h : IsBytes w a l c) {k : Nat} (hk : k < l.length) : ∃ ad, a = some ad ∧ w.cell? (ad.add k) = some (.int .u8 (l[k].toNat : Int)) := by
  rcases h with ⟨_, e, _⟩ | ⟨x, e, _, _, hc⟩
  · subst e; simp at hk
  · exact ⟨x, e, hc k hk⟩
theorem CVar.away {w : World} {g : Nat} {p lf t : Int} {va : Option Addr} {n vc : Nat} {a : Option Addr} {l : List UInt8} {c : Nat} (h : CVar w g p lf t (.slice va n vc)) (hb : IsBytes w a l c) : ∀ x, a = some x → l ≠ [] → x.block ≠ g := by
  intro x hx hl hg
  rcases hb with ⟨h1, _⟩ | ⟨y, h1, _, _, h4⟩
  · rw [h1] at hx; cases hx
  · rw [h1] at hx
    obtain rfl := Option.some.inj hx
    have h5 := h4 0 (List.length_pos_iff.2 hl)
    have h6 : w.heap[(y.add 0).block]? = some (.cells #[.int .i64 p, .int .i64 lf, .int .i64 t, .slice va n vc] 35 (0, 0)) := by rw [add_blockC, hg]; exact h
    unfold World.cell? at h5
    rw [h6] at h5
    simp only at h5
    split at h5
    · cases h5
    · match hq : (y.add 0).off with
      | 0 => rw [hq] at h5; simp at h5
      | 1 => rw [hq] at h5; simp at h5
      | 2 => rw [hq] at h5; simp at h5
      | 3 => rw [hq] at h5; simp at h5
      | m + 4 => rw [hq] at h5; simp at h5
theorem CVar.setCB {w : World} {g i : Nat} {p lf t : Int} {va : Option Addr} {n vc : Nat} {a : Option Addr} {l : List UInt8} {c : Nat} {u : Value} (h : CVar w g p lf t (.slice va n vc)) (hb : IsBytes w a l c) : IsBytes (w.setCell ⟨g, i, none⟩ u) a l c :=
  hb.same fun x hx hl => heap_setCell_other _ _ _ _ (h.away hb x hx hl)
theorem CVar.row {w : World} {g k : Nat} {p l t : Int} {v : Value} {cs : Array Value} (h : CVar w g p l t v) (hne : g ≠ k) : CVar (w.setRow k cs) g p l t v := by
  unfold CVar; rw [setRow_other _ _ _ _ hne]; exact h
theorem CVar.set4 {w : World} {g : Nat} {p0 l0 t0 p l t : Int} {v0 u : Value} (h : CVar w g p0 l0 t0 v0) : CVar ((((w.setCell ⟨g, 0, none⟩ (.int .i64 p)).setCell ⟨g, 1, none⟩ (.int .i64 l)).setCell ⟨g, 2, none⟩ (.int .i64 t)).setCell ⟨g, 3, none⟩ u) g p l t u := h.setP.setL.setT.setV
theorem CVar.set4B {w : World} {g : Nat} {p0 l0 t0 p l t : Int} {va : Option Addr} {n vc : Nat} {u : Value} {a : Option Addr} {r : List UInt8} {c : Nat} (h : CVar w g p0 l0 t0 (.slice va n vc)) (hb : IsBytes w a r c) :
    IsBytes ((((w.setCell ⟨g, 0, none⟩ (.int .i64 p)).setCell ⟨g, 1, none⟩ (.int .i64 l)).setCell ⟨g, 2, none⟩ (.int .i64 t)).setCell ⟨g, 3, none⟩ u) a r c :=
  h.setP.setL.setT.setCB (h.setP.setL.setCB (h.setP.setCB (h.setCB hb)))
theorem below_set4 {B g : Nat} {w0 w : World} {u0 u1 u2 u3 : Value} (hb : Below B w0 w) (hg : B ≤ g) : Below B w0 ((((w.setCell ⟨g, 0, none⟩ u0).setCell ⟨g, 1, none⟩ u1).setCell ⟨g, 2, none⟩ u2).setCell ⟨g, 3, none⟩ u3) :=
  (((hb.setCell (p := ⟨g, 0, none⟩) hg u0).setCell (p := ⟨g, 1, none⟩) hg u1).setCell (p := ⟨g, 2, none⟩) hg u2).setCell (p := ⟨g, 3, none⟩) hg u3
theorem isBytes_oneC (w : World) (x : UInt8) : IsBytes (w.alloc (.cells #[.int .u8 (x.toNat : Int)] 5)) (some ⟨w.heap.size, 0, none⟩) [x] 1 := by
  refine .inr ⟨_, rfl, Nat.le_refl _, by decide, fun j hj => ?_⟩
  obtain rfl : j = 0 := by simpa using hj
  rw [Addr.add_lit, new_cellF]; rfl
theorem CVar.grownC {w w' : World} {g : Nat} {p l t : Int} {v : Value} {row : Option Nat} (h : CVar w g p l t v) (hg : w.grownBy w' row) (hne : some g ≠ row) : CVar w' g p l t v := by
  unfold CVar at *
  rw [hg.block g (Array.getElem?_eq_some_iff.1 h).1 hne]; exact h
theorem grownBy_afterC {w w1 w2 : World} {row : Option Nat} (h : Below w.heap.size w w1) (k : w1.grownBy w2 row) : w.grownBy w2 row :=
  ⟨k.os.trans h.os, k.tape.trans h.tape, k.output.trans h.output, Nat.le_trans h.size k.size, fun i hi hne => (k.block i (Nat.lt_of_lt_of_le hi h.size) hne).trans (h.block i hi)⟩
section
variable {Q : Exit → Act → World → Prop} {act : Act} {w : World} {o : Oper} {s : Spec} {K : Act → World → Prop}
theorem loc_loadB {x : Operand} {t : TypeId} (ho : o.op = .load t x) {p : Addr} (hx : act.eval x = .pointer (some p)) {v : Value} (hc : w.cell? p = some v) (ht : (isAgg t).run Tryz.prog w = .ok false w) (hs : s.p v w) :
    o.wp Tryz.prog act w (fun a' w' => ∃ v, a' = act.put o.dst v ∧ Below w.heap.size w w' ∧ s.p v w') Q :=
  loc_load ho (v := v) (by
    rw [hx]
    simp [Instr.loadAt, Instr.sureAddr, loadVar, hc, ht]) hs
end
section
variable {Q : Exit → Act → World → Prop} {act : Act} {w : World} {o : Oper} {s : Spec} {K : Act → World → Prop}
end
end Go.Proofs.YtejbkbccljoldaaGreatDoor
namespace Go.Proofs.YtejbkbccljoldaaGreatDoor
open Go.RowKit

/-- The reader's state. -/
structure RS where
  rep : Bool
  meth : ByteArray
  ph : Int
  m : ByteArray
  t : ByteArray
  z : Int
  xs : List Fld
  fr : Bool
  st : Int
  rs : ByteArray
  z2 : Int
  ys : List Fld
  fk : Int
  fl : Int
  left : Int
  size : Int
  ck : Chk
def zeroR : RS := ⟨false, ⟨#[]⟩, 0, ⟨#[]⟩, ⟨#[]⟩, 0, [], false, 0, ⟨#[]⟩, 0, [], 0, 0, 0, 0, zeroC⟩
/-- What Next returns: error, state, kind, bytes of the body, bytes that were consumed. -/
structure NX where
  er : Int
  r : RS
  kind : Int
  data : List UInt8
  n : Nat
def errX (e : Int) : NX := ⟨e, zeroR, 0, [], 0⟩
/-- A message x with the frame f was read, in n bytes. -/
def finX (x : RS) (f : Int × Int × Int) (n : Nat) (body : Int) : NX :=
  if f.2.2 ≠ 0 then errX (if f.2.2 = 3 then 9 else f.2.2)
  else if f.1 = 2 ∧ body < f.2.1 then errX 9
  else ⟨0, { x with fk := f.1, fl := f.2.1, left := f.2.1, size := 0, ck := zeroC, ph := 1 }, 1, [], n⟩
def headX (r : RS) (h : List UInt8) (body : Int) : NX :=
  if r.rep = true then
    (if (headA h).1 ≠ 0 then errX (headA h).1
    else if (headA h).2.1 = 101 then errX 2
    else if 100 ≤ (headA h).2.1 ∧ (headA h).2.1 ≤ 199 then ⟨0, r, 4, [], h.length⟩
    else finX { r with st := (headA h).2.1, rs := (headA h).2.2.1, z2 := (headA h).2.2.2.1, ys := (headA h).2.2.2.2 } (replyS r.meth (headA h).2.1 (headA h).2.2.2.1 (headA h).2.2.2.2) h.length body)
  else
    (if (headR h).1 ≠ 0 then errX (headR h).1
    else finX { r with m := (headR h).2.1, t := (headR h).2.2.1, z := (headR h).2.2.2.1, xs := (headR h).2.2.2.2, fr := !decide ((frameS (headR h).2.2.2.1 (headR h).2.2.2.2 1).1 = 1) } (frameS (headR h).2.2.2.1 (headR h).2.2.2.2 1) h.length body)
def firstX (r : RS) (b : List UInt8) (most body : Int) : NX :=
  if (endS b most).2 = 4 then ⟨0, r, 0, [], 0⟩
  else if (endS b most).2 ≠ 0 then errX (endS b most).2
  else headX r (b.take (endS b most).1.toNat) body
def minI (a b : Int) : Int := if a ≤ b then a else b
def moreX (r : RS) (b : List UInt8) (body room : Int) : NX :=
  if r.fk = 1 ∨ r.fk = 2 then
    (if r.fk = 1 ∨ r.left = 0 then ⟨0, { r with ph := 2 }, 3, [], 0⟩
    else if minI (minI r.left room) b.length = 0 then ⟨0, r, 0, [], 0⟩
    else ⟨0, { r with left := r.left - minI (minI r.left room) b.length, size := r.size + minI (minI r.left room) b.length }, 2, b.take (minI (minI r.left room) b.length).toNat, (minI (minI r.left room) b.length).toNat⟩)
  else if r.fk = 3 then
    (if (feedS (minI room (body + 1 - r.size)) r.ck [] 0 b).1 ≠ 0 then errX (feedS (minI room (body + 1 - r.size)) r.ck [] 0 b).1
    else if body < r.size + (feedS (minI room (body + 1 - r.size)) r.ck [] 0 b).2.2.1.length then errX 9
    else if 0 < (feedS (minI room (body + 1 - r.size)) r.ck [] 0 b).2.2.1.length then
      ⟨0, { r with ck := (feedS (minI room (body + 1 - r.size)) r.ck [] 0 b).2.1, size := r.size + (feedS (minI room (body + 1 - r.size)) r.ck [] 0 b).2.2.1.length }, 2, (feedS (minI room (body + 1 - r.size)) r.ck [] 0 b).2.2.1, (feedS (minI room (body + 1 - r.size)) r.ck [] 0 b).2.2.2⟩
    else if (feedS (minI room (body + 1 - r.size)) r.ck [] 0 b).2.1.ph = 4 then
      ⟨0, { r with ck := (feedS (minI room (body + 1 - r.size)) r.ck [] 0 b).2.1, ph := 2 }, 3, [], (feedS (minI room (body + 1 - r.size)) r.ck [] 0 b).2.2.2⟩
    else ⟨0, { r with ck := (feedS (minI room (body + 1 - r.size)) r.ck [] 0 b).2.1 }, 0, [], (feedS (minI room (body + 1 - r.size)) r.ck [] 0 b).2.2.2⟩)
  else
    (if minI (minI room b.length) (body + 1 - r.size) ≤ 0 then ⟨0, r, 0, [], 0⟩
    else if body < r.size + minI (minI room b.length) (body + 1 - r.size) then errX 9
    else ⟨0, { r with size := r.size + minI (minI room b.length) (body + 1 - r.size) }, 2, b.take (minI (minI room b.length) (body + 1 - r.size)).toNat, (minI (minI room b.length) (body + 1 - r.size)).toNat⟩)
def nextX (r : RS) (b : List UInt8) (most body room : Int) : NX :=
  if r.ph = 0 then firstX r b most body else if r.ph = 1 then moreX r b body (if room ≤ 0 then 0 else room) else ⟨0, r, 0, [], 0⟩
/-- What the state's slices hold; the fields lie in blocks that B allows. -/
structure RMem (B : Nat → Prop) (w : World) (s : RS) (fa ga la : Option Addr) (lc : Nat) : Prop where
  f1 : FldsIn w fa s.xs
  f2 : FldsIn w ga s.ys
  ln : IsBytes w la s.ck.line lc
  n1 : ∀ y, fa = some y → s.xs ≠ [] → B y.block
  n2 : ∀ y, ga = some y → s.ys ≠ [] → B y.block
theorem RMem.keep {B : Nat → Prop} {w w' : World} {s : RS} {fa ga la : Option Addr} {lc : Nat} (h : RMem B w s fa ga la lc) (hb : Below w.heap.size w w') : RMem B w' s fa ga la lc :=
  ⟨h.f1.keep hb, h.f2.keep hb, h.ln.keep hb, h.n1, h.n2⟩
/-- What Next returns, in memory. -/
def RetX (B : Nat → Prop) (w : World) (x : NX) (e : Ending) (w' : World) : Prop :=
  ∃ fa fc ga gc la lc pa pc, e = .returned (.tuple #[.agg #[.bool x.r.rep, .string x.r.meth, .int .i64 x.r.ph, .string x.r.m, .string x.r.t, .int .i64 x.r.z, .slice fa (List.length x.r.xs) fc, .bool x.r.fr, .slice none 0 0, .int .i64 x.r.st, .string x.r.rs, .int .i64 x.r.z2, .slice ga (List.length x.r.ys) gc, .slice none 0 0, .int .i64 x.r.fk, .int .i64 x.r.fl, .int .i64 x.r.left, .int .i64 x.r.size, .int .i64 x.r.ck.ph, .int .i64 x.r.ck.left, .int .i64 x.r.ck.tr, .slice la (List.length x.r.ck.line) lc], .agg #[.int .i64 x.kind, .slice pa (List.length x.data) pc], .int .i64 x.n, .int .i64 x.er]) ∧ RMem B w' x.r fa ga la lc ∧ IsBytes w' pa x.data pc ∧ Below w.heap.size w w'
/-- The states that come up. -/
structure OkR (s : RS) : Prop where
  ck : OkC s.ck
  left : s.fk = 2 → 0 ≤ s.left ∧ s.left + s.size ≤ 1000000000
  size : 0 ≤ s.size ∧ s.size ≤ 1000000000
  xs : ShortF s.xs ∧ s.xs.length ≤ 64
  ys : ShortF s.ys ∧ s.ys.length ≤ 64

theorem results_rrttR {P : Program} {fn : Func} {q1 q2 p1 p2 : Tmp} {ty1 ty2 : TypeId} (h : fn.results = #[.cell p1 ty1, .cell p2 ty2, .tmp q1, .tmp q2]) (tmps : Array Value) (w : World) (g1 g2 : Nat) (t1 t2 : TypeId) (c1 c2 : Array Value) (f1 f2 : Nat × Nat) (d1 d2 : TypeDesc)
    (hp1 : tmps.getD p1 undef = .pointer (some ⟨g1, 0, none⟩)) (hp2 : tmps.getD p2 undef = .pointer (some ⟨g2, 0, none⟩)) (hg1 : w.heap[g1]? = some (.cells c1 t1 f1)) (hg2 : w.heap[g2]? = some (.cells c2 t2 f2))
    (hu1 : P.underlying ty1 = some d1) (hd1 : (match d1 with | .struct _ | .array _ _ => true | _ => false) = true) (hi1 : (P.info? ty1).map (·.size) = some c1.size)
    (hu2 : P.underlying ty2 = some d2) (hd2 : (match d2 with | .struct _ | .array _ _ => true | _ => false) = true) (hi2 : (P.info? ty2).map (·.size) = some c2.size) :
    (results fn tmps).run P w = .ok (.tuple #[.agg c1, .agg c2, tmps.getD q1 undef, tmps.getD q2 undef]) w := by
  have hp1' : tmps[p1]?.getD undef = .pointer (some ⟨g1, 0, none⟩) := by simpa using hp1
  have hp2' : tmps[p2]?.getD undef = .pointer (some ⟨g2, 0, none⟩) := by simpa using hp2
  simp [results, h, hp1', hp2', asAddr, run_loadVar_row w g1 t1 ty1 c1 f1 d1 hg1 hu1 hd1 hi1, run_loadVar_row w g2 t2 ty2 c2 f2 d2 hg2 hu2 hd2 hi2]
theorem sizeRd : (Tryz.prog.info? 37).map (·.size) = some 22 := by kernel_rfl
theorem sizePt : (Tryz.prog.info? 41).map (·.size) = some 2 := by kernel_rfl
/-- A reader's variable. -/
def RVr (w : World) (g : Nat) (cs : Array Value) : Prop := w.heap[g]? = some (.cells cs 37 (0, 0))
theorem RVr.keep {w w' : World} {g : Nat} {cs : Array Value} (h : RVr w g cs) (hb : Below w.heap.size w w') : RVr w' g cs := by
  unfold RVr at *
  rw [hb.block g (Array.getElem?_eq_some_iff.1 h).1]; exact h
theorem RVr.lt {w : World} {g : Nat} {cs : Array Value} (h : RVr w g cs) : g < w.heap.size := (Array.getElem?_eq_some_iff.1 h).1
theorem RVr.cell {w : World} {g : Nat} {cs : Array Value} (h : RVr w g cs) (i : Nat) : w.cell? ⟨g, i, none⟩ = cs[i]? := cell_of_row _ _ _ _ _ _ h
/-- A part's variable. -/
def PVr (w : World) (g : Nat) (cs : Array Value) : Prop := w.heap[g]? = some (.cells cs 41 (0, 0))
theorem PVr.keep {w w' : World} {g : Nat} {cs : Array Value} (h : PVr w g cs) (hb : Below w.heap.size w w') : PVr w' g cs := by
  unfold PVr at *
  rw [hb.block g (Array.getElem?_eq_some_iff.1 h).1]; exact h
end Go.Proofs.YtejbkbccljoldaaGreatDoor
namespace Go.Proofs.YtejbkbccljoldaaGreatDoor
open Go.RowKit

theorem fieldsGo_le (M : Nat) : ∀ (l : List ByteArray) (x : List Fld), fieldsGo l = some x → (∀ s ∈ l, s.size ≤ M) → ∀ f ∈ x, f.1.size ≤ M ∧ f.2.size ≤ M
  | [], x, h, _ => by
    cases h
    exact fun f hf => absurd hf (by simp)
  | t :: l, x, h, hz => by
    unfold fieldsGo at h
    cases ht : parseF t with
    | none => rw [ht] at h; cases h
    | some f =>
      rw [ht] at h
      simp only at h
      cases hx : fieldsGo l with
      | none => rw [hx] at h; cases h
      | some y =>
        rw [hx] at h
        simp only [Option.map_some, Option.some.injEq] at h
        subst h
        have h1 := fieldsGo_le M l y hx (fun s hs => hz s (List.mem_cons_of_mem _ hs))
        have h3 := parseF_small ht
        have h4 := hz t (List.mem_cons_self ..)
        intro g hg
        rcases List.mem_cons.1 hg with rfl | hg
        · exact ⟨Nat.le_trans h3.1 h4, Nat.le_trans h3.2 h4⟩
        · exact h1 g hg
theorem fieldsS_sm {l : List ByteArray} (hz : ∀ s ∈ l, s.size ≤ 1000000) : SmallF (fieldsS l).2 ∧ (fieldsS l).2.length ≤ 64 := by
  unfold fieldsS
  split
  · exact ⟨fun f hf => absurd hf (by simp), by simp⟩
  · rename_i h64
    cases hx : fieldsGo l with
    | none => exact ⟨fun f hf => absurd hf (by simp), by simp⟩
    | some y =>
      have h1 := fieldsGo_le 1000000 l y hx hz
      have h2 := (fieldsGo_small l y hx (fun s hs => Nat.le_trans (hz s hs) (by decide))).2
      exact ⟨fun f hf => ⟨Nat.le_trans (h1 f hf).1 (by decide), Nat.le_trans (h1 f hf).2 (by decide)⟩, by simp only; omega⟩
theorem small_nil : SmallF [] ∧ ([] : List Fld).length ≤ 64 := ⟨fun f hf => absurd hf (by simp), by simp⟩
theorem headA_sm {b : List UInt8} (hl : b.length ≤ 1000000) : SmallF (headA b).2.2.2.2 ∧ (headA b).2.2.2.2.length ≤ 64 := by
  unfold headA
  split
  · rename_i l0 ls hL
    have hz := (linesS_facts hL).1
    split
    · split
      · exact fieldsS_sm fun s hs => Nat.le_trans (hz s (List.mem_cons_of_mem _ hs)) hl
      · exact small_nil
    · exact small_nil
  · exact small_nil
theorem headR_sm {b : List UInt8} (hl : b.length ≤ 1000000) : SmallF (headR b).2.2.2.2 ∧ (headR b).2.2.2.2.length ≤ 64 := by
  unfold headR
  split
  · rename_i l0 ls hL
    have hz := (linesS_facts hL).1
    split
    · split
      · split
        · exact small_nil
        · exact fieldsS_sm fun s hs => Nat.le_trans (hz s (List.mem_cons_of_mem _ hs)) hl
      · exact small_nil
    · exact small_nil
  · exact small_nil
theorem total_sm {l : List Fld} (h : SmallF l) (hl : l.length ≤ 64) (n : ByteArray) : total (valuesL l n) ≤ 4000000000 := Nat.le_trans (total_values h n) (Nat.le_trans (Nat.mul_le_mul_right _ hl) (by decide))
/-- End found an end. -/
theorem endS_ok {b : List UInt8} {most : Int} (h : (endS b most).2 = 0) : ∃ n : Nat, endS b most = ((n : Int), 0) ∧ 4 ≤ n ∧ n ≤ b.length := by
  unfold endS at h ⊢
  split at h
  · rename_i hc
    rcases endGo_range b 0 with h1 | ⟨k, h1, h2, h3⟩
    · have : endZ b = -1 := h1
      omega
    · have h4 : endZ b = k := h1
      rw [if_pos hc, h4]
      exact ⟨k, rfl, by omega, by omega⟩
  · split at h <;> cases h
end Go.Proofs.YtejbkbccljoldaaGreatDoor
namespace Go.Proofs.YtejbkbccljoldaaGreatDoor
open Go.RowKit

theorem oneRd (r : Bool) (p : ByteArray) (a2 : Int) (a3 a4 : ByteArray) (a5 : Int) (x6 : Option Addr) (n6 c6 : Nat) (b7 : Bool) (a9 : Int) (a10 : ByteArray) (a11 : Int) (x12 : Option Addr) (n12 c12 : Nat) (a14 a15 a16 a17 a18 a19 a20 : Int) (x21 : Option Addr) (n21 c21 : Nat) : (#[.bool r, .string p, .int .i64 a2, .string a3, .string a4, .int .i64 a5, .slice x6 n6 c6, .bool b7, .slice none 0 0, .int .i64 a9, .string a10, .int .i64 a11, .slice x12 n12 c12, .slice none 0 0, .int .i64 a14, .int .i64 a15, .int .i64 a16, .int .i64 a17, .int .i64 a18, .int .i64 a19, .int .i64 a20, .slice x21 n21 c21] : Array Value).all (·.oneCell') = true := by simp [Value.oneCell']
theorem onePt (k : Int) (a : Option Addr) (n c : Nat) : (#[.int .i64 k, .slice a n c] : Array Value).all (·.oneCell') = true := by simp [Value.oneCell']
section
variable (B : Nat → Prop) (s : RS) (b : List UInt8) (most body : Int) (ba : Option Addr) (bc : Nat) (fa ga la : Option Addr) (fc gc lc : Nat) (w : World)
end
end Go.Proofs.YtejbkbccljoldaaGreatDoor
namespace Go.Proofs.YtejbkbccljoldaaGreatDoor
open Go.RowKit

section
variable {w wr : World} {g : Nat} {s : St} {n : Int} {dt tv bv : Value} {blk : List UInt8}
end
section
variable {P : Program} {ops : Array Oper} {rest : List Oper} {o : Oper} {a : Act} {w : World} {Q : Exit → Act → World → Prop}
/-- A whole array, stored into the cells of a greater variable. -/
theorem wpList_store_sub (hgd : o.guard = none) (ty : TypeId) (x y : Operand) (ho : o.op = .store ty x y)
    (g off : Nat) (cells : Array Value) (hx : a.eval x = .pointer (some ⟨g, off, none⟩)) (hy : a.eval y = .agg cells)
    (t : TypeId) (cur new : Array Value) (hg : w.heap[g]? = some (.cells cur t (0, 0))) (hi : (P.info? ty).map (·.size) = some cells.size)
    (hfit : off + cells.size ≤ cur.size) (h1 : cells.all (·.oneCell') = true) (hn : (cur.toList.take off ++ cells.toList ++ cur.toList.drop (off + cells.size)).toArray = new)
    (h : wpList P ops Q rest (a.put o.dst undef) (w.setRow g new)) : wpList P ops Q (o :: rest) a w :=
  wpList_plain hgd fun K hK => by
    have hst := run_storeCells_at P g off t cells.toList 0 cur w hg (by simpa using hfit) (fun v hv => (Array.all_eq_true_iff_forall_mem.1 h1) v (by simpa using hv))
    have hsv : (storeVar ty ⟨g, off, none⟩ (.agg cells)).run P w = .ok () (w.setRow g new) := by
      cases hq : P.info? ty with
      | none => simp [hq] at hi
      | some i =>
        have hs : cells.size = i.size := by simp [hq] at hi; omega
        rw [← hn]
        simpa [storeVar, sizeOf, typeInfo, hq, Value.cells, hs] using hst
    unfold Oper.wp execOp
    simp only [ho, hx, hy, Instr.storeAt, Instr.sureAddr, Sem.run_bind, Sem.run_pure, Result.andThen_ok, hsv]
    exact hK _ _ h
end
end Go.Proofs.YtejbkbccljoldaaGreatDoor
namespace Go.Proofs.YtejbkbccljoldaaGreatDoor
open Go.RowKit

theorem isBytes_takeR {w : World} {a : Option Addr} {l : List UInt8} {c : Nat} (h : IsBytes w a l c) (k : Nat) : IsBytes w a (l.take k) c := by
  rcases h with ⟨h1, h2, h3⟩ | ⟨x, h1, h2, h3, h4⟩
  · subst h3
    exact .inl ⟨h1, by rw [h2, List.take_nil], rfl⟩
  · refine .inr ⟨x, h1, Nat.le_trans (by rw [List.length_take]; omega) h2, h3, fun j hj => ?_⟩
    have hj2 : j < l.length := by rw [List.length_take] at hj; omega
    rw [List.getElem_take]
    exact h4 j hj2
section
variable (B : Nat → Prop) (s : RS) (b : List UInt8) (most body : Int) (ba : Option Addr) (bc : Nat) (fa ga la : Option Addr) (fc gc lc : Nat) (w : World)
end
end Go.Proofs.YtejbkbccljoldaaGreatDoor
namespace Go.Proofs.YtejbkbccljoldaaGreatDoor
open Go.RowKit

theorem run_loadRR (w : World) (g : Nat) (cs : Array Value) (h : RVr w g cs) (hs : cs.size = 22) : (Instr.loadAt 37 (.pointer (some ⟨g, 0, none⟩))).run Tryz.prog w = .ok (.agg cs) w := by
  unfold RVr at h
  simp [Instr.loadAt, Instr.sureAddr, run_loadVar_row w g _ 37 _ _ _ h Tryz.underlying37 rfl (by rw [hs]; exact sizeRd)]
section
variable {Q : Exit → Act → World → Prop} {a : Act} {w : World} {o : Oper} {s : Spec}
end
end Go.Proofs.YtejbkbccljoldaaGreatDoor
namespace Go.Proofs.YtejbkbccljoldaaGreatDoor
open Go.RowKit

theorem AVar.cells {w : World} {g : Nat} {st : Int} {r : ByteArray} {z : Int} (h : AVar w g st r z) : g < w.heap.size ∧ w.cell? ⟨g, 0, none⟩ = some (.int .i64 st) ∧ w.cell? ⟨g, 1, none⟩ = some (.string r) ∧ w.cell? ⟨g, 2, none⟩ = some (.int .i64 z) ∧ w.cell? ⟨g, 3, none⟩ = some (.slice none 0 0) ∧ w.cell? ⟨g, 4, none⟩ = some (.slice none 0 0) := by
  refine ⟨(Array.getElem?_eq_some_iff.1 h).1, ?_, ?_, ?_, ?_, ?_⟩ <;> rw [cell_of_row _ _ _ _ _ _ h] <;> rfl
theorem RVar.cells {w : World} {g : Nat} {m t : ByteArray} {z : Int} (h : RVar w g m t z) : g < w.heap.size ∧ w.cell? ⟨g, 0, none⟩ = some (.string m) ∧ w.cell? ⟨g, 1, none⟩ = some (.string t) ∧ w.cell? ⟨g, 2, none⟩ = some (.int .i64 z) ∧ w.cell? ⟨g, 3, none⟩ = some (.slice none 0 0) ∧ w.cell? ⟨g, 4, none⟩ = some (.bool false) ∧ w.cell? ⟨g, 5, none⟩ = some (.slice none 0 0) := by
  refine ⟨(Array.getElem?_eq_some_iff.1 h).1, ?_, ?_, ?_, ?_, ?_, ?_⟩ <;> rw [cell_of_row _ _ _ _ _ _ h] <;> rfl

section
variable (line reason : ByteArray) (status at_ : Int) (c : UInt8) (wild : Int) (mm : Int) (w : World)
end
end Go.Proofs.YtejbkbccljoldaaGreatDoor
namespace Go.Proofs.YtejbkbccljoldaaGreatDoor
open Go.RowKit

theorem Own.grown {B : Nat} {w w' : World} {v : Value} {l : List UInt8} {row : Option Nat} (h : Own B w v l) (hg : w.grownBy w' row) (hne : ∀ k, v.ownBlock = some k → some k ≠ row) : Own B w' v l :=
  h.same fun k hk => hg.block k (h.lt hk).2 (hne k hk)
end Go.Proofs.YtejbkbccljoldaaGreatDoor
namespace Go.Proofs.YtejbkbccljoldaaGreatDoor
open Go.RowKit

theorem digs_len {b : Nat} (hb : 2 ≤ b) : ∀ (k n : Nat), n < 2 ^ k → 1 ≤ k → (digs b n).length ≤ k
  | 0, n, _, h => absurd h (by omega)
  | k + 1, n, hn, _ => by
    by_cases h : n < b
    · rw [digs_small h]; simp
    · rw [digs_big hb h, List.length_append]
      have h1 : n / b ≤ n / 2 := Nat.div_le_div_left hb (by omega)
      have h2 : n / 2 < 2 ^ k := by rw [Nat.pow_succ] at hn; omega
      have h3 : 1 ≤ n / b := by
        have : b / b ≤ n / b := Nat.div_le_div_right (by omega)
        rw [Nat.div_self (by omega)] at this; exact this
      have hk : 1 ≤ k := by
        match k, h2 with
        | 0, h2 => simp at h2; omega
        | k + 1, _ => omega
      have := digs_len hb k (n / b) (by omega) hk
      simp; omega
theorem fmtS_size {b : Nat} (hb : 2 ≤ b) (n : Int) (h1 : n ≤ 9223372036854775807) : (fmtS b n).size ≤ 64 := by
  unfold fmtS; split
  · decide
  · show (digs b n.toNat).toArray.size ≤ 64
    simpa using digs_len hb 64 n.toNat (by have : (2 : Nat) ^ 64 = 18446744073709551616 := by decide
                                           omega) (by omega)
end Go.Proofs.YtejbkbccljoldaaGreatDoor
namespace Go.Proofs.YtejbkbccljoldaaGreatDoor
open Go.RowKit

theorem OwnF.mono {B B' : Nat} {w : World} {v : Value} {l : List Fld} (h : OwnF B w v l) (hb : B' ≤ B) : OwnF B' w v l := by
  obtain ⟨h1, h2⟩ := h
  refine ⟨h1, ?_⟩
  rcases h2 with h2 | ⟨g, cap, cur, hv, hg, hc, r⟩
  · exact .inl h2
  · exact .inr ⟨g, cap, cur, hv, Nat.le_trans hb hg, hc, r⟩
theorem Own.mono {B B' : Nat} {w : World} {v : Value} {l : List UInt8} (h : Own B w v l) (hb : B' ≤ B) : Own B' w v l := by
  obtain ⟨h1, h2⟩ := h
  refine ⟨h1, ?_⟩
  rcases h2 with h2 | ⟨g, cap, cur, hv, hg, hc, r⟩
  · exact .inl h2
  · exact .inr ⟨g, cap, cur, hv, Nat.le_trans hb hg, hc, r⟩
theorem grownBy_setCell {w : World} {gr i : Nat} {v : Value} : w.grownBy (w.setCell ⟨gr, i, none⟩ v) (some gr) :=
  ⟨rfl, rfl, rfl, by simp [World.setCell], fun k _ hne => heap_setCell_other w ⟨gr, i, none⟩ k _ (fun e => hne (by rw [e]))⟩
end Go.Proofs.YtejbkbccljoldaaGreatDoor
namespace Go.Proofs.YtejbkbccljoldaaGreatDoor
open Go.RowKit

def Spec.nope : Spec := ⟨fun _ _ => False, fun _ _ _ h _ => h⟩
section
variable {Q : Exit → Act → World → Prop} {act : Act} {w : World} {o : Oper} {s : Spec} {K : Act → World → Prop}
end

theorem Own.set {B g i : Nat} {w : World} {v u : Value} {l : List UInt8} (h : Own B w v l) (hg : g < B) : Own B (w.setCell ⟨g, i, none⟩ u) v l :=
  h.grown grownBy_setCell (fun k hk e => by have := (h.lt hk).1; have := Option.some.inj e; omega)
end Go.Proofs.YtejbkbccljoldaaGreatDoor
namespace Go.Proofs.YtejbkbccljoldaaGreatDoor
open Go.RowKit

theorem splitL_one (c : UInt8) : ∀ l : List UInt8, ¬ c ∈ l → splitL c l = [l]
  | [], _ => rfl
  | b :: t, h => by
    have hb : ¬ b = c := fun e => h (by rw [e]; exact List.mem_cons_self)
    have ih := splitL_one c t (fun e => h (List.mem_cons_of_mem _ e))
    rw [splitL, if_neg hb, ih]; rfl
theorem tok_blank {m : ByteArray} (h : tokS m = true) : ¬ (32 : UInt8) ∈ m.data.toList := fun e => by
  unfold tokS at h
  rw [Bool.and_eq_true] at h
  have := List.all_eq_true.1 h.1 32 e
  revert this; decide +kernel
theorem targ_blank {t : ByteArray} (h : targetS t = true) : ¬ (32 : UInt8) ∈ t.data.toList := fun e => by
  unfold targetS at h
  rw [Bool.and_eq_true] at h
  have := List.all_eq_true.1 h.1 32 e
  revert this; decide +kernel
theorem three_words (m t v : ByteArray) (hm : ¬ (32 : UInt8) ∈ m.data.toList) (ht : ¬ (32 : UInt8) ∈ t.data.toList) (hv : ¬ (32 : UInt8) ∈ v.data.toList) : splitS 32 (m ++ ⟨#[32]⟩ ++ t ++ ⟨#[32]⟩ ++ v) = [m, t, v] := by
  unfold splitS
  have e : (m ++ ⟨#[32]⟩ ++ t ++ ⟨#[32]⟩ ++ v).data.toList = m.data.toList ++ 32 :: (t.data.toList ++ 32 :: v.data.toList) := by
    rw [ba_app_list, ba_app_list, ba_app_list, ba_app_list]
    show m.data.toList ++ [32] ++ t.data.toList ++ [32] ++ v.data.toList = _
    simp
  rw [e, splitL_append, splitL_append, splitL_one 32 _ hm, splitL_one 32 _ ht, splitL_one 32 _ hv]
  simp only [List.map_append, List.map_cons, List.map_nil, ofL_of]
  rfl
theorem versionS_ok {z : Int} (hz : z = 0 ∨ z = 1) : verZ (versionS z) = (z, 0) ∧ ¬ (32 : UInt8) ∈ (versionS z).data.toList := by
  rcases hz with rfl | rfl
  · decide +kernel
  · decide +kernel
theorem twice_req {m t : ByteArray} {z : Int} (hm : tokS m = true) (ht : targetS t = true) (hz : z = 0 ∨ z = 1) : lineR (splitS 32 (fmtReq m t z)) = (some (m, t, z), 0) := by
  have h01 : 0 ≤ z ∧ z ≤ 1 := by omega
  have e : fmtReq m t z = m ++ ⟨#[32]⟩ ++ t ++ ⟨#[32]⟩ ++ versionS z := by
    unfold fmtReq; rw [if_pos ⟨hm, ht, h01⟩]
    have h := (versionS_dec h01.1 h01.2).1
    rw [ByteArray.append_assoc, ← h, ← ByteArray.append_assoc]
  obtain ⟨h1, h2⟩ := versionS_ok hz
  rw [e, three_words m t _ (tok_blank hm) (targ_blank ht) h2, lineR_ok hm ht (by rw [h1]), h1]
end Go.Proofs.YtejbkbccljoldaaGreatDoor
namespace Go.Proofs.YtejbkbccljoldaaGreatDoor
open Go.RowKit

theorem RVr.put {w : World} {g i : Nat} {cs : Array Value} {v : Value} (h : RVr w g cs) : RVr (w.setCell ⟨g, i, none⟩ v) g (cs.setIfInBounds i v) := heap_setCell_same w g i _ _ _ h
section
variable (B : Nat → Prop) (s : RS) (b : List UInt8) (most body : Int) (ba : Option Addr) (bc : Nat) (fa ga la : Option Addr) (fc gc lc : Nat) (w : World)
end
end Go.Proofs.YtejbkbccljoldaaGreatDoor
namespace Go.Proofs.YtejbkbccljoldaaGreatDoor
open Go.RowKit

/-- The block's frozen stretch lies behind its last cell, or there is none. -/
def NoFz (n : Nat) (fz : Nat × Nat) : Prop := fz.2 = 0 ∨ n ≤ fz.1
theorem noFz_frozen {w : World} {g i : Nat} {cur : Array Value} {t : TypeId} {fz : Nat × Nat} (hg : w.heap[g]? = some (.cells cur t fz)) (hf : NoFz cur.size fz) (hi : i < cur.size) : w.frozen? ⟨g, i, none⟩ = false := by
  obtain ⟨lo, hi'⟩ := fz
  simp only [World.frozen?, hg, Bool.and_eq_false_iff, decide_eq_false_iff_not]
  rcases hf with h | h
  · right; simp only at h; omega
  · left; simp only at h; omega
theorem run_storeCells_atM (P : Program) (g o : Nat) (t : TypeId) (fz : Nat × Nat) : ∀ (vs : List Value) (i : Nat) (cur : Array Value) (w : World), w.heap[g]? = some (.cells cur t fz) → NoFz cur.size fz → o + i + vs.length ≤ cur.size → (∀ v ∈ vs, v.oneCell' = true) →
    (storeCells ⟨g, o, none⟩ vs i).run P w = .ok () (w.setRow g (cur.toList.take (o + i) ++ vs ++ cur.toList.drop (o + i + vs.length)).toArray)
  | [], i, cur, w, hg, _, _, _ => by
    simp only [storeCells, List.append_nil, List.length_nil, Nat.add_zero, List.take_append_drop, Array.toArray_toList]
    rw [setRow_self w g cur t fz hg]
    rfl
  | v :: rest, i, cur, w, hg, hfz, hl, h1 => by
    have hi : o + i < cur.size := by simp at hl; omega
    have hadd : (⟨g, o, none⟩ : Addr).add i = ⟨g, o + i, none⟩ := by unfold Addr.add; split <;> simp_all
    have hcell : w.cell? ⟨g, o + i, none⟩ = some cur[o + i] := by simp [World.cell?, hg, hi]
    have hfro : w.frozen? ⟨g, o + i, none⟩ = false := noFz_frozen hg hfz hi
    have hst : (store ((⟨g, o, none⟩ : Addr).add i) v).run P w = .ok () (w.setRow g (cur.setIfInBounds (o + i) v)) := by
      rw [hadd, run_store P w _ v _ (h1 v (by simp)), hcell]
      simp [hfro, setCell_eq_setRow w g (o + i) cur t fz v hg]
    have ih := run_storeCells_atM P g o t fz rest (i + 1) (cur.setIfInBounds (o + i) v) (w.setRow g (cur.setIfInBounds (o + i) v)) (setRow_heap w g cur _ t _ hg) (by rw [Array.size_setIfInBounds]; exact hfz) (by simp at hl ⊢; omega) (fun x hx => h1 x (by simp [hx]))
    simp only [storeCells, Sem.run_bind, hst, Result.andThen_ok, ih, setRow_setRow]
    congr 3
    have e := list_seg_step cur.toList (o + i) v rest (by simp at hl ⊢; omega)
    simpa [Array.toList_setIfInBounds, Nat.add_assoc] using e
/-- v is a slice with the bytes l in a block of its own, at B or beyond; the block may bear a conversion's mark. -/
def OwnM (B : Nat) (w : World) (v : Value) (l : List UInt8) : Prop :=
  ∃ g cap cur fz, v = .slice (some ⟨g, 0, none⟩) l.length cap ∧ B ≤ g ∧ w.heap[g]? = some (.cells cur 5 fz) ∧ NoFz cur.size fz ∧ l.length ≤ cap ∧ cap ≤ maxLen ∧ cur.size = cap ∧ cur.toList.take l.length = bytesV l
theorem OwnM.lt {B : Nat} {w : World} {v : Value} {l : List UInt8} (h : OwnM B w v l) {k : Nat} (hk : v.ownBlock = some k) : B ≤ k ∧ k < w.heap.size := by
  obtain ⟨g, cap, cur, fz, rfl, hb, hg, _⟩ := h
  obtain rfl : g = k := Option.some.inj hk
  exact ⟨hb, (Array.getElem?_eq_some_iff.1 hg).1⟩
theorem OwnM.same {B : Nat} {w w' : World} {v : Value} {l : List UInt8} (h : OwnM B w v l) (hs : ∀ k, v.ownBlock = some k → w'.heap[k]? = w.heap[k]?) : OwnM B w' v l := by
  obtain ⟨g, cap, cur, fz, hv, hb, hg, r⟩ := h
  exact ⟨g, cap, cur, fz, hv, hb, by rw [hs g (by rw [hv]; rfl)]; exact hg, r⟩
theorem OwnM.keep {B : Nat} {w w' : World} {v : Value} {l : List UInt8} (h : OwnM B w v l) (hb : Below w.heap.size w w') : OwnM B w' v l :=
  h.same fun k hk => hb.block k (h.lt hk).2
theorem OwnM.grown {B : Nat} {w w' : World} {v : Value} {l : List UInt8} {row : Option Nat} (h : OwnM B w v l) (hg : w.grownBy w' row) (hne : ∀ k, v.ownBlock = some k → some k ≠ row) : OwnM B w' v l :=
  h.same fun k hk => hg.block k (h.lt hk).2 (hne k hk)
theorem OwnM.low {B B' : Nat} {w : World} {v : Value} {l : List UInt8} (h : OwnM B w v l) (hB : B' ≤ B) : OwnM B' w v l := by
  obtain ⟨g, cap, cur, fz, hv, hb, r⟩ := h
  exact ⟨g, cap, cur, fz, hv, Nat.le_trans hB hb, r⟩
theorem OwnM.form {B : Nat} {w : World} {v : Value} {l : List UInt8} (h : OwnM B w v l) : ∃ g c, v = .slice (some ⟨g, 0, none⟩) l.length c ∧ l.length ≤ c ∧ IsBytes w (some ⟨g, 0, none⟩) l c := by
  obtain ⟨g, cap, cur, fz, rfl, hb, hg, hf, h1, h2, h3, ht⟩ := h
  refine ⟨g, cap, rfl, h1, .inr ⟨_, rfl, h1, h2, fun j hj => ?_⟩⟩
  have e : cur.toList[j]? = some (Value.int .u8 (l[j].toNat : Int)) := by
    have := congrArg (fun x => x[j]?) ht
    simp only [bytesV] at this
    rw [List.getElem?_take_of_lt hj, List.getElem?_map, List.getElem?_eq_getElem hj] at this
    exact this
  rw [Addr.add_lit]
  simp only [World.cell?, hg, Nat.zero_add]
  simpa using e
theorem OwnM.conv (w : World) (s : ByteArray) (hs : s.size ≤ 4000000000) : OwnM w.heap.size (Lib.bytesWorld w 5 s) (.slice (some ⟨w.heap.size, 0, none⟩) s.size (grownCap w s.size 0 5)) s.data.toList := by
  have hge := grownCap_ge w s.size 0 5
  have hz : (Lib.bytesCells w 5 s).size = grownCap w s.size 0 5 := by
    unfold Lib.bytesCells
    rw [Array.size_append, Array.size_map, Array.size_replicate]
    have : s.data.size = s.size := rfl
    omega
  have el : s.data.toList.length = s.size := by rw [Array.length_toList]; rfl
  refine ⟨w.heap.size, _, _, _, by rw [el], Nat.le_refl _, Lib.bytesWorld_at_new w 5 s, .inr (Nat.le_refl _), by rw [el]; exact hge, grownCap_le_maxLen w s.size 0 5 (by unfold maxLen; omega), hz, ?_⟩
  unfold Lib.bytesCells
  rw [Array.toList_append, el, List.take_left' (by rw [Array.length_toList, Array.size_map]; rfl), Array.toList_map]
  rfl
set_option maxRecDepth 100000 in
theorem ownM_slice (w : World) (ty : TypeId) {B : Nat} {v : Value} {l : List UInt8} (h : OwnM B w v l) {a : Option Addr} {r : List UInt8} {c : Nat} (hr : IsBytes w a r c) (hn : l.length + r.length ≤ 1000000000) (hB : B ≤ w.heap.size) :
    ∃ v' w', (Builtin.append_ #[23, 23] ty #[v, .slice a r.length c]).run Tryz.prog w = .ok v' w' ∧ OwnM B w' v' (l ++ r) ∧ w.grownBy w' v.ownBlock ∧ (v'.ownBlock = v.ownBlock ∨ v'.ownBlock = some w.heap.size) := by
  obtain ⟨i0, hi, hz0, hz1, hz2⟩ := info_parts Tryz.info5
  obtain ⟨g, cap, cur, fz, rfl, hb, hg, hf, h1, h2, h3, ht⟩ := h
  have el : (l ++ r).length = l.length + r.length := List.length_append
  have ev : bytesV (l ++ r) = bytesV l ++ bytesV r := by unfold bytesV; rw [List.map_append]
  rcases hr with ⟨rfl, rfl, rfl⟩ | ⟨ad, rfl, hr1, hr2, hr3⟩
  · refine ⟨.slice (some ⟨g, 0, none⟩) l.length cap, w, ?_, by rw [List.append_nil]; exact ⟨g, cap, cur, fz, rfl, hb, hg, hf, h1, h2, h3, ht⟩, ⟨rfl, rfl, rfl, Nat.le_refl _, fun _ _ _ => rfl⟩, .inl rfl⟩
    simp [Builtin.append_, run_underlying Tryz.underlying23, sizeOf, typeInfo, hi, Builtin.lenOf, Builtin.firstCells, loadCells, h1, storeCells]
  · have hnews : ∀ j u, (bytesV r)[j]? = some u → w.cell? (ad.add j) = some u := by
      intro j u hj
      unfold bytesV at hj
      rw [List.getElem?_map] at hj
      obtain ⟨c', hc', rfl⟩ := Option.map_eq_some_iff.1 hj
      obtain ⟨hlt, rfl⟩ := List.getElem?_eq_some_iff.1 hc'
      exact hr3 j hlt
    have hone : ∀ u ∈ bytesV r, u.oneCell' = true := by
      intro u hu
      unfold bytesV at hu
      obtain ⟨c', _, rfl⟩ := List.mem_map.1 hu
      rfl
    by_cases hroom : l.length + r.length ≤ cap
    · have hf1 := run_firstCells_some (P := Tryz.prog) w i0.size r.length ad r.length c (bytesV r) (by rw [hz1, bytesV_len, Nat.mul_one]) hnews
      have hst := run_storeCells_atM Tryz.prog g l.length 5 fz (bytesV r) 0 cur w hg hf (by rw [bytesV_len]; omega) hone
      simp only [Nat.add_zero, bytesV_len] at hst
      rw [hz1] at hf1
      have hr : (Builtin.append_ #[23, 23] ty #[.slice (some ⟨g, 0, none⟩) l.length cap, .slice (some ad) r.length c]).run Tryz.prog w = .ok (.slice (some ⟨g, 0, none⟩) (l.length + r.length) cap) (w.setRow g (cur.toList.take l.length ++ bytesV r ++ cur.toList.drop (l.length + r.length)).toArray) := by
        simp [Builtin.append_, run_underlying Tryz.underlying23, sizeOf, typeInfo, hi, hz1, Builtin.lenOf, hroom, hf1, Addr.add_lit, hst]
      have hcz : ((cur.toList.take l.length ++ bytesV r ++ cur.toList.drop (l.length + r.length)).toArray).size = cur.size := by
        simp only [List.size_toArray, List.length_append, List.length_take, List.length_drop, Array.length_toList, bytesV_len]
        omega
      refine ⟨_, _, hr, ⟨g, cap, _, fz, by rw [el], hb, setRow_heap w g cur _ _ _ hg, by rw [hcz]; exact hf, by rw [el]; exact hroom, h2, by rw [hcz]; exact h3, ?_⟩, ⟨rfl, rfl, rfl, by simp, fun k _ hk => setRow_other w g k _ (fun e => hk (by simp [Value.ownBlock, e]))⟩, .inl rfl⟩
      rw [ht, ev, el]
      have e9 : l.length + r.length = (bytesV l ++ bytesV r).length := by rw [List.length_append, bytesV_len, bytesV_len]
      rw [e9]
      exact List.take_left
    · have holds : ∀ j u, (bytesV l)[j]? = some u → w.cell? ((⟨g, 0, none⟩ : Addr).add j) = some u := by
        intro j u hu
        rw [Addr.add_lit, Nat.zero_add, cell_of_row w g j cur _ _ hg]
        rw [← ht, List.getElem?_take] at hu
        split at hu
        · simpa using hu
        · cases hu
      have hr := run_append_grow (P := Tryz.prog) w 23 ty 5 i0 (.int .u8 0) Tryz.underlying23 hi hz0 ⟨g, 0, none⟩ l.length cap (bytesV l) (by rw [hz1, bytesV_len, Nat.mul_one]) holds ad r.length c (bytesV r) (by rw [hz1, bytesV_len, Nat.mul_one]) hnews (by omega) (by omega) (by rw [hz2]; exact growslice_fits (by omega) (by omega))
      have hge := grownCap_ge w (l.length + r.length) cap 5
      have hcm : grownCap w (l.length + r.length) cap 5 ≤ maxLen := grownCap_le_maxLen w _ cap _ (by unfold maxLen; omega)
      refine ⟨_, _, hr, ⟨w.heap.size, _, _, (0, 0), by rw [el], hB, heap_alloc_new w.drew _, .inl rfl, by rw [el]; exact hge, hcm, ?_, ?_⟩, ⟨rfl, rfl, rfl, by simp, fun k hk _ => heap_alloc_old w.drew _ hk⟩, .inr rfl⟩
      · have hzz : (Value.int IntKind.u8 0).cells.size = 1 := rfl
        simp only [Array.size_append, List.size_toArray, size_zeroCells, hzz, bytesV_len]
        omega
      · simp only [Array.toList_append, List.append_assoc]
        rw [← List.append_assoc, ev, el]
        have e9 : l.length + r.length = (bytesV l ++ bytesV r).length := by rw [List.length_append, bytesV_len, bytesV_len]
        rw [e9]
        exact List.take_left
section
variable {ops : Array Oper} {rest : List Oper} {o : Oper} {act : Act} {Q : Exit → Act → World → Prop}
theorem wpList_append_mb (w : World) (hgd : o.guard = none) (s x : Operand) (ho : o.op = .call { callee := .builtin .append, args := #[s, x], argTypes := #[23, 23] })
    {B : Nat} {v : Value} {l : List UInt8} (hs : act.eval s = v) (h : OwnM B w v l) {a : Option Addr} {r : List UInt8} {c : Nat} (hx : act.eval x = .slice a r.length c) (hr : IsBytes w a r c) (hn : l.length + r.length ≤ 1000000000) (hB : B ≤ w.heap.size)
    (K : ∀ v' w', OwnM B w' v' (l ++ r) → w.grownBy w' v.ownBlock → (v'.ownBlock = v.ownBlock ∨ v'.ownBlock = some w.heap.size) → wpList Tryz.prog ops Q rest (act.put o.dst v') w') : wpList Tryz.prog ops Q (o :: rest) act w := by
  refine wpList_plain hgd fun K2 hK => ?_
  obtain ⟨v', w', hr', h2, h3, h4⟩ := ownM_slice w o.type h hr hn hB
  unfold Oper.wp execOp
  simp only [ho, resolve, invoke, builtin, Sem.run_bind, Sem.run_pure, Result.andThen_ok, List.map_toArray, List.map_cons, List.map_nil, hs, hx, hr']
  exact hK _ _ (K v' w' h2 h3 h4)
end
end Go.Proofs.YtejbkbccljoldaaGreatDoor
namespace Go.Proofs.YtejbkbccljoldaaGreatDoor
open Go.RowKit

theorem below_convH (w : World) (e : TypeId) (s : ByteArray) : Below w.heap.size w (Lib.bytesWorld w e s) :=
  ⟨rfl, rfl, rfl, by rw [Lib.bytesWorld_size]; omega, fun k hk => Lib.bytesWorld_at_old w e s k hk⟩
theorem RetHd.own {w w' : World} {l : List UInt8} {e : Ending} (h : RetHd w l e w') (h0 : 0 < l.length) (h1 : l.length ≤ 4000000000) : ∃ v, e = .returned v ∧ OwnM w.heap.size w' v l ∧ Below w.heap.size w w' := by
  rcases h with ⟨rfl, _⟩ | ⟨W, s, rfl, _, rfl, rfl, hb⟩
  · simp at h0
  · refine ⟨_, rfl, (OwnM.conv W s ?_).low hb.size, below_trans hb (below_convH W _ s)⟩
    rw [Array.length_toList] at h1
    exact h1
section
variable {Q : Exit → Act → World → Prop} {act : Act} {w : World} {o : Oper} {s : Spec} {K : Act → World → Prop}
theorem sizeOf_u8H (w : World) : (sizeOf 5).run Tryz.prog w = .ok 1 w := by
  obtain ⟨i0, hi, hz0, hz1, hz2⟩ := info_parts Tryz.info5
  simp [sizeOf, typeInfo, hi, hz1]
theorem loc_uptoH {x y : Operand} (ho : o.op = .slice 23 x none (some y) none) {ad : Option Addr} {n c k : Nat} (hx : act.eval x = .slice ad n c) (hy : act.eval y = .int .i64 k) (hk : k ≤ n) (hc : n ≤ c) (hs : s.p (.slice ad k c) w) :
    o.wp Tryz.prog act w (fun a' w' => ∃ v, a' = act.put o.dst v ∧ Below w.heap.size w w' ∧ s.p v w') Q := by
  have es : (sizeOf (Tryz.prog.elem 23)).run Tryz.prog w = .ok 1 w := by rw [show Tryz.prog.elem 23 = 5 by kernel_rfl]; exact sizeOf_u8H w
  refine loc_run (v := .slice ad k c) ?_ (Below.refl _ _) hs
  have hrun : (Instr.sliceAt 23 (.slice ad n c) none (some (.int .i64 (k : Int))) none).run Tryz.prog w = .ok (.slice ad k c) w := by
    rw [run_sliceAt_slice w 23 _ _ _ _ (by kernel_rfl), run_slice_h w 23 _ _ _ (by kernel_rfl) .i64 (k : Int) (by omega) (by omega), es]
    have ha : Option.map (fun x : Addr => x.add 0) ad = ad := by cases ad <;> simp [Addr.add]
    simp [Result.andThen, sliced, ha]
  unfold execOp
  simp only [ho, hx, hy, Option.map_some, Option.map_none, Sem.run_bind, hrun, Result.andThen_ok, Sem.run_pure]
end
end Go.Proofs.YtejbkbccljoldaaGreatDoor
namespace Go.Proofs.YtejbkbccljoldaaGreatDoor
open Go.RowKit

theorem row_awayR {w : World} {g : Nat} {cs : Array Value} {T : TypeId} {fz : Nat × Nat} (h : w.heap[g]? = some (.cells cs T fz)) (hn : ∀ (i : Nat) (z : Int), cs[i]? ≠ some (.int .u8 z)) {a : Option Addr} {l : List UInt8} {c : Nat} (hb : IsBytes w a l c) : ∀ x, a = some x → l ≠ [] → x.block ≠ g := by
  intro x hx hl hg
  rcases hb with ⟨h1, _⟩ | ⟨y, h1, _, _, h4⟩
  · rw [h1] at hx; cases hx
  · rw [h1] at hx
    obtain rfl := Option.some.inj hx
    have h5 := h4 0 (List.length_pos_iff.2 hl)
    have h6 : w.heap[(y.add 0).block]? = some (.cells cs T fz) := by rw [add_blockC, hg]; exact h
    unfold World.cell? at h5
    rw [h6] at h5
    simp only at h5
    split at h5
    · cases h5
    · exact hn _ _ h5
theorem noU8_22 {cs : Array Value} (h : cs.toList.all (fun v => match v with | .int .u8 _ => false | _ => true) = true) : ∀ (i : Nat) (z : Int), cs[i]? ≠ some (.int .u8 z) := fun i z e => by
  have h1 := List.all_eq_true.1 h (.int .u8 z) (by
    have : cs.toList[i]? = some (.int .u8 z) := by rw [Array.getElem?_toList]; exact e
    exact List.mem_of_getElem? this)
  cases h1
set_option linter.unusedVariables false
section
variable (B : Nat → Prop) (s : RS) (b : List UInt8) (body room : Int) (ba : Option Addr) (bc : Nat) (fa ga la : Option Addr) (fc gc lc : Nat) (w : World)
end
end Go.Proofs.YtejbkbccljoldaaGreatDoor
namespace Go.Proofs.YtejbkbccljoldaaGreatDoor
open Go.RowKit

/-- A slot that an operation other than st writes. -/
def isDstX (ops : Array Oper) (st k : Nat) : Bool := (List.range ops.size).any fun i => !decide (i = st) && ((ops[i]?).bind (·.dst) == some k)
/-- The frame ahead of operation st: but for the others' slots it is the one before. -/
structure FrX (ops : Array Oper) (st : Nat) (a0 a : Act) : Prop where
  defers : a.defers = a0.defers
  size : a.tmps.size = a0.tmps.size
  base : ∀ k, isDstX ops st k = false → a.eval (.tmp k) = a0.eval (.tmp k)
def StepX (P : Program) (Q : Exit → Act → World → Prop) (ops : Array Oper) (S : List Spec) (st : Nat) (a0 : Act) (w0 : World) (o : Oper) (s : Spec) : Prop :=
  ∀ a w, Below w0.heap.size w0 w → FrX ops st a0 a → (∀ j, waitsFor o j = true → Holds ops S a w j) →
    Region.wanted o (yielded ops a.tmps) = true ∧ o.wp P a w (fun a' w' => ∃ v, a' = a.put o.dst v ∧ Below w.heap.size w w' ∧ s.p v w') Q
def StepsX (P : Program) (Q : Exit → Act → World → Prop) (ops : Array Oper) (S : List Spec) (st : Nat) (a0 : Act) (w0 : World) : List Nat → Prop
  | i :: r => (match ops[i]?, S[i]? with | some o, some s => StepX P Q ops S st a0 w0 o s | _, _ => False) ∧ StepsX P Q ops S st a0 w0 r
  | [] => True
def TailX (P : Program) (Q : Exit → Act → World → Prop) (ops : Array Oper) (S : List Spec) (st : Nat) (a0 : Act) (w0 : World) : Prop :=
  match ops[st]? with
  | some o => ∀ a w, Below w0.heap.size w0 w → FrX ops st a0 a → (∀ j, j < ops.size → j ≠ st → Holds ops S a w j) → Region.wanted o (yielded ops a.tmps) = true ∧ o.wp P a w (fun a' w' => Q .normal a' w') Q
  | none => False
section
variable {P : Program} {Q : Exit → Act → World → Prop} {ops : Array Oper} {S : List Spec} {a0 : Act} {w0 : World} {st : Nat}
theorem stepsX_at : ∀ {l : List Nat}, StepsX P Q ops S st a0 w0 l → ∀ i, i ∈ l → ∀ o, ops[i]? = some o → ∃ s, S[i]? = some s ∧ StepX P Q ops S st a0 w0 o s
  | i :: r, h, j, hj, o, ho => by
    rcases List.mem_cons.1 hj with rfl | hj
    · have h1 := h.1
      rw [ho] at h1
      cases hs : S[j]? with
      | none => rw [hs] at h1; exact h1.elim
      | some s => rw [hs] at h1; exact ⟨s, rfl, h1⟩
    · exact stepsX_at h.2 j hj o ho
theorem frX_put {a : Act} {o : Oper} {i : Nat} (ho : ops[i]? = some o) (hi : i ≠ st) (hf : FrX ops st a0 a) (v : Value) : FrX ops st a0 (a.put o.dst v) := by
  refine ⟨?_, ?_, fun k hk => ?_⟩
  · have := hf.defers
    cases o.dst <;> simpa [Act.put] using this
  · have := hf.size
    cases o.dst <;> simpa [Act.put] using this
  · rw [eval_put_other, hf.base k hk]
    intro hk2
    have : isDstX ops st k = true := by
      unfold isDstX
      exact List.any_eq_true.2 ⟨i, List.mem_range.2 (Array.getElem?_eq_some_iff.1 ho).1, by rw [ho]; simp [hi, hk2]⟩
    rw [hk] at this; cases this
theorem wp_region_tail {id : Nat} (S : List Spec) (st : Nat) (others : List Nat) (hm : P.follows .mixedOrders = true)
    (hB : (List.range ops.size).all (fun i => match ops[i]? with | some x => x.after.all (fun e => !Region.binds .any e || decide (e.on < i)) | none => true) = true)
    (hd : dstsOk ops a0.tmps.size = true) (hl : lateB ops st [] = true) (hstlt : decide (st < ops.size) = true) (hoth : (List.range ops.size).all (fun i => decide (i = st) || others.contains i) = true)
    (h : StepsX P Q ops S st a0 w0 others) (hS : TailX P Q ops S st a0 w0) : (Code.region id ops true).wp P Q a0 w0 := by
  have hstlt := of_decide_eq_true hstlt
  have hosto : ops[st]? = some ops[st] := Array.getElem?_eq_getElem hstlt
  unfold TailX at hS
  rw [hosto] at hS
  simp only at hS
  have hwait : ∀ i, i < ops.size → i ≠ st → waitsFor ops[st] i = true := fun i hi hne => by
    have := List.all_eq_true.1 hl i (List.mem_range.2 hi)
    rw [hosto] at this
    simp only [Bool.or_eq_true, decide_eq_true_eq, List.contains_nil, Bool.false_eq_true, or_false] at this
    rcases this with h3 | h3
    · exact absurd h3 hne
    · exact h3
  refine wp_region_inv hm (fun m a w => (m.getD st false = false ∧ FrX ops st a0 a ∧ Below w0.heap.size w0 w ∧ ∀ j, m.getD j false = true → Holds ops S a w j) ∨
    (m.getD st false = true ∧ Q .normal a w ∧ ∀ j, waitsFor ops[st] j = true → m.getD j false = true)) ?_ ?_ ?_
  · rintro m a w hs hh i hi
    obtain ⟨h1, o, ho, hall⟩ := mem_ready.1 hi
    have hil : i < ops.size := (Array.getElem?_eq_some_iff.1 ho).1
    have hmi : m.getD i false = false := by
      have hs' : i < m.size := by rw [hs]; exact hil
      simp [hs'] at h1 ⊢; exact h1
    have hdeps : ∀ j, waitsFor o j = true → m.getD j false = true := fun j hj => by
      obtain ⟨e, he, h2⟩ := List.any_eq_true.1 hj
      simp only [Bool.and_eq_true, beq_iff_eq] at h2
      obtain ⟨h3, rfl⟩ := h2
      exact hall e (Array.mem_toList_iff.1 he) h3
    unfold wpOp
    simp only [ho]
    by_cases hist : i = st
    · subst hist
      have hoe : o = ops[i] := Option.some.inj (ho.symm.trans hosto)
      subst hoe
      rcases hh with ⟨_, hf, hb, hh⟩ | ⟨h2, _⟩
      · obtain ⟨hw, hwp⟩ := hS a w hb hf fun j hj hne => hh j (hdeps j (hwait j hj hne))
        rw [if_pos hw]
        refine .inl (Oper.wp_mono ?_ hwp)
        intro a' w' hq
        have hsz : i < m.size := by rw [hs]; exact hil
        exact .inr ⟨by simp [hsz], hq, fun j hj => getD_set_true (hdeps j hj)⟩
      · rw [hmi] at h2; cases h2
    · have hmem : i ∈ others := by
        have := List.all_eq_true.1 hoth i (List.mem_range.2 hil)
        simp only [Bool.or_eq_true, decide_eq_true_eq, List.contains_iff_mem] at this
        rcases this with h | h
        · exact absurd h hist
        · exact h
      rcases hh with ⟨h2, hf, hb, hh⟩ | ⟨h2, hp, hall2⟩
      · obtain ⟨s, hsi, hstep⟩ := stepsX_at h i hmem o ho
        obtain ⟨hw, hwp⟩ := hstep a w hb hf fun j hj => hh j (hdeps j hj)
        rw [if_pos hw]
        refine .inl (Oper.wp_mono ?_ hwp)
        rintro a' w' ⟨v, rfl, hb', hsp⟩
        refine .inl ⟨by rw [getD_set_ne false hist]; exact h2, frX_put ho hist hf v, hb.trans (hb'.mono hb.size), fun j hj => ?_⟩
        by_cases hji : j = i
        · subst hji
          unfold Holds
          simp only [ho, hsi]
          cases hdo : o.dst with
          | none => trivial
          | some d =>
            show s.p ((a.put (some d) v).eval (.tmp d)) w'
            rw [eval_put_same]
            · exact hsp
            · rw [hf.size]; exact (dsts_lt hd ho hdo).1
        · have hj' : m.getD j false = true := by rw [getD_set_ne false (fun e => hji e.symm)] at hj; exact hj
          exact holds_put hd ho hji (holds_mono (hh j hj') hb')
      · have := hall2 i (hwait i hil hist)
        rw [hmi] at this; cases this
  · rintro m a w hs hh hr
    have hmarked : ∀ j, j < ops.size → m.getD j false = true := fun j => by
      induction j using Nat.strongRecOn with
      | _ j ih =>
        intro hj
        cases hmj : m.getD j false with
        | true => rfl
        | false =>
          exfalso
          have hoj : ops[j]? = some ops[j] := Array.getElem?_eq_getElem hj
          have hbk := List.all_eq_true.1 hB j (List.mem_range.2 hj)
          rw [hoj] at hbk
          simp only [Array.all_eq_true_iff_forall_mem, Bool.or_eq_true, Bool.not_eq_true', decide_eq_true_eq] at hbk
          have hlt : ∀ e ∈ ops[j].after, Region.binds .any e = true → e.on < j := fun e he hbd => by
            rcases hbk e he with h | h
            · rw [hbd] at h; cases h
            · exact h
          have : j ∈ Region.ready .any ops m := mem_ready.2 ⟨by
            have hs' : j < m.size := by rw [hs]; exact hj
            simp [hs'] at hmj ⊢; exact hmj, ops[j], hoj, fun e he hbd => ih _ (hlt e he hbd) (by have := hlt e he hbd; omega)⟩
          rw [hr] at this; cases this
    rcases hh with ⟨h2, _⟩ | ⟨_, hp, _⟩
    · rw [hmarked st hstlt] at h2; cases h2
    · exact hp
  · refine .inl ⟨?_, ⟨rfl, rfl, fun _ _ => rfl⟩, (Below.refl _ _).drew, fun j hj => ?_⟩
    · simp only [Array.getD_eq_getD_getElem?, Array.getElem?_replicate]; split <;> rfl
    · exfalso
      simp only [Array.getD_eq_getD_getElem?, Array.getElem?_replicate] at hj
      split at hj <;> simp at hj
/-- The frame ahead of operation st, out of the frame before the region: l has the other operations. -/
theorem frX_putAll {a : Act} (l : List Oper) (hl : ∀ k, isDstX ops st k = true → (l.any fun o => o.dst == some k) = true) (h : FrX ops st a0 a) : a = putAll a l a0 := by
  have h1 := putAll_size a l a0
  have h2 := putAll_defers a l a0
  have h3 : ∀ k, (putAll a l a0).eval (.tmp k) = a.eval (.tmp k) := fun k => putAll_eval a k _ _ h.size.symm (by
    cases hk : isDstX ops st k with
    | true => exact .inr (hl k hk)
    | false => exact .inl (h.base k hk).symm)
  generalize putAll a l a0 = p at *
  rw [act_eq (a := a) (a0 := a0) h.size h.defers, act_eq (a := p) (a0 := a0) h1 h2]
  congr 2
  exact List.map_congr_left fun k _ => (h3 k).symm
theorem isDstX_take {n : Nat} (hst : st = n) (hsz : ops.size = n + 1) : ∀ k, isDstX ops st k = true → ((ops.toList.take n).any fun o => o.dst == some k) = true := fun k hk => by
  unfold isDstX at hk
  obtain ⟨i, hi, h⟩ := List.any_eq_true.1 hk
  simp only [Bool.and_eq_true, Bool.not_eq_true', decide_eq_false_iff_not, beq_iff_eq] at h
  have hil := List.mem_range.1 hi
  have hin : i < n := by omega
  have ho : ops[i]? = some ops[i] := Array.getElem?_eq_getElem hil
  rw [ho] at h
  refine List.any_eq_true.2 ⟨ops[i], ?_, by simpa using h.2⟩
  have : (ops.toList.take n)[i]? = some ops[i] := by rw [List.getElem?_take_of_lt hin]; simp
  exact List.mem_of_getElem? this
theorem tail_assign {a : Act} {w : World} {o : Oper} {x : Operand} (hg : o.guard = none) (ho : o.op = .assign x) (h : Q .normal (a.put o.dst (a.eval x)) w) :
    Region.wanted o (yielded ops a.tmps) = true ∧ o.wp P a w (fun a' w' => Q .normal a' w') Q := by
  refine ⟨wanted_none hg, ?_⟩
  unfold Oper.wp
  rw [show (execOp a.eval o).run P w = .ok (.value (a.eval x)) w by unfold execOp; rw [ho]; rfl]
  exact h
end
end Go.Proofs.YtejbkbccljoldaaGreatDoor
namespace Go.Proofs.YtejbkbccljoldaaGreatDoor
open Go.ChangeShapes Go.WideShapes Go.ChangeAt Go.RowKit

/-- The slice at a holds slices of bytes, which hold ls. -/
def SlcIn (w : World) (a : Option Addr) (ls : List (List UInt8)) : Prop :=
  ∀ j (hj : j < ls.length), ∃ x ba bc, a = some x ∧ w.cell? (x.add j) = some (.slice ba ls[j].length bc) ∧ IsBytes w ba ls[j] bc
theorem SlcIn.keep {w w' : World} {a : Option Addr} {ls : List (List UInt8)} (h : SlcIn w a ls) (hb : Below w.heap.size w w') : SlcIn w' a ls := fun j hj => by
  obtain ⟨x, ba, bc, h1, h2, h3⟩ := h j hj
  exact ⟨x, ba, bc, h1, below_cell hb h2, h3.keep hb⟩
theorem alloc_cell_new (w : World) (cs : Array Value) (t : TypeId) (fr : Nat × Nat) (j : Nat) : (w.alloc (.cells cs t fr)).cell? ⟨w.heap.size, j, none⟩ = cs[j]? :=
  cell_of_row _ _ _ _ _ _ (heap_alloc_new w (.cells cs t fr))
theorem below_one (w : World) (o : Obj) : Below w.heap.size w (w.alloc o) := (Below.refl _ _).alloc (Nat.le_refl _) _
theorem slcIn_build2 {w : World} {a b : Option Addr} {l k : List UInt8} {c d : Nat} (h : IsBytes w a l c) (h2 : IsBytes w b k d) (t : TypeId) (fr : Nat × Nat) :
    SlcIn (w.alloc (.cells #[.slice a l.length c, .slice b k.length d] t fr)) (some ⟨w.heap.size, 0, none⟩) [l, k] := fun j hj => by
  have hj' : j < 2 := by simpa using hj
  match j, hj' with
  | 0, _ =>
    refine ⟨_, a, c, rfl, ?_, h.keep (below_one _ _)⟩
    rw [Addr.add_lit, Nat.zero_add, alloc_cell_new]; rfl
  | 1, _ =>
    refine ⟨_, b, d, rfl, ?_, h2.keep (below_one _ _)⟩
    rw [Addr.add_lit, Nat.zero_add, alloc_cell_new]; rfl
def SlcV (w : World) (v : Value) (ls : List (List UInt8)) : Prop := ∃ a c, v = .slice a ls.length c ∧ SlcIn w a ls
theorem SlcV.keep {w w' : World} {v : Value} {ls : List (List UInt8)} (h : SlcV w v ls) (hb : Below w.heap.size w w') : SlcV w' v ls := by
  obtain ⟨a, c, h1, h2⟩ := h
  exact ⟨a, c, h1, h2.keep hb⟩
def Spec.slc (ls : List (List UInt8)) : Spec := ⟨fun v w => SlcV w v ls, fun _ _ _ h hb => h.keep hb⟩

section
variable {Q : Exit → Act → World → Prop} {a : Act} {w : World} {o : Oper} {s : Spec}
theorem Tryz.info23 : (Tryz.prog.info? 23).map (fun i => (i.zero, i.size, i.bytes)) = some (some (.slice none 0 0), 1, 24) := by kernel_rfl
theorem run_build_slices (W : World) (a b : Option Addr) (n m c d : Nat) :
    (Instr.buildSlice 89 2 #[(0, .slice a n c), (1, .slice b m d)]).run Tryz.prog W = .ok (.slice (some ⟨W.heap.size, 0, none⟩) 2 2) (W.alloc (.cells #[.slice a n c, .slice b m d] 23)) := by
  obtain ⟨i0, hi, hz0, hz1, hz2⟩ := info_parts Tryz.info23
  exact run_buildSlice W 89 23 2 _ _ i0 _ Tryz.underlying89 hi hz0 (by rw [hz1]; decide) (by rw [hz1]; decide) (by rw [hz1]; simp [Instr.fill, Value.cells, Array.range_succ, show Array.range 0 = #[] from rfl])
theorem loc_slices2 {x y : Operand} (ho : o.op = .buildSlice 89 2 #[(0, x), (1, y)]) {l k : List UInt8} (hx : BytesV w (a.eval x) l) (hy : BytesV w (a.eval y) k) (hs : ∀ v w', SlcV w' v [l, k] → s.p v w') :
    o.wp Tryz.prog a w (fun a' w' => ∃ v, a' = a.put o.dst v ∧ Below w.heap.size w w' ∧ s.p v w') Q := by
  obtain ⟨xa, xc, hx1, hx2⟩ := hx
  obtain ⟨ya, yc, hy1, hy2⟩ := hy
  have hrun := run_build_slices w xa ya l.length k.length xc yc
  refine loc_run (v := .slice (some ⟨w.heap.size, 0, none⟩) 2 2) (w' := w.alloc (.cells #[.slice xa l.length xc, .slice ya k.length yc] 23)) ?_ (below_one _ _) (hs _ _ ⟨_, 2, rfl, slcIn_build2 hx2 hy2 _ _⟩)
  unfold execOp
  simp only [ho, List.map_toArray, List.map_cons, List.map_nil, hx1, hy1]
  rw [Sem.run_bind, hrun]; rfl
end

end Go.Proofs.YtejbkbccljoldaaGreatDoor
