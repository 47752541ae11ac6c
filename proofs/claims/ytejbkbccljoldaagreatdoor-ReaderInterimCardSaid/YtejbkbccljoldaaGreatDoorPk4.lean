/- A slice of bytes of the call's own, beside other memory: what an append leaves alone. The reference's ParseRequest. The reference's ParseReply. The reference's FormatRequest and FormatReply. Chunked bodies: the state of the decoder, one byte, many bytes. The reference's step: bytes of a line that is not complete. The reference's step: a line that ends with CR. The decoder's states stay in order; the reference's step in one contract. The reference's Feed. The reader of messages: its state, what Next does. What heads lead to: sizes. The reference's reader: a head that is not complete, or too long. Write: a text that comes in pieces. The reference's reader: a reply whose head is not in order. The reference's reader: the region that sets the new state: local laws. The law LineStatus. Bytes of the source. The request that the source makes: what is said of it. The request that the source makes. A line that was formatted is parsed to the same fields; the law LineTwice. The reference's reader: a reply whose head is in order. A slice of bytes in a block of the call's own that may bear the mark of a conversion: append in place, one byte stored. Sizes of what the source makes; local laws for wire. The reference's reader: a chunked body. Plain mathematics of the decoder: pieces and room, the beginning of a body, a line. The reader: what its states keep. Plain mathematics of the decoder: lines, chunks, whole bodies. Package chunked: the mathematics of its line and its blocks of data; what a call may touch. -/
import Derived.Test.YtejbkbccljoldaaGreatDoorPk1
import Derived.Test.YtejbkbccljoldaaGreatDoorPk2
import Derived.Test.YtejbkbccljoldaaGreatDoorPk3
import Derived.Deep.Quiet
import Derived.Deep.QuietTactic
import Derived.Tactics
import Derived.KernelRfl
import Derived.Below
import Derived.Test.YtejbkbccljoldaaGreatDoorRows
import Derived.WalkKit
import Derived.WalkSpells
import Derived.WalkLawsBesides
import Derived.BigQuiet
import Derived.Lib.Bytealg
import Derived.Lib.IndexLaws
import Derived.Lib.Hide
import Derived.ProofKit
import Derived.OpenShut
import Derived.Laws.IdiomStrings
import Derived.Lib.Strings
import Derived.Laws.Bits64
import Derived.Deep.AppendLies
import Derived.SliceStrings
import Derived.Lib.SlBytesConst
import Derived.Maps.AppendAt
import Derived.Laws.AppendOwnNone
import Derived.Great.BuildSlice
import Derived.Laws.Rows
import Derived.Lib.SlTrimSet
import Derived.Lib.IndexBytes
import Derived.Lib.Split
import Derived.Shelf.Strings.SlTrimAscii
import Derived.Shelf.Strings.SplitShaped
import Derived.Shelf.LaysM
import Derived.Shelf.Strings.BuilderK
import Derived.Shelf.Strconv.Itoa4
import Derived.Shelf.Strings.Prefix
import Derived.Shelf.Bytes.SlIndexWhole
import Derived.Test.YtejbkbccljoldaaGreatDoorProg
import Derived.Lib.SplitLaws
import Derived.WalkSmall
import Derived.Laws.BitsAllLaws
import Derived.Laws.Shifts
import Derived.Maps.OwnOps
import Derived.Maps.OwnSet
import Derived.Deep.SlicePairs
import Derived.Lib.AppendZerosOnto
import Derived.Lib.AppendStr
import Derived.Laws.CopyOwn
import Derived.OwnWalk
import Derived.Laws.Strings3
import Derived.Laws.Concat
import Derived.Lib.ItoaMem
import Derived.IntWalk
import Derived.Laws.RangeAny
import Derived.LoopTactic
import Derived.Sort.Grow
import Derived.Lib.ConvBytes
import Derived.Deep.RegionHeld3
import Derived.Deep.DeepCutAuto
import Derived.Deep.MidRow
import Derived.Laws.Tables
import Derived.Deep.WholeRow
import Derived.StillTailTactics
import Derived.Deep.CutBlock
import Derived.Lib.LaidTab
import Derived.LaidSub
import Derived.Laws.Bits64b
import Derived.Lib.FrozenHead2
import Derived.Deep.Matrix
namespace Go.Proofs.YtejbkbccljoldaaGreatDoor
open Go.RowKit

/-- v is a slice with the bytes l in a block of its own, at B or beyond. -/
def Own (B : Nat) (w : World) (v : Value) (l : List UInt8) : Prop := w.ownsRow B 5 1 v l.length (bytesV l)
theorem Own.start (B : Nat) (w : World) : Own B w (.slice none 0 0) [] := World.ownsRow_nil _ _ _ _
theorem Own.same {B : Nat} {w w' : World} {v : Value} {l : List UInt8} (h : Own B w v l) (hs : ∀ k, v.ownBlock = some k → w'.heap[k]? = w.heap[k]?) : Own B w' v l := by
  obtain ⟨h1, h2⟩ := h
  refine ⟨h1, ?_⟩
  rcases h2 with h2 | ⟨g, cap, cur, hv, hg, hc, r⟩
  · exact .inl h2
  · exact .inr ⟨g, cap, cur, hv, hg, by rw [hs g (by rw [hv]; rfl)]; exact hc, r⟩
theorem Own.lt {B : Nat} {w : World} {v : Value} {l : List UInt8} (h : Own B w v l) {k : Nat} (hk : v.ownBlock = some k) : B ≤ k ∧ k < w.heap.size := World.ownsRow.lt h k hk
theorem Own.keep {B : Nat} {w w' : World} {v : Value} {l : List UInt8} (h : Own B w v l) (hb : Below w.heap.size w w') : Own B w' v l :=
  h.same fun k hk => hb.block k (h.lt hk).2
theorem Own.val {B : Nat} {w : World} {v : Value} {l : List UInt8} (h : Own B w v l) : BytesV w v l := by
  obtain ⟨h1, h2⟩ := h
  rcases h2 with ⟨rfl, h2⟩ | ⟨g, cap, cur, rfl, hg, hc, hcap, hm, hsz, ht⟩
  · have : l = [] := List.eq_nil_of_length_eq_zero h2
    subst this
    exact ⟨none, 0, rfl, .inl ⟨rfl, rfl, rfl⟩⟩
  · refine ⟨_, cap, rfl, .inr ⟨_, rfl, hcap, hm, fun j hj => ?_⟩⟩
    have e : cur.toList[j]? = some (Value.int .u8 (l[j].toNat : Int)) := by
      have := congrArg (fun x => x[j]?) ht
      simp only [Nat.mul_one, bytesV] at this
      rw [List.getElem?_take_of_lt hj, List.getElem?_map, List.getElem?_eq_getElem hj] at this
      exact this
    rw [Addr.add_lit]
    simp only [World.cell?, hc, Nat.zero_add]
    simpa using e
theorem cell_same {w w' : World} {p : Addr} (h : w'.heap[p.block]? = w.heap[p.block]?) : w'.cell? p = w.cell? p := by
  unfold World.cell?
  rw [h]
theorem add_block (x : Addr) (j : Nat) : (x.add j).block = x.block := by unfold Addr.add; split <;> rfl
theorem IsBytes.same {w w' : World} {a : Option Addr} {l : List UInt8} {c : Nat} (h : IsBytes w a l c) (hs : ∀ x, a = some x → l ≠ [] → w'.heap[x.block]? = w.heap[x.block]?) : IsBytes w' a l c := by
  rcases h with h | ⟨x, h1, h2, h3, h4⟩
  · exact .inl h
  · refine .inr ⟨x, h1, h2, h3, fun j hj => ?_⟩
    have e : w'.heap[(x.add j).block]? = w.heap[(x.add j).block]? := by
      rw [add_block]
      exact hs x h1 (fun e => by rw [e] at hj; exact absurd hj (Nat.not_lt_zero _))
    rw [cell_same e]
    exact h4 j hj
theorem IsBytes.lt {w : World} {x : Addr} {l : List UInt8} {c : Nat} (h : IsBytes w (some x) l c) (hl : l ≠ []) : x.block < w.heap.size := by
  rcases h with ⟨h, _⟩ | ⟨y, h1, h2, h3, h4⟩
  · cases h
  · obtain rfl := Option.some.inj h1
    have h0 : 0 < l.length := List.length_pos_iff.2 hl
    have := h4 0 h0
    have h5 := World.block_lt_of_cell? w _ this
    rw [add_block] at h5; exact h5
section
variable {ops : Array Oper} {rest : List Oper} {o : Oper} {act : Act} {Q : Exit → Act → World → Prop}
/-- APPEND of a slice of bytes that is read; all other blocks stay as they are. -/
theorem wpList_append_ownb (w : World) (hgd : o.guard = none) (s x : Operand) (ho : o.op = .call { callee := .builtin .append, args := #[s, x], argTypes := #[23, 23] })
    {B : Nat} {v : Value} {l : List UInt8} (hs : act.eval s = v) (h : Own B w v l) {a : Option Addr} {r : List UInt8} {c : Nat} (hx : act.eval x = .slice a r.length c) (hr : IsBytes w a r c)
    (hn : l.length + r.length ≤ 140737488355328) (hB : B ≤ w.heap.size)
    (K : ∀ v' w', Own B w' v' (l ++ r) → w.grownBy w' v.ownBlock → (v'.ownBlock = v.ownBlock ∨ v'.ownBlock = some w.heap.size) → wpList Tryz.prog ops Q rest (act.put o.dst v') w') : wpList Tryz.prog ops Q (o :: rest) act w := by
  obtain ⟨i0, hi, hz0, hz1, hz2⟩ := info_parts Tryz.info5
  rcases hr with ⟨rfl, rfl, rfl⟩ | ⟨ad, rfl, hr1, hr2, hr3⟩
  · refine wpList_append_own_none hgd s x 23 ho B 5 i0 1 Tryz.underlying23 hi v l.length (bytesV l) hs h hx (K _ _ ?_ (World.grownBy.refl _ _) (.inl rfl))
    rw [List.append_nil]; exact h
  · refine wpList_append_own_at w hgd s x 23 ho B 5 i0 (.int .u8 0) 1 1 Tryz.underlying23 hi hz0 hz1 hz2 rfl (by decide) v l.length (bytesV l) hs h ad r.length c (bytesV r) hx (by rw [bytesV_len, Nat.mul_one]) ?_ ?_ (by unfold maxLen; omega) (by omega) hB ?_
    · intro j u hj
      unfold bytesV at hj
      rw [List.getElem?_map] at hj
      obtain ⟨c', hc', rfl⟩ := Option.map_eq_some_iff.1 hj
      obtain ⟨hlt, rfl⟩ := List.getElem?_eq_some_iff.1 hc'
      exact hr3 j hlt
    · intro u hu
      unfold bytesV at hu
      obtain ⟨c', _, rfl⟩ := List.mem_map.1 hu
      rfl
    · intro v' w' hown hgrow _ h5
      refine K v' w' ?_ hgrow h5
      unfold Own
      rw [List.length_append]
      have e : bytesV (l ++ r) = bytesV l ++ bytesV r := by unfold bytesV; rw [List.map_append]
      rw [e]; exact hown
end
end Go.Proofs.YtejbkbccljoldaaGreatDoor
namespace Go.Proofs.YtejbkbccljoldaaGreatDoor
open Go.RowKit

theorem lineR_ne (l : List ByteArray) (h : (lineR l).1 = none) : ¬ (lineR l).2 = 0 := by
  unfold lineR at h ⊢
  split at h
  · rename_i m t v
    by_cases h1 : tokS m = true ∧ targetS t = true
    · rw [if_pos h1] at h ⊢
      by_cases h2 : (verZ v).2 = 0
      · rw [if_pos h2] at h; cases h
      · rw [if_neg h2]; exact h2
    · rw [if_neg h1]; decide
  · decide
theorem lines_small : ∀ (l cur : List UInt8) (L : List ByteArray), linesGo cur l = some L → ∀ s ∈ L, s.size ≤ cur.length + l.length
  | [], _, L, h, s, hs => by
    rw [lines_nil] at h
    cases h; cases hs
  | x :: r, cur, L, h, s, hs => by
    by_cases hb : (x = 13 ∧ ¬ r.head? = some 10) ∨ (x = 10 ∧ ¬ cur.getLast? = some 13)
    · rw [lines_bad hb] at h; cases h
    · by_cases hx : x = 10
      · subst hx
        have hl : cur.getLast? = some 13 := Decidable.byContradiction fun e => hb (.inr ⟨rfl, e⟩)
        rw [lines_end hl] at h
        cases hq : linesGo [] r with
        | none => rw [hq] at h; cases h
        | some L2 =>
          rw [hq] at h
          simp only [Option.map_some, Option.some.injEq] at h
          subst h
          rcases List.mem_cons.1 hs with rfl | hs
          · show cur.dropLast.toArray.size ≤ _
            rw [List.size_toArray, List.length_dropLast]; omega
          · have := lines_small r [] L2 hq s hs
            rw [List.length_cons]
            simp at this
            omega
      · rw [lines_more hx (fun e => Decidable.byContradiction fun e2 => hb (.inl ⟨e, e2⟩))] at h
        have := lines_small r _ L h s hs
        rw [List.length_append] at this
        rw [List.length_cons]
        simp at this
        omega
theorem linesS_facts {b : List UInt8} {L : List ByteArray} (h : linesS b = some L) : (∀ s ∈ L, s.size ≤ b.length) ∧ L.length ≤ b.length := by
  unfold linesS at h
  split at h
  · cases hq : linesGo [] b with
    | none => rw [hq] at h; cases h
    | some G =>
      rw [hq] at h
      simp only [Option.map_some, Option.some.injEq] at h
      subst h
      refine ⟨fun s hs => ?_, ?_⟩
      · have := lines_small b [] G hq s ((List.dropLast_sublist G).subset hs)
        simpa using this
      · have := lines_count b [] G hq
        have h2 := List.count_le_length (a := (10 : UInt8)) (l := b)
        rw [List.length_dropLast]; omega
  · cases h
theorem parseF_small {s : ByteArray} {f : Fld} (h : parseF s = some f) : f.1.size ≤ s.size ∧ f.2.size ≤ s.size := by
  unfold parseF at h
  split at h
  · split at h
    · cases h
      exact ⟨extract_le _ _ _, Nat.le_trans (trimBA_size _) (extract_le _ _ _)⟩
    · cases h
  · cases h
theorem fieldsGo_small : ∀ (l : List ByteArray) (x : List Fld), fieldsGo l = some x → (∀ s ∈ l, s.size ≤ maxLen) → ShortF x ∧ x.length = l.length
  | [], x, h, _ => by
    cases h
    exact ⟨fun f hf => absurd hf (by simp), rfl⟩
  | t :: l, x, h, hz => by
    unfold fieldsGo at h
    cases ht : parseF t with
    | none => rw [ht] at h; cases h
    | some f =>
      rw [ht] at h
      simp only at h
      cases hx : fieldsGo l with
      | none => rw [hx] at h; cases h
      | some y =>
        rw [hx] at h
        simp only [Option.map_some, Option.some.injEq] at h
        subst h
        obtain ⟨h1, h2⟩ := fieldsGo_small l y hx (fun s hs => hz s (List.mem_cons_of_mem _ hs))
        have h3 := parseF_small ht
        have h4 := hz t (List.mem_cons_self ..)
        refine ⟨fun g hg => ?_, by simp [h2]⟩
        rcases List.mem_cons.1 hg with rfl | hg
        · exact ⟨Nat.le_trans h3.1 h4, Nat.le_trans h3.2 h4⟩
        · exact h1 g hg
theorem fieldsS_small {l : List ByteArray} {x : List Fld} {er : Int} (h : fieldsS l = (er, x)) (hz : ∀ s ∈ l, s.size ≤ maxLen) : ShortF x ∧ x.length ≤ 64 ∧ (¬ er = 0 → x = []) := by
  unfold fieldsS at h
  split at h
  · cases h
    exact ⟨fun f hf => absurd hf (by simp), by simp, fun _ => rfl⟩
  · rename_i h64
    cases hx : fieldsGo l with
    | none =>
      rw [hx] at h
      cases h
      exact ⟨fun f hf => absurd hf (by simp), by simp, fun _ => rfl⟩
    | some y =>
      rw [hx] at h
      cases h
      obtain ⟨h1, h2⟩ := fieldsGo_small l x hx hz
      exact ⟨h1, by omega, fun e => absurd rfl e⟩
def hostN : ByteArray := ⟨#[104, 111, 115, 116]⟩
/-- What ParseRequest returns: error, method, target, minor version, fields. -/
def headR (b : List UInt8) : Int × ByteArray × ByteArray × Int × List Fld :=
  match linesS b with
  | some (l0 :: ls) =>
    match lineR (splitS 32 l0) with
    | (some f, _) =>
      if (fieldsS ls).1 = 0 then (if 1 < (valuesL (fieldsS ls).2 hostN).length ∨ ((valuesL (fieldsS ls).2 hostN).length = 0 ∧ f.2.2 = 1) then (2, ⟨#[]⟩, ⟨#[]⟩, 0, []) else (0, f.1, f.2.1, f.2.2, (fieldsS ls).2))
      else ((fieldsS ls).1, ⟨#[]⟩, ⟨#[]⟩, 0, [])
    | (none, e) => (e, ⟨#[]⟩, ⟨#[]⟩, 0, [])
  | _ => (2, ⟨#[]⟩, ⟨#[]⟩, 0, [])
def QVarH (w : World) (g : Nat) (m t : ByteArray) (z : Int) (v : Value) : Prop := w.heap[g]? = some (.cells #[.string m, .string t, .int .i64 z, v, .bool false, .slice none 0 0] 29 (0, 0))
theorem QVarH.keep {w w' : World} {g : Nat} {m t : ByteArray} {z : Int} {v : Value} (h : QVarH w g m t z v) (hb : Below w.heap.size w w') : QVarH w' g m t z v := by
  unfold QVarH at *
  rw [hb.block g (Array.getElem?_eq_some_iff.1 h).1]; exact h
theorem oneQH (m t : ByteArray) (z : Int) (a : Option Addr) (n c : Nat) : (#[.string m, .string t, .int .i64 z, .slice a n c, .bool false, .slice none 0 0] : Array Value).all (·.oneCell') = true := by simp [Value.oneCell']
theorem QVarH.cells {w : World} {g : Nat} {m t : ByteArray} {z : Int} {v : Value} (h : QVarH w g m t z v) : w.cell? ⟨g, 2, none⟩ = some (.int .i64 z) ∧ w.cell? ⟨g, 3, none⟩ = some v := by
  refine ⟨?_, ?_⟩ <;> rw [cell_of_row _ _ _ _ _ _ h] <;> rfl
theorem QVarH.put {w : World} {g : Nat} {m t : ByteArray} {z : Int} {v u : Value} (h : QVarH w g m t z v) : QVarH (w.setCell ⟨g, 3, none⟩ u) g m t z u := by
  unfold QVarH; rw [heap_setCell_same _ _ _ _ _ _ h]; rfl
theorem QVarH.frozen {w : World} {g i : Nat} {m t : ByteArray} {z : Int} {v : Value} (h : QVarH w g m t z v) : w.frozen? ⟨g, i, none⟩ = false := by
  unfold QVarH at h; simp [World.frozen?, h]
theorem QVarH.cells6 {w : World} {g : Nat} {m t : ByteArray} {z : Int} {v : Value} (h : QVarH w g m t z v) : w.cell? ⟨g, 0, none⟩ = some (.string m) ∧ w.cell? ⟨g, 1, none⟩ = some (.string t) ∧ w.cell? ⟨g, 2, none⟩ = some (.int .i64 z) ∧ w.cell? ⟨g, 3, none⟩ = some v ∧ w.cell? ⟨g, 4, none⟩ = some (.bool false) ∧ w.cell? ⟨g, 5, none⟩ = some (.slice none 0 0) := by
  refine ⟨?_, ?_, ?_, ?_, ?_, ?_⟩ <;> rw [cell_of_row _ _ _ _ _ _ h] <;> rfl
theorem FldsIn.same {w w' : World} {a : Option Addr} {l : List Fld} (h : FldsIn w a l) (hs : ∀ y, a = some y → w'.heap[y.block]? = w.heap[y.block]?) : FldsIn w' a l := fun j hj => by
  obtain ⟨x, e, h1, h2⟩ := h j hj
  have hx := hs x e
  exact ⟨x, e, (cell_same (w := w) (w' := w') (by rw [add_block]; exact hx)).trans h1, (cell_same (w := w) (w' := w') (by rw [add_block]; exact hx)).trans h2⟩
theorem StrsAt.tail {w : World} {g : Nat} {s : ByteArray} {l : List ByteArray} (h : StrsAt w (some ⟨g, 0, none⟩) (s :: l)) : StrsAt w (some ⟨g, 1, none⟩) l := fun j hj => by
  obtain ⟨b, off, e, hc⟩ := h (j + 1) (by rw [List.length_cons]; omega)
  cases e
  refine ⟨g, 1, rfl, ?_⟩
  rw [show 1 + j = 0 + (j + 1) by omega]
  exact hc
theorem StrsAt.head {w : World} {g : Nat} {s : ByteArray} {l : List ByteArray} (h : StrsAt w (some ⟨g, 0, none⟩) (s :: l)) : w.cell? ⟨g, 0, none⟩ = some (.string s) := by
  obtain ⟨b, off, e, hc⟩ := h 0 (by simp)
  cases e
  exact hc
/-- As RetReqH, and the fields lie in a block of the call's own. -/
def RetReqF (w : World) (r : Int × ByteArray × ByteArray × Int × List Fld) (e : Ending) (w' : World) : Prop :=
  ∃ fa fc, e = .returned (.tuple #[.agg #[.string r.2.1, .string r.2.2.1, .int .i64 r.2.2.2.1, .slice fa r.2.2.2.2.length fc, .bool false, .slice none 0 0], .int .i64 r.1]) ∧ FldsIn w' fa r.2.2.2.2 ∧ (∀ y, fa = some y → w.heap.size ≤ y.block) ∧ Below w.heap.size w w'
end Go.Proofs.YtejbkbccljoldaaGreatDoor
namespace Go.Proofs.YtejbkbccljoldaaGreatDoor
open Go.RowKit

/-- What ParseReply returns: error, status, reason, minor version, fields. -/
def headA (b : List UInt8) : Int × Int × ByteArray × Int × List Fld :=
  match linesS b with
  | some (l0 :: ls) =>
    match parseA l0 with
    | some f => if (fieldsS ls).1 = 0 then (0, f.1, f.2.1, f.2.2, (fieldsS ls).2) else ((fieldsS ls).1, 0, ⟨#[]⟩, 0, [])
    | none => (2, 0, ⟨#[]⟩, 0, [])
  | _ => (2, 0, ⟨#[]⟩, 0, [])
/-- A reply's variable with its fields. -/
def AVarH (w : World) (g : Nat) (m : Int) (t : ByteArray) (z : Int) (v : Value) : Prop := w.heap[g]? = some (.cells #[.int .i64 m, .string t, .int .i64 z, v, .slice none 0 0] 31 (0, 0))
theorem AVarH.keep {w w' : World} {g : Nat} {m : Int} {t : ByteArray} {z : Int} {v : Value} (h : AVarH w g m t z v) (hb : Below w.heap.size w w') : AVarH w' g m t z v := by
  unfold AVarH at *
  rw [hb.block g (Array.getElem?_eq_some_iff.1 h).1]; exact h
theorem oneAH (m : Int) (t : ByteArray) (z : Int) (a : Option Addr) (n c : Nat) : (#[.int .i64 m, .string t, .int .i64 z, .slice a n c, .slice none 0 0] : Array Value).all (·.oneCell') = true := by simp [Value.oneCell']
theorem AVarH.cells {w : World} {g : Nat} {m : Int} {t : ByteArray} {z : Int} {v : Value} (h : AVarH w g m t z v) : w.cell? ⟨g, 2, none⟩ = some (.int .i64 z) ∧ w.cell? ⟨g, 3, none⟩ = some v := by
  refine ⟨?_, ?_⟩ <;> rw [cell_of_row _ _ _ _ _ _ h] <;> rfl
theorem AVarH.put {w : World} {g : Nat} {m : Int} {t : ByteArray} {z : Int} {v u : Value} (h : AVarH w g m t z v) : AVarH (w.setCell ⟨g, 3, none⟩ u) g m t z u := by
  unfold AVarH; rw [heap_setCell_same _ _ _ _ _ _ h]; rfl
theorem AVarH.frozen {w : World} {g i : Nat} {m : Int} {t : ByteArray} {z : Int} {v : Value} (h : AVarH w g m t z v) : w.frozen? ⟨g, i, none⟩ = false := by
  unfold AVarH at h; simp [World.frozen?, h]
theorem AVarH.cells5 {w : World} {g : Nat} {m : Int} {t : ByteArray} {z : Int} {v : Value} (h : AVarH w g m t z v) : w.cell? ⟨g, 0, none⟩ = some (.int .i64 m) ∧ w.cell? ⟨g, 1, none⟩ = some (.string t) ∧ w.cell? ⟨g, 2, none⟩ = some (.int .i64 z) ∧ w.cell? ⟨g, 3, none⟩ = some v ∧ w.cell? ⟨g, 4, none⟩ = some (.slice none 0 0) := by
  refine ⟨?_, ?_, ?_, ?_, ?_⟩ <;> rw [cell_of_row _ _ _ _ _ _ h] <;> rfl
/-- As RetRepH, and the fields lie in a block of the call's own. -/
def RetRepF (w : World) (r : Int × Int × ByteArray × Int × List Fld) (e : Ending) (w' : World) : Prop :=
  ∃ fa fc, e = .returned (.tuple #[.agg #[.int .i64 r.2.1, .string r.2.2.1, .int .i64 r.2.2.2.1, .slice fa r.2.2.2.2.length fc, .slice none 0 0], .int .i64 r.1]) ∧ FldsIn w' fa r.2.2.2.2 ∧ (∀ y, fa = some y → w.heap.size ≤ y.block) ∧ Below w.heap.size w w'
end Go.Proofs.YtejbkbccljoldaaGreatDoor
namespace Go.Proofs.YtejbkbccljoldaaGreatDoor
open Go.RowKit

theorem allB_no {l : List Fld} {k : Nat} (hk : k < l.length) (h : fldB l[k].1 l[k].2 = false) : allB l = false := by
  unfold allB
  rw [← Bool.not_eq_true, List.all_eq_true]
  intro h2
  have := h2 _ (List.getElem_mem hk)
  rw [h] at this; cases this
theorem allB_yes {l : List Fld} (h : ∀ f ∈ l, fldB f.1 f.2 = true) : allB l = true := by
  unfold allB
  exact List.all_eq_true.2 h
set_option maxRecDepth 100000 in
set_option maxHeartbeats 2000000 in
theorem refAllValid_any (l : List Fld) (a : Option Addr) (cap : Nat) (w : World) (h : FldsIn w a l) (hz : ShortF l) (hl : l.length ≤ 4000000) :
    Calls Tryz.prog 44 #[.slice a l.length cap] w fun e w' => e = .returned (.bool (allB l)) ∧ Below w.heap.size w w' := by
  have H0 := Box.mk h
  have HZ := Box.mk hz
  have HN := Box.mk (fun (k : Nat) (hk : k < l.length) h => allB_no hk h)
  have HY := Box.mk (fun h => allB_yes (l := l) h)
  generalize hR : allB l = R at *
  clear h hz hR
  go_enter Tryz.func44, Tryz.ntmps44
  go_wp2_with fail
  go_loopw [3] (fun iv wr => ∃ k : Nat, k ≤ l.length ∧ iv = .int .i64 k ∧ Box (Below w.heap.size w wr ∧ ∀ f ∈ l.take k, fldB f.1 f.2 = true)) (fun iv _ => l.length - (intOf iv).toNat)
  case atStart => exact ⟨0, Nat.zero_le _, rfl, ⟨Below.refl _ _, by simp⟩⟩
  case round =>
    obtain ⟨k, hk, rfl, HM⟩ := hrel
    by_cases hlt : k < l.length
    · obtain ⟨x, rfl, hx1, hx2⟩ := (H0.out.keep HM.out.1) k hlt
      have hx2 := cell_next hx2
      have HSZ := Box.mk (HZ.out _ (List.getElem_mem hlt))
      by_cases hv : fldB l[k].1 l[k].2 = true
      · have HALL := Box.mk (all_stepF hlt HM.out.2 hv)
        have HV := Box.mk hv
        clear hv
        generalize l[k] = f at *
        go_wp2_with fail
        refine (refFieldValid_any f.1 f.2 _ HSZ.out.1 HSZ.out.2).mono ?_
        rintro e w1 ⟨he, hb1⟩
        rw [HV.out] at he
        subst he
        have HB1 := Box.mk (below_trans HM.out.1 hb1)
        clear hb1 hx1 hx2
        go_wp2_with fail
        go_roundw
        case rel => exact ⟨k + 1, by omega, by go_num, ⟨HB1.out, HALL.out⟩⟩
        case measure => simp [intOf]; omega
      · have HV := Box.mk (show fldB l[k].1 l[k].2 = false by simpa using hv)
        have HP := Box.mk (HN.out k hlt HV.out)
        clear hv
        generalize l[k] = f at *
        go_wp2_with fail
        refine (refFieldValid_any f.1 f.2 _ HSZ.out.1 HSZ.out.2).mono ?_
        rintro e w1 ⟨he, hb1⟩
        rw [HV.out] at he
        subst he
        have HB1 := Box.mk (below_trans HM.out.1 hb1)
        clear hb1 hx1 hx2
        go_wp2_with fail
        go_ret
        exact ⟨ret_bool HP.out.symm, HB1.out⟩
    · have HP := Box.mk (HY.out (by have := HM.out.2; rw [List.take_of_length_le (by omega)] at this; exact this))
      go_wp2_with fail
      go_ret
      exact ⟨ret_bool HP.out.symm, HM.out.1⟩
/-- The bytes of a head with the start line s and the fields x; none if one of them cannot be written. -/
def headB (s : ByteArray) (x : List Fld) : List UInt8 := if s.size = 0 ∨ allB x = false then [] else s.data.toList ++ [13, 10] ++ linesB x ++ [13, 10]
theorem headB_no {s : ByteArray} {x : List Fld} (h : s.size = 0 ∨ allB x = false) : headB s x = [] := by unfold headB; rw [if_pos h]
theorem headB_yes {s : ByteArray} {x : List Fld} (h : ¬ s.size = 0) (h2 : allB x = true) : headB s x = s.data.toList ++ [13, 10] ++ linesB x ++ [13, 10] := by
  unfold headB
  rw [if_neg (fun e => e.elim h (fun e => by rw [h2] at e; cases e))]
/-- What FormatRequest and FormatReply return: nil, or the bytes of a string. -/
def RetHd (w : World) (l : List UInt8) (e : Ending) (w' : World) : Prop :=
  (l = [] ∧ e = .returned (.slice none 0 0) ∧ Below w.heap.size w w') ∨
  ∃ W s, s.data.toList = l ∧ 0 < l.length ∧ e = .returned (.slice (some ⟨W.heap.size, 0, none⟩) s.size (grownCap W s.size 0 5)) ∧ w' = Lib.bytesWorld W 5 s ∧ Below w.heap.size w W
theorem empty_s {y : ByteArray} (h : y.size = 0) : y.toList.isEmpty = true := by
  rw [ByteArray.toList_eq, List.isEmpty_iff, ← List.length_eq_zero_iff, Array.length_toList]; exact h
theorem full_s {y : ByteArray} (h : ¬ y.size = 0) : y.toList.isEmpty = false := by
  rw [← Bool.not_eq_true, ByteArray.toList_eq, List.isEmpty_iff, ← List.length_eq_zero_iff, Array.length_toList]; exact h
set_option maxRecDepth 100000 in
set_option maxHeartbeats 4000000 in
theorem refFmtRep_any (st : Int) (r : ByteArray) (z : Int) (x : List Fld) (fa ba : Option Addr) (fc bn bc : Nat) (w : World) (hr : r.size ≤ 1000000000) (hx : FldsIn w fa x) (hz : SmallF x) (hl : x.length ≤ 1000) (hq : (fmtRep st r z).size ≤ 4000000000) :
    Calls Tryz.prog 24 #[.agg #[.int .i64 st, .string r, .int .i64 z, .slice fa x.length fc, .slice ba bn bc]] w (RetHd w (headB (fmtRep st r z) x)) := by
  have HB0 := Box.mk (below_oneF w (.cells #[.int .i64 st, .string r, .int .i64 z, .slice fa x.length fc, .slice ba bn bc] 31))
  have hc3 : (w.alloc (.cells #[.int .i64 st, .string r, .int .i64 z, .slice fa x.length fc, .slice ba bn bc] 31)).cell? ⟨w.heap.size, 3, none⟩ = some (.slice fa x.length fc) := by rw [new_cellF]; rfl
  have HC3 := Box.mk hc3
  have HX0 := Box.mk (hx.keep HB0.out)
  have HZ := Box.mk hz
  have HCALL := Box.mk (fun W => refFormatRep_any st r z fa ba x.length fc bn bc W hr)
  have HN := Box.mk (fun h => headB_no (s := fmtRep st r z) (x := x) h)
  have HY := Box.mk (fun h h2 => headB_yes (s := fmtRep st r z) (x := x) h h2)
  generalize headB (fmtRep st r z) x = R at *
  generalize fmtRep st r z = s at *
  clear hx hz hc3
  go_enter Tryz.func24, Tryz.ntmps24
  go_wp2_with fail
  refine (HCALL.out _).mono ?_
  rintro e w1 ⟨rfl, hb1⟩
  have hd3 := below_cell hb1 HC3.out
  have HX1 := Box.mk (HX0.out.keep hb1)
  have HB1 := Box.mk (below_trans HB0.out hb1)
  have HD3 := Box.mk hd3
  clear hb1 HX0 HB0 HC3
  by_cases h0 : s.size = 0
  · have he := empty_s h0
    have HP := Box.mk (HN.out (.inl h0))
    clear h0 hd3
    go_wp2_with fail
    go_ret
    exact .inl ⟨HP.out, rfl, HB1.out⟩
  · have he := full_s h0
    have H0 := Box.mk h0
    clear h0
    go_wp2_with fail
    refine (refAllValid_any x fa fc _ HX1.out (fun f hf => ⟨le_maxLen (HZ.out f hf).1, le_maxLen (HZ.out f hf).2⟩) (by omega)).mono ?_
    rintro e w2 ⟨he2, hb2⟩
    have hd3 := below_cell hb2 HD3.out
    have HX2 := Box.mk (HX1.out.keep hb2)
    have HB2 := Box.mk (below_trans HB1.out hb2)
    clear hb2 HX1 HB1 HD3
    by_cases hv : allB x = true
    · rw [hv] at he2
      subst he2
      have HP := Box.mk (HY.out H0.out hv)
      have HF := Box.mk (show (fmtF x).data.toList = linesB x by unfold fmtF; rw [if_pos hv])
      have hfz : (fmtF x).size ≤ 1000 * 2097156 := by
        have h1 := linesB_len x HZ.out x.length
        rw [List.take_length] at h1
        have h2 := congrArg List.length HF.out
        rw [Array.length_toList] at h2
        have h3 : (fmtF x).data.size = (fmtF x).size := rfl
        have h4 : x.length * 2097156 ≤ 1000 * 2097156 := Nat.mul_le_mul_right _ hl
        omega
      have hadd1 := fun W => run_string_add_sum (P := Tryz.prog) (w := W) s ⟨#[13, 10]⟩ (by show s.size + 2 ≤ _; omega)
      obtain ⟨s1, hs1⟩ : ∃ s1, s1 = s ++ (⟨#[13, 10]⟩ : ByteArray) := ⟨_, rfl⟩
      rw [← hs1] at hadd1
      have hs1z : s1.size = s.size + 2 := by rw [hs1, ByteArray.size_append]; rfl
      have HFM := Box.mk (fun W (h : FldsIn W fa x) => refFormat_any x fa fc W h HZ.out (by omega))
      generalize fmtF x = f at *
      have hadd2 := fun W => run_string_add_sum (P := Tryz.prog) (w := W) s1 f (by omega)
      obtain ⟨s2, hs2⟩ : ∃ s2, s2 = s1 ++ f := ⟨_, rfl⟩
      rw [← hs2] at hadd2
      have hs2z : s2.size = s.size + 2 + f.size := by rw [hs2, ByteArray.size_append, hs1z]
      have hadd3 := fun W => run_string_add_sum (P := Tryz.prog) (w := W) s2 ⟨#[13, 10]⟩ (by show s2.size + 2 ≤ _; omega)
      obtain ⟨s3, hs3⟩ : ∃ s3, s3 = s2 ++ (⟨#[13, 10]⟩ : ByteArray) := ⟨_, rfl⟩
      rw [← hs3] at hadd3
      have HS3 := Box.mk (show s3.data.toList = R by
        rw [HP.out, hs3, hs2, hs1, ← HF.out]
        simp)
      have HRP := Box.mk (show 0 < R.length by rw [HP.out]; simp; omega)
      have hcvb := fun W => Lib.run_convert_string_bytes (P := Tryz.prog) W 9 23 5 s3 Tryz.underlying9 Tryz.underlying23 Tryz.underlying5
      clear hs1 hs2 hs3 hs1z hs2z hv
      go_wp2_with fail
      refine (HFM.out _ HX2.out).mono ?_
      rintro e w3 ⟨rfl, hb3⟩
      have HB3 := Box.mk (below_trans HB2.out hb3)
      clear hb3
      go_wp2_with fail
      go_ret
      exact .inr ⟨w3, s3, HS3.out, HRP.out, rfl, rfl, HB3.out⟩
    · have hv2 : allB x = false := by rw [← Bool.not_eq_true]; exact hv
      rw [hv2] at he2
      subst he2
      have HP := Box.mk (HN.out (.inr hv2))
      clear hv hv2
      go_wp2_with fail
      go_ret
      exact .inl ⟨HP.out, rfl, HB2.out⟩
end Go.Proofs.YtejbkbccljoldaaGreatDoor
namespace Go.Proofs.YtejbkbccljoldaaGreatDoor
open Go.RowKit

/-- The state of the decoder: the phase, the bytes left, the size of the trailer section, the line so far. -/
structure Chk where
  ph : Int
  left : Int
  tr : Int
  line : List UInt8
def zeroC : Chk := ⟨0, 0, 0, []⟩
/-- What stands ahead of the first semicolon. -/
def szS (y : ByteArray) : ByteArray := ((splitS 59 y)[0]?).getD ⟨#[]⟩
/-- What a complete line leads to: an error, or the state. -/
def lineS (s : Chk) (y : ByteArray) : Int × Chk :=
  if s.ph = 0 then
    (if (parseS 16 1000000000 (szS y)).2 = 2 ∨ visS y = false then (2, zeroC)
    else if (parseS 16 1000000000 (szS y)).2 = 0 then (0, ⟨if (parseS 16 1000000000 (szS y)).1 = 0 then 3 else 1, (parseS 16 1000000000 (szS y)).1, s.tr, []⟩)
    else ((parseS 16 1000000000 (szS y)).2, zeroC))
  else if s.ph = 2 then (if y.size = 0 then (0, ⟨0, s.left, s.tr, []⟩) else (2, zeroC))
  else if s.ph = 3 then (if y.size = 0 then (0, ⟨4, s.left, s.tr, []⟩) else if (parseF y).isSome = true then (0, ⟨3, s.left, s.tr, []⟩) else (2, zeroC))
  else (0, ⟨s.ph, s.left, s.tr, []⟩)
/-- The line ends with CR. -/
def crB (l : List UInt8) : Bool := l.getLast? == some 13
/-- One byte that belongs to a line, with the trailer section at t. -/
def byteS (s : Chk) (t : Int) (x : UInt8) : Int × Chk :=
  if crB s.line = false then
    (if x = 10 then (2, zeroC) else if 128 < s.line.length + 1 ∧ ¬ x = 13 then (3, zeroC) else (0, ⟨s.ph, s.left, t, s.line ++ [x]⟩))
  else if x = 10 then lineS ⟨s.ph, s.left, t, []⟩ ⟨s.line.dropLast.toArray⟩ else (2, zeroC)
/-- One byte that is not one of the body. -/
def stepS (s : Chk) (x : UInt8) : Int × Chk :=
  if s.ph = 3 then (if 1024 < s.tr + 1 then (3, zeroC) else byteS s (s.tr + 1) x) else byteS s s.tr x
/-- The decoder over many bytes: error, state, bytes of the body, number of bytes read. -/
def feedS (room : Int) : Chk → List UInt8 → Nat → List UInt8 → Int × Chk × List UInt8 × Nat
  | s, out, i, [] => (0, s, out, i)
  | s, out, i, x :: r =>
    if s.ph = 4 ∨ s.ph = 1 ∧ room ≤ out.length then (0, s, out, i)
    else if s.ph = 1 then feedS room ⟨if s.left - 1 = 0 then 2 else 1, s.left - 1, s.tr, s.line⟩ (out ++ [x]) (i + 1) r
    else if (stepS s x).1 = 0 then feedS room (stepS s x).2 out (i + 1) r
    else ((stepS s x).1, zeroC, [], 0)

/-- A variable with a state. -/
def CVar (w : World) (g : Nat) (p l t : Int) (v : Value) : Prop := w.heap[g]? = some (.cells #[.int .i64 p, .int .i64 l, .int .i64 t, v] 35 (0, 0))
theorem CVar.keep {w w' : World} {g : Nat} {p l t : Int} {v : Value} (h : CVar w g p l t v) (hb : Below w.heap.size w w') : CVar w' g p l t v := by
  unfold CVar at *
  rw [hb.block g (Array.getElem?_eq_some_iff.1 h).1]; exact h
theorem CVar.lt {w : World} {g : Nat} {p l t : Int} {v : Value} (h : CVar w g p l t v) : g < w.heap.size := (Array.getElem?_eq_some_iff.1 h).1
theorem CVar.cells {w : World} {g : Nat} {p l t : Int} {v : Value} (h : CVar w g p l t v) : w.cell? ⟨g, 0, none⟩ = some (.int .i64 p) ∧ w.cell? ⟨g, 1, none⟩ = some (.int .i64 l) ∧ w.cell? ⟨g, 2, none⟩ = some (.int .i64 t) ∧ w.cell? ⟨g, 3, none⟩ = some v := by
  refine ⟨?_, ?_, ?_, ?_⟩ <;> rw [cell_of_row _ _ _ _ _ _ h] <;> rfl
theorem sizeC : (Tryz.prog.info? 35).map (·.size) = some 4 := by kernel_rfl
theorem oneC (p l t : Int) (a : Option Addr) (n c : Nat) : (#[.int .i64 p, .int .i64 l, .int .i64 t, .slice a n c] : Array Value).all (·.oneCell') = true := by simp [Value.oneCell']
theorem CVar.setV {w : World} {g : Nat} {p l t : Int} {v u : Value} (h : CVar w g p l t v) : CVar (w.setCell ⟨g, 3, none⟩ u) g p l t u := by
  unfold CVar; rw [heap_setCell_same _ _ _ _ _ _ h]; rfl
theorem CVar.setP {w : World} {g : Nat} {p l t z : Int} {v : Value} (h : CVar w g p l t v) : CVar (w.setCell ⟨g, 0, none⟩ (.int .i64 z)) g z l t v := by
  unfold CVar; rw [heap_setCell_same _ _ _ _ _ _ h]; rfl
theorem CVar.setL {w : World} {g : Nat} {p l t z : Int} {v : Value} (h : CVar w g p l t v) : CVar (w.setCell ⟨g, 1, none⟩ (.int .i64 z)) g p z t v := by
  unfold CVar; rw [heap_setCell_same _ _ _ _ _ _ h]; rfl
theorem CVar.setT {w : World} {g : Nat} {p l t z : Int} {v : Value} (h : CVar w g p l t v) : CVar (w.setCell ⟨g, 2, none⟩ (.int .i64 z)) g p l z v := by
  unfold CVar; rw [heap_setCell_same _ _ _ _ _ _ h]; rfl
theorem CVar.other {w : World} {g : Nat} {p l t : Int} {v u : Value} {x : Addr} (h : CVar w g p l t v) (hne : g ≠ x.block) : CVar (w.setCell x u) g p l t v := by
  unfold CVar; rw [heap_setCell_other _ _ _ _ hne]; exact h
theorem CVar.frozen {w : World} {g i : Nat} {p l t : Int} {v : Value} (h : CVar w g p l t v) : w.frozen? ⟨g, i, none⟩ = false := by
  unfold CVar at h; simp [World.frozen?, h]
section
variable {ops : Array Oper} {rest : List Oper} {o : Oper} {act : Act} {Q : Exit → Act → World → Prop} {w : World}
theorem wpList_store_slice {P : Program} (hgd : o.guard = none) (ty : TypeId) (x y : Operand) (ho : o.op = .store ty x y) {p : Addr} {sa : Option Addr} {sn sc : Nat} {u : Value} (hx : act.eval x = .pointer (some p)) (hy : act.eval y = .slice sa sn sc) (hi : (P.info? ty).map (·.size) = some 1)
    (hc : w.cell? p = some u) (hf : w.frozen? p = false) (h : wpList P ops Q rest (act.put o.dst undef) (w.setCell p (.slice sa sn sc))) : wpList P ops Q (o :: rest) act w :=
  wpList_plain hgd fun K hK => by
    have hz : (sizeOf ty).run P w = .ok 1 w := by
      cases hq : P.info? ty with
      | none => rw [hq] at hi; cases hi
      | some i => rw [hq] at hi; simp at hi; simp [sizeOf, typeInfo, hq, hi]
    have h2 := hK _ _ h
    unfold Oper.wp execOp
    simp_all [Instr.storeAt, Instr.sureAddr, storeVar, storeCells, Value.cells, go_sem]
end
theorem Own.setC {B g i : Nat} {w : World} {v u : Value} {l : List UInt8} (h : Own B w v l) (hg : g < B) : Own B (w.setCell ⟨g, i, none⟩ u) v l :=
  h.same fun k hk => heap_setCell_other _ _ _ _ (by have := (h.lt hk).1; show k ≠ g; omega)
theorem Own.bytes {B : Nat} {w : World} {a : Option Addr} {l : List UInt8} {n c : Nat} (h : Own B w (.slice a n c) l) : IsBytes w a l c := by
  obtain ⟨a', c', e, hb⟩ := h.val
  injection e with e1 e2 e3
  subst e1 e3
  exact hb
theorem last_cases (l : List UInt8) : l = [] ∨ ∃ m z, l = m ++ [z] := by
  rcases List.eq_nil_or_concat l with h | ⟨m, z, h⟩
  · exact .inl h
  · exact .inr ⟨m, z, by rw [h, List.concat_eq_append]⟩
theorem crB_app (m : List UInt8) (z : UInt8) : crB (m ++ [z]) = (z == 13) := by unfold crB; simp
end Go.Proofs.YtejbkbccljoldaaGreatDoor
namespace Go.Proofs.YtejbkbccljoldaaGreatDoor
open Go.RowKit

theorem byteS_ten {s : Chk} {t : Int} (h : crB s.line = false) : byteS s t 10 = (2, zeroC) := by unfold byteS; rw [if_pos h, if_pos rfl]
theorem byteS_long {s : Chk} {t : Int} {x : UInt8} (h : crB s.line = false) (hx : ¬ x = 10) (hl : 128 < s.line.length + 1) (h13 : ¬ x = 13) : byteS s t x = (3, zeroC) := by
  unfold byteS; rw [if_pos h, if_neg hx, if_pos ⟨hl, h13⟩]
theorem byteS_more {s : Chk} {t : Int} {x : UInt8} (h : crB s.line = false) (hx : ¬ x = 10) (hl : ¬ (128 < s.line.length + 1 ∧ ¬ x = 13)) : byteS s t x = (0, ⟨s.ph, s.left, t, s.line ++ [x]⟩) := by
  unfold byteS; rw [if_pos h, if_neg hx, if_neg hl]
theorem byteS_bad {s : Chk} {t : Int} {x : UInt8} (h : crB s.line = true) (hx : ¬ x = 10) : byteS s t x = (2, zeroC) := by
  unfold byteS; rw [if_neg (by rw [h]; decide), if_neg hx]
theorem byteS_line {m : List UInt8} {p l t0 t : Int} : byteS ⟨p, l, t0, m ++ [13]⟩ t 10 = lineS ⟨p, l, t, []⟩ ⟨m.toArray⟩ := by
  unfold byteS; rw [if_neg (by rw [crB_app]; decide), if_pos rfl]; simp
theorem isBytes_front {w : World} {a : Option Addr} {m : List UInt8} {z : UInt8} {c : Nat} (h : IsBytes w a (m ++ [z]) c) : IsBytes w a m c := by
  rcases h with ⟨_, e, _⟩ | ⟨x, e, h1, h2, h3⟩
  · simp at e
  · refine .inr ⟨x, e, by simp at h1; omega, h2, fun j hj => ?_⟩
    have := h3 j (by simp; omega)
    rwa [List.getElem_append_left hj] at this

end Go.Proofs.YtejbkbccljoldaaGreatDoor
namespace Go.Proofs.YtejbkbccljoldaaGreatDoor
open Go.RowKit

theorem lineS_bad {l t : Int} {y : ByteArray} (h : (parseS 16 1000000000 (szS y)).2 = 2 ∨ visS y = false) : lineS ⟨0, l, t, []⟩ y = (2, zeroC) := by
  unfold lineS; rw [if_pos rfl, if_pos h]
theorem lineS_size {l t : Int} {y : ByteArray} (h : ¬ ((parseS 16 1000000000 (szS y)).2 = 2 ∨ visS y = false)) (h0 : (parseS 16 1000000000 (szS y)).2 = 0) : lineS ⟨0, l, t, []⟩ y = (0, ⟨if (parseS 16 1000000000 (szS y)).1 = 0 then 3 else 1, (parseS 16 1000000000 (szS y)).1, t, []⟩) := by
  unfold lineS; rw [if_pos rfl, if_neg h, if_pos h0]
theorem lineS_big {l t : Int} {y : ByteArray} (h : ¬ ((parseS 16 1000000000 (szS y)).2 = 2 ∨ visS y = false)) (h0 : ¬ (parseS 16 1000000000 (szS y)).2 = 0) : lineS ⟨0, l, t, []⟩ y = ((parseS 16 1000000000 (szS y)).2, zeroC) := by
  unfold lineS; rw [if_pos rfl, if_neg h, if_neg h0]
end Go.Proofs.YtejbkbccljoldaaGreatDoor
namespace Go.Proofs.YtejbkbccljoldaaGreatDoor
open Go.RowKit

theorem parse_range (s : ByteArray) : 0 ≤ (parseS 16 1000000000 s).1 ∧ (parseS 16 1000000000 s).1 ≤ 1000000000 ∧ ((parseS 16 1000000000 s).2 = 0 ∨ (parseS 16 1000000000 s).2 = 2 ∨ (parseS 16 1000000000 s).2 = 3) := by
  unfold parseS
  split
  · rename_i h
    have hne : s.data.toList ≠ [] := by
      intro e
      unfold numS at h
      rw [e] at h; simp at h
    have h1 := vgo_ge 16 (by decide) s.data.toList 0 (by decide)
    rw [pgo_eq 16 1000000000 (by decide) _ 0 (by decide) (.inr hne)]
    split
    · exact ⟨h1, by assumption, .inl rfl⟩
    · exact ⟨by decide, by decide, .inr (.inr rfl)⟩
  · exact ⟨by decide, by decide, .inr (.inl rfl)⟩

/-- A state that the decoder comes to. -/
structure OkC (s : Chk) : Prop where
  ph : 0 ≤ s.ph ∧ s.ph ≤ 4
  line : s.line.length ≤ 128 ∨ crB s.line = true ∧ s.line.length ≤ 129
  tr : 0 ≤ s.tr ∧ s.tr ≤ 1024
  tr0 : s.ph ≤ 2 → s.tr = 0
  data : s.ph = 1 → 1 ≤ s.left ∧ s.left ≤ 1000000000
  left : ¬ s.ph = 1 → s.left = 0
  empty : s.ph = 1 ∨ s.ph = 4 → s.line = []
theorem okC_mk {p l t : Int} {ln : List UInt8} (h1 : 0 ≤ p ∧ p ≤ 4) (h2 : ln.length ≤ 128 ∨ crB ln = true ∧ ln.length ≤ 129) (h3 : 0 ≤ t ∧ t ≤ 1024) (h4 : p ≤ 2 → t = 0) (h5 : p = 1 → 1 ≤ l ∧ l ≤ 1000000000) (h6 : ¬ p = 1 → l = 0) (h7 : p = 1 ∨ p = 4 → ln = []) : OkC ⟨p, l, t, ln⟩ := ⟨h1, h2, h3, h4, h5, h6, h7⟩
theorem isBytes_some {w : World} {a : Option Addr} {m : List UInt8} {z : UInt8} {c : Nat} (h : IsBytes w a (m ++ [z]) c) : ∃ ad, a = some ad := by
  rcases h with ⟨_, e, _⟩ | ⟨x, e, _⟩
  · simp at e
  · exact ⟨x, e⟩
theorem OkC.len {s : Chk} (h : OkC s) : s.line.length ≤ 129 := by
  rcases h.line with h | ⟨_, h⟩ <;> omega
theorem okC_zero : OkC zeroC := ⟨by decide, .inl (by decide), by decide, fun _ => rfl, fun h => absurd h (by decide), fun _ => rfl, fun _ => rfl⟩
theorem okC_line {s : Chk} {y : ByteArray} (h : OkC s) (hl : s.line = []) (h1 : ¬ s.ph = 1) (h0 : (lineS s y).1 = 0) : OkC (lineS s y).2 := by
  obtain ⟨p, l, t, ln⟩ := s
  simp only [] at hl h1
  subst hl
  have hp := h.ph
  have hlf := h.left h1
  simp only [] at hp hlf
  have hpr := parse_range (szS y)
  unfold lineS at h0 ⊢
  simp only [] at h0 ⊢
  by_cases e0 : p = 0
  · rw [if_pos e0] at h0 ⊢
    have ht := h.tr0 (by show p ≤ 2; omega)
    simp only [] at ht
    split at h0
    · simp at h0
    · rename_i hn
      rw [if_neg hn]
      split at h0
      · rename_i hz
        rw [if_pos hz]
        by_cases hn0 : (parseS 16 1000000000 (szS y)).1 = 0
        · simp only [if_pos hn0]
          exact okC_mk (by decide) (.inl (by decide)) (by omega) (fun h => absurd h (by decide)) (fun h => absurd h (by decide)) (fun _ => hn0) (fun _ => rfl)
        · simp only [if_neg hn0]
          exact okC_mk (by decide) (.inl (by decide)) (by omega) (fun _ => ht) (fun _ => by omega) (fun h => absurd rfl h) (fun _ => rfl)
      · rename_i hz
        exact absurd h0 hz
  · rw [if_neg e0] at h0 ⊢
    by_cases e2 : p = 2
    · rw [if_pos e2] at h0 ⊢
      have ht := h.tr0 (by show p ≤ 2; omega)
      simp only [] at ht
      split at h0
      · rename_i hs
        rw [if_pos hs]
        exact okC_mk (by decide) (.inl (by decide)) (by omega) (fun _ => ht) (fun h => absurd h (by decide)) (fun _ => hlf) (fun _ => rfl)
      · simp at h0
    · rw [if_neg e2] at h0 ⊢
      have htr := h.tr
      simp only [] at htr
      by_cases e3 : p = 3
      · rw [if_pos e3] at h0 ⊢
        split at h0
        · rename_i hs
          rw [if_pos hs]
          exact okC_mk (by decide) (.inl (by decide)) htr (fun h => absurd h (by decide)) (fun h => absurd h (by decide)) (fun _ => hlf) (fun _ => rfl)
        · rename_i hs
          rw [if_neg hs]
          split at h0
          · rename_i hf
            rw [if_pos hf]
            exact okC_mk (by decide) (.inl (by decide)) htr (fun h => absurd h (by decide)) (fun h => absurd h (by decide)) (fun _ => hlf) (fun _ => rfl)
          · simp at h0
      · rw [if_neg e3]
        exact okC_mk hp (.inl (by decide)) htr h.tr0 h.data h.left (fun _ => rfl)
theorem okC_byte {s : Chk} {t : Int} {x : UInt8} (h : OkC s) (h1 : ¬ s.ph = 1) (h4 : ¬ s.ph = 4) (ht : 0 ≤ t ∧ t ≤ 1024) (ht0 : s.ph ≤ 2 → t = 0) (h0 : (byteS s t x).1 = 0) : OkC (byteS s t x).2 := by
  unfold byteS at h0 ⊢
  by_cases hc : crB s.line = false
  · rw [if_pos hc] at h0 ⊢
    have hl : s.line.length ≤ 128 := by
      rcases h.line with h | ⟨h, _⟩
      · exact h
      · rw [hc] at h; cases h
    by_cases hx : x = 10
    · rw [if_pos hx] at h0; simp at h0
    · rw [if_neg hx] at h0 ⊢
      by_cases hb : 128 < s.line.length + 1 ∧ ¬ x = 13
      · rw [if_pos hb] at h0; simp at h0
      · rw [if_neg hb]
        refine ⟨h.ph, ?_, ht, ht0, h.data, h.left, fun e => ?_⟩
        · by_cases h13 : x = 13
          · exact .inr ⟨by show crB (s.line ++ [x]) = true; rw [crB_app, h13]; rfl, by show (s.line ++ [x]).length ≤ 129; simp; omega⟩
          · refine .inl ?_
            show (s.line ++ [x]).length ≤ 128
            simp
            have : ¬ 128 < s.line.length + 1 := fun h => hb ⟨h, h13⟩
            omega
        · rcases e with e | e
          · exact absurd e h1
          · exact absurd e h4
  · rw [if_neg hc] at h0 ⊢
    by_cases hx : x = 10
    · rw [if_pos hx] at h0 ⊢
      exact okC_line ⟨h.ph, .inl (by show ([] : List UInt8).length ≤ 128; simp), ht, ht0, h.data, h.left, fun _ => rfl⟩ rfl h1 h0
    · rw [if_neg hx] at h0; simp at h0
theorem okC_step {s : Chk} {x : UInt8} (h : OkC s) (h1 : ¬ s.ph = 1) (h4 : ¬ s.ph = 4) (h0 : (stepS s x).1 = 0) : OkC (stepS s x).2 := by
  unfold stepS at h0 ⊢
  by_cases h3 : s.ph = 3
  · rw [if_pos h3] at h0 ⊢
    by_cases hm : 1024 < s.tr + 1
    · rw [if_pos hm] at h0; simp at h0
    · rw [if_neg hm] at h0 ⊢
      exact okC_byte h h1 h4 (by have := h.tr; omega) (fun e => by omega) h0
  · rw [if_neg h3] at h0 ⊢
    exact okC_byte h h1 h4 h.tr h.tr0 h0
theorem okC_data {s : Chk} (h : OkC s) (h1 : s.ph = 1) : OkC ⟨if s.left - 1 = 0 then 2 else 1, s.left - 1, s.tr, s.line⟩ := by
  have hd := h.data h1
  by_cases e : s.left - 1 = 0
  · simp only [if_pos e]
    exact okC_mk (by decide) h.line h.tr (fun _ => h.tr0 (by omega)) (fun h => absurd h (by decide)) (fun _ => e) (fun _ => h.empty (.inl h1))
  · simp only [if_neg e]
    exact okC_mk (by decide) h.line h.tr (fun _ => h.tr0 (by omega)) (fun _ => by omega) (fun h => absurd rfl h) (fun _ => h.empty (.inl h1))
end Go.Proofs.YtejbkbccljoldaaGreatDoor
namespace Go.Proofs.YtejbkbccljoldaaGreatDoor
open Go.RowKit

theorem results_row_tmp3C {P : Program} {fn : Func} {q1 q2 q3 p : Tmp} {ty : TypeId} (h : fn.results = #[.cell p ty, .tmp q1, .tmp q2, .tmp q3]) (tmps : Array Value) (w : World) (g : Nat) (t : TypeId) (cs : Array Value) (fr : Nat × Nat) (d : TypeDesc)
    (hp : tmps.getD p undef = .pointer (some ⟨g, 0, none⟩)) (hg : w.heap[g]? = some (.cells cs t fr))
    (hu : P.underlying ty = some d) (hd : (match d with | .struct _ | .array _ _ => true | _ => false) = true) (hi : (P.info? ty).map (·.size) = some cs.size) :
    (results fn tmps).run P w = .ok (.tuple #[.agg cs, tmps.getD q1 undef, tmps.getD q2 undef, tmps.getD q3 undef]) w := by
  have hp' : tmps[p]?.getD undef = .pointer (some ⟨g, 0, none⟩) := by simpa using hp
  simp [results, h, hp', asAddr, run_loadVar_row w g t ty cs fr d hg hu hd hi]

theorem feedS_nil (room : Int) (s : Chk) (out : List UInt8) (i : Nat) : feedS room s out i [] = (0, s, out, i) := rfl
theorem feedS_stop {room : Int} {s : Chk} {out : List UInt8} {i : Nat} {x : UInt8} {r : List UInt8} (h : s.ph = 4 ∨ s.ph = 1 ∧ room ≤ out.length) : feedS room s out i (x :: r) = (0, s, out, i) := by rw [feedS, if_pos h]
theorem feedS_data {room : Int} {s : Chk} {out : List UInt8} {i : Nat} {x : UInt8} {r : List UInt8} (h1 : s.ph = 1) (h : ¬ room ≤ out.length) : feedS room s out i (x :: r) = feedS room ⟨if s.left - 1 = 0 then 2 else 1, s.left - 1, s.tr, s.line⟩ (out ++ [x]) (i + 1) r := by
  rw [feedS, if_neg (by rintro (h4 | h4); · omega
                        · exact h h4.2), if_pos h1]
theorem feedS_ok {room : Int} {s : Chk} {out : List UInt8} {i : Nat} {x : UInt8} {r : List UInt8} (h4 : ¬ s.ph = 4) (h1 : ¬ s.ph = 1) (h0 : (stepS s x).1 = 0) : feedS room s out i (x :: r) = feedS room (stepS s x).2 out (i + 1) r := by
  rw [feedS, if_neg (by rintro (h | h); · exact h4 h
                        · exact h1 h.1), if_neg h1, if_pos h0]
theorem feedS_err {room : Int} {s : Chk} {out : List UInt8} {i : Nat} {x : UInt8} {r : List UInt8} (h4 : ¬ s.ph = 4) (h1 : ¬ s.ph = 1) (h0 : ¬ (stepS s x).1 = 0) : feedS room s out i (x :: r) = ((stepS s x).1, zeroC, [], 0) := by
  rw [feedS, if_neg (by rintro (h | h); · exact h4 h
                        · exact h1 h.1), if_neg h1, if_neg h0]
theorem add_blockC (x : Addr) (j : Nat) : (x.add j).block = x.block := by unfold Addr.add; split <;> rfl
theorem isBytes_at {w : World} {a : Option Addr} {l : List UInt8} {c : Nat} (h : IsBytes w a l c) {k : Nat} (hk : k < l.length) : ∃ ad, a = some ad ∧ w.cell? (ad.add k) = some (.int .u8 (l[k].toNat : Int)) := by
  rcases h with ⟨_, e, _⟩ | ⟨x, e, _, _, hc⟩
  · subst e; simp at hk
  · exact ⟨x, e, hc k hk⟩
theorem CVar.away {w : World} {g : Nat} {p lf t : Int} {va : Option Addr} {n vc : Nat} {a : Option Addr} {l : List UInt8} {c : Nat} (h : CVar w g p lf t (.slice va n vc)) (hb : IsBytes w a l c) : ∀ x, a = some x → l ≠ [] → x.block ≠ g := by
  intro x hx hl hg
  rcases hb with ⟨h1, _⟩ | ⟨y, h1, _, _, h4⟩
  · rw [h1] at hx; cases hx
  · rw [h1] at hx
    obtain rfl := Option.some.inj hx
    have h5 := h4 0 (List.length_pos_iff.2 hl)
    have h6 : w.heap[(y.add 0).block]? = some (.cells #[.int .i64 p, .int .i64 lf, .int .i64 t, .slice va n vc] 35 (0, 0)) := by rw [add_blockC, hg]; exact h
    unfold World.cell? at h5
    rw [h6] at h5
    simp only at h5
    split at h5
    · cases h5
    · match hq : (y.add 0).off with
      | 0 => rw [hq] at h5; simp at h5
      | 1 => rw [hq] at h5; simp at h5
      | 2 => rw [hq] at h5; simp at h5
      | 3 => rw [hq] at h5; simp at h5
      | m + 4 => rw [hq] at h5; simp at h5
theorem CVar.setCB {w : World} {g i : Nat} {p lf t : Int} {va : Option Addr} {n vc : Nat} {a : Option Addr} {l : List UInt8} {c : Nat} {u : Value} (h : CVar w g p lf t (.slice va n vc)) (hb : IsBytes w a l c) : IsBytes (w.setCell ⟨g, i, none⟩ u) a l c :=
  hb.same fun x hx hl => heap_setCell_other _ _ _ _ (h.away hb x hx hl)
theorem CVar.row {w : World} {g k : Nat} {p l t : Int} {v : Value} {cs : Array Value} (h : CVar w g p l t v) (hne : g ≠ k) : CVar (w.setRow k cs) g p l t v := by
  unfold CVar; rw [setRow_other _ _ _ _ hne]; exact h
theorem CVar.set4 {w : World} {g : Nat} {p0 l0 t0 p l t : Int} {v0 u : Value} (h : CVar w g p0 l0 t0 v0) : CVar ((((w.setCell ⟨g, 0, none⟩ (.int .i64 p)).setCell ⟨g, 1, none⟩ (.int .i64 l)).setCell ⟨g, 2, none⟩ (.int .i64 t)).setCell ⟨g, 3, none⟩ u) g p l t u := h.setP.setL.setT.setV
theorem CVar.set4B {w : World} {g : Nat} {p0 l0 t0 p l t : Int} {va : Option Addr} {n vc : Nat} {u : Value} {a : Option Addr} {r : List UInt8} {c : Nat} (h : CVar w g p0 l0 t0 (.slice va n vc)) (hb : IsBytes w a r c) :
    IsBytes ((((w.setCell ⟨g, 0, none⟩ (.int .i64 p)).setCell ⟨g, 1, none⟩ (.int .i64 l)).setCell ⟨g, 2, none⟩ (.int .i64 t)).setCell ⟨g, 3, none⟩ u) a r c :=
  h.setP.setL.setT.setCB (h.setP.setL.setCB (h.setP.setCB (h.setCB hb)))
theorem below_set4 {B g : Nat} {w0 w : World} {u0 u1 u2 u3 : Value} (hb : Below B w0 w) (hg : B ≤ g) : Below B w0 ((((w.setCell ⟨g, 0, none⟩ u0).setCell ⟨g, 1, none⟩ u1).setCell ⟨g, 2, none⟩ u2).setCell ⟨g, 3, none⟩ u3) :=
  (((hb.setCell (p := ⟨g, 0, none⟩) hg u0).setCell (p := ⟨g, 1, none⟩) hg u1).setCell (p := ⟨g, 2, none⟩) hg u2).setCell (p := ⟨g, 3, none⟩) hg u3
theorem isBytes_oneC (w : World) (x : UInt8) : IsBytes (w.alloc (.cells #[.int .u8 (x.toNat : Int)] 5)) (some ⟨w.heap.size, 0, none⟩) [x] 1 := by
  refine .inr ⟨_, rfl, Nat.le_refl _, by decide, fun j hj => ?_⟩
  obtain rfl : j = 0 := by simpa using hj
  rw [Addr.add_lit, new_cellF]; rfl
theorem CVar.grownC {w w' : World} {g : Nat} {p l t : Int} {v : Value} {row : Option Nat} (h : CVar w g p l t v) (hg : w.grownBy w' row) (hne : some g ≠ row) : CVar w' g p l t v := by
  unfold CVar at *
  rw [hg.block g (Array.getElem?_eq_some_iff.1 h).1 hne]; exact h
theorem grownBy_afterC {w w1 w2 : World} {row : Option Nat} (h : Below w.heap.size w w1) (k : w1.grownBy w2 row) : w.grownBy w2 row :=
  ⟨k.os.trans h.os, k.tape.trans h.tape, k.output.trans h.output, Nat.le_trans h.size k.size, fun i hi hne => (k.block i (Nat.lt_of_lt_of_le hi h.size) hne).trans (h.block i hi)⟩
section
variable {Q : Exit → Act → World → Prop} {act : Act} {w : World} {o : Oper} {s : Spec} {K : Act → World → Prop}
end
section
variable {Q : Exit → Act → World → Prop} {act : Act} {w : World} {o : Oper} {s : Spec} {K : Act → World → Prop}
end
end Go.Proofs.YtejbkbccljoldaaGreatDoor
namespace Go.Proofs.YtejbkbccljoldaaGreatDoor
open Go.RowKit

/-- The reader's state. -/
structure RS where
  rep : Bool
  meth : ByteArray
  ph : Int
  m : ByteArray
  t : ByteArray
  z : Int
  xs : List Fld
  fr : Bool
  st : Int
  rs : ByteArray
  z2 : Int
  ys : List Fld
  fk : Int
  fl : Int
  left : Int
  size : Int
  ck : Chk
def zeroR : RS := ⟨false, ⟨#[]⟩, 0, ⟨#[]⟩, ⟨#[]⟩, 0, [], false, 0, ⟨#[]⟩, 0, [], 0, 0, 0, 0, zeroC⟩
/-- What Next returns: error, state, kind, bytes of the body, bytes that were consumed. -/
structure NX where
  er : Int
  r : RS
  kind : Int
  data : List UInt8
  n : Nat
def errX (e : Int) : NX := ⟨e, zeroR, 0, [], 0⟩
/-- A message x with the frame f was read, in n bytes. -/
def finX (x : RS) (f : Int × Int × Int) (n : Nat) (body : Int) : NX :=
  if f.2.2 ≠ 0 then errX (if f.2.2 = 3 then 9 else f.2.2)
  else if f.1 = 2 ∧ body < f.2.1 then errX 9
  else ⟨0, { x with fk := f.1, fl := f.2.1, left := f.2.1, size := 0, ck := zeroC, ph := 1 }, 1, [], n⟩
def headX (r : RS) (h : List UInt8) (body : Int) : NX :=
  if r.rep = true then
    (if (headA h).1 ≠ 0 then errX (headA h).1
    else if (headA h).2.1 = 101 then errX 2
    else if 100 ≤ (headA h).2.1 ∧ (headA h).2.1 ≤ 199 then ⟨0, r, 4, [], h.length⟩
    else finX { r with st := (headA h).2.1, rs := (headA h).2.2.1, z2 := (headA h).2.2.2.1, ys := (headA h).2.2.2.2 } (replyS r.meth (headA h).2.1 (headA h).2.2.2.1 (headA h).2.2.2.2) h.length body)
  else
    (if (headR h).1 ≠ 0 then errX (headR h).1
    else finX { r with m := (headR h).2.1, t := (headR h).2.2.1, z := (headR h).2.2.2.1, xs := (headR h).2.2.2.2, fr := !decide ((frameS (headR h).2.2.2.1 (headR h).2.2.2.2 1).1 = 1) } (frameS (headR h).2.2.2.1 (headR h).2.2.2.2 1) h.length body)
def firstX (r : RS) (b : List UInt8) (most body : Int) : NX :=
  if (endS b most).2 = 4 then ⟨0, r, 0, [], 0⟩
  else if (endS b most).2 ≠ 0 then errX (endS b most).2
  else headX r (b.take (endS b most).1.toNat) body
def minI (a b : Int) : Int := if a ≤ b then a else b
def moreX (r : RS) (b : List UInt8) (body room : Int) : NX :=
  if r.fk = 1 ∨ r.fk = 2 then
    (if r.fk = 1 ∨ r.left = 0 then ⟨0, { r with ph := 2 }, 3, [], 0⟩
    else if minI (minI r.left room) b.length = 0 then ⟨0, r, 0, [], 0⟩
    else ⟨0, { r with left := r.left - minI (minI r.left room) b.length, size := r.size + minI (minI r.left room) b.length }, 2, b.take (minI (minI r.left room) b.length).toNat, (minI (minI r.left room) b.length).toNat⟩)
  else if r.fk = 3 then
    (if (feedS (minI room (body + 1 - r.size)) r.ck [] 0 b).1 ≠ 0 then errX (feedS (minI room (body + 1 - r.size)) r.ck [] 0 b).1
    else if body < r.size + (feedS (minI room (body + 1 - r.size)) r.ck [] 0 b).2.2.1.length then errX 9
    else if 0 < (feedS (minI room (body + 1 - r.size)) r.ck [] 0 b).2.2.1.length then
      ⟨0, { r with ck := (feedS (minI room (body + 1 - r.size)) r.ck [] 0 b).2.1, size := r.size + (feedS (minI room (body + 1 - r.size)) r.ck [] 0 b).2.2.1.length }, 2, (feedS (minI room (body + 1 - r.size)) r.ck [] 0 b).2.2.1, (feedS (minI room (body + 1 - r.size)) r.ck [] 0 b).2.2.2⟩
    else if (feedS (minI room (body + 1 - r.size)) r.ck [] 0 b).2.1.ph = 4 then
      ⟨0, { r with ck := (feedS (minI room (body + 1 - r.size)) r.ck [] 0 b).2.1, ph := 2 }, 3, [], (feedS (minI room (body + 1 - r.size)) r.ck [] 0 b).2.2.2⟩
    else ⟨0, { r with ck := (feedS (minI room (body + 1 - r.size)) r.ck [] 0 b).2.1 }, 0, [], (feedS (minI room (body + 1 - r.size)) r.ck [] 0 b).2.2.2⟩)
  else
    (if minI (minI room b.length) (body + 1 - r.size) ≤ 0 then ⟨0, r, 0, [], 0⟩
    else if body < r.size + minI (minI room b.length) (body + 1 - r.size) then errX 9
    else ⟨0, { r with size := r.size + minI (minI room b.length) (body + 1 - r.size) }, 2, b.take (minI (minI room b.length) (body + 1 - r.size)).toNat, (minI (minI room b.length) (body + 1 - r.size)).toNat⟩)
def nextX (r : RS) (b : List UInt8) (most body room : Int) : NX :=
  if r.ph = 0 then firstX r b most body else if r.ph = 1 then moreX r b body (if room ≤ 0 then 0 else room) else ⟨0, r, 0, [], 0⟩
/-- What the state's slices hold; the fields lie in blocks that B allows. -/
structure RMem (B : Nat → Prop) (w : World) (s : RS) (fa ga la : Option Addr) (lc : Nat) : Prop where
  f1 : FldsIn w fa s.xs
  f2 : FldsIn w ga s.ys
  ln : IsBytes w la s.ck.line lc
  n1 : ∀ y, fa = some y → s.xs ≠ [] → B y.block
  n2 : ∀ y, ga = some y → s.ys ≠ [] → B y.block
theorem RMem.keep {B : Nat → Prop} {w w' : World} {s : RS} {fa ga la : Option Addr} {lc : Nat} (h : RMem B w s fa ga la lc) (hb : Below w.heap.size w w') : RMem B w' s fa ga la lc :=
  ⟨h.f1.keep hb, h.f2.keep hb, h.ln.keep hb, h.n1, h.n2⟩
/-- What Next returns, in memory. -/
def RetX (B : Nat → Prop) (w : World) (x : NX) (e : Ending) (w' : World) : Prop :=
  ∃ fa fc ga gc la lc pa pc, e = .returned (.tuple #[.agg #[.bool x.r.rep, .string x.r.meth, .int .i64 x.r.ph, .string x.r.m, .string x.r.t, .int .i64 x.r.z, .slice fa (List.length x.r.xs) fc, .bool x.r.fr, .slice none 0 0, .int .i64 x.r.st, .string x.r.rs, .int .i64 x.r.z2, .slice ga (List.length x.r.ys) gc, .slice none 0 0, .int .i64 x.r.fk, .int .i64 x.r.fl, .int .i64 x.r.left, .int .i64 x.r.size, .int .i64 x.r.ck.ph, .int .i64 x.r.ck.left, .int .i64 x.r.ck.tr, .slice la (List.length x.r.ck.line) lc], .agg #[.int .i64 x.kind, .slice pa (List.length x.data) pc], .int .i64 x.n, .int .i64 x.er]) ∧ RMem B w' x.r fa ga la lc ∧ IsBytes w' pa x.data pc ∧ Below w.heap.size w w'
/-- The states that come up. -/
structure OkR (s : RS) : Prop where
  ck : OkC s.ck
  left : s.fk = 2 → 0 ≤ s.left ∧ s.left + s.size ≤ 1000000000
  size : 0 ≤ s.size ∧ s.size ≤ 1000000000
  xs : ShortF s.xs ∧ s.xs.length ≤ 64
  ys : ShortF s.ys ∧ s.ys.length ≤ 64

theorem results_rrttR {P : Program} {fn : Func} {q1 q2 p1 p2 : Tmp} {ty1 ty2 : TypeId} (h : fn.results = #[.cell p1 ty1, .cell p2 ty2, .tmp q1, .tmp q2]) (tmps : Array Value) (w : World) (g1 g2 : Nat) (t1 t2 : TypeId) (c1 c2 : Array Value) (f1 f2 : Nat × Nat) (d1 d2 : TypeDesc)
    (hp1 : tmps.getD p1 undef = .pointer (some ⟨g1, 0, none⟩)) (hp2 : tmps.getD p2 undef = .pointer (some ⟨g2, 0, none⟩)) (hg1 : w.heap[g1]? = some (.cells c1 t1 f1)) (hg2 : w.heap[g2]? = some (.cells c2 t2 f2))
    (hu1 : P.underlying ty1 = some d1) (hd1 : (match d1 with | .struct _ | .array _ _ => true | _ => false) = true) (hi1 : (P.info? ty1).map (·.size) = some c1.size)
    (hu2 : P.underlying ty2 = some d2) (hd2 : (match d2 with | .struct _ | .array _ _ => true | _ => false) = true) (hi2 : (P.info? ty2).map (·.size) = some c2.size) :
    (results fn tmps).run P w = .ok (.tuple #[.agg c1, .agg c2, tmps.getD q1 undef, tmps.getD q2 undef]) w := by
  have hp1' : tmps[p1]?.getD undef = .pointer (some ⟨g1, 0, none⟩) := by simpa using hp1
  have hp2' : tmps[p2]?.getD undef = .pointer (some ⟨g2, 0, none⟩) := by simpa using hp2
  simp [results, h, hp1', hp2', asAddr, run_loadVar_row w g1 t1 ty1 c1 f1 d1 hg1 hu1 hd1 hi1, run_loadVar_row w g2 t2 ty2 c2 f2 d2 hg2 hu2 hd2 hi2]
theorem sizeRd : (Tryz.prog.info? 37).map (·.size) = some 22 := by kernel_rfl
theorem sizePt : (Tryz.prog.info? 41).map (·.size) = some 2 := by kernel_rfl
/-- A reader's variable. -/
def RVr (w : World) (g : Nat) (cs : Array Value) : Prop := w.heap[g]? = some (.cells cs 37 (0, 0))
theorem RVr.keep {w w' : World} {g : Nat} {cs : Array Value} (h : RVr w g cs) (hb : Below w.heap.size w w') : RVr w' g cs := by
  unfold RVr at *
  rw [hb.block g (Array.getElem?_eq_some_iff.1 h).1]; exact h
theorem RVr.lt {w : World} {g : Nat} {cs : Array Value} (h : RVr w g cs) : g < w.heap.size := (Array.getElem?_eq_some_iff.1 h).1
theorem RVr.cell {w : World} {g : Nat} {cs : Array Value} (h : RVr w g cs) (i : Nat) : w.cell? ⟨g, i, none⟩ = cs[i]? := cell_of_row _ _ _ _ _ _ h
/-- A part's variable. -/
def PVr (w : World) (g : Nat) (cs : Array Value) : Prop := w.heap[g]? = some (.cells cs 41 (0, 0))
theorem PVr.keep {w w' : World} {g : Nat} {cs : Array Value} (h : PVr w g cs) (hb : Below w.heap.size w w') : PVr w' g cs := by
  unfold PVr at *
  rw [hb.block g (Array.getElem?_eq_some_iff.1 h).1]; exact h
end Go.Proofs.YtejbkbccljoldaaGreatDoor
namespace Go.Proofs.YtejbkbccljoldaaGreatDoor
open Go.RowKit

theorem fieldsGo_le (M : Nat) : ∀ (l : List ByteArray) (x : List Fld), fieldsGo l = some x → (∀ s ∈ l, s.size ≤ M) → ∀ f ∈ x, f.1.size ≤ M ∧ f.2.size ≤ M
  | [], x, h, _ => by
    cases h
    exact fun f hf => absurd hf (by simp)
  | t :: l, x, h, hz => by
    unfold fieldsGo at h
    cases ht : parseF t with
    | none => rw [ht] at h; cases h
    | some f =>
      rw [ht] at h
      simp only at h
      cases hx : fieldsGo l with
      | none => rw [hx] at h; cases h
      | some y =>
        rw [hx] at h
        simp only [Option.map_some, Option.some.injEq] at h
        subst h
        have h1 := fieldsGo_le M l y hx (fun s hs => hz s (List.mem_cons_of_mem _ hs))
        have h3 := parseF_small ht
        have h4 := hz t (List.mem_cons_self ..)
        intro g hg
        rcases List.mem_cons.1 hg with rfl | hg
        · exact ⟨Nat.le_trans h3.1 h4, Nat.le_trans h3.2 h4⟩
        · exact h1 g hg
theorem fieldsS_sm {l : List ByteArray} (hz : ∀ s ∈ l, s.size ≤ 1000000) : SmallF (fieldsS l).2 ∧ (fieldsS l).2.length ≤ 64 := by
  unfold fieldsS
  split
  · exact ⟨fun f hf => absurd hf (by simp), by simp⟩
  · rename_i h64
    cases hx : fieldsGo l with
    | none => exact ⟨fun f hf => absurd hf (by simp), by simp⟩
    | some y =>
      have h1 := fieldsGo_le 1000000 l y hx hz
      have h2 := (fieldsGo_small l y hx (fun s hs => Nat.le_trans (hz s hs) (by decide))).2
      exact ⟨fun f hf => ⟨Nat.le_trans (h1 f hf).1 (by decide), Nat.le_trans (h1 f hf).2 (by decide)⟩, by simp only; omega⟩
theorem small_nil : SmallF [] ∧ ([] : List Fld).length ≤ 64 := ⟨fun f hf => absurd hf (by simp), by simp⟩
theorem headA_sm {b : List UInt8} (hl : b.length ≤ 1000000) : SmallF (headA b).2.2.2.2 ∧ (headA b).2.2.2.2.length ≤ 64 := by
  unfold headA
  split
  · rename_i l0 ls hL
    have hz := (linesS_facts hL).1
    split
    · split
      · exact fieldsS_sm fun s hs => Nat.le_trans (hz s (List.mem_cons_of_mem _ hs)) hl
      · exact small_nil
    · exact small_nil
  · exact small_nil
theorem headR_sm {b : List UInt8} (hl : b.length ≤ 1000000) : SmallF (headR b).2.2.2.2 ∧ (headR b).2.2.2.2.length ≤ 64 := by
  unfold headR
  split
  · rename_i l0 ls hL
    have hz := (linesS_facts hL).1
    split
    · split
      · split
        · exact small_nil
        · exact fieldsS_sm fun s hs => Nat.le_trans (hz s (List.mem_cons_of_mem _ hs)) hl
      · exact small_nil
    · exact small_nil
  · exact small_nil
theorem total_sm {l : List Fld} (h : SmallF l) (hl : l.length ≤ 64) (n : ByteArray) : total (valuesL l n) ≤ 4000000000 := Nat.le_trans (total_values h n) (Nat.le_trans (Nat.mul_le_mul_right _ hl) (by decide))
/-- End found an end. -/
theorem endS_ok {b : List UInt8} {most : Int} (h : (endS b most).2 = 0) : ∃ n : Nat, endS b most = ((n : Int), 0) ∧ 4 ≤ n ∧ n ≤ b.length := by
  unfold endS at h ⊢
  split at h
  · rename_i hc
    rcases endGo_range b 0 with h1 | ⟨k, h1, h2, h3⟩
    · have : endZ b = -1 := h1
      omega
    · have h4 : endZ b = k := h1
      rw [if_pos hc, h4]
      exact ⟨k, rfl, by omega, by omega⟩
  · split at h <;> cases h
end Go.Proofs.YtejbkbccljoldaaGreatDoor
namespace Go.Proofs.YtejbkbccljoldaaGreatDoor
open Go.RowKit

theorem oneRd (r : Bool) (p : ByteArray) (a2 : Int) (a3 a4 : ByteArray) (a5 : Int) (x6 : Option Addr) (n6 c6 : Nat) (b7 : Bool) (a9 : Int) (a10 : ByteArray) (a11 : Int) (x12 : Option Addr) (n12 c12 : Nat) (a14 a15 a16 a17 a18 a19 a20 : Int) (x21 : Option Addr) (n21 c21 : Nat) : (#[.bool r, .string p, .int .i64 a2, .string a3, .string a4, .int .i64 a5, .slice x6 n6 c6, .bool b7, .slice none 0 0, .int .i64 a9, .string a10, .int .i64 a11, .slice x12 n12 c12, .slice none 0 0, .int .i64 a14, .int .i64 a15, .int .i64 a16, .int .i64 a17, .int .i64 a18, .int .i64 a19, .int .i64 a20, .slice x21 n21 c21] : Array Value).all (·.oneCell') = true := by simp [Value.oneCell']
theorem onePt (k : Int) (a : Option Addr) (n c : Nat) : (#[.int .i64 k, .slice a n c] : Array Value).all (·.oneCell') = true := by simp [Value.oneCell']
section
variable (B : Nat → Prop) (s : RS) (b : List UInt8) (most body : Int) (ba : Option Addr) (bc : Nat) (fa ga la : Option Addr) (fc gc lc : Nat) (w : World)
end
end Go.Proofs.YtejbkbccljoldaaGreatDoor
namespace Go.Proofs.YtejbkbccljoldaaGreatDoor
open Go.RowKit

section
variable {w wr : World} {g : Nat} {s : St} {n : Int} {dt tv bv : Value} {blk : List UInt8}
end
section
variable {P : Program} {ops : Array Oper} {rest : List Oper} {o : Oper} {a : Act} {w : World} {Q : Exit → Act → World → Prop}
/-- A whole array, stored into the cells of a greater variable. -/
theorem wpList_store_sub (hgd : o.guard = none) (ty : TypeId) (x y : Operand) (ho : o.op = .store ty x y)
    (g off : Nat) (cells : Array Value) (hx : a.eval x = .pointer (some ⟨g, off, none⟩)) (hy : a.eval y = .agg cells)
    (t : TypeId) (cur new : Array Value) (hg : w.heap[g]? = some (.cells cur t (0, 0))) (hi : (P.info? ty).map (·.size) = some cells.size)
    (hfit : off + cells.size ≤ cur.size) (h1 : cells.all (·.oneCell') = true) (hn : (cur.toList.take off ++ cells.toList ++ cur.toList.drop (off + cells.size)).toArray = new)
    (h : wpList P ops Q rest (a.put o.dst undef) (w.setRow g new)) : wpList P ops Q (o :: rest) a w :=
  wpList_plain hgd fun K hK => by
    have hst := run_storeCells_at P g off t cells.toList 0 cur w hg (by simpa using hfit) (fun v hv => (Array.all_eq_true_iff_forall_mem.1 h1) v (by simpa using hv))
    have hsv : (storeVar ty ⟨g, off, none⟩ (.agg cells)).run P w = .ok () (w.setRow g new) := by
      cases hq : P.info? ty with
      | none => simp [hq] at hi
      | some i =>
        have hs : cells.size = i.size := by simp [hq] at hi; omega
        rw [← hn]
        simpa [storeVar, sizeOf, typeInfo, hq, Value.cells, hs] using hst
    unfold Oper.wp execOp
    simp only [ho, hx, hy, Instr.storeAt, Instr.sureAddr, Sem.run_bind, Sem.run_pure, Result.andThen_ok, hsv]
    exact hK _ _ h
end
end Go.Proofs.YtejbkbccljoldaaGreatDoor
namespace Go.Proofs.YtejbkbccljoldaaGreatDoor
open Go.RowKit

theorem isBytes_takeR {w : World} {a : Option Addr} {l : List UInt8} {c : Nat} (h : IsBytes w a l c) (k : Nat) : IsBytes w a (l.take k) c := by
  rcases h with ⟨h1, h2, h3⟩ | ⟨x, h1, h2, h3, h4⟩
  · subst h3
    exact .inl ⟨h1, by rw [h2, List.take_nil], rfl⟩
  · refine .inr ⟨x, h1, Nat.le_trans (by rw [List.length_take]; omega) h2, h3, fun j hj => ?_⟩
    have hj2 : j < l.length := by rw [List.length_take] at hj; omega
    rw [List.getElem_take]
    exact h4 j hj2
section
variable (B : Nat → Prop) (s : RS) (b : List UInt8) (most body : Int) (ba : Option Addr) (bc : Nat) (fa ga la : Option Addr) (fc gc lc : Nat) (w : World)
end
end Go.Proofs.YtejbkbccljoldaaGreatDoor
namespace Go.Proofs.YtejbkbccljoldaaGreatDoor
open Go.RowKit

theorem run_loadRR (w : World) (g : Nat) (cs : Array Value) (h : RVr w g cs) (hs : cs.size = 22) : (Instr.loadAt 37 (.pointer (some ⟨g, 0, none⟩))).run Tryz.prog w = .ok (.agg cs) w := by
  unfold RVr at h
  simp [Instr.loadAt, Instr.sureAddr, run_loadVar_row w g _ 37 _ _ _ h Tryz.underlying37 rfl (by rw [hs]; exact sizeRd)]
section
variable {Q : Exit → Act → World → Prop} {a : Act} {w : World} {o : Oper} {s : Spec}
end
end Go.Proofs.YtejbkbccljoldaaGreatDoor
namespace Go.Proofs.YtejbkbccljoldaaGreatDoor
open Go.RowKit

theorem AVar.cells {w : World} {g : Nat} {st : Int} {r : ByteArray} {z : Int} (h : AVar w g st r z) : g < w.heap.size ∧ w.cell? ⟨g, 0, none⟩ = some (.int .i64 st) ∧ w.cell? ⟨g, 1, none⟩ = some (.string r) ∧ w.cell? ⟨g, 2, none⟩ = some (.int .i64 z) ∧ w.cell? ⟨g, 3, none⟩ = some (.slice none 0 0) ∧ w.cell? ⟨g, 4, none⟩ = some (.slice none 0 0) := by
  refine ⟨(Array.getElem?_eq_some_iff.1 h).1, ?_, ?_, ?_, ?_, ?_⟩ <;> rw [cell_of_row _ _ _ _ _ _ h] <;> rfl
theorem RVar.cells {w : World} {g : Nat} {m t : ByteArray} {z : Int} (h : RVar w g m t z) : g < w.heap.size ∧ w.cell? ⟨g, 0, none⟩ = some (.string m) ∧ w.cell? ⟨g, 1, none⟩ = some (.string t) ∧ w.cell? ⟨g, 2, none⟩ = some (.int .i64 z) ∧ w.cell? ⟨g, 3, none⟩ = some (.slice none 0 0) ∧ w.cell? ⟨g, 4, none⟩ = some (.bool false) ∧ w.cell? ⟨g, 5, none⟩ = some (.slice none 0 0) := by
  refine ⟨(Array.getElem?_eq_some_iff.1 h).1, ?_, ?_, ?_, ?_, ?_, ?_⟩ <;> rw [cell_of_row _ _ _ _ _ _ h] <;> rfl

section
variable (line reason : ByteArray) (status at_ : Int) (c : UInt8) (wild : Int) (mm : Int) (w : World)
end
end Go.Proofs.YtejbkbccljoldaaGreatDoor
namespace Go.Proofs.YtejbkbccljoldaaGreatDoor
open Go.RowKit

theorem Own.grown {B : Nat} {w w' : World} {v : Value} {l : List UInt8} {row : Option Nat} (h : Own B w v l) (hg : w.grownBy w' row) (hne : ∀ k, v.ownBlock = some k → some k ≠ row) : Own B w' v l :=
  h.same fun k hk => hg.block k (h.lt hk).2 (hne k hk)
end Go.Proofs.YtejbkbccljoldaaGreatDoor
namespace Go.Proofs.YtejbkbccljoldaaGreatDoor
open Go.RowKit

theorem OwnF.mono {B B' : Nat} {w : World} {v : Value} {l : List Fld} (h : OwnF B w v l) (hb : B' ≤ B) : OwnF B' w v l := by
  obtain ⟨h1, h2⟩ := h
  refine ⟨h1, ?_⟩
  rcases h2 with h2 | ⟨g, cap, cur, hv, hg, hc, r⟩
  · exact .inl h2
  · exact .inr ⟨g, cap, cur, hv, Nat.le_trans hb hg, hc, r⟩
theorem Own.mono {B B' : Nat} {w : World} {v : Value} {l : List UInt8} (h : Own B w v l) (hb : B' ≤ B) : Own B' w v l := by
  obtain ⟨h1, h2⟩ := h
  refine ⟨h1, ?_⟩
  rcases h2 with h2 | ⟨g, cap, cur, hv, hg, hc, r⟩
  · exact .inl h2
  · exact .inr ⟨g, cap, cur, hv, Nat.le_trans hb hg, hc, r⟩
theorem grownBy_setCell {w : World} {gr i : Nat} {v : Value} : w.grownBy (w.setCell ⟨gr, i, none⟩ v) (some gr) :=
  ⟨rfl, rfl, rfl, by simp [World.setCell], fun k _ hne => heap_setCell_other w ⟨gr, i, none⟩ k _ (fun e => hne (by rw [e]))⟩
end Go.Proofs.YtejbkbccljoldaaGreatDoor
namespace Go.Proofs.YtejbkbccljoldaaGreatDoor
open Go.RowKit

def Spec.nope : Spec := ⟨fun _ _ => False, fun _ _ _ h _ => h⟩
section
variable {Q : Exit → Act → World → Prop} {act : Act} {w : World} {o : Oper} {s : Spec} {K : Act → World → Prop}
end

theorem Own.set {B g i : Nat} {w : World} {v u : Value} {l : List UInt8} (h : Own B w v l) (hg : g < B) : Own B (w.setCell ⟨g, i, none⟩ u) v l :=
  h.grown grownBy_setCell (fun k hk e => by have := (h.lt hk).1; have := Option.some.inj e; omega)
end Go.Proofs.YtejbkbccljoldaaGreatDoor
namespace Go.Proofs.YtejbkbccljoldaaGreatDoor
open Go.RowKit

theorem code_ok {z : Int} (h0 : 100 ≤ z) (h1 : z ≤ 599) : (fmtS 10 z).size = 3 ∧ parseS 10 599 (fmtS 10 z) = (z, 0) := by
  obtain ⟨k, rfl⟩ : ∃ k : Nat, z = 100 + k := ⟨(z - 100).toNat, by omega⟩
  have hk : k < 500 := by omega
  have h : ∀ m : Fin 500, (fmtS 10 (100 + (m.val : Int))).size = 3 ∧ parseS 10 599 (fmtS 10 (100 + (m.val : Int))) = (100 + (m.val : Int), 0) := by decide +kernel
  exact h ⟨k, hk⟩
theorem minorZ_ver {z : Int} (hz : z = 0 ∨ z = 1) : minorZ (versionS z) = z ∧ (versionS z).size = 8 := by
  rcases hz with rfl | rfl
  · decide +kernel
  · decide +kernel
theorem rep_parts (v d r : ByteArray) (hv : v.size = 8) (hd : d.size = 3) (S : ByteArray) (hS : v ++ ⟨#[32]⟩ ++ d ++ ⟨#[32]⟩ ++ r = S) :
    13 ≤ S.size ∧ S.extract 0 8 = v ∧ S.data.toList[8]? = some 32 ∧ S.extract 9 12 = d ∧ S.data.toList[12]? = some 32 ∧ S.extract 13 S.size = r := by
  have hl : S.data.toList = v.data.toList ++ 32 :: (d.data.toList ++ 32 :: r.data.toList) := by
    rw [← hS, ba_app_list, ba_app_list, ba_app_list, ba_app_list]
    show v.data.toList ++ [32] ++ d.data.toList ++ [32] ++ r.data.toList = _
    simp
  have lv : v.data.toList.length = 8 := by rw [Array.length_toList]; exact hv
  have ld : d.data.toList.length = 3 := by rw [Array.length_toList]; exact hd
  have lS : S.data.toList.length = S.size := by rw [Array.length_toList]; rfl
  have hz : S.size = 13 + r.data.toList.length := by rw [← lS, hl]; simp only [List.length_append, List.length_cons, lv, ld]; omega
  have d9 : S.data.toList.drop 9 = d.data.toList ++ 32 :: r.data.toList := by
    rw [hl, List.drop_append, List.drop_of_length_le (by omega), lv]; rfl
  have d13 : S.data.toList.drop 13 = r.data.toList := by
    rw [show 13 = 9 + 4 from rfl, ← List.drop_drop, d9, List.drop_append, List.drop_of_length_le (by omega), ld]; rfl
  refine ⟨by omega, ?_, ?_, ?_, ?_, ?_⟩
  · apply ba_ext
    rw [Lib.extract_data, List.drop_zero, hl, List.take_append_of_le_length (by omega), List.take_of_length_le (by omega)]
  · rw [hl, List.getElem?_append_right (by omega), lv]; rfl
  · apply ba_ext
    rw [Lib.extract_data, d9, List.take_append_of_le_length (by omega), List.take_of_length_le (by omega)]
  · have : S.data.toList[12]? = (S.data.toList.drop 9)[3]? := by rw [List.getElem?_drop]
    rw [this, d9, List.getElem?_append_right (by omega), ld]; rfl
  · apply ba_ext
    rw [Lib.extract_data, d13, List.take_of_length_le (by omega)]
theorem twice_rep {st z : Int} {r : ByteArray} (h0 : 100 ≤ st) (h1 : st ≤ 599) (hz : z = 0 ∨ z = 1) (hr : visS r = true) : parseA (fmtRep st r z) = some (st, r, z) ∧ 0 < (fmtRep st r z).size := by
  have h01 : 0 ≤ z ∧ z ≤ 1 := by omega
  have e : fmtRep st r z = versionS z ++ ⟨#[32]⟩ ++ fmtS 10 st ++ ⟨#[32]⟩ ++ r := by
    unfold fmtRep; rw [if_pos ⟨h0, h1, h01.1, h01.2, hr⟩, (versionS_dec h01.1 h01.2).2]
  obtain ⟨c1, c2⟩ := code_ok h0 h1
  obtain ⟨v1, v2⟩ := minorZ_ver hz
  obtain ⟨p1, p2, p3, p4, p5, p6⟩ := rep_parts _ _ _ v2 c1 _ e.symm
  generalize fmtRep st r z = S at *
  have hrs : reasonS S = r := by unfold reasonS; rw [if_pos (by omega), p6]
  refine ⟨?_, by omega⟩
  unfold parseA
  rw [p2, p4, hrs, c2, v1, if_pos ⟨by omega, by omega, p3, fun _ => p5, rfl, h0, hr⟩]
end Go.Proofs.YtejbkbccljoldaaGreatDoor
namespace Go.Proofs.YtejbkbccljoldaaGreatDoor
open Go.RowKit

theorem RVr.put {w : World} {g i : Nat} {cs : Array Value} {v : Value} (h : RVr w g cs) : RVr (w.setCell ⟨g, i, none⟩ v) g (cs.setIfInBounds i v) := heap_setCell_same w g i _ _ _ h
section
variable (B : Nat → Prop) (s : RS) (b : List UInt8) (most body : Int) (ba : Option Addr) (bc : Nat) (fa ga la : Option Addr) (fc gc lc : Nat) (w : World)
end
end Go.Proofs.YtejbkbccljoldaaGreatDoor
namespace Go.Proofs.YtejbkbccljoldaaGreatDoor
open Go.RowKit

/-- The block's frozen stretch lies behind its last cell, or there is none. -/
def NoFz (n : Nat) (fz : Nat × Nat) : Prop := fz.2 = 0 ∨ n ≤ fz.1
/-- v is a slice with the bytes l in a block of its own, at B or beyond; the block may bear a conversion's mark. -/
def OwnM (B : Nat) (w : World) (v : Value) (l : List UInt8) : Prop :=
  ∃ g cap cur fz, v = .slice (some ⟨g, 0, none⟩) l.length cap ∧ B ≤ g ∧ w.heap[g]? = some (.cells cur 5 fz) ∧ NoFz cur.size fz ∧ l.length ≤ cap ∧ cap ≤ maxLen ∧ cur.size = cap ∧ cur.toList.take l.length = bytesV l
theorem OwnM.lt {B : Nat} {w : World} {v : Value} {l : List UInt8} (h : OwnM B w v l) {k : Nat} (hk : v.ownBlock = some k) : B ≤ k ∧ k < w.heap.size := by
  obtain ⟨g, cap, cur, fz, rfl, hb, hg, _⟩ := h
  obtain rfl : g = k := Option.some.inj hk
  exact ⟨hb, (Array.getElem?_eq_some_iff.1 hg).1⟩
theorem OwnM.same {B : Nat} {w w' : World} {v : Value} {l : List UInt8} (h : OwnM B w v l) (hs : ∀ k, v.ownBlock = some k → w'.heap[k]? = w.heap[k]?) : OwnM B w' v l := by
  obtain ⟨g, cap, cur, fz, hv, hb, hg, r⟩ := h
  exact ⟨g, cap, cur, fz, hv, hb, by rw [hs g (by rw [hv]; rfl)]; exact hg, r⟩
theorem OwnM.keep {B : Nat} {w w' : World} {v : Value} {l : List UInt8} (h : OwnM B w v l) (hb : Below w.heap.size w w') : OwnM B w' v l :=
  h.same fun k hk => hb.block k (h.lt hk).2
theorem OwnM.grown {B : Nat} {w w' : World} {v : Value} {l : List UInt8} {row : Option Nat} (h : OwnM B w v l) (hg : w.grownBy w' row) (hne : ∀ k, v.ownBlock = some k → some k ≠ row) : OwnM B w' v l :=
  h.same fun k hk => hg.block k (h.lt hk).2 (hne k hk)
theorem OwnM.low {B B' : Nat} {w : World} {v : Value} {l : List UInt8} (h : OwnM B w v l) (hB : B' ≤ B) : OwnM B' w v l := by
  obtain ⟨g, cap, cur, fz, hv, hb, r⟩ := h
  exact ⟨g, cap, cur, fz, hv, Nat.le_trans hB hb, r⟩
theorem OwnM.form {B : Nat} {w : World} {v : Value} {l : List UInt8} (h : OwnM B w v l) : ∃ g c, v = .slice (some ⟨g, 0, none⟩) l.length c ∧ l.length ≤ c ∧ IsBytes w (some ⟨g, 0, none⟩) l c := by
  obtain ⟨g, cap, cur, fz, rfl, hb, hg, hf, h1, h2, h3, ht⟩ := h
  refine ⟨g, cap, rfl, h1, .inr ⟨_, rfl, h1, h2, fun j hj => ?_⟩⟩
  have e : cur.toList[j]? = some (Value.int .u8 (l[j].toNat : Int)) := by
    have := congrArg (fun x => x[j]?) ht
    simp only [bytesV] at this
    rw [List.getElem?_take_of_lt hj, List.getElem?_map, List.getElem?_eq_getElem hj] at this
    exact this
  rw [Addr.add_lit]
  simp only [World.cell?, hg, Nat.zero_add]
  simpa using e
theorem OwnM.conv (w : World) (s : ByteArray) (hs : s.size ≤ 4000000000) : OwnM w.heap.size (Lib.bytesWorld w 5 s) (.slice (some ⟨w.heap.size, 0, none⟩) s.size (grownCap w s.size 0 5)) s.data.toList := by
  have hge := grownCap_ge w s.size 0 5
  have hz : (Lib.bytesCells w 5 s).size = grownCap w s.size 0 5 := by
    unfold Lib.bytesCells
    rw [Array.size_append, Array.size_map, Array.size_replicate]
    have : s.data.size = s.size := rfl
    omega
  have el : s.data.toList.length = s.size := by rw [Array.length_toList]; rfl
  refine ⟨w.heap.size, _, _, _, by rw [el], Nat.le_refl _, Lib.bytesWorld_at_new w 5 s, .inr (Nat.le_refl _), by rw [el]; exact hge, grownCap_le_maxLen w s.size 0 5 (by unfold maxLen; omega), hz, ?_⟩
  unfold Lib.bytesCells
  rw [Array.toList_append, el, List.take_left' (by rw [Array.length_toList, Array.size_map]; rfl), Array.toList_map]
  rfl
section
variable {ops : Array Oper} {rest : List Oper} {o : Oper} {act : Act} {Q : Exit → Act → World → Prop}
end
end Go.Proofs.YtejbkbccljoldaaGreatDoor
namespace Go.Proofs.YtejbkbccljoldaaGreatDoor
open Go.RowKit

theorem below_convH (w : World) (e : TypeId) (s : ByteArray) : Below w.heap.size w (Lib.bytesWorld w e s) :=
  ⟨rfl, rfl, rfl, by rw [Lib.bytesWorld_size]; omega, fun k hk => Lib.bytesWorld_at_old w e s k hk⟩
theorem RetHd.own {w w' : World} {l : List UInt8} {e : Ending} (h : RetHd w l e w') (h0 : 0 < l.length) (h1 : l.length ≤ 4000000000) : ∃ v, e = .returned v ∧ OwnM w.heap.size w' v l ∧ Below w.heap.size w w' := by
  rcases h with ⟨rfl, _⟩ | ⟨W, s, rfl, _, rfl, rfl, hb⟩
  · simp at h0
  · refine ⟨_, rfl, (OwnM.conv W s ?_).low hb.size, below_trans hb (below_convH W _ s)⟩
    rw [Array.length_toList] at h1
    exact h1
section
variable {Q : Exit → Act → World → Prop} {act : Act} {w : World} {o : Oper} {s : Spec} {K : Act → World → Prop}
theorem sizeOf_u8H (w : World) : (sizeOf 5).run Tryz.prog w = .ok 1 w := by
  obtain ⟨i0, hi, hz0, hz1, hz2⟩ := info_parts Tryz.info5
  simp [sizeOf, typeInfo, hi, hz1]
theorem loc_uptoH {x y : Operand} (ho : o.op = .slice 23 x none (some y) none) {ad : Option Addr} {n c k : Nat} (hx : act.eval x = .slice ad n c) (hy : act.eval y = .int .i64 k) (hk : k ≤ n) (hc : n ≤ c) (hs : s.p (.slice ad k c) w) :
    o.wp Tryz.prog act w (fun a' w' => ∃ v, a' = act.put o.dst v ∧ Below w.heap.size w w' ∧ s.p v w') Q := by
  have es : (sizeOf (Tryz.prog.elem 23)).run Tryz.prog w = .ok 1 w := by rw [show Tryz.prog.elem 23 = 5 by kernel_rfl]; exact sizeOf_u8H w
  refine loc_run (v := .slice ad k c) ?_ (Below.refl _ _) hs
  have hrun : (Instr.sliceAt 23 (.slice ad n c) none (some (.int .i64 (k : Int))) none).run Tryz.prog w = .ok (.slice ad k c) w := by
    rw [run_sliceAt_slice w 23 _ _ _ _ (by kernel_rfl), run_slice_h w 23 _ _ _ (by kernel_rfl) .i64 (k : Int) (by omega) (by omega), es]
    have ha : Option.map (fun x : Addr => x.add 0) ad = ad := by cases ad <;> simp [Addr.add]
    simp [Result.andThen, sliced, ha]
  unfold execOp
  simp only [ho, hx, hy, Option.map_some, Option.map_none, Sem.run_bind, hrun, Result.andThen_ok, Sem.run_pure]
end
end Go.Proofs.YtejbkbccljoldaaGreatDoor
namespace Go.Proofs.YtejbkbccljoldaaGreatDoor
open Go.RowKit

theorem row_awayR {w : World} {g : Nat} {cs : Array Value} {T : TypeId} {fz : Nat × Nat} (h : w.heap[g]? = some (.cells cs T fz)) (hn : ∀ (i : Nat) (z : Int), cs[i]? ≠ some (.int .u8 z)) {a : Option Addr} {l : List UInt8} {c : Nat} (hb : IsBytes w a l c) : ∀ x, a = some x → l ≠ [] → x.block ≠ g := by
  intro x hx hl hg
  rcases hb with ⟨h1, _⟩ | ⟨y, h1, _, _, h4⟩
  · rw [h1] at hx; cases hx
  · rw [h1] at hx
    obtain rfl := Option.some.inj hx
    have h5 := h4 0 (List.length_pos_iff.2 hl)
    have h6 : w.heap[(y.add 0).block]? = some (.cells cs T fz) := by rw [add_blockC, hg]; exact h
    unfold World.cell? at h5
    rw [h6] at h5
    simp only at h5
    split at h5
    · cases h5
    · exact hn _ _ h5
theorem noU8_22 {cs : Array Value} (h : cs.toList.all (fun v => match v with | .int .u8 _ => false | _ => true) = true) : ∀ (i : Nat) (z : Int), cs[i]? ≠ some (.int .u8 z) := fun i z e => by
  have h1 := List.all_eq_true.1 h (.int .u8 z) (by
    have : cs.toList[i]? = some (.int .u8 z) := by rw [Array.getElem?_toList]; exact e
    exact List.mem_of_getElem? this)
  cases h1
set_option linter.unusedVariables false
section
variable (B : Nat → Prop) (s : RS) (b : List UInt8) (body room : Int) (ba : Option Addr) (bc : Nat) (fa ga la : Option Addr) (fc gc lc : Nat) (w : World)
end
end Go.Proofs.YtejbkbccljoldaaGreatDoor
namespace Go.Proofs.YtejbkbccljoldaaGreatDoor
open Go.RowKit

/-- One byte of the body. -/
def dataS (s : Chk) : Chk := ⟨if s.left - 1 = 0 then 2 else 1, s.left - 1, s.tr, s.line⟩
/-- The decoder with as much room as it likes. -/
def feedU : Chk → List UInt8 → Nat → List UInt8 → Int × Chk × List UInt8 × Nat
  | s, out, i, [] => (0, s, out, i)
  | s, out, i, x :: r =>
    if s.ph = 4 then (0, s, out, i)
    else if s.ph = 1 then feedU (dataS s) (out ++ [x]) (i + 1) r
    else if (stepS s x).1 = 0 then feedU (stepS s x).2 out (i + 1) r
    else ((stepS s x).1, zeroC, [], 0)
theorem feedU_nil (s : Chk) (out : List UInt8) (i : Nat) : feedU s out i [] = (0, s, out, i) := rfl
theorem feedU_done {s : Chk} (h : s.ph = 4) (out : List UInt8) (i : Nat) (l : List UInt8) : feedU s out i l = (0, s, out, i) := by
  cases l with
  | nil => rfl
  | cons x r => rw [feedU, if_pos h]
theorem feedU_data {s : Chk} (h : s.ph = 1) (out : List UInt8) (i : Nat) (x : UInt8) (r : List UInt8) : feedU s out i (x :: r) = feedU (dataS s) (out ++ [x]) (i + 1) r := by
  rw [feedU, if_neg (by omega), if_pos h]
theorem feedU_ok {s : Chk} {x : UInt8} (h4 : ¬ s.ph = 4) (h1 : ¬ s.ph = 1) (h0 : (stepS s x).1 = 0) (out : List UInt8) (i : Nat) (r : List UInt8) : feedU s out i (x :: r) = feedU (stepS s x).2 out (i + 1) r := by
  rw [feedU, if_neg h4, if_neg h1, if_pos h0]
theorem feedU_err {s : Chk} {x : UInt8} (h4 : ¬ s.ph = 4) (h1 : ¬ s.ph = 1) (h0 : ¬ (stepS s x).1 = 0) (out : List UInt8) (i : Nat) (r : List UInt8) : feedU s out i (x :: r) = ((stepS s x).1, zeroC, [], 0) := by
  rw [feedU, if_neg h4, if_neg h1, if_neg h0]
/-- A piece, with little room: what is left goes on where it stopped. -/
theorem feedS_piece (q : List UInt8) (room : Int) : ∀ (p : List UInt8) (s : Chk) (o : List UInt8) (k : Nat) (out : List UInt8) (i : Nat), (feedS room s o k p).1 = 0 →
    ∃ d m, (feedS room s o k p).2.2.1 = o ++ d ∧ (feedS room s o k p).2.2.2 = k + m ∧ m ≤ p.length ∧ d.length ≤ m ∧ feedU s out i (p ++ q) = feedU (feedS room s o k p).2.1 (out ++ d) (i + m) ((p ++ q).drop m)
  | [], s, o, k, out, i, _ => ⟨[], 0, by rw [feedS_nil]; simp, by rw [feedS_nil]; simp, Nat.le_refl _, Nat.le_refl _, by rw [feedS_nil]; simp⟩
  | x :: p, s, o, k, out, i, h => by
    by_cases hs : s.ph = 4 ∨ s.ph = 1 ∧ room ≤ o.length
    · rw [feedS_stop hs] at h ⊢
      exact ⟨[], 0, by simp, by simp, Nat.zero_le _, Nat.le_refl _, by simp⟩
    · have h4 : ¬ s.ph = 4 := fun e => hs (.inl e)
      by_cases h1 : s.ph = 1
      · have hr : ¬ room ≤ o.length := fun e => hs (.inr ⟨h1, e⟩)
        rw [feedS_data h1 hr] at h ⊢
        obtain ⟨d, m, e1, e2, e3, e4, e5⟩ := feedS_piece q room p _ _ _ (out ++ [x]) (i + 1) h
        refine ⟨x :: d, m + 1, by rw [e1]; simp, by rw [e2]; omega, by simp; omega, by simp; omega, ?_⟩
        rw [List.cons_append, feedU_data h1]
        unfold dataS
        rw [e5, List.drop_succ_cons, List.append_assoc, List.singleton_append, show i + 1 + m = i + (m + 1) by omega]
      · by_cases h0 : (stepS s x).1 = 0
        · rw [feedS_ok h4 h1 h0] at h ⊢
          obtain ⟨d, m, e1, e2, e3, e4, e5⟩ := feedS_piece q room p _ _ _ out (i + 1) h
          refine ⟨d, m + 1, e1, by rw [e2]; omega, by simp; omega, by omega, ?_⟩
          rw [List.cons_append, feedU_ok h4 h1 h0, e5, List.drop_succ_cons, show i + 1 + m = i + (m + 1) by omega]
        · rw [feedS_err h4 h1 h0] at h
          exact absurd h h0
theorem feedS_bad (q : List UInt8) (room : Int) : ∀ (p : List UInt8) (s : Chk) (o : List UInt8) (k : Nat) (out : List UInt8) (i : Nat), ¬ (feedS room s o k p).1 = 0 →
    feedU s out i (p ++ q) = ((feedS room s o k p).1, zeroC, [], 0)
  | [], s, o, k, out, i, h => absurd rfl h
  | x :: p, s, o, k, out, i, h => by
    by_cases hs : s.ph = 4 ∨ s.ph = 1 ∧ room ≤ o.length
    · rw [feedS_stop hs] at h; exact absurd rfl h
    · have h4 : ¬ s.ph = 4 := fun e => hs (.inl e)
      by_cases h1 : s.ph = 1
      · have hr : ¬ room ≤ o.length := fun e => hs (.inr ⟨h1, e⟩)
        rw [feedS_data h1 hr] at h ⊢
        rw [List.cons_append, feedU_data h1]
        exact feedS_bad q room p _ _ _ _ _ h
      · by_cases h0 : (stepS s x).1 = 0
        · rw [feedS_ok h4 h1 h0] at h ⊢
          rw [List.cons_append, feedU_ok h4 h1 h0]
          exact feedS_bad q room p _ _ _ _ _ h
        · rw [feedS_err h4 h1 h0]
          rw [List.cons_append, feedU_err h4 h1 h0]
theorem feedS_okC (room : Int) : ∀ (p : List UInt8) (s : Chk) (o : List UInt8) (k : Nat), OkC s → (feedS room s o k p).1 = 0 → OkC (feedS room s o k p).2.1
  | [], s, o, k, hs, _ => hs
  | x :: p, s, o, k, hs, h => by
    by_cases hst : s.ph = 4 ∨ s.ph = 1 ∧ room ≤ o.length
    · rw [feedS_stop hst]; exact hs
    · have h4 : ¬ s.ph = 4 := fun e => hst (.inl e)
      by_cases h1 : s.ph = 1
      · have hr : ¬ room ≤ o.length := fun e => hst (.inr ⟨h1, e⟩)
        rw [feedS_data h1 hr] at h ⊢
        exact feedS_okC room p _ _ _ (okC_data hs h1) h
      · by_cases h0 : (stepS s x).1 = 0
        · rw [feedS_ok h4 h1 h0] at h ⊢
          exact feedS_okC room p _ _ _ (okC_step hs h1 h4 h0) h
        · rw [feedS_err h4 h1 h0] at h
          exact absurd h h0
/-- A piece that is not empty is read on, where there is room and the body is not complete. -/
theorem feedS_moves {room : Int} {s : Chk} {x : UInt8} {p : List UInt8} (h4 : ¬ s.ph = 4) (hr : 1 ≤ room) (h : (feedS room s [] 0 (x :: p)).1 = 0) : 1 ≤ (feedS room s [] 0 (x :: p)).2.2.2 := by
  by_cases h1 : s.ph = 1
  · have hr2 : ¬ room ≤ (([] : List UInt8).length : Int) := by simp; omega
    rw [feedS_data h1 hr2] at h ⊢
    obtain ⟨d, m, _, e2, _⟩ := feedS_piece [] room p _ _ _ [] 0 h
    rw [e2]; omega
  · by_cases h0 : (stepS s x).1 = 0
    · rw [feedS_ok h4 h1 h0] at h ⊢
      obtain ⟨d, m, _, e2, _⟩ := feedS_piece [] room p _ _ _ [] 0 h
      rw [e2]; omega
    · rw [feedS_err h4 h1 h0] at h
      exact absurd h h0
end Go.Proofs.YtejbkbccljoldaaGreatDoor
namespace Go.Proofs.YtejbkbccljoldaaGreatDoor
open Go.RowKit

set_option linter.unusedVariables false
theorem parse10_range (s : ByteArray) : 0 ≤ (parseS 10 1000000000 s).1 ∧ (parseS 10 1000000000 s).1 ≤ 1000000000 ∧ ((parseS 10 1000000000 s).2 = 0 ∨ (parseS 10 1000000000 s).2 = 2 ∨ (parseS 10 1000000000 s).2 = 3) := by
  unfold parseS
  split
  · rename_i h
    have hne : s.data.toList ≠ [] := by
      intro e
      unfold numS at h
      rw [e] at h; simp at h
    have h1 := vgo_ge 10 (by decide) s.data.toList 0 (by decide)
    rw [pgo_eq 10 1000000000 (by decide) _ 0 (by decide) (.inr hne)]
    split
    · exact ⟨h1, by assumption, .inl rfl⟩
    · exact ⟨by decide, by decide, .inr (.inr rfl)⟩
  · exact ⟨by decide, by decide, .inr (.inl rfl)⟩
/-- A frame: none of it with an error, and what it may be without. -/
theorem frameS_range (v : Int) (l : List Fld) (k0 : Int) : ((frameS v l k0).2.2 = 0 ∧ ((frameS v l k0).1 = k0 ∧ (frameS v l k0).2.1 = 0 ∨ (frameS v l k0).1 = 3 ∧ (frameS v l k0).2.1 = 0 ∨ (frameS v l k0).1 = 2 ∧ 0 ≤ (frameS v l k0).2.1 ∧ (frameS v l k0).2.1 ≤ 1000000000)) ∨ (¬ (frameS v l k0).2.2 = 0 ∧ (frameS v l k0).1 = 0 ∧ (frameS v l k0).2.1 = 0) := by
  unfold frameS
  split
  · split
    · exact .inr ⟨by decide, rfl, rfl⟩
    · exact .inl ⟨rfl, .inr (.inl ⟨rfl, rfl⟩)⟩
  · split
    · exact .inl ⟨rfl, .inl ⟨rfl, rfl⟩⟩
    · rename_i y r _
      split
      · exact .inr ⟨by decide, rfl, rfl⟩
      · split
        · have h := parse10_range y
          exact .inl ⟨rfl, .inr (.inr ⟨rfl, h.1, h.2.1⟩)⟩
        · rename_i h0
          exact .inr ⟨h0, rfl, rfl⟩
theorem replyS_range (m : ByteArray) (st v : Int) (l : List Fld) : ((replyS m st v l).2.2 = 0 ∧ ((replyS m st v l).1 = 1 ∧ (replyS m st v l).2.1 = 0 ∨ (replyS m st v l).1 = 4 ∧ (replyS m st v l).2.1 = 0 ∨ (replyS m st v l).1 = 3 ∧ (replyS m st v l).2.1 = 0 ∨ (replyS m st v l).1 = 2 ∧ 0 ≤ (replyS m st v l).2.1 ∧ (replyS m st v l).2.1 ≤ 1000000000)) ∨ (¬ (replyS m st v l).2.2 = 0 ∧ (replyS m st v l).1 = 0 ∧ (replyS m st v l).2.1 = 0) := by
  unfold replyS
  split
  · exact .inl ⟨rfl, .inl ⟨rfl, rfl⟩⟩
  · rcases frameS_range v l 4 with ⟨h1, h2⟩ | h
    · exact .inl ⟨h1, .inr h2⟩
    · exact .inr h
/-- The states that come up, with this limit of a body. -/
structure OkN (body : Int) (s : RS) : Prop where
  ok : OkR s
  ph : s.ph = 0 ∨ s.ph = 1 ∨ s.ph = 2
  k1 : s.ph = 1 → s.fk = 1 ∨ s.fk = 2 ∨ s.fk = 3 ∨ s.fk = 4
  n1 : s.ph = 1 → s.fk = 1 → s.left = 0
  sz : s.ph = 1 → s.size ≤ body
  lf : s.ph = 1 → s.fk = 2 → s.left + s.size ≤ body
/-- The errors of a head. -/
theorem endS_cases (b : List UInt8) (most : Int) : endS b most = (0, 4) ∨ endS b most = (0, 3) ∨ ∃ n : Nat, endS b most = ((n : Int), 0) ∧ 4 ≤ n ∧ n ≤ b.length := by
  by_cases h : (endS b most).2 = 0
  · obtain ⟨n, h1, h2⟩ := endS_ok h
    exact .inr (.inr ⟨n, h1, h2⟩)
  · unfold endS at h ⊢
    split at h
    · exact absurd rfl h
    · rename_i hc
      rw [if_neg hc] at *
      split
      · exact .inr (.inl rfl)
      · exact .inl rfl
theorem okC_zeroR : OkR zeroR := ⟨okC_zero, fun h => absurd h (by decide), by decide, ⟨fun f hf => absurd hf (by simp [zeroR]), by decide⟩, ⟨fun f hf => absurd hf (by simp [zeroR]), by decide⟩⟩
theorem minI_le (a b : Int) : minI a b ≤ a ∧ minI a b ≤ b ∧ (minI a b = a ∨ minI a b = b) := by
  unfold minI; split <;> refine ⟨by omega, by omega, ?_⟩ <;> simp
theorem smallF_short {l : List Fld} (h : SmallF l) : ShortF l := fun f hf => ⟨Nat.le_trans (h f hf).1 (by decide), Nat.le_trans (h f hf).2 (by decide)⟩
theorem finX_ok {x : RS} {f : Int × Int × Int} {n : Nat} {body : Int} (hb0 : 0 ≤ body ∧ body ≤ 1000000000) (hxs : ShortF x.xs ∧ x.xs.length ≤ 64) (hys : ShortF x.ys ∧ x.ys.length ≤ 64)
    (hf : (f.2.2 = 0 ∧ (f.1 = 1 ∧ f.2.1 = 0 ∨ f.1 = 4 ∧ f.2.1 = 0 ∨ f.1 = 3 ∧ f.2.1 = 0 ∨ f.1 = 2 ∧ 0 ≤ f.2.1 ∧ f.2.1 ≤ 1000000000)) ∨ (¬ f.2.2 = 0 ∧ f.1 = 0 ∧ f.2.1 = 0)) (h0 : (finX x f n body).er = 0) :
    OkN body (finX x f n body).r ∧ (finX x f n body).n = n ∧ (finX x f n body).data = [] ∧ (finX x f n body).kind = 1 ∧ (finX x f n body).r.ph = 1 := by
  unfold finX at h0 ⊢
  by_cases h1 : f.2.2 ≠ 0
  · rw [if_pos h1] at h0
    refine absurd h0 ?_
    show ¬ (if f.2.2 = 3 then (9 : Int) else f.2.2) = 0
    split
    · decide
    · exact h1
  · rw [if_neg h1] at h0 ⊢
    have h1' : f.2.2 = 0 := Decidable.not_not.1 h1
    by_cases h2 : f.1 = 2 ∧ body < f.2.1
    · rw [if_pos h2] at h0
      exact absurd h0 (by decide)
    · rw [if_neg h2]
      rcases hf with ⟨_, hf⟩ | ⟨hf, _⟩
      · refine ⟨⟨⟨okC_zero, fun h => ?_, ⟨by show (0 : Int) ≤ 0; omega, by show (0 : Int) ≤ _; omega⟩, hxs, hys⟩, .inr (.inl rfl), fun _ => ?_, fun _ h => ?_, fun _ => hb0.1, fun _ h => ?_⟩, rfl, rfl, rfl, rfl⟩
        · dsimp only at h ⊢; omega
        · dsimp only; omega
        · dsimp only at h ⊢; omega
        · dsimp only at h ⊢; omega
      · exact absurd h1' hf
theorem headX_ok {s : RS} {h : List UInt8} {body : Int} (hb0 : 0 ≤ body ∧ body ≤ 1000000000) (hl : h.length ≤ 1000000) (hs : OkN body s) (hp : s.ph = 0) (h0 : (headX s h body).er = 0) :
    OkN body (headX s h body).r ∧ (headX s h body).n = h.length ∧ (headX s h body).data = [] ∧ ((headX s h body).kind = 1 ∧ (headX s h body).r.ph = 1 ∨ (headX s h body).kind = 4 ∧ (headX s h body).r = s) := by
  unfold headX at h0 ⊢
  split at h0
  · rename_i hrep
    rw [if_pos hrep]
    split at h0
    · rename_i h1; exact absurd h0 h1
    · rename_i h1
      rw [if_neg h1]
      split at h0
      · exact absurd h0 (by decide)
      · rename_i h2
        rw [if_neg h2]
        split at h0
        · rename_i h3
          rw [if_pos h3]
          exact ⟨hs, rfl, rfl, .inr ⟨rfl, rfl⟩⟩
        · rename_i h3
          rw [if_neg h3]
          have hA := headA_sm hl
          have := finX_ok (x := { s with st := (headA h).2.1, rs := (headA h).2.2.1, z2 := (headA h).2.2.2.1, ys := (headA h).2.2.2.2 }) hb0 hs.ok.xs ⟨smallF_short hA.1, hA.2⟩ (replyS_range _ _ _ _) h0
          exact ⟨this.1, this.2.1, this.2.2.1, .inl ⟨this.2.2.2.1, this.2.2.2.2⟩⟩
  · rename_i hrep
    rw [if_neg hrep]
    split at h0
    · rename_i h1; exact absurd h0 h1
    · rename_i h1
      rw [if_neg h1]
      have hA := headR_sm hl
      have := finX_ok (x := { s with m := (headR h).2.1, t := (headR h).2.2.1, z := (headR h).2.2.2.1, xs := (headR h).2.2.2.2, fr := !decide ((frameS (headR h).2.2.2.1 (headR h).2.2.2.2 1).1 = 1) }) hb0 ⟨smallF_short hA.1, hA.2⟩ hs.ok.ys (by
        rcases frameS_range (headR h).2.2.2.1 (headR h).2.2.2.2 1 with ⟨h1, h2⟩ | h2
        · exact .inl ⟨h1, by omega⟩
        · exact .inr h2) h0
      exact ⟨this.1, this.2.1, this.2.2.1, .inl ⟨this.2.2.2.1, this.2.2.2.2⟩⟩
theorem firstX_ok {s : RS} {b : List UInt8} {most body : Int} (hb0 : 0 ≤ body ∧ body ≤ 1000000000) (hl : b.length ≤ 1000000) (hs : OkN body s) (hp : s.ph = 0) (h0 : (firstX s b most body).er = 0) :
    OkN body (firstX s b most body).r ∧ (firstX s b most body).n ≤ b.length ∧ (firstX s b most body).data = [] := by
  rcases endS_cases b most with h | h | ⟨n, hE, h4, hn⟩
  · unfold firstX at h0 ⊢
    rw [if_pos (by rw [h])]
    exact ⟨hs, Nat.zero_le _, rfl⟩
  · unfold firstX at h0
    rw [if_neg (by rw [h]; show ¬ (3 : Int) = 4; decide), if_pos (by rw [h]; show (3 : Int) ≠ 0; decide), h] at h0
    exact absurd h0 (by decide)
  · unfold firstX at h0 ⊢
    rw [if_neg (by rw [hE]; show ¬ (0 : Int) = 4; decide), if_neg (by rw [hE]; exact fun h => h rfl), hE] at h0 ⊢
    have e : (b.take ((n : Int), (0 : Int)).1.toNat).length = n := by rw [List.length_take]; show min (Int.toNat (n : Int)) _ = n; rw [Int.toNat_natCast]; omega
    have := headX_ok hb0 (by rw [e]; omega) hs hp h0
    exact ⟨this.1, by rw [this.2.1, e]; exact hn, this.2.2.1⟩
/-- Sizes of what a piece of a chunked body gives. -/
theorem feedS_len (room : Int) (s : Chk) (p : List UInt8) : (feedS room s [] 0 p).2.2.1.length ≤ p.length ∧ (feedS room s [] 0 p).2.2.2 ≤ p.length := by
  by_cases h : (feedS room s [] 0 p).1 = 0
  · obtain ⟨d, m, e1, e2, e3, e4, _⟩ := feedS_piece [] room p s [] 0 [] 0 h
    rw [e1, e2]
    simp only [List.nil_append]
    omega
  · have : ∀ (l : List UInt8) (s : Chk) (o : List UInt8) (k : Nat), ¬ (feedS room s o k l).1 = 0 → (feedS room s o k l).2.2.1 = [] ∧ (feedS room s o k l).2.2.2 = 0 := by
      intro l
      induction l with
      | nil => intro s o k h; exact absurd rfl h
      | cons x l ih =>
        intro s o k h
        by_cases hs : s.ph = 4 ∨ s.ph = 1 ∧ room ≤ o.length
        · rw [feedS_stop hs] at h; exact absurd rfl h
        · have h4 : ¬ s.ph = 4 := fun e => hs (.inl e)
          by_cases h1 : s.ph = 1
          · have hr : ¬ room ≤ o.length := fun e => hs (.inr ⟨h1, e⟩)
            rw [feedS_data h1 hr] at h ⊢
            exact ih _ _ _ h
          · by_cases h0 : (stepS s x).1 = 0
            · rw [feedS_ok h4 h1 h0] at h ⊢
              exact ih _ _ _ h
            · rw [feedS_err h4 h1 h0]
              exact ⟨rfl, rfl⟩
    have h2 := this p s [] 0 h
    rw [h2.1, h2.2]
    exact ⟨Nat.zero_le _, Nat.zero_le _⟩
theorem take_minI {b : List UInt8} {k : Int} (h0 : 0 ≤ k) (hk : k ≤ b.length) : (b.take k.toNat).length = k.toNat ∧ ((k.toNat : Nat) : Int) = k := by
  rw [List.length_take]
  omega
theorem moreX_ok {s : RS} {b : List UInt8} {body room : Int} (hb0 : 0 ≤ body ∧ body ≤ 1000000000) (hl : b.length ≤ 1000000) (hr0 : 0 ≤ room) (hs : OkN body s) (hp : s.ph = 1) (h0 : (moreX s b body room).er = 0) :
    OkN body (moreX s b body room).r ∧ (moreX s b body room).n ≤ b.length ∧ (moreX s b body room).data.length ≤ b.length := by
  unfold moreX at h0 ⊢
  have hsz := hs.sz hp
  have hs0 := hs.ok.size
  split at h0
  · rename_i hk
    rw [if_pos hk]
    split at h0
    · rename_i h1
      rw [if_pos h1]
      exact ⟨⟨⟨hs.ok.ck, hs.ok.left, hs.ok.size, hs.ok.xs, hs.ok.ys⟩, .inr (.inr rfl), fun h => absurd h (by show ¬ (2 : Int) = 1; decide), fun h => absurd h (by show ¬ (2 : Int) = 1; decide), fun h => absurd h (by show ¬ (2 : Int) = 1; decide), fun h => absurd h (by show ¬ (2 : Int) = 1; decide)⟩, Nat.zero_le _, Nat.zero_le _⟩
    · rename_i h1
      rw [if_neg h1]
      split at h0
      · rename_i h2
        rw [if_pos h2]
        exact ⟨hs, Nat.zero_le _, Nat.zero_le _⟩
      · rename_i h2
        rw [if_neg h2]
        have hk2 : s.fk = 2 := by omega
        have hlf := hs.ok.left hk2
        have hm1 := minI_le s.left room
        have hm2 := minI_le (minI s.left room) b.length
        generalize minI (minI s.left room) b.length = k at *
        have hkk : 0 ≤ k ∧ k ≤ s.left ∧ k ≤ b.length := by omega
        have ht := take_minI hkk.1 hkk.2.2
        refine ⟨⟨⟨hs.ok.ck, fun _ => ?_, ?_, hs.ok.xs, hs.ok.ys⟩, hs.ph, hs.k1, fun _ h => ?_, fun _ => ?_, fun _ h => ?_⟩, by dsimp only; omega, by dsimp only; omega⟩
        · dsimp only; omega
        · dsimp only; omega
        · dsimp only at h; omega
        · have := hs.lf hp hk2; dsimp only; omega
        · have := hs.lf hp hk2; dsimp only; omega
  · rename_i hk
    rw [if_neg hk]
    split at h0
    · rename_i hk3
      rw [if_pos hk3]
      have hfl := feedS_len (minI room (body + 1 - s.size)) s.ck b
      have hok := feedS_okC (minI room (body + 1 - s.size)) b s.ck [] 0 hs.ok.ck
      generalize feedS (minI room (body + 1 - s.size)) s.ck [] 0 b = f at *
      split at h0
      · rename_i h1; exact absurd h0 h1
      · rename_i h1
        rw [if_neg h1]
        have h1' : f.1 = 0 := Decidable.not_not.1 h1
        split at h0
        · exact absurd h0 (by decide)
        · rename_i h2
          rw [if_neg h2]
          have hnew : ∀ (p : Int), p = 1 ∨ p = 2 → OkN body { s with ck := f.2.1, size := s.size + f.2.2.1.length, ph := p } := fun p hp2 => by
            refine ⟨⟨hok h1', fun h => absurd h (by dsimp only; omega), by dsimp only; omega, hs.ok.xs, hs.ok.ys⟩, .inr hp2, fun _ => hs.k1 hp, fun _ h => absurd h (by dsimp only; omega), fun _ => by dsimp only; omega, fun _ h => absurd h (by dsimp only; omega)⟩
          split at h0
          · rename_i h3
            rw [if_pos h3]
            have := hnew 1 (.inl rfl)
            rw [← hp] at this
            exact ⟨this, hfl.2, hfl.1⟩
          · rename_i h3
            rw [if_neg h3]
            have hz : ((f.2.2.1.length : Nat) : Int) = 0 := by omega
            rw [hz] at hnew
            simp only [Int.add_zero] at hnew
            split at h0
            · rename_i h4
              rw [if_pos h4]
              exact ⟨hnew 2 (.inr rfl), hfl.2, Nat.zero_le _⟩
            · rename_i h4
              rw [if_neg h4]
              have := hnew 1 (.inl rfl)
              rw [← hp] at this
              exact ⟨this, hfl.2, Nat.zero_le _⟩
    · rename_i hk3
      rw [if_neg hk3]
      have hm1 := minI_le room b.length
      have hm2 := minI_le (minI room b.length) (body + 1 - s.size)
      generalize minI (minI room b.length) (body + 1 - s.size) = k at *
      split at h0
      · rename_i h1
        rw [if_pos h1]
        exact ⟨hs, Nat.zero_le _, Nat.zero_le _⟩
      · rename_i h1
        rw [if_neg h1]
        split at h0
        · exact absurd h0 (by decide)
        · rename_i h2
          rw [if_neg h2]
          have hkk : 0 ≤ k ∧ k ≤ b.length := by omega
          have ht := take_minI hkk.1 hkk.2
          refine ⟨⟨⟨hs.ok.ck, fun h => absurd h (by dsimp only; omega), by dsimp only; omega, hs.ok.xs, hs.ok.ys⟩, hs.ph, hs.k1, fun _ h => absurd h (by dsimp only; omega), fun _ => by dsimp only; omega, fun _ h => absurd h (by dsimp only; omega)⟩, by dsimp only; omega, by dsimp only; omega⟩
theorem nextX_ok {s : RS} {b : List UInt8} {most body room : Int} (hb0 : 0 ≤ body ∧ body ≤ 1000000000) (hl : b.length ≤ 1000000) (hs : OkN body s) (h0 : (nextX s b most body room).er = 0) :
    OkN body (nextX s b most body room).r ∧ (nextX s b most body room).n ≤ b.length ∧ (nextX s b most body room).data.length ≤ b.length := by
  unfold nextX at h0 ⊢
  split at h0
  · rename_i hp
    rw [if_pos hp]
    have := firstX_ok hb0 hl hs hp h0
    exact ⟨this.1, this.2.1, by rw [this.2.2]; exact Nat.zero_le _⟩
  · rename_i hp
    rw [if_neg hp]
    split at h0
    · rename_i hp1
      rw [if_pos hp1]
      exact moreX_ok hb0 hl (by split <;> omega) hs hp1 h0
    · rename_i hp1
      rw [if_neg hp1]
      exact ⟨hs, Nat.zero_le _, Nat.zero_le _⟩
end Go.Proofs.YtejbkbccljoldaaGreatDoor
namespace Go.Proofs.YtejbkbccljoldaaGreatDoor
open Go.RowKit

theorem lineS_zero {l t : Int} {y : ByteArray} {n : Int} (hp : parseS 16 1000000000 (szS y) = (n, 0)) (hv : visS y = true) : lineS ⟨0, l, t, []⟩ y = (0, ⟨if n = 0 then 3 else 1, n, t, []⟩) := by
  have h := lineS_size (l := l) (t := t) (y := y) (by rw [hp, hv]; simp) (by rw [hp])
  rw [h, hp]
theorem splitL_head (c : UInt8) : ∀ (a b : List UInt8), ¬ c ∈ a → (splitL c (a ++ c :: b))[0]? = some a := fun a b h => by
  rw [splitL_append, splitL_whole c a h]; rfl
theorem szS_plain {a : List UInt8} (h : ¬ (59 : UInt8) ∈ a) : szS ⟨a.toArray⟩ = ⟨a.toArray⟩ := by
  unfold szS splitS
  show (((splitL 59 a).map ofL)[0]?).getD _ = _
  rw [splitL_whole 59 a h]; rfl
theorem szS_ext {a b : List UInt8} (h : ¬ (59 : UInt8) ∈ a) : szS ⟨(a ++ 59 :: b).toArray⟩ = ⟨a.toArray⟩ := by
  unfold szS splitS
  show (((splitL 59 (a ++ 59 :: b)).map ofL)[0]?).getD _ = _
  rw [List.getElem?_map, splitL_head 59 a b h]; rfl
end Go.Proofs.YtejbkbccljoldaaGreatDoor
namespace Go.Proofs.YtejbkbccljoldaaGreatDoor
open Go.RowKit

theorem blank_val {c : UInt8} (h : blankB c = true) : valB c = true := by
  unfold blankB blanks at h
  simp only [List.contains_cons, List.contains_nil, Bool.or_false, Bool.or_eq_true, beq_iff_eq] at h
  rcases h with rfl | rfl <;> decide
theorem all_dropWhile (l : List UInt8) : (l.dropWhile blankB).all valB = l.all valB := by
  induction l with
  | nil => rfl
  | cons c r ih =>
    rw [List.dropWhile_cons]
    by_cases h : blankB c = true
    · rw [if_pos h, ih, List.all_cons, blank_val h, Bool.true_and]
    · rw [if_neg h]
theorem all_trimL (l : List UInt8) : (trimL l).all valB = l.all valB := by
  unfold trimL rdrop
  rw [all_dropWhile, List.all_reverse, all_dropWhile, List.all_reverse]
theorem valS_trim (s : ByteArray) : valS (trimBA s) = visS s := by
  unfold valS
  rw [trimBA_idem]
  simp only [beq_self_eq_true, Bool.and_true]
  unfold visS
  rw [trimBA_list, all_trimL]
theorem num_val {c : UInt8} (h : numB 16 c = true) : valB c = true := by
  unfold numB at h
  have h2 := of_decide_eq_true h
  unfold dv at h2
  have h3 : 48 ≤ c.toNat ∧ c.toNat ≤ 57 ∨ 97 ≤ c.toNat ∧ c.toNat ≤ 102 ∨ 65 ≤ c.toNat ∧ c.toNat ≤ 70 := by
    split at h2
    · omega
    · split at h2
      · omega
      · split at h2
        · omega
        · omega
  unfold valB
  simp
  omega
theorem parse_vis {s : ByteArray} (h : ¬ (parseS 16 1000000000 s).2 = 2) : visS s = true := by
  unfold parseS at h
  split at h
  · rename_i hn
    unfold numS at hn
    rw [Bool.and_eq_true] at hn
    exact List.all_eq_true.2 fun x hx => num_val (List.all_eq_true.1 hn.1 x hx)
  · simp at h
theorem cutS_list (s : ByteArray) : (¬ (59 : UInt8) ∈ s.data.toList ∧ cutS 59 s = (s, ⟨#[]⟩)) ∨ ∃ a b : List UInt8, ¬ (59 : UInt8) ∈ a ∧ s = ⟨(a ++ 59 :: b).toArray⟩ ∧ cutS 59 s = (⟨a.toArray⟩, ⟨b.toArray⟩) := by
  rcases idxI_cases 59 s with h | ⟨k, h, hk⟩
  · refine .inl ⟨fun hm => ?_, cutS_no h⟩
    obtain ⟨j, hj⟩ := List.getElem?_of_mem hm
    exact Lib.indexByte_none h j hj
  · obtain ⟨h1, h2⟩ := Lib.indexByte_some h
    have hl : k < s.data.toList.length := by simpa using hk
    refine .inr ⟨s.data.toList.take k, s.data.toList.drop (k + 1), fun hm => ?_, ?_, ?_⟩
    · obtain ⟨j, hj⟩ := List.getElem?_of_mem hm
      rw [List.getElem?_take] at hj
      split at hj
      · rename_i hlt
        exact h2 j hlt hj
      · cases hj
    · refine ba_ext ?_
      have e : s.data.toList = s.data.toList.take k ++ 59 :: s.data.toList.drop (k + 1) := by
        rw [List.getElem?_eq_getElem hl] at h1
        rw [← Option.some.inj h1, ← List.drop_eq_getElem_cons hl, List.take_append_drop]
      exact e
    · rw [cutS_at h]
      refine Prod.ext (ba_ext ?_) (ba_ext ?_)
      · simp
      · show (s.extract (k + 1) s.size).data.toList = s.data.toList.drop (k + 1)
        rw [ByteArray.data_extract, Array.toList_extract, List.extract_eq_take_drop]
        exact List.take_of_length_le (by rw [List.length_drop]; show _ - _ ≤ s.data.size - _; rw [Array.length_toList]; exact Nat.le_refl _)
theorem cutS_sz (y : ByteArray) : szS y = (cutS 59 y).1 := by
  rcases cutS_list y with ⟨h, e⟩ | ⟨a, b, h, rfl, e⟩
  · rw [e]
    exact szS_plain (a := y.data.toList) h
  · rw [e]
    exact szS_ext h
theorem cutS_vis (y : ByteArray) : visS y = (visS (cutS 59 y).1 && visS (cutS 59 y).2) := by
  rcases cutS_list y with ⟨h, e⟩ | ⟨a, b, h, rfl, e⟩
  · rw [e]
    show visS y = (visS y && true)
    rw [Bool.and_true]
  · rw [e]
    unfold visS
    show (a ++ 59 :: b).all valB = (a.all valB && b.all valB)
    rw [List.all_append, List.all_cons, show valB 59 = true by decide, Bool.true_and]
/-- What a size line leads to, in the order of the project. -/
theorem lineS_ext {l t : Int} {y : ByteArray} (h : visS (cutS 59 y).2 = false) : lineS ⟨0, l, t, []⟩ y = (2, zeroC) :=
  lineS_bad (.inr (by rw [cutS_vis, h, Bool.and_false]))
theorem lineS_err {l t n e : Int} {y : ByteArray} (h : visS (cutS 59 y).2 = true) (hp : parseS 16 1000000000 (cutS 59 y).1 = (n, e)) (h0 : ¬ e = 0) : lineS ⟨0, l, t, []⟩ y = (e, zeroC) := by
  have hp2 : parseS 16 1000000000 (szS y) = (n, e) := by rw [cutS_sz]; exact hp
  by_cases h2 : e = 2
  · subst h2
    exact lineS_bad (.inl (by rw [hp2]))
  · have hv : visS y = true := by
      rw [cutS_vis, h, Bool.and_true]
      exact parse_vis (by rw [hp]; exact h2)
    have := lineS_big (l := l) (t := t) (y := y) (by rw [hp2, hv]; simp [h2]) (by rw [hp2]; exact h0)
    rw [hp2] at this
    exact this
theorem lineS_ok {l t n : Int} {y : ByteArray} (h : visS (cutS 59 y).2 = true) (hp : parseS 16 1000000000 (cutS 59 y).1 = (n, 0)) : lineS ⟨0, l, t, []⟩ y = (0, ⟨if n = 0 then 3 else 1, n, t, []⟩) :=
  lineS_zero (by rw [cutS_sz]; exact hp) (by
    rw [cutS_vis, h, Bool.and_true]
    exact parse_vis (by rw [hp]; exact (by decide : ¬ (0 : Int) = 2)))
/-- As many bytes of the body at once as there are. -/
theorem feedS_block (room : Int) : ∀ (n : Nat) (s : Chk) (out : List UInt8) (i : Nat) (l : List UInt8), s.ph = 1 → n + 1 ≤ l.length → ((n + 1 : Nat) : Int) ≤ s.left → (out.length : Int) + (n + 1 : Nat) ≤ room →
    feedS room s out i l = feedS room ⟨if s.left - (n + 1 : Nat) = 0 then 2 else 1, s.left - (n + 1 : Nat), s.tr, s.line⟩ (out ++ l.take (n + 1)) (i + (n + 1)) (l.drop (n + 1))
  | n, s, out, i, [], _, h, _, _ => absurd h (by simp)
  | 0, s, out, i, x :: r, h1, _, _, h4 => by
    rw [feedS_data h1 (by omega)]
    rfl
  | n + 1, s, out, i, x :: r, h1, h2, h3, h4 => by
    rw [feedS_data h1 (by omega), if_neg (by omega)]
    have ih := feedS_block room n ⟨1, s.left - 1, s.tr, s.line⟩ (out ++ [x]) (i + 1) r rfl (by simp at h2; omega) (by show _ ≤ s.left - 1; omega) (by simp; omega)
    rw [ih]
    simp only [List.take_succ_cons, List.drop_succ_cons, List.append_assoc, List.singleton_append]
    rw [show s.left - 1 - ((n + 1 : Nat) : Int) = s.left - ((n + 1 + 1 : Nat) : Int) by omega, show i + 1 + (n + 1) = i + (n + 1 + 1) by omega]

/-- A call may touch the block g, the block r, and what is new. -/
structure Touch (w w' : World) (g : Nat) (r : Option Nat) : Prop where
  os : w'.os = w.os
  tape : w'.tape = w.tape
  output : w'.output = w.output
  size : w.heap.size ≤ w'.heap.size
  block : ∀ k, k < w.heap.size → k ≠ g → some k ≠ r → w'.heap[k]? = w.heap[k]?
theorem Touch.refl (w : World) (g : Nat) (r : Option Nat) : Touch w w g r := ⟨rfl, rfl, rfl, Nat.le_refl _, fun _ _ _ _ => rfl⟩
theorem Touch.ofVar {w w' : World} {g : Nat} (h : w.grownBy w' (some g)) (r : Option Nat) : Touch w w' g r := ⟨h.os, h.tape, h.output, h.size, fun k hk hg _ => h.block k hk (fun e => hg (Option.some.inj e))⟩
theorem Touch.ofRow {w w' : World} {r : Option Nat} (h : w.grownBy w' r) (g : Nat) : Touch w w' g r := ⟨h.os, h.tape, h.output, h.size, fun k hk _ hr => h.block k hk hr⟩
theorem Touch.trans {w w1 w2 : World} {g : Nat} {r r' : Option Nat} (h : Touch w w1 g r) (k : Touch w1 w2 g r') (hr : r' = r ∨ r' = none ∨ ∃ q, r' = some q ∧ w.heap.size ≤ q) : Touch w w2 g r :=
  ⟨k.os.trans h.os, k.tape.trans h.tape, k.output.trans h.output, Nat.le_trans h.size k.size, fun i hi hg hne => (k.block i (Nat.lt_of_lt_of_le hi h.size) hg (fun e => by
    rcases hr with rfl | rfl | ⟨q, rfl, hq⟩
    · exact hne e
    · cases e
    · have := Option.some.inj e; omega)).trans (h.block i hi hg hne)⟩
theorem grownBy_setC (w : World) (g i : Nat) (u : Value) : w.grownBy (w.setCell ⟨g, i, none⟩ u) (some g) :=
  ⟨by unfold World.setCell; split <;> rfl, by unfold World.setCell; split <;> rfl, by unfold World.setCell; split <;> rfl, Nat.le_of_eq (World.size_setCell w _ u).symm, fun k _ hne => heap_setCell_other _ _ _ _ (fun e => hne (by rw [e]))⟩
theorem grownBy_of {w w' : World} (h : Below w.heap.size w w') (r : Option Nat) : w.grownBy w' r := ⟨h.os, h.tape, h.output, h.size, fun k hk _ => h.block k hk⟩
theorem Own.touch {B g : Nat} {w w' : World} {v : Value} {l : List UInt8} {r : Option Nat} (h : Own B w v l) (t : Touch w w' g r) (hg : g < B) (hne : ∀ k, v.ownBlock = some k → some k ≠ r) : Own B w' v l :=
  h.same fun k hk => t.block k (h.lt hk).2 (by have := (h.lt hk).1; omega) (hne k hk)
theorem Below.touch {B g : Nat} {w0 w w' : World} {r : Option Nat} (h : Below B w0 w) (t : Touch w w' g r) (hB : B ≤ w.heap.size) (hg : B ≤ g) (hr : ∀ k, r = some k → B ≤ k) : Below B w0 w' :=
  ⟨t.os.trans h.os, t.tape.trans h.tape, t.output.trans h.output, Nat.le_trans h.size t.size, fun i hi => (t.block i (by omega) (by omega) (fun e => by have := hr i e.symm; omega)).trans (h.block i hi)⟩
theorem CVar.touch {w w' : World} {g g2 : Nat} {p l t : Int} {v : Value} {r : Option Nat} (h : CVar w g2 p l t v) (k : Touch w w' g r) (hg : g2 ≠ g) (hr : some g2 ≠ r) : CVar w' g2 p l t v := by
  unfold CVar at *
  rw [k.block g2 (Array.getElem?_eq_some_iff.1 h).1 hg hr]; exact h
end Go.Proofs.YtejbkbccljoldaaGreatDoor
