/- A slice of bytes of the call's own, beside other memory: what an append leaves alone. The reference's ParseRequest. The reference's ParseReply. The reference's FormatRequest and FormatReply. The small functions of package head, and the library's functions that it calls. Package head: the fields of lines, End, the start lines. Package head: lines of a head as pieces; the variable of a message; start. Package head: parse, for requests. Package head: ParseRequest. Package head: parse for replies, ParseReply. Bytes of the source. The contracts of awake and of the laws of layer 2. The ID that the source makes. -/
import Derived.Test.YteoadfckcilalaaGreatDoorPk1
import Derived.Test.YteoadfckcilalaaGreatDoorPk2
import Derived.Test.YteoadfckcilalaaGreatDoorPk3
import Derived.Test.YteoadfckcilalaaGreatDoorPk4
import Derived.Deep.Quiet
import Derived.Deep.QuietTactic
import Derived.Tactics
import Derived.KernelRfl
import Derived.Below
import Derived.Test.YteoadfckcilalaaGreatDoorRows
import Derived.WalkKit
import Derived.WalkSpells
import Derived.WalkLawsBesides
import Derived.BigQuiet
import Derived.Lib.Bytealg
import Derived.Lib.IndexLaws
import Derived.Lib.Hide
import Derived.ProofKit
import Derived.OpenShut
import Derived.Laws.IdiomStrings
import Derived.Lib.Strings
import Derived.Laws.Bits64
import Derived.Deep.AppendLies
import Derived.SliceStrings
import Derived.Lib.SlBytesConst
import Derived.Maps.AppendAt
import Derived.Laws.AppendOwnNone
import Derived.Great.BuildSlice
import Derived.Laws.Rows
import Derived.Lib.SlTrimSet
import Derived.Lib.IndexBytes
import Derived.Lib.Split
import Derived.Shelf.Strings.SlTrimAscii
import Derived.Shelf.Strings.SplitShaped
import Derived.Shelf.LaysM
import Derived.Shelf.Strings.BuilderK
import Derived.Shelf.Strconv.Itoa4
import Derived.Shelf.Strings.Prefix
import Derived.Shelf.Bytes.SlIndexWhole
import Derived.Test.YteoadfckcilalaaGreatDoorProg
import Derived.Lib.SplitLaws
import Derived.WalkSmall
import Derived.Laws.BitsAllLaws
import Derived.Laws.Shifts
import Derived.Maps.OwnOps
import Derived.Maps.OwnSet
import Derived.Deep.SlicePairs
import Derived.Lib.AppendZerosOnto
import Derived.Lib.AppendStr
import Derived.Laws.CopyOwn
import Derived.OwnWalk
import Derived.Laws.Strings3
import Derived.Laws.Concat
import Derived.Lib.ItoaMem
import Derived.IntWalk
import Derived.Laws.RangeAny
import Derived.LoopTactic
import Derived.Sort.Grow
import Derived.Lib.ConvBytes
import Derived.Lib.LaidTab
import Derived.LaidSub
import Derived.Laws.Bits64b
namespace Go.Proofs.YteoadfckcilalaaGreatDoor
open Go.RowKit

/-- v is a slice with the bytes l in a block of its own, at B or beyond. -/
def Own (B : Nat) (w : World) (v : Value) (l : List UInt8) : Prop := w.ownsRow B 5 1 v l.length (bytesV l)
theorem Own.start (B : Nat) (w : World) : Own B w (.slice none 0 0) [] := World.ownsRow_nil _ _ _ _
theorem Own.same {B : Nat} {w w' : World} {v : Value} {l : List UInt8} (h : Own B w v l) (hs : ∀ k, v.ownBlock = some k → w'.heap[k]? = w.heap[k]?) : Own B w' v l := by
  obtain ⟨h1, h2⟩ := h
  refine ⟨h1, ?_⟩
  rcases h2 with h2 | ⟨g, cap, cur, hv, hg, hc, r⟩
  · exact .inl h2
  · exact .inr ⟨g, cap, cur, hv, hg, by rw [hs g (by rw [hv]; rfl)]; exact hc, r⟩
theorem Own.lt {B : Nat} {w : World} {v : Value} {l : List UInt8} (h : Own B w v l) {k : Nat} (hk : v.ownBlock = some k) : B ≤ k ∧ k < w.heap.size := World.ownsRow.lt h k hk
theorem Own.keep {B : Nat} {w w' : World} {v : Value} {l : List UInt8} (h : Own B w v l) (hb : Below w.heap.size w w') : Own B w' v l :=
  h.same fun k hk => hb.block k (h.lt hk).2
theorem Own.val {B : Nat} {w : World} {v : Value} {l : List UInt8} (h : Own B w v l) : BytesV w v l := by
  obtain ⟨h1, h2⟩ := h
  rcases h2 with ⟨rfl, h2⟩ | ⟨g, cap, cur, rfl, hg, hc, hcap, hm, hsz, ht⟩
  · have : l = [] := List.eq_nil_of_length_eq_zero h2
    subst this
    exact ⟨none, 0, rfl, .inl ⟨rfl, rfl, rfl⟩⟩
  · refine ⟨_, cap, rfl, .inr ⟨_, rfl, hcap, hm, fun j hj => ?_⟩⟩
    have e : cur.toList[j]? = some (Value.int .u8 (l[j].toNat : Int)) := by
      have := congrArg (fun x => x[j]?) ht
      simp only [Nat.mul_one, bytesV] at this
      rw [List.getElem?_take_of_lt hj, List.getElem?_map, List.getElem?_eq_getElem hj] at this
      exact this
    rw [Addr.add_lit]
    simp only [World.cell?, hc, Nat.zero_add]
    simpa using e
theorem cell_same {w w' : World} {p : Addr} (h : w'.heap[p.block]? = w.heap[p.block]?) : w'.cell? p = w.cell? p := by
  unfold World.cell?
  rw [h]
theorem add_block (x : Addr) (j : Nat) : (x.add j).block = x.block := by unfold Addr.add; split <;> rfl
theorem IsBytes.same {w w' : World} {a : Option Addr} {l : List UInt8} {c : Nat} (h : IsBytes w a l c) (hs : ∀ x, a = some x → l ≠ [] → w'.heap[x.block]? = w.heap[x.block]?) : IsBytes w' a l c := by
  rcases h with h | ⟨x, h1, h2, h3, h4⟩
  · exact .inl h
  · refine .inr ⟨x, h1, h2, h3, fun j hj => ?_⟩
    have e : w'.heap[(x.add j).block]? = w.heap[(x.add j).block]? := by
      rw [add_block]
      exact hs x h1 (fun e => by rw [e] at hj; exact absurd hj (Nat.not_lt_zero _))
    rw [cell_same e]
    exact h4 j hj
theorem IsBytes.lt {w : World} {x : Addr} {l : List UInt8} {c : Nat} (h : IsBytes w (some x) l c) (hl : l ≠ []) : x.block < w.heap.size := by
  rcases h with ⟨h, _⟩ | ⟨y, h1, h2, h3, h4⟩
  · cases h
  · obtain rfl := Option.some.inj h1
    have h0 : 0 < l.length := List.length_pos_iff.2 hl
    have := h4 0 h0
    have h5 := World.block_lt_of_cell? w _ this
    rw [add_block] at h5; exact h5
section
variable {ops : Array Oper} {rest : List Oper} {o : Oper} {act : Act} {Q : Exit → Act → World → Prop}
/-- APPEND of a slice of bytes that is read; all other blocks stay as they are. -/
theorem wpList_append_ownb (w : World) (hgd : o.guard = none) (s x : Operand) (ho : o.op = .call { callee := .builtin .append, args := #[s, x], argTypes := #[23, 23] })
    {B : Nat} {v : Value} {l : List UInt8} (hs : act.eval s = v) (h : Own B w v l) {a : Option Addr} {r : List UInt8} {c : Nat} (hx : act.eval x = .slice a r.length c) (hr : IsBytes w a r c)
    (hn : l.length + r.length ≤ 140737488355328) (hB : B ≤ w.heap.size)
    (K : ∀ v' w', Own B w' v' (l ++ r) → w.grownBy w' v.ownBlock → (v'.ownBlock = v.ownBlock ∨ v'.ownBlock = some w.heap.size) → wpList Tryz.prog ops Q rest (act.put o.dst v') w') : wpList Tryz.prog ops Q (o :: rest) act w := by
  obtain ⟨i0, hi, hz0, hz1, hz2⟩ := info_parts Tryz.info5
  rcases hr with ⟨rfl, rfl, rfl⟩ | ⟨ad, rfl, hr1, hr2, hr3⟩
  · refine wpList_append_own_none hgd s x 23 ho B 5 i0 1 Tryz.underlying23 hi v l.length (bytesV l) hs h hx (K _ _ ?_ (World.grownBy.refl _ _) (.inl rfl))
    rw [List.append_nil]; exact h
  · refine wpList_append_own_at w hgd s x 23 ho B 5 i0 (.int .u8 0) 1 1 Tryz.underlying23 hi hz0 hz1 hz2 rfl (by decide) v l.length (bytesV l) hs h ad r.length c (bytesV r) hx (by rw [bytesV_len, Nat.mul_one]) ?_ ?_ (by unfold maxLen; omega) (by omega) hB ?_
    · intro j u hj
      unfold bytesV at hj
      rw [List.getElem?_map] at hj
      obtain ⟨c', hc', rfl⟩ := Option.map_eq_some_iff.1 hj
      obtain ⟨hlt, rfl⟩ := List.getElem?_eq_some_iff.1 hc'
      exact hr3 j hlt
    · intro u hu
      unfold bytesV at hu
      obtain ⟨c', _, rfl⟩ := List.mem_map.1 hu
      rfl
    · intro v' w' hown hgrow _ h5
      refine K v' w' ?_ hgrow h5
      unfold Own
      rw [List.length_append]
      have e : bytesV (l ++ r) = bytesV l ++ bytesV r := by unfold bytesV; rw [List.map_append]
      rw [e]; exact hown
end
end Go.Proofs.YteoadfckcilalaaGreatDoor
namespace Go.Proofs.YteoadfckcilalaaGreatDoor
open Go.RowKit

theorem lineR_ne (l : List ByteArray) (h : (lineR l).1 = none) : ¬ (lineR l).2 = 0 := by
  unfold lineR at h ⊢
  split at h
  · rename_i m t v
    by_cases h1 : tokS m = true ∧ targetS t = true
    · rw [if_pos h1] at h ⊢
      by_cases h2 : (verZ v).2 = 0
      · rw [if_pos h2] at h; cases h
      · rw [if_neg h2]; exact h2
    · rw [if_neg h1]; decide
  · decide
theorem lines_small : ∀ (l cur : List UInt8) (L : List ByteArray), linesGo cur l = some L → ∀ s ∈ L, s.size ≤ cur.length + l.length
  | [], _, L, h, s, hs => by
    rw [lines_nil] at h
    cases h; cases hs
  | x :: r, cur, L, h, s, hs => by
    by_cases hb : (x = 13 ∧ ¬ r.head? = some 10) ∨ (x = 10 ∧ ¬ cur.getLast? = some 13)
    · rw [lines_bad hb] at h; cases h
    · by_cases hx : x = 10
      · subst hx
        have hl : cur.getLast? = some 13 := Decidable.byContradiction fun e => hb (.inr ⟨rfl, e⟩)
        rw [lines_end hl] at h
        cases hq : linesGo [] r with
        | none => rw [hq] at h; cases h
        | some L2 =>
          rw [hq] at h
          simp only [Option.map_some, Option.some.injEq] at h
          subst h
          rcases List.mem_cons.1 hs with rfl | hs
          · show cur.dropLast.toArray.size ≤ _
            rw [List.size_toArray, List.length_dropLast]; omega
          · have := lines_small r [] L2 hq s hs
            rw [List.length_cons]
            simp at this
            omega
      · rw [lines_more hx (fun e => Decidable.byContradiction fun e2 => hb (.inl ⟨e, e2⟩))] at h
        have := lines_small r _ L h s hs
        rw [List.length_append] at this
        rw [List.length_cons]
        simp at this
        omega
theorem linesS_facts {b : List UInt8} {L : List ByteArray} (h : linesS b = some L) : (∀ s ∈ L, s.size ≤ b.length) ∧ L.length ≤ b.length := by
  unfold linesS at h
  split at h
  · cases hq : linesGo [] b with
    | none => rw [hq] at h; cases h
    | some G =>
      rw [hq] at h
      simp only [Option.map_some, Option.some.injEq] at h
      subst h
      refine ⟨fun s hs => ?_, ?_⟩
      · have := lines_small b [] G hq s ((List.dropLast_sublist G).subset hs)
        simpa using this
      · have := lines_count b [] G hq
        have h2 := List.count_le_length (a := (10 : UInt8)) (l := b)
        rw [List.length_dropLast]; omega
  · cases h
theorem parseF_small {s : ByteArray} {f : Fld} (h : parseF s = some f) : f.1.size ≤ s.size ∧ f.2.size ≤ s.size := by
  unfold parseF at h
  split at h
  · split at h
    · cases h
      exact ⟨extract_le _ _ _, Nat.le_trans (trimBA_size _) (extract_le _ _ _)⟩
    · cases h
  · cases h
theorem fieldsGo_small : ∀ (l : List ByteArray) (x : List Fld), fieldsGo l = some x → (∀ s ∈ l, s.size ≤ maxLen) → ShortF x ∧ x.length = l.length
  | [], x, h, _ => by
    cases h
    exact ⟨fun f hf => absurd hf (by simp), rfl⟩
  | t :: l, x, h, hz => by
    unfold fieldsGo at h
    cases ht : parseF t with
    | none => rw [ht] at h; cases h
    | some f =>
      rw [ht] at h
      simp only at h
      cases hx : fieldsGo l with
      | none => rw [hx] at h; cases h
      | some y =>
        rw [hx] at h
        simp only [Option.map_some, Option.some.injEq] at h
        subst h
        obtain ⟨h1, h2⟩ := fieldsGo_small l y hx (fun s hs => hz s (List.mem_cons_of_mem _ hs))
        have h3 := parseF_small ht
        have h4 := hz t (List.mem_cons_self ..)
        refine ⟨fun g hg => ?_, by simp [h2]⟩
        rcases List.mem_cons.1 hg with rfl | hg
        · exact ⟨Nat.le_trans h3.1 h4, Nat.le_trans h3.2 h4⟩
        · exact h1 g hg
theorem fieldsS_small {l : List ByteArray} {x : List Fld} {er : Int} (h : fieldsS l = (er, x)) (hz : ∀ s ∈ l, s.size ≤ maxLen) : ShortF x ∧ x.length ≤ 64 ∧ (¬ er = 0 → x = []) := by
  unfold fieldsS at h
  split at h
  · cases h
    exact ⟨fun f hf => absurd hf (by simp), by simp, fun _ => rfl⟩
  · rename_i h64
    cases hx : fieldsGo l with
    | none =>
      rw [hx] at h
      cases h
      exact ⟨fun f hf => absurd hf (by simp), by simp, fun _ => rfl⟩
    | some y =>
      rw [hx] at h
      cases h
      obtain ⟨h1, h2⟩ := fieldsGo_small l x hx hz
      exact ⟨h1, by omega, fun e => absurd rfl e⟩
def hostN : ByteArray := ⟨#[104, 111, 115, 116]⟩
/-- What ParseRequest returns: error, method, target, minor version, fields. -/
def headR (b : List UInt8) : Int × ByteArray × ByteArray × Int × List Fld :=
  match linesS b with
  | some (l0 :: ls) =>
    match lineR (splitS 32 l0) with
    | (some f, _) =>
      if (fieldsS ls).1 = 0 then (if 1 < (valuesL (fieldsS ls).2 hostN).length ∨ ((valuesL (fieldsS ls).2 hostN).length = 0 ∧ f.2.2 = 1) then (2, ⟨#[]⟩, ⟨#[]⟩, 0, []) else (0, f.1, f.2.1, f.2.2, (fieldsS ls).2))
      else ((fieldsS ls).1, ⟨#[]⟩, ⟨#[]⟩, 0, [])
    | (none, e) => (e, ⟨#[]⟩, ⟨#[]⟩, 0, [])
  | _ => (2, ⟨#[]⟩, ⟨#[]⟩, 0, [])
def QVarH (w : World) (g : Nat) (m t : ByteArray) (z : Int) (v : Value) : Prop := w.heap[g]? = some (.cells #[.string m, .string t, .int .i64 z, v, .bool false, .slice none 0 0] 29 (0, 0))
theorem QVarH.keep {w w' : World} {g : Nat} {m t : ByteArray} {z : Int} {v : Value} (h : QVarH w g m t z v) (hb : Below w.heap.size w w') : QVarH w' g m t z v := by
  unfold QVarH at *
  rw [hb.block g (Array.getElem?_eq_some_iff.1 h).1]; exact h
theorem oneQH (m t : ByteArray) (z : Int) (a : Option Addr) (n c : Nat) : (#[.string m, .string t, .int .i64 z, .slice a n c, .bool false, .slice none 0 0] : Array Value).all (·.oneCell') = true := by simp [Value.oneCell']
theorem QVarH.cells {w : World} {g : Nat} {m t : ByteArray} {z : Int} {v : Value} (h : QVarH w g m t z v) : w.cell? ⟨g, 2, none⟩ = some (.int .i64 z) ∧ w.cell? ⟨g, 3, none⟩ = some v := by
  refine ⟨?_, ?_⟩ <;> rw [cell_of_row _ _ _ _ _ _ h] <;> rfl
theorem QVarH.put {w : World} {g : Nat} {m t : ByteArray} {z : Int} {v u : Value} (h : QVarH w g m t z v) : QVarH (w.setCell ⟨g, 3, none⟩ u) g m t z u := by
  unfold QVarH; rw [heap_setCell_same _ _ _ _ _ _ h]; rfl
theorem QVarH.frozen {w : World} {g i : Nat} {m t : ByteArray} {z : Int} {v : Value} (h : QVarH w g m t z v) : w.frozen? ⟨g, i, none⟩ = false := by
  unfold QVarH at h; simp [World.frozen?, h]
theorem QVarH.cells6 {w : World} {g : Nat} {m t : ByteArray} {z : Int} {v : Value} (h : QVarH w g m t z v) : w.cell? ⟨g, 0, none⟩ = some (.string m) ∧ w.cell? ⟨g, 1, none⟩ = some (.string t) ∧ w.cell? ⟨g, 2, none⟩ = some (.int .i64 z) ∧ w.cell? ⟨g, 3, none⟩ = some v ∧ w.cell? ⟨g, 4, none⟩ = some (.bool false) ∧ w.cell? ⟨g, 5, none⟩ = some (.slice none 0 0) := by
  refine ⟨?_, ?_, ?_, ?_, ?_, ?_⟩ <;> rw [cell_of_row _ _ _ _ _ _ h] <;> rfl
theorem FldsIn.same {w w' : World} {a : Option Addr} {l : List Fld} (h : FldsIn w a l) (hs : ∀ y, a = some y → w'.heap[y.block]? = w.heap[y.block]?) : FldsIn w' a l := fun j hj => by
  obtain ⟨x, e, h1, h2⟩ := h j hj
  have hx := hs x e
  exact ⟨x, e, (cell_same (w := w) (w' := w') (by rw [add_block]; exact hx)).trans h1, (cell_same (w := w) (w' := w') (by rw [add_block]; exact hx)).trans h2⟩
theorem StrsAt.tail {w : World} {g : Nat} {s : ByteArray} {l : List ByteArray} (h : StrsAt w (some ⟨g, 0, none⟩) (s :: l)) : StrsAt w (some ⟨g, 1, none⟩) l := fun j hj => by
  obtain ⟨b, off, e, hc⟩ := h (j + 1) (by rw [List.length_cons]; omega)
  cases e
  refine ⟨g, 1, rfl, ?_⟩
  rw [show 1 + j = 0 + (j + 1) by omega]
  exact hc
theorem StrsAt.head {w : World} {g : Nat} {s : ByteArray} {l : List ByteArray} (h : StrsAt w (some ⟨g, 0, none⟩) (s :: l)) : w.cell? ⟨g, 0, none⟩ = some (.string s) := by
  obtain ⟨b, off, e, hc⟩ := h 0 (by simp)
  cases e
  exact hc
/-- As RetReqH, and the fields lie in a block of the call's own. -/
def RetReqF (w : World) (r : Int × ByteArray × ByteArray × Int × List Fld) (e : Ending) (w' : World) : Prop :=
  ∃ fa fc, e = .returned (.tuple #[.agg #[.string r.2.1, .string r.2.2.1, .int .i64 r.2.2.2.1, .slice fa r.2.2.2.2.length fc, .bool false, .slice none 0 0], .int .i64 r.1]) ∧ FldsIn w' fa r.2.2.2.2 ∧ (∀ y, fa = some y → w.heap.size ≤ y.block) ∧ Below w.heap.size w w'
end Go.Proofs.YteoadfckcilalaaGreatDoor
namespace Go.Proofs.YteoadfckcilalaaGreatDoor
open Go.RowKit

/-- What ParseReply returns: error, status, reason, minor version, fields. -/
def headA (b : List UInt8) : Int × Int × ByteArray × Int × List Fld :=
  match linesS b with
  | some (l0 :: ls) =>
    match parseA l0 with
    | some f => if (fieldsS ls).1 = 0 then (0, f.1, f.2.1, f.2.2, (fieldsS ls).2) else ((fieldsS ls).1, 0, ⟨#[]⟩, 0, [])
    | none => (2, 0, ⟨#[]⟩, 0, [])
  | _ => (2, 0, ⟨#[]⟩, 0, [])
/-- A reply's variable with its fields. -/
def AVarH (w : World) (g : Nat) (m : Int) (t : ByteArray) (z : Int) (v : Value) : Prop := w.heap[g]? = some (.cells #[.int .i64 m, .string t, .int .i64 z, v, .slice none 0 0] 31 (0, 0))
theorem AVarH.keep {w w' : World} {g : Nat} {m : Int} {t : ByteArray} {z : Int} {v : Value} (h : AVarH w g m t z v) (hb : Below w.heap.size w w') : AVarH w' g m t z v := by
  unfold AVarH at *
  rw [hb.block g (Array.getElem?_eq_some_iff.1 h).1]; exact h
theorem oneAH (m : Int) (t : ByteArray) (z : Int) (a : Option Addr) (n c : Nat) : (#[.int .i64 m, .string t, .int .i64 z, .slice a n c, .slice none 0 0] : Array Value).all (·.oneCell') = true := by simp [Value.oneCell']
theorem AVarH.cells {w : World} {g : Nat} {m : Int} {t : ByteArray} {z : Int} {v : Value} (h : AVarH w g m t z v) : w.cell? ⟨g, 2, none⟩ = some (.int .i64 z) ∧ w.cell? ⟨g, 3, none⟩ = some v := by
  refine ⟨?_, ?_⟩ <;> rw [cell_of_row _ _ _ _ _ _ h] <;> rfl
theorem AVarH.put {w : World} {g : Nat} {m : Int} {t : ByteArray} {z : Int} {v u : Value} (h : AVarH w g m t z v) : AVarH (w.setCell ⟨g, 3, none⟩ u) g m t z u := by
  unfold AVarH; rw [heap_setCell_same _ _ _ _ _ _ h]; rfl
theorem AVarH.frozen {w : World} {g i : Nat} {m : Int} {t : ByteArray} {z : Int} {v : Value} (h : AVarH w g m t z v) : w.frozen? ⟨g, i, none⟩ = false := by
  unfold AVarH at h; simp [World.frozen?, h]
theorem AVarH.cells5 {w : World} {g : Nat} {m : Int} {t : ByteArray} {z : Int} {v : Value} (h : AVarH w g m t z v) : w.cell? ⟨g, 0, none⟩ = some (.int .i64 m) ∧ w.cell? ⟨g, 1, none⟩ = some (.string t) ∧ w.cell? ⟨g, 2, none⟩ = some (.int .i64 z) ∧ w.cell? ⟨g, 3, none⟩ = some v ∧ w.cell? ⟨g, 4, none⟩ = some (.slice none 0 0) := by
  refine ⟨?_, ?_, ?_, ?_, ?_⟩ <;> rw [cell_of_row _ _ _ _ _ _ h] <;> rfl
/-- As RetRepH, and the fields lie in a block of the call's own. -/
def RetRepF (w : World) (r : Int × Int × ByteArray × Int × List Fld) (e : Ending) (w' : World) : Prop :=
  ∃ fa fc, e = .returned (.tuple #[.agg #[.int .i64 r.2.1, .string r.2.2.1, .int .i64 r.2.2.2.1, .slice fa r.2.2.2.2.length fc, .slice none 0 0], .int .i64 r.1]) ∧ FldsIn w' fa r.2.2.2.2 ∧ (∀ y, fa = some y → w.heap.size ≤ y.block) ∧ Below w.heap.size w w'
end Go.Proofs.YteoadfckcilalaaGreatDoor
namespace Go.Proofs.YteoadfckcilalaaGreatDoor
open Go.RowKit

theorem allB_no {l : List Fld} {k : Nat} (hk : k < l.length) (h : fldB l[k].1 l[k].2 = false) : allB l = false := by
  unfold allB
  rw [← Bool.not_eq_true, List.all_eq_true]
  intro h2
  have := h2 _ (List.getElem_mem hk)
  rw [h] at this; cases this
theorem allB_yes {l : List Fld} (h : ∀ f ∈ l, fldB f.1 f.2 = true) : allB l = true := by
  unfold allB
  exact List.all_eq_true.2 h
set_option maxRecDepth 100000 in
set_option maxHeartbeats 2000000 in
theorem refAllValid_any (l : List Fld) (a : Option Addr) (cap : Nat) (w : World) (h : FldsIn w a l) (hz : ShortF l) (hl : l.length ≤ 4000000) :
    Calls Tryz.prog 71 #[.slice a l.length cap] w fun e w' => e = .returned (.bool (allB l)) ∧ Below w.heap.size w w' := by
  have H0 := Box.mk h
  have HZ := Box.mk hz
  have HN := Box.mk (fun (k : Nat) (hk : k < l.length) h => allB_no hk h)
  have HY := Box.mk (fun h => allB_yes (l := l) h)
  generalize hR : allB l = R at *
  clear h hz hR
  go_enter Tryz.func71, Tryz.ntmps71
  go_wp2_with fail
  go_loopw [3] (fun iv wr => ∃ k : Nat, k ≤ l.length ∧ iv = .int .i64 k ∧ Box (Below w.heap.size w wr ∧ ∀ f ∈ l.take k, fldB f.1 f.2 = true)) (fun iv _ => l.length - (intOf iv).toNat)
  case atStart => exact ⟨0, Nat.zero_le _, rfl, ⟨Below.refl _ _, by simp⟩⟩
  case round =>
    obtain ⟨k, hk, rfl, HM⟩ := hrel
    by_cases hlt : k < l.length
    · obtain ⟨x, rfl, hx1, hx2⟩ := (H0.out.keep HM.out.1) k hlt
      have hx2 := cell_next hx2
      have HSZ := Box.mk (HZ.out _ (List.getElem_mem hlt))
      by_cases hv : fldB l[k].1 l[k].2 = true
      · have HALL := Box.mk (all_stepF hlt HM.out.2 hv)
        have HV := Box.mk hv
        clear hv
        generalize l[k] = f at *
        go_wp2_with fail
        refine (refFieldValid_any f.1 f.2 _ HSZ.out.1 HSZ.out.2).mono ?_
        rintro e w1 ⟨he, hb1⟩
        rw [HV.out] at he
        subst he
        have HB1 := Box.mk (below_trans HM.out.1 hb1)
        clear hb1 hx1 hx2
        go_wp2_with fail
        go_roundw
        case rel => exact ⟨k + 1, by omega, by go_num, ⟨HB1.out, HALL.out⟩⟩
        case measure => simp [intOf]; omega
      · have HV := Box.mk (show fldB l[k].1 l[k].2 = false by simpa using hv)
        have HP := Box.mk (HN.out k hlt HV.out)
        clear hv
        generalize l[k] = f at *
        go_wp2_with fail
        refine (refFieldValid_any f.1 f.2 _ HSZ.out.1 HSZ.out.2).mono ?_
        rintro e w1 ⟨he, hb1⟩
        rw [HV.out] at he
        subst he
        have HB1 := Box.mk (below_trans HM.out.1 hb1)
        clear hb1 hx1 hx2
        go_wp2_with fail
        go_ret
        exact ⟨ret_bool HP.out.symm, HB1.out⟩
    · have HP := Box.mk (HY.out (by have := HM.out.2; rw [List.take_of_length_le (by omega)] at this; exact this))
      go_wp2_with fail
      go_ret
      exact ⟨ret_bool HP.out.symm, HM.out.1⟩
/-- The bytes of a head with the start line s and the fields x; none if one of them cannot be written. -/
def headB (s : ByteArray) (x : List Fld) : List UInt8 := if s.size = 0 ∨ allB x = false then [] else s.data.toList ++ [13, 10] ++ linesB x ++ [13, 10]
theorem headB_no {s : ByteArray} {x : List Fld} (h : s.size = 0 ∨ allB x = false) : headB s x = [] := by unfold headB; rw [if_pos h]
theorem headB_yes {s : ByteArray} {x : List Fld} (h : ¬ s.size = 0) (h2 : allB x = true) : headB s x = s.data.toList ++ [13, 10] ++ linesB x ++ [13, 10] := by
  unfold headB
  rw [if_neg (fun e => e.elim h (fun e => by rw [h2] at e; cases e))]
/-- What FormatRequest and FormatReply return: nil, or the bytes of a string. -/
def RetHd (w : World) (l : List UInt8) (e : Ending) (w' : World) : Prop :=
  (l = [] ∧ e = .returned (.slice none 0 0) ∧ Below w.heap.size w w') ∨
  ∃ W s, s.data.toList = l ∧ 0 < l.length ∧ e = .returned (.slice (some ⟨W.heap.size, 0, none⟩) s.size (grownCap W s.size 0 5)) ∧ w' = Lib.bytesWorld W 5 s ∧ Below w.heap.size w W
theorem empty_s {y : ByteArray} (h : y.size = 0) : y.toList.isEmpty = true := by
  rw [ByteArray.toList_eq, List.isEmpty_iff, ← List.length_eq_zero_iff, Array.length_toList]; exact h
theorem full_s {y : ByteArray} (h : ¬ y.size = 0) : y.toList.isEmpty = false := by
  rw [← Bool.not_eq_true, ByteArray.toList_eq, List.isEmpty_iff, ← List.length_eq_zero_iff, Array.length_toList]; exact h
set_option maxRecDepth 100000 in
set_option maxHeartbeats 4000000 in
theorem refFmtReq_any (m t : ByteArray) (z : Int) (fr : Bool) (x : List Fld) (fa ba : Option Addr) (fc bn bc : Nat) (w : World) (hm : m.size ≤ 1000000000) (ht : t.size ≤ 1000000000) (hx : FldsIn w fa x) (hz : SmallF x) (hl : x.length ≤ 1000) (hq : (fmtReq m t z).size ≤ 4000000000) :
    Calls Tryz.prog 48 #[.agg #[.string m, .string t, .int .i64 z, .slice fa x.length fc, .bool fr, .slice ba bn bc]] w (RetHd w (headB (fmtReq m t z) x)) := by
  have HB0 := Box.mk (below_oneF w (.cells #[.string m, .string t, .int .i64 z, .slice fa x.length fc, .bool fr, .slice ba bn bc] 29))
  have hc3 : (w.alloc (.cells #[.string m, .string t, .int .i64 z, .slice fa x.length fc, .bool fr, .slice ba bn bc] 29)).cell? ⟨w.heap.size, 3, none⟩ = some (.slice fa x.length fc) := by rw [new_cellF]; rfl
  have HC3 := Box.mk hc3
  have HX0 := Box.mk (hx.keep HB0.out)
  have HZ := Box.mk hz
  have HCALL := Box.mk (fun W => refFormatReq_any m t z fa ba x.length fc bn bc fr W hm ht)
  have HN := Box.mk (fun h => headB_no (s := fmtReq m t z) (x := x) h)
  have HY := Box.mk (fun h h2 => headB_yes (s := fmtReq m t z) (x := x) h h2)
  generalize headB (fmtReq m t z) x = R at *
  generalize fmtReq m t z = s at *
  clear hx hz hc3
  go_enter Tryz.func48, Tryz.ntmps48
  go_wp2_with fail
  refine (HCALL.out _).mono ?_
  rintro e w1 ⟨rfl, hb1⟩
  have hd3 := below_cell hb1 HC3.out
  have HX1 := Box.mk (HX0.out.keep hb1)
  have HB1 := Box.mk (below_trans HB0.out hb1)
  have HD3 := Box.mk hd3
  clear hb1 HX0 HB0 HC3
  by_cases h0 : s.size = 0
  · have he := empty_s h0
    have HP := Box.mk (HN.out (.inl h0))
    clear h0 hd3
    go_wp2_with fail
    go_ret
    exact .inl ⟨HP.out, rfl, HB1.out⟩
  · have he := full_s h0
    have H0 := Box.mk h0
    clear h0
    go_wp2_with fail
    refine (refAllValid_any x fa fc _ HX1.out (fun f hf => ⟨le_maxLen (HZ.out f hf).1, le_maxLen (HZ.out f hf).2⟩) (by omega)).mono ?_
    rintro e w2 ⟨he2, hb2⟩
    have hd3 := below_cell hb2 HD3.out
    have HX2 := Box.mk (HX1.out.keep hb2)
    have HB2 := Box.mk (below_trans HB1.out hb2)
    clear hb2 HX1 HB1 HD3
    by_cases hv : allB x = true
    · rw [hv] at he2
      subst he2
      have HP := Box.mk (HY.out H0.out hv)
      have HF := Box.mk (show (fmtF x).data.toList = linesB x by unfold fmtF; rw [if_pos hv])
      have hfz : (fmtF x).size ≤ 1000 * 2097156 := by
        have h1 := linesB_len x HZ.out x.length
        rw [List.take_length] at h1
        have h2 := congrArg List.length HF.out
        rw [Array.length_toList] at h2
        have h3 : (fmtF x).data.size = (fmtF x).size := rfl
        have h4 : x.length * 2097156 ≤ 1000 * 2097156 := Nat.mul_le_mul_right _ hl
        omega
      have hadd1 := fun W => run_string_add_sum (P := Tryz.prog) (w := W) s ⟨#[13, 10]⟩ (by show s.size + 2 ≤ _; omega)
      obtain ⟨s1, hs1⟩ : ∃ s1, s1 = s ++ (⟨#[13, 10]⟩ : ByteArray) := ⟨_, rfl⟩
      rw [← hs1] at hadd1
      have hs1z : s1.size = s.size + 2 := by rw [hs1, ByteArray.size_append]; rfl
      have HFM := Box.mk (fun W (h : FldsIn W fa x) => refFormat_any x fa fc W h HZ.out (by omega))
      generalize fmtF x = f at *
      have hadd2 := fun W => run_string_add_sum (P := Tryz.prog) (w := W) s1 f (by omega)
      obtain ⟨s2, hs2⟩ : ∃ s2, s2 = s1 ++ f := ⟨_, rfl⟩
      rw [← hs2] at hadd2
      have hs2z : s2.size = s.size + 2 + f.size := by rw [hs2, ByteArray.size_append, hs1z]
      have hadd3 := fun W => run_string_add_sum (P := Tryz.prog) (w := W) s2 ⟨#[13, 10]⟩ (by show s2.size + 2 ≤ _; omega)
      obtain ⟨s3, hs3⟩ : ∃ s3, s3 = s2 ++ (⟨#[13, 10]⟩ : ByteArray) := ⟨_, rfl⟩
      rw [← hs3] at hadd3
      have HS3 := Box.mk (show s3.data.toList = R by
        rw [HP.out, hs3, hs2, hs1, ← HF.out]
        simp)
      have HRP := Box.mk (show 0 < R.length by rw [HP.out]; simp; omega)
      have hcvb := fun W => Lib.run_convert_string_bytes (P := Tryz.prog) W 9 23 5 s3 Tryz.underlying9 Tryz.underlying23 Tryz.underlying5
      clear hs1 hs2 hs3 hs1z hs2z hv
      go_wp2_with fail
      refine (HFM.out _ HX2.out).mono ?_
      rintro e w3 ⟨rfl, hb3⟩
      have HB3 := Box.mk (below_trans HB2.out hb3)
      clear hb3
      go_wp2_with fail
      go_ret
      exact .inr ⟨w3, s3, HS3.out, HRP.out, rfl, rfl, HB3.out⟩
    · have hv2 : allB x = false := by rw [← Bool.not_eq_true]; exact hv
      rw [hv2] at he2
      subst he2
      have HP := Box.mk (HN.out (.inr hv2))
      clear hv hv2
      go_wp2_with fail
      go_ret
      exact .inl ⟨HP.out, rfl, HB2.out⟩
set_option maxRecDepth 100000 in
set_option maxHeartbeats 4000000 in
theorem refFmtRep_any (st : Int) (r : ByteArray) (z : Int) (x : List Fld) (fa ba : Option Addr) (fc bn bc : Nat) (w : World) (hr : r.size ≤ 1000000000) (hx : FldsIn w fa x) (hz : SmallF x) (hl : x.length ≤ 1000) (hq : (fmtRep st r z).size ≤ 4000000000) :
    Calls Tryz.prog 50 #[.agg #[.int .i64 st, .string r, .int .i64 z, .slice fa x.length fc, .slice ba bn bc]] w (RetHd w (headB (fmtRep st r z) x)) := by
  have HB0 := Box.mk (below_oneF w (.cells #[.int .i64 st, .string r, .int .i64 z, .slice fa x.length fc, .slice ba bn bc] 31))
  have hc3 : (w.alloc (.cells #[.int .i64 st, .string r, .int .i64 z, .slice fa x.length fc, .slice ba bn bc] 31)).cell? ⟨w.heap.size, 3, none⟩ = some (.slice fa x.length fc) := by rw [new_cellF]; rfl
  have HC3 := Box.mk hc3
  have HX0 := Box.mk (hx.keep HB0.out)
  have HZ := Box.mk hz
  have HCALL := Box.mk (fun W => refFormatRep_any st r z fa ba x.length fc bn bc W hr)
  have HN := Box.mk (fun h => headB_no (s := fmtRep st r z) (x := x) h)
  have HY := Box.mk (fun h h2 => headB_yes (s := fmtRep st r z) (x := x) h h2)
  generalize headB (fmtRep st r z) x = R at *
  generalize fmtRep st r z = s at *
  clear hx hz hc3
  go_enter Tryz.func50, Tryz.ntmps50
  go_wp2_with fail
  refine (HCALL.out _).mono ?_
  rintro e w1 ⟨rfl, hb1⟩
  have hd3 := below_cell hb1 HC3.out
  have HX1 := Box.mk (HX0.out.keep hb1)
  have HB1 := Box.mk (below_trans HB0.out hb1)
  have HD3 := Box.mk hd3
  clear hb1 HX0 HB0 HC3
  by_cases h0 : s.size = 0
  · have he := empty_s h0
    have HP := Box.mk (HN.out (.inl h0))
    clear h0 hd3
    go_wp2_with fail
    go_ret
    exact .inl ⟨HP.out, rfl, HB1.out⟩
  · have he := full_s h0
    have H0 := Box.mk h0
    clear h0
    go_wp2_with fail
    refine (refAllValid_any x fa fc _ HX1.out (fun f hf => ⟨le_maxLen (HZ.out f hf).1, le_maxLen (HZ.out f hf).2⟩) (by omega)).mono ?_
    rintro e w2 ⟨he2, hb2⟩
    have hd3 := below_cell hb2 HD3.out
    have HX2 := Box.mk (HX1.out.keep hb2)
    have HB2 := Box.mk (below_trans HB1.out hb2)
    clear hb2 HX1 HB1 HD3
    by_cases hv : allB x = true
    · rw [hv] at he2
      subst he2
      have HP := Box.mk (HY.out H0.out hv)
      have HF := Box.mk (show (fmtF x).data.toList = linesB x by unfold fmtF; rw [if_pos hv])
      have hfz : (fmtF x).size ≤ 1000 * 2097156 := by
        have h1 := linesB_len x HZ.out x.length
        rw [List.take_length] at h1
        have h2 := congrArg List.length HF.out
        rw [Array.length_toList] at h2
        have h3 : (fmtF x).data.size = (fmtF x).size := rfl
        have h4 : x.length * 2097156 ≤ 1000 * 2097156 := Nat.mul_le_mul_right _ hl
        omega
      have hadd1 := fun W => run_string_add_sum (P := Tryz.prog) (w := W) s ⟨#[13, 10]⟩ (by show s.size + 2 ≤ _; omega)
      obtain ⟨s1, hs1⟩ : ∃ s1, s1 = s ++ (⟨#[13, 10]⟩ : ByteArray) := ⟨_, rfl⟩
      rw [← hs1] at hadd1
      have hs1z : s1.size = s.size + 2 := by rw [hs1, ByteArray.size_append]; rfl
      have HFM := Box.mk (fun W (h : FldsIn W fa x) => refFormat_any x fa fc W h HZ.out (by omega))
      generalize fmtF x = f at *
      have hadd2 := fun W => run_string_add_sum (P := Tryz.prog) (w := W) s1 f (by omega)
      obtain ⟨s2, hs2⟩ : ∃ s2, s2 = s1 ++ f := ⟨_, rfl⟩
      rw [← hs2] at hadd2
      have hs2z : s2.size = s.size + 2 + f.size := by rw [hs2, ByteArray.size_append, hs1z]
      have hadd3 := fun W => run_string_add_sum (P := Tryz.prog) (w := W) s2 ⟨#[13, 10]⟩ (by show s2.size + 2 ≤ _; omega)
      obtain ⟨s3, hs3⟩ : ∃ s3, s3 = s2 ++ (⟨#[13, 10]⟩ : ByteArray) := ⟨_, rfl⟩
      rw [← hs3] at hadd3
      have HS3 := Box.mk (show s3.data.toList = R by
        rw [HP.out, hs3, hs2, hs1, ← HF.out]
        simp)
      have HRP := Box.mk (show 0 < R.length by rw [HP.out]; simp; omega)
      have hcvb := fun W => Lib.run_convert_string_bytes (P := Tryz.prog) W 9 23 5 s3 Tryz.underlying9 Tryz.underlying23 Tryz.underlying5
      clear hs1 hs2 hs3 hs1z hs2z hv
      go_wp2_with fail
      refine (HFM.out _ HX2.out).mono ?_
      rintro e w3 ⟨rfl, hb3⟩
      have HB3 := Box.mk (below_trans HB2.out hb3)
      clear hb3
      go_wp2_with fail
      go_ret
      exact .inr ⟨w3, s3, HS3.out, HRP.out, rfl, rfl, HB3.out⟩
    · have hv2 : allB x = false := by rw [← Bool.not_eq_true]; exact hv
      rw [hv2] at he2
      subst he2
      have HP := Box.mk (HN.out (.inr hv2))
      clear hv hv2
      go_wp2_with fail
      go_ret
      exact .inl ⟨HP.out, rfl, HB2.out⟩
end Go.Proofs.YteoadfckcilalaaGreatDoor
namespace Go.Proofs.YteoadfckcilalaaGreatDoor
open Go.RowKit

/-- What the project's functions want of memory: the library's variable MaxLen. -/
def HdOk (w : World) (mm : Int) : Prop := w.cell? ⟨1, 0, none⟩ = some (.int .i64 mm)
theorem HdOk.keep {w w' : World} {mm : Int} (h : HdOk w mm) (hb : Below w.heap.size w w') : HdOk w' mm := below_cell hb h
theorem countR_any (s sep : ByteArray) (mm : Int) (w : World) (hs : s.size < 4294967281) (hm : HdOk w mm) (h1 : 1 ≤ sep.size) :
    Calls Tryz.prog 187 #[.string s, .string sep] w fun e w' => e = .returned (.int .i64 (Lib.count s.data.toList sep.data.toList : Nat)) ∧ w = w' :=
  (Any.strings_Count_any Tryz.lays138 s sep mm w hs hm h1).mono fun _ _ ⟨he, hw⟩ => ⟨he, hw.symm⟩
theorem suffixR_any (s p : ByteArray) (w : World) (hs : s.size ≤ 9223372036854775807) :
    Calls Tryz.prog 168 #[.string s, .string p] w fun e w' => e = .returned (.string ⟨(Lib.trimSuffix s.data.toList p.data.toList).toArray⟩) ∧ w = w' :=
  (Any.strings_TrimSuffix Tryz.lays102 s p w hs).mono fun _ _ ⟨he, hw⟩ => ⟨he, hw.symm⟩
/-- At most 66 lines. -/
def piecesS (s : ByteArray) : List ByteArray := Lib.splitB crlfH 0 (min 66 (s.size + 1) - 1) s
theorem piecesS_pos (s : ByteArray) : 0 < (piecesS s).length := by
  unfold piecesS
  generalize min 66 (s.size + 1) - 1 = k
  cases k with
  | zero => exact Nat.one_pos
  | succ k => unfold Lib.splitB; split <;> simp
theorem splitL_any (s : ByteArray) (w : World) (mm : Int) (hs : s.size < 4294967281) (hm : HdOk w mm) :
    Calls Tryz.prog 167 #[.string s, .string ⟨#[13, 10]⟩, .int .i64 66] w fun e w' => ∃ cap, e = .returned (.slice (some ⟨w.heap.size, 0, none⟩) (piecesS s).length cap) ∧
      (piecesS s).length ≤ cap ∧ cap ≤ 66 ∧ StrsAt w' (some ⟨w.heap.size, 0, none⟩) (piecesS s) ∧ Below w.heap.size w w' := by
  refine (Any.strings_SplitN { Tryz.laysM147 with } Tryz.laysM147.i9 s ⟨#[13, 10]⟩ 66 mm w hs hm (by decide) (by decide) (by decide)).mono ?_
  rintro e w' ⟨he, hw⟩
  have hlen := Lib.splitB_length_le crlfH 0 (min 66 (s.size + 1) - 1) s
  refine ⟨_, he, by unfold piecesS; omega, by omega, fun j hj => ⟨_, _, rfl, ?_⟩, by rw [hw]; exact (Below.refl _ _).alloc (Nat.le_refl _) _⟩
  rw [hw, new_cellF, Nat.zero_add]
  exact cellsOf_at _ _ j hj
theorem bytesOf_nat (b : List UInt8) : Lib.bytesOf (b.map fun x => (x.toNat : Int)) = b := by
  unfold Lib.bytesOf
  rw [List.map_map]
  conv => rhs; rw [← List.map_id b]
  apply List.map_congr_left
  intro x _
  show UInt8.ofNat (x.toNat : Int).toNat = x
  rw [Int.toNat_natCast]; exact UInt8.ofNat_toNat
theorem idxR_any (b s : List UInt8) (a : Option Addr) (x2 : Addr) (c c2 : Nat) (mm : Int) (w : World) (h : IsBytes w a b c) (h2 : IsBytes w (some x2) s c2) (h0 : 1 < s.length) (hl : b.length ≤ 4000000000) (hm : HdOk w mm) :
    Calls Tryz.prog 108 #[.slice a b.length c, .slice (some x2) s.length c2] w fun e w' => e = .returned (.int .i64 (Lib.index b s)) ∧ Below w.heap.size w w' := by
  rcases h2 with ⟨e, _⟩ | ⟨x3, e, h21, h22, h23⟩
  · cases e
  cases e
  have hmx : maxLen = 9223372036854775807 ∨ maxLen ≤ 9223372036854775807 := by unfold maxLen; omega
  have hsl : s.length ≤ 9223372036854775807 := by unfold maxLen at h22; omega
  rcases h with ⟨rfl, rfl, rfl⟩ | ⟨x, rfl, h11, h12, h13⟩
  · refine (Any.bytes_Index_nil Tryz.lays185 (some x2) s.length c2 w hsl (fun e => by omega)).mono ?_
    rintro e w' ⟨he, hw⟩
    refine ⟨?_, by rw [hw]; exact Below.refl _ _⟩
    rw [he, if_neg (by omega)]
    unfold Lib.index
    rw [if_neg (by cases s with
      | nil => simp at h0
      | cons x r => simp)]
  · have hr : ∀ l : List UInt8, ∀ z ∈ l.map (fun x => (x.toNat : Int)), 0 ≤ z ∧ z < 256 := fun l z hz => by
      obtain ⟨y, _, rfl⟩ := List.mem_map.1 hz
      have := y.toNat_lt
      constructor
      · omega
      · have h3 : y.toNat < 256 := this
        omega
    have hg : ∀ (l : List UInt8) (i : Nat) (hi : i < l.length), (l.map fun x => (x.toNat : Int)).getD i 0 = (l[i].toNat : Int) := fun l i hi => by
      rw [List.getD_eq_getElem?_getD, List.getElem?_map, List.getElem?_eq_getElem hi]; rfl
    refine (Any.bytes_Index_at Tryz.lays185 x x2 b.length c s.length c2 (b.map fun x => (x.toNat : Int)) (s.map fun x => (x.toNat : Int)) mm w (by simp) (by simp) (hr b) (hr s)
      (fun i hi => by rw [hg b i hi]; exact h13 i hi) (fun i hi => by rw [hg s i hi]; exact h23 i hi) h11 (by omega) hsl hm).mono ?_
    rintro e w' ⟨he, q, hw⟩
    refine ⟨?_, by rw [hw]; exact below_drewN (Below.refl _ _) q⟩
    rw [he, bytesOf_nat, bytesOf_nat]
set_option maxRecDepth 100000 in
set_option maxHeartbeats 4000000 in
theorem projWhole_any (b : List UInt8) (mm : Int) (w : World) (hl : b.length ≤ 4000000000) (hm : HdOk w mm) :
    Calls Tryz.prog 166 #[.string ⟨b.toArray⟩] w fun e w' => e = .returned (.bool (linesGo [] b).isSome) ∧ w = w' := by
  have HC := Box.mk (lines_counts b)
  have HM := Box.mk hm
  have hsz : (⟨b.toArray⟩ : ByteArray).size = b.length := rfl
  have HN := Box.mk (fun sep h1 => countR_any ⟨b.toArray⟩ sep mm w (by omega) hm h1)
  have HN1 := Box.mk (show Calls Tryz.prog 187 #[.string ⟨b.toArray⟩, .string ⟨#[13, 10]⟩] w fun e w' => e = .returned (.int .i64 (Lib.count b crlf1 : Nat)) ∧ w = w' from HN.out ⟨#[13, 10]⟩ (by decide))
  have HN2 := Box.mk (show Calls Tryz.prog 187 #[.string ⟨b.toArray⟩, .string ⟨#[13]⟩] w fun e w' => e = .returned (.int .i64 (b.count 13 : Nat)) ∧ w = w' by rw [← Lib.count_one]; exact HN.out ⟨#[13]⟩ (by decide))
  have HN3 := Box.mk (show Calls Tryz.prog 187 #[.string ⟨b.toArray⟩, .string ⟨#[10]⟩] w fun e w' => e = .returned (.int .i64 (b.count 10 : Nat)) ∧ w = w' by rw [← Lib.count_one]; exact HN.out ⟨#[10]⟩ (by decide))
  generalize (linesGo [] b).isSome = r at *
  generalize Lib.count b crlf1 = n at *
  generalize b.count 13 = n1 at *
  generalize b.count 10 = n2 at *
  clear hm HN hsz
  go_enter Tryz.func166, Tryz.ntmps166
  go_wp2_with fail
  refine HN1.out.mono ?_
  rintro e w1 ⟨rfl, rfl⟩
  clear HN1
  go_wp2_with fail
  refine HN2.out.mono ?_
  rintro e w1 ⟨rfl, rfl⟩
  clear HN2
  by_cases h1 : n1 = n
  · have e1 : ((n1 : Int) == (n : Int)) = true := by rw [h1]; exact beq_self_eq_true _
    go_wp2_with fail
    refine HN3.out.mono ?_
    rintro e w1 ⟨rfl, rfl⟩
    have HP := Box.mk (show ((n2 : Int) == (n : Int)) = r by
      rw [Bool.eq_iff_iff, HC.out, beq_iff_eq]
      constructor
      · intro h; exact ⟨h1, by omega⟩
      · intro h; omega)
    clear HN3 HC h1
    go_wp2_with fail
    go_ret
    rw [HP.out]
    exact ⟨rfl, rfl⟩
  · have e1 : ((n1 : Int) == (n : Int)) = false := by rw [beq_eq_false_iff_ne]; omega
    have HP := Box.mk (show r = false by
      rw [Bool.eq_false_iff]
      intro h
      exact h1 (HC.out.1 h).1)
    clear HN3 HC h1
    go_wp2_with fail
    go_ret
    rw [HP.out]
    exact ⟨rfl, rfl⟩
def hostU : ByteArray := ⟨#[72, 111, 115, 116]⟩
theorem values_host (x : List Fld) : valuesL x hostU = valuesL x hostN := by
  have h : lowS hostU = lowS hostN := by decide +kernel
  unfold valuesL
  congr 1
/-- Is the host named as often as the version asks? -/
def hostB (x : List Fld) (z : Int) : Bool := decide ((valuesL x hostN).length = 1 ∨ ((valuesL x hostN).length = 0 ∧ ¬ z = 1))
set_option maxRecDepth 100000 in
set_option maxHeartbeats 4000000 in
theorem projHosted_any (z : Int) (x : List Fld) (fa : Option Addr) (fc : Nat) (w : World) (h : FldsIn w fa x) (hz : ShortF x) (hl : x.length ≤ 1000) :
    Calls Tryz.prog 148 #[.int .i64 z, .slice fa x.length fc] w fun e w' => e = .returned (.bool (hostB x z)) ∧ Below w.heap.size w w' := by
  have HD := Box.mk (show hostB x z = decide ((valuesL x hostN).length = 1 ∨ ((valuesL x hostN).length = 0 ∧ ¬ z = 1)) from rfl)
  have HN := Box.mk (fValues_any x hostU fa fc w h hz (by decide) (by omega))
  rw [values_host] at HN
  generalize hostB x z = r at *
  go_enter Tryz.func148, Tryz.ntmps148
  go_wp2_with fail
  refine HN.out.mono ?_
  rintro e w1 ⟨va, vc, rfl, _, hb1⟩
  have HB1 := Box.mk hb1
  clear HN h hz hb1
  generalize (valuesL x hostN).length = nv at *
  by_cases h1 : nv = 1
  · have e1 : ((nv : Int) == 1) = true := by rw [h1]; rfl
    have HP := Box.mk (show r = true by rw [HD.out]; exact decide_eq_true (.inl h1))
    clear HD h1
    go_wp2_with fail
    go_ret
    rw [HP.out]
    exact ⟨rfl, HB1.out⟩
  · have e1 : ((nv : Int) == 1) = false := by rw [beq_eq_false_iff_ne]; omega
    by_cases h0 : nv = 0
    · have e0 : ((nv : Int) == 0) = true := by rw [h0]; rfl
      have HP := Box.mk (show r = (z != 1) by
        rw [HD.out, Bool.eq_iff_iff, decide_eq_true_iff, bne_iff_ne]
        constructor
        · intro h; exact h.elim (fun h => absurd h h1) (fun h => h.2)
        · intro h; exact .inr ⟨h0, h⟩)
      clear HD h1 h0
      go_wp2_with fail
      go_ret
      rw [HP.out]
      exact ⟨rfl, HB1.out⟩
    · have e0 : ((nv : Int) == 0) = false := by rw [beq_eq_false_iff_ne]; omega
      have HP := Box.mk (show r = false by rw [HD.out]; exact decide_eq_false (fun h => h.elim h1 (fun h => h0 h.1)))
      clear HD h1 h0
      go_wp2_with fail
      go_ret
      rw [HP.out]
      exact ⟨rfl, HB1.out⟩
end Go.Proofs.YteoadfckcilalaaGreatDoor
namespace Go.Proofs.YteoadfckcilalaaGreatDoor
open Go.RowKit

set_option maxRecDepth 100000 in
set_option maxHeartbeats 4000000 in
theorem projFieldsH_any (l : List ByteArray) (a : Option Addr) (c : Nat) (w : World) (h : StrsAt w a l) (hz : ∀ s ∈ l, s.size ≤ maxLen) (hl : l.length ≤ 4000000) :
    Calls Tryz.prog 169 #[.slice a l.length c] w fun e w' => ∃ x fa fc er, fieldsS l = (er, x) ∧ e = .returned (.tuple #[.slice fa (List.length x) fc, .int .i64 er]) ∧ FldsIn w' fa x ∧ (∀ y, fa = some y → w.heap.size ≤ y.block) ∧ Below w.heap.size w w' := by
  have HS := Box.mk h
  have HZ := Box.mk hz
  have HF1 := Box.mk (fun h => fieldsS_big (l := l) h)
  have HF2 := Box.mk (fun h x hx => fieldsS_some (l := l) (x := x) h hx)
  have HF3 := Box.mk (fun h hx => fieldsS_none (l := l) h hx)
  generalize fieldsS l = R at *
  clear h hz
  by_cases h64 : 64 < l.length
  · have HP := Box.mk (HF1.out h64)
    clear HF1 HF2 HF3
    go_enter Tryz.func169, Tryz.ntmps169
    go_wp2_with fail
    go_ret2
    exact ⟨[], none, 0, 3, HP.out, rfl, FldsIn.nil _ _, (fun _ e => by cases e), Below.refl _ _⟩
  · have HF4 := Box.mk h64
    clear HF1
    go_enter Tryz.func169, Tryz.ntmps169
    go_wp2_with fail
    go_loopw [4, 14] (fun v iv wr => ∃ k : Nat, k ≤ l.length ∧ iv = .int .i64 k ∧ ∃ x : List Fld, Box (AccF w wr v x ∧ x.length ≤ k ∧ fieldsGo (l.take k) = some x)) (fun _ iv _ => l.length - (intOf iv).toNat)
    case atStart => exact ⟨0, Nat.zero_le _, rfl, [], ⟨AccF.start _, Nat.le_refl _, rfl⟩⟩
    case round =>
      obtain ⟨k, hk, rfl, x, HM⟩ := hrel
      by_cases hlt : k < l.length
      · obtain ⟨b, off, rfl, hcell⟩ := (HS.out.keep HM.out.1.2) k hlt
        have HSZ := Box.mk (HZ.out _ (List.getElem_mem hlt))
        have HST := Box.mk (fieldsGo_stop hlt rfl HM.out.2.2)
        generalize l[k] = s at *
        go_wp2_with fail
        refine (fParse_any s _ HSZ.out).mono ?_
        rintro e w2 ⟨he, hb2⟩
        have HA2 := Box.mk (HM.out.1.keep hb2)
        have HXL := Box.mk HM.out.2.1
        clear hb2 hcell
        rcases hq : parseF s with _ | ⟨fn, fv⟩
        · rw [hq] at he
          simp only [parseV] at he
          subst he
          have HP := Box.mk (show R = (2, []) by
            have h9 := HST.out
            rw [hq] at h9
            have h10 := fieldsGo_none _ (l.drop (k + 1)) h9
            rw [List.take_append_drop] at h10
            exact HF3.out HF4.out h10)
          clear hq HST HF2 HF3
          go_wp2_with fail
          go_ret2
          exact ⟨[], none, 0, 2, HP.out, rfl, FldsIn.nil _ _, (fun _ e => by cases e), below_trans HA2.out.2 (below_oneF _ _)⟩
        · rw [hq] at he
          simp only [parseV] at he
          subst he
          have HN := Box.mk (show fieldsGo (l.take (k + 1)) = some (x ++ [(fn, fv)]) by rw [HST.out, hq]; rfl)
          clear hq HST
          go_wp2_with (at_builtin; refine wpList_append_accf _ rfl _ _ rfl rfl (HA2.out.keep (below_twoF (below_oneF w2 _) _)) rfl (y := (fn, fv)) ?c1 ?c2 ?c3 ?c4)
          case c3 => have := HXL.out; omega
          case c4 =>
            intro g cap w3 hacc
            obtain ⟨x2, hx2⟩ : ∃ x2, x2 = x ++ [(fn, fv)] := ⟨_, rfl⟩
            rw [← hx2] at hacc HN
            have HX2 := Box.mk (show x2.length = x.length + 1 by rw [hx2]; simp)
            have HACC := Box.mk hacc
            clear hacc hx2
            go_wp2_with fail
            go_roundw
            case rel => exact ⟨k + 1, by omega, by go_num, x2, ⟨HACC.out, by rw [HX2.out]; have := HXL.out; omega, HN.out⟩⟩
            case measure => simp [intOf]; omega
      · have HP := Box.mk (show R = (0, x) by
          have h9 := HM.out.2.2
          rw [List.take_of_length_le (by omega)] at h9
          exact HF2.out HF4.out x h9)
        obtain ⟨fa, fc, rfl, hfs⟩ := HM.out.1.shape
        have HFS := Box.mk hfs
        clear hfs
        go_wp2_with fail
        go_ret2
        exact ⟨x, fa, fc, 0, HP.out, rfl, HFS.out, HM.out.1.fresh, HM.out.1.2⟩
theorem isBytes_takeH {w : World} {a : Option Addr} {l : List UInt8} {c : Nat} (h : IsBytes w a l c) (k : Nat) : IsBytes w a (l.take k) c := by
  rcases h with ⟨h1, rfl, h3⟩ | ⟨x, h1, h2, h3, h4⟩
  · exact .inl ⟨h1, by simp, h3⟩
  · refine .inr ⟨x, h1, by rw [List.length_take]; omega, h3, fun j hj => ?_⟩
    rw [List.getElem_take]; exact h4 j (by rw [List.length_take] at hj; omega)
theorem row_bytesH {w : World} {g : Nat} {l : List UInt8} {t : TypeId} {fr : Nat × Nat} (h : w.heap[g]? = some (.cells (bytesV l).toArray t fr)) (hl : l.length ≤ maxLen) : IsBytes w (some ⟨g, 0, none⟩) l l.length := by
  refine .inr ⟨_, rfl, Nat.le_refl _, hl, fun j hj => ?_⟩
  rw [Addr.add_lit, Nat.zero_add, cell_of_row _ _ _ _ _ _ h]
  simp [bytesV, hj]
set_option maxRecDepth 100000 in
set_option maxHeartbeats 4000000 in
theorem projEnd_any (b : List UInt8) (a : Option Addr) (c : Nat) (most mm : Int) (w : World) (h : IsBytes w a b c) (hl : b.length ≤ 3000000) (hm : HdOk w mm) :
    Calls Tryz.prog 80 #[.slice a b.length c, .int .i64 most] w fun e w' => e = .returned (.tuple #[.int .i64 (endS b most).1, .int .i64 (endS b most).2]) ∧ Below w.heap.size w w' := by
  have kc := fun (w : World) (C : Array Value) (n c : Nat) => Lib.run_convert_bytes_const (P := Tryz.prog) w 23 5 C n c Tryz.underlying23 Tryz.underlying5
  have HS := Box.mk (show endS b most = if 0 ≤ endZ b ∧ endZ b ≤ most then (endZ b, 0) else if most ≤ b.length then (0, 3) else (0, 4) from rfl)
  have HR := Box.mk (endGo_range b 0)
  obtain ⟨q, hq⟩ : ∃ q : Nat, max 0 (min most (b.length : Int)) = (q : Int) := ⟨(max 0 (min most (b.length : Int))).toNat, by omega⟩
  have HQ := Box.mk hq
  have hqb : q ≤ b.length := by omega
  have HI := Box.mk (index_endZ b q)
  obtain ⟨W1, hW1⟩ : ∃ W1, W1 = w.alloc (.cells #[.int .u8 13, .int .u8 10, .int .u8 13, .int .u8 10] 5 (4, 5)) := ⟨_, rfl⟩
  have HB1 := Box.mk (show Below w.heap.size w W1 by rw [hW1]; exact below_oneF w _)
  have HP := Box.mk (show IsBytes W1 (some ⟨w.heap.size, 0, none⟩) crlf2 4 by rw [hW1]; exact row_bytesH (heap_alloc_new w (.cells (bytesV crlf2).toArray 5 (4, 5))) (by decide))
  have HM := Box.mk (hm.keep HB1.out)
  have HIX := Box.mk (fun ad ca (h2 : IsBytes W1 ad (b.take q) ca) => idxR_any (b.take q) crlf2 ad ⟨w.heap.size, 0, none⟩ ca 4 mm W1 h2 HP.out (by decide) (by rw [List.length_take]; omega) HM.out)
  rw [List.length_take, Nat.min_eq_left hqb] at HIX
  have HW1 := Box.mk hW1
  have HBY := Box.mk h
  obtain ⟨n, hn⟩ : ∃ n, endS b most = n := ⟨_, rfl⟩
  have HZ2 := Box.mk (show endZ b = -1 ∨ 4 ≤ endZ b by
    rcases HR.out with h | ⟨k, h1, h2, _⟩
    · exact .inl h
    · right; show 4 ≤ endGo 0 b; rw [h1]; omega)
  have HZ3 := Box.mk (show endZ b ≤ b.length by
    rcases HR.out with h | ⟨k, h1, _, h2⟩
    · show endGo 0 b ≤ _; rw [h]; omega
    · show endGo 0 b ≤ _; rw [h1]; omega)
  rw [hn] at HS ⊢
  generalize endZ b = z at *
  have hqc : (q : Int) ≤ (c : Int) := by have := isBytes_cap h; omega
  clear hn HR h hm hW1 HM
  go_enter Tryz.func80, Tryz.ntmps80
  go_wp2_with fail
  rw [← HW1.out]
  refine (HIX.out a c ((isBytes_takeH HBY.out q).keep HB1.out)).mono ?_
  rintro e w2 ⟨rfl, hb2⟩
  have HB2 := Box.mk (below_trans HB1.out hb2)
  rw [HI.out]
  clear hb2 HIX HP HW1 HB1 kc
  by_cases h1 : 0 ≤ z ∧ z ≤ (q : Int)
  · rw [if_pos h1]
    have hz4 : 4 ≤ z := by have := HZ2.out; omega
    obtain ⟨r, hr⟩ : ∃ r, r = z - 4 := ⟨_, rfl⟩
    have h0 : 0 ≤ r := by omega
    have hadd : IntKind.i64.wrap (r + 4) = z := by
      rw [show r + 4 = z by omega]
      exact IntWalk.i64_in _ ⟨by omega, by have := HZ3.out; omega⟩
    have HN := Box.mk (show n = (z, 0) by
      rw [HS.out, if_pos ⟨h1.1, by have := HQ.out; omega⟩])
    rw [← hr]
    clear hr h1 HI HS
    go_wp2_with fail
    go_ret2
    rw [HN.out]
    exact ⟨rfl, HB2.out⟩
  · rw [if_neg h1]
    have h3 : ¬ (0 ≤ z ∧ z ≤ most) := fun h => h1 ⟨h.1, by have := HQ.out; have := HZ3.out; omega⟩
    by_cases h4 : most ≤ b.length
    · have HN := Box.mk (show n = (0, 3) by rw [HS.out, if_neg h3, if_pos h4])
      clear h3 h1 HI HS
      go_wp2_with fail
      go_ret2
      rw [HN.out]
      exact ⟨rfl, HB2.out⟩
    · have HN := Box.mk (show n = (0, 4) by rw [HS.out, if_neg h3, if_neg h4])
      clear h3 h1 HI HS
      go_wp2_with fail
      go_ret2
      rw [HN.out]
      exact ⟨rfl, HB2.out⟩
end Go.Proofs.YteoadfckcilalaaGreatDoor
namespace Go.Proofs.YteoadfckcilalaaGreatDoor
open Go.RowKit

theorem splitB_small (sep : ByteArray) (save : Nat) (k : Nat) : ∀ (s : ByteArray), ∀ x ∈ Lib.splitB sep save k s, x.size ≤ s.size := by
  induction k with
  | zero => intro s x hx; unfold Lib.splitB at hx; obtain rfl := List.mem_singleton.1 hx; exact Nat.le_refl _
  | succ k ih =>
    intro s x hx
    unfold Lib.splitB at hx
    split at hx
    · obtain rfl := List.mem_singleton.1 hx; exact Nat.le_refl _
    · rcases List.mem_cons.1 hx with rfl | h
      · rw [ByteArray.size_extract]; omega
      · have := ih _ x h
        rw [ByteArray.size_extract] at this
        omega
theorem splitB_head (sep : ByteArray) (save : Nat) (s : ByteArray) (k k' : Nat) : ∃ x r r', Lib.splitB sep save (k + 1) s = x :: r ∧ Lib.splitB sep save (k' + 1) s = x :: r' := by
  unfold Lib.splitB
  split
  · exact ⟨_, _, _, rfl, rfl⟩
  · exact ⟨_, _, _, rfl, rfl⟩
/-- The lines of a whole head, and the pieces that SplitN makes. -/
theorem linesS_pieces {b t : List UInt8} (hb : b = t ++ crlf2) (he : endZ b = b.length) (hw : (linesGo [] b).isSome = true) :
    ∃ l0 ls ls', linesS b = some (l0 :: ls) ∧ piecesS ⟨t.toArray⟩ = l0 :: ls' ∧ fieldsS ls' = fieldsS ls ∧ l0.size ≤ b.length ∧ (∀ s ∈ ls', s.size ≤ b.length) ∧ ls'.length ≤ 65 := by
  obtain ⟨L, hL⟩ := Option.isSome_iff_exists.1 hw
  have h4 : 4 ≤ b.length := by rw [hb, List.length_append]; show 4 ≤ t.length + 4; omega
  have hls : linesS b = some L.dropLast := by unfold linesS; rw [if_pos ⟨he, h4⟩, hL]; rfl
  rw [hb] at hL
  have hsp := lines_spl t [] L hL
  have hz : 1 ≤ crlfH.size := by decide
  have hts : (⟨t.toArray⟩ : ByteArray).size = t.length := rfl
  have hle := Lib.countB_le crlfH hz t.length ⟨t.toArray⟩ (Nat.le_refl _)
  have hall := spl_split t [] (Lib.countB ⟨t.toArray⟩ crlfH) NoEnd.nil (by rw [List.nil_append]; exact Nat.le_refl _)
  rw [List.nil_append] at hall
  have hsm : ∀ s ∈ piecesS ⟨t.toArray⟩, s.size ≤ b.length := fun s hs => by
    have := splitB_small _ _ _ _ s hs
    rw [hts] at this
    rw [hb, List.length_append]; omega
  have hpl := Lib.splitB_length_le crlfH 0 (min 66 ((⟨t.toArray⟩ : ByteArray).size + 1) - 1) ⟨t.toArray⟩
  rw [hsp, List.dropLast_concat, ← hall] at hls
  by_cases hc : Lib.countB ⟨t.toArray⟩ crlfH ≤ min 66 ((⟨t.toArray⟩ : ByteArray).size + 1) - 1
  · have e : piecesS ⟨t.toArray⟩ = Lib.splitB crlfH 0 (Lib.countB ⟨t.toArray⟩ crlfH) ⟨t.toArray⟩ := splitB_lim _ hz _ _ _ hc
    rw [← e] at hls
    cases hp : piecesS ⟨t.toArray⟩ with
    | nil => have := piecesS_pos ⟨t.toArray⟩; rw [hp] at this; exact absurd this (by simp)
    | cons l0 ls =>
      rw [hp] at hls hsm
      refine ⟨l0, ls, ls, hls, rfl, rfl, hsm l0 (List.mem_cons_self ..), fun s hs => hsm s (List.mem_cons_of_mem _ hs), ?_⟩
      have e2 : (piecesS ⟨t.toArray⟩).length ≤ min 66 ((⟨t.toArray⟩ : ByteArray).size + 1) - 1 + 1 := hpl
      rw [hp, List.length_cons] at e2
      omega
  · have hm : min 66 ((⟨t.toArray⟩ : ByteArray).size + 1) - 1 = 65 := by rw [hts] at hc ⊢; omega
    rw [hm] at hc
    have hk : Lib.countB ⟨t.toArray⟩ crlfH = (Lib.countB ⟨t.toArray⟩ crlfH - 1) + 1 := by omega
    obtain ⟨x, r, r', h1, h2⟩ := splitB_head crlfH 0 ⟨t.toArray⟩ (Lib.countB ⟨t.toArray⟩ crlfH - 1) 64
    rw [← hk] at h1
    have hp : piecesS ⟨t.toArray⟩ = x :: r' := by unfold piecesS; rw [hm]; exact h2
    have hl1 := splitB_more crlfH hz 0 65 ⟨t.toArray⟩ (by omega)
    have hl2 := splitB_more crlfH hz 0 (Lib.countB ⟨t.toArray⟩ crlfH) ⟨t.toArray⟩ (Nat.le_refl _)
    rw [h2, List.length_cons] at hl1
    rw [h1, List.length_cons] at hl2
    rw [h1] at hls
    rw [hp] at hsm
    exact ⟨x, r, r', hls, hp, by rw [fieldsS_big (by omega), fieldsS_big (by omega)], hsm x (List.mem_cons_self ..), fun s hs => hsm s (List.mem_cons_of_mem _ hs), by omega⟩
theorem head_cut {b : List UInt8} (he : endZ b = b.length) : ∃ t, b = t ++ crlf2 ∧ 4 ≤ b.length := by
  obtain ⟨h1, h2⟩ := end_suffix b 0 (by rw [Nat.zero_add]; exact he)
  exact ⟨b.take (b.length - 4), by rw [← h2, List.take_append_drop], h1⟩
theorem trim_crlf2 (t : List UInt8) : Lib.trimSuffix (t ++ crlf2) crlf2 = t := by
  unfold Lib.trimSuffix
  rw [if_pos (by unfold Lib.hasSuffix; simp)]
  rw [List.length_append, Nat.add_sub_cancel, List.take_left']
  rfl
/-- All but block p is as it was. -/
structure ButH (p : Nat) (W wr : World) : Prop where
  os : wr.os = W.os
  tape : wr.tape = W.tape
  output : wr.output = W.output
  size : W.heap.size ≤ wr.heap.size
  block : ∀ k, k < W.heap.size → k ≠ p → wr.heap[k]? = W.heap[k]?
theorem ButH.of {p : Nat} {W wr : World} (h : Below W.heap.size W wr) : ButH p W wr := ⟨h.os, h.tape, h.output, h.size, fun k hk _ => h.block k hk⟩
theorem ButH.trans {p : Nat} {a b c : World} (h : ButH p a b) (h2 : ButH p b c) : ButH p a c :=
  ⟨h2.os.trans h.os, h2.tape.trans h.tape, h2.output.trans h.output, Nat.le_trans h.size h2.size, fun k hk hp => (h2.block k (Nat.lt_of_lt_of_le hk h.size) hp).trans (h.block k hk hp)⟩
theorem ButH.setRow {p : Nat} {W wr : World} (h : ButH p W wr) (cs : Array Value) : ButH p W (wr.setRow p cs) :=
  h.trans ⟨rfl, rfl, rfl, by simp [World.setRow], fun k _ hp => setRow_other _ _ _ _ hp⟩
theorem ButH.below {p K : Nat} {W wr : World} (h : ButH p W wr) (hK : K ≤ p) (hK2 : K ≤ W.heap.size) : Below K W wr := ⟨h.os, h.tape, h.output, h.size, fun k hk => h.block k (by omega) (by omega)⟩
theorem ButH.strs {p g o : Nat} {W wr : World} {l : List ByteArray} (h : ButH p W wr) (hs : StrsAt W (some ⟨g, o, none⟩) l) (hg : g < W.heap.size) (hp : g ≠ p) : StrsAt wr (some ⟨g, o, none⟩) l := fun j hj => by
  obtain ⟨b, off, e, hc⟩ := hs j hj
  refine ⟨b, off, e, ?_⟩
  cases e
  unfold World.cell? at *
  rw [show wr.heap[g]? = W.heap[g]? from h.block g hg hp]
  exact hc
theorem ButH.ok {p : Nat} {W wr : World} {mm : Int} (h : ButH p W wr) (hm : HdOk W mm) (hp : 1 ≠ p) : HdOk wr mm := by
  have hlt : 1 < W.heap.size := by
    unfold HdOk World.cell? at hm
    by_cases hh : 1 < W.heap.size
    · exact hh
    · rw [show W.heap[1]? = none from Array.getElem?_eq_none (by omega)] at hm
      cases hm
  unfold HdOk World.cell? at *
  rw [show wr.heap[1]? = W.heap[1]? from h.block _ hlt hp]
  exact hm
/-- A variable of head's own type of requests. -/
def QVarP (w : World) (g : Nat) (m t : ByteArray) (z : Int) (v : Value) : Prop := w.heap[g]? = some (.cells #[.string m, .string t, .int .i64 z, v, .bool false, .slice none 0 0] 172 (0, 0))
theorem QVarP.keep {w w' : World} {g : Nat} {m t : ByteArray} {z : Int} {v : Value} (h : QVarP w g m t z v) (hb : Below w.heap.size w w') : QVarP w' g m t z v := by
  unfold QVarP at *
  rw [hb.block g (Array.getElem?_eq_some_iff.1 h).1]; exact h
theorem sizeRP : (Tryz.prog.info? 172).map (·.size) = some 6 := by kernel_rfl
/-- What start leaves: error, method, target, minor version. -/
def startR (s : ByteArray) : Int × ByteArray × ByteArray × Int :=
  match lineR (splitS 32 s) with
  | (some f, _) => (0, f.1, f.2.1, f.2.2)
  | (none, e) => (e, ⟨#[]⟩, ⟨#[]⟩, 0)
set_option maxRecDepth 100000 in
set_option maxHeartbeats 4000000 in
theorem startReq_any (s : ByteArray) (g : Nat) (mm : Int) (w : World) (hs : s.size ≤ 4000000) (hm : HdOk w mm) (hq : QVarP w g ⟨#[]⟩ ⟨#[]⟩ 0 (.slice none 0 0)) :
    Calls Tryz.prog 147 #[.pointer (some ⟨g, 0, none⟩), .string s] w fun e w' => e = .returned (.int .i64 (startR s).1) ∧ QVarP w' g (startR s).2.1 (startR s).2.2.1 (startR s).2.2.2 (.slice none 0 0) ∧ ButH g w w' := by
  have HQ := Box.mk hq
  have HC := Box.mk (projParseReq_any s w mm (by omega) hm)
  have HD := Box.mk (show startR s = match lineR (splitS 32 s) with
    | (some f, _) => (0, f.1, f.2.1, f.2.2)
    | (none, e) => (e, ⟨#[]⟩, ⟨#[]⟩, 0) from rfl)
  generalize startR s = R at *
  generalize lineR (splitS 32 s) = o at *
  clear hq hm
  have hg : g < w.heap.size := (Array.getElem?_eq_some_iff.1 HQ.out).1
  go_enter Tryz.func147, Tryz.ntmps147
  go_wp2_with fail
  refine HC.out.mono ?_
  rintro e w1 ⟨he, hb1⟩
  have HB1 := Box.mk (ButH.of (p := g) hb1)
  have HQ1 := Box.mk (HQ.out.keep hb1)
  clear hb1 HC HQ
  obtain ⟨o1, er⟩ := o
  rcases o1 with _ | ⟨m, t, z⟩
  · simp only [reqV] at he
    subst he
    have HP := Box.mk (show R = (er, ⟨#[]⟩, ⟨#[]⟩, 0) from HD.out)
    clear HD
    have hb2 := below_oneF w1 (.cells #[.string ⟨#[]⟩, .string ⟨#[]⟩, .int .i64 0, .slice none 0 0, .bool false, .slice none 0 0] 29)
    have HQ2 := Box.mk (HQ1.out.keep hb2)
    have HB2 := Box.mk (HB1.out.trans (ButH.of hb2))
    clear hb2
    go_wp2_with (refine wpList_store_row rfl 172 _ _ rfl g #[.string ⟨#[]⟩, .string ⟨#[]⟩, .int .i64 0, .slice none 0 0, .bool false, .slice none 0 0] rfl rfl 172 _ HQ2.out sizeRP rfl (oneQH _ _ _ _ _ _) ?_)
    go_ret
    rw [HP.out]
    exact ⟨rfl, setRow_heap _ _ _ _ _ _ HQ2.out, HB2.out.setRow _⟩
  · simp only [reqV] at he
    subst he
    have HP := Box.mk (show R = (0, m, t, z) from HD.out)
    clear HD
    have hb2 := below_oneF w1 (.cells #[.string m, .string t, .int .i64 z, .slice none 0 0, .bool false, .slice none 0 0] 29)
    have HQ2 := Box.mk (HQ1.out.keep hb2)
    have HB2 := Box.mk (HB1.out.trans (ButH.of hb2))
    clear hb2
    go_wp2_with (refine wpList_store_row rfl 172 _ _ rfl g #[.string m, .string t, .int .i64 z, .slice none 0 0, .bool false, .slice none 0 0] rfl rfl 172 _ HQ2.out sizeRP rfl (oneQH _ _ _ _ _ _) ?_)
    go_ret
    rw [HP.out]
    exact ⟨rfl, setRow_heap _ _ _ _ _ _ HQ2.out, HB2.out.setRow _⟩
end Go.Proofs.YteoadfckcilalaaGreatDoor
namespace Go.Proofs.YteoadfckcilalaaGreatDoor
open Go.RowKit

/-- What parse leaves: error, method, target, minor version, fields. -/
def headP (b : List UInt8) : Int × ByteArray × ByteArray × Int × List Fld :=
  match linesS b with
  | some (l0 :: ls) => if (startR l0).1 = 0 then ((fieldsS ls).1, (startR l0).2.1, (startR l0).2.2.1, (startR l0).2.2.2, (fieldsS ls).2) else ((startR l0).1, (startR l0).2.1, (startR l0).2.2.1, (startR l0).2.2.2, [])
  | _ => (2, ⟨#[]⟩, ⟨#[]⟩, 0, [])
def RetParseP (w : World) (g : Nat) (r : Int × ByteArray × ByteArray × Int × List Fld) (e : Ending) (w' : World) : Prop :=
  ∃ fa fc, e = .returned (.tuple #[.slice fa r.2.2.2.2.length fc, .int .i64 r.1]) ∧ QVarP w' g r.2.1 r.2.2.1 r.2.2.2.1 (.slice none 0 0) ∧ FldsIn w' fa r.2.2.2.2 ∧ (∀ y, fa = some y → w.heap.size ≤ y.block) ∧ ButH g w w' ∧ ShortF r.2.2.2.2 ∧ r.2.2.2.2.length ≤ 64
theorem end_not {b : List UInt8} (h : ¬ endZ b = b.length) : ¬ ((endS b b.length).2 = 0 ∧ (endS b b.length).1 = b.length) := by
  rintro ⟨h1, h2⟩
  unfold endS at h1 h2
  split at h1
  · rename_i h3; rw [if_pos h3] at h2; exact h h2
  · rename_i h3
    split at h1
    · exact absurd h1 (by decide)
    · exact absurd h1 (by decide)
theorem end_yes {b : List UInt8} (h : endZ b = b.length) : endS b b.length = ((b.length : Int), 0) := by
  unfold endS; rw [if_pos ⟨by omega, by omega⟩, h]
set_option maxRecDepth 100000 in
set_option maxHeartbeats 4000000 in
theorem projParseP_any (b : List UInt8) (a : Option Addr) (c g : Nat) (mm : Int) (w : World) (h : IsBytes w a b c) (hl : b.length ≤ 3000000) (hm : HdOk w mm) (hgm : 1 ≠ g) (hq : QVarP w g ⟨#[]⟩ ⟨#[]⟩ 0 (.slice none 0 0)) :
    Calls Tryz.prog 146 #[.slice a b.length c, .func (.func 147) #[.pointer (some ⟨g, 0, none⟩)] #[]] w (RetParseP w g (headP b)) := by
  have HQ := Box.mk hq
  have HM := Box.mk hm
  have HBY := Box.mk h
  have hg : g < w.heap.size := (Array.getElem?_eq_some_iff.1 hq).1
  have HD := Box.mk (show headP b = match linesS b with
    | some (l0 :: ls) => if (startR l0).1 = 0 then ((fieldsS ls).1, (startR l0).2.1, (startR l0).2.2.1, (startR l0).2.2.2, (fieldsS ls).2) else ((startR l0).1, (startR l0).2.1, (startR l0).2.2.1, (startR l0).2.2.2, [])
    | _ => (2, ⟨#[]⟩, ⟨#[]⟩, 0, []) from rfl)
  have HEND := Box.mk (projEnd_any b a c b.length mm w h hl hm)
  have HGM := Box.mk hgm
  generalize headP b = R at *
  clear h hm hq hgm
  by_cases he : endZ b = b.length
  · obtain ⟨t, ht, h4⟩ := head_cut he
    rw [end_yes he] at HEND
    have HE := Box.mk he
    have HT := Box.mk ht
    clear he ht
    go_enter Tryz.func146, Tryz.ntmps146
    go_wp2_with fail
    refine HEND.out.mono ?_
    rintro e w1 ⟨rfl, hb1⟩
    have HB1 := Box.mk hb1
    have HBY1 := Box.mk (HBY.out.keep hb1)
    have HM1 := Box.mk (HM.out.keep hb1)
    have HQ1 := Box.mk (HQ.out.keep hb1)
    have HN1 := Box.mk (ButH.of (p := g) hb1)
    have hg1 : g < w1.heap.size := (Array.getElem?_eq_some_iff.1 HQ1.out).1
    have hcv := conv_bytes HBY1.out
    clear hb1 HEND HBY HM HQ
    go_wp2_with fail
    refine (projWhole_any b mm w1 (by omega) HM1.out).mono ?_
    rintro e w2 ⟨rfl, rfl⟩
    by_cases hw : (linesGo [] b).isSome = true
    · obtain ⟨l0, ls, ls', hls, hps, hfs, hz0, hzl, hln⟩ := linesS_pieces HT.out HE.out hw
      rw [hw]
      have HR := Box.mk (show R = if (startR l0).1 = 0 then ((fieldsS ls').1, (startR l0).2.1, (startR l0).2.2.1, (startR l0).2.2.2, (fieldsS ls').2) else ((startR l0).1, (startR l0).2.1, (startR l0).2.2.1, (startR l0).2.2.2, []) by rw [HD.out, hls, hfs])
      have htz : t.length ≤ 3000000 := by have := HT.out; rw [this, List.length_append] at hl; omega
      have HSUF := Box.mk (show Calls Tryz.prog 168 #[.string ⟨b.toArray⟩, .string ⟨#[13, 10, 13, 10]⟩] w1 fun e w' => e = .returned (.string ⟨t.toArray⟩) ∧ w1 = w' by
        have h := suffixR_any ⟨b.toArray⟩ ⟨#[13, 10, 13, 10]⟩ w1 (by show b.length ≤ _; omega)
        have e : (⟨(Lib.trimSuffix (⟨b.toArray⟩ : ByteArray).data.toList (⟨#[13, 10, 13, 10]⟩ : ByteArray).data.toList).toArray⟩ : ByteArray) = ⟨t.toArray⟩ := by
          show (⟨(Lib.trimSuffix b crlf2).toArray⟩ : ByteArray) = _
          rw [HT.out, trim_crlf2]
        rw [e] at h
        exact h)
      have HSPL := Box.mk (splitL_any ⟨t.toArray⟩ w1 mm (by show t.length < _; omega) HM1.out)
      rw [hps] at HSPL
      have HZ0 := Box.mk hz0
      have HZL := Box.mk (show ∀ s ∈ ls', s.size ≤ maxLen from fun s hs => Nat.le_trans (hzl s hs) (by unfold maxLen; omega))
      clear hw hls hps hfs hzl HD HE HT hz0
      go_wp2_with fail
      refine HSUF.out.mono ?_
      rintro e w2 ⟨rfl, rfl⟩
      clear HSUF
      go_wp2_with fail
      refine HSPL.out.mono ?_
      rintro e w2 ⟨cap, rfl, hlc, hcap, hst, hb2⟩
      rw [List.length_cons] at hlc
      have HST := Box.mk hst
      have HB2 := Box.mk (below_trans HB1.out hb2)
      have HM2 := Box.mk (HM1.out.keep hb2)
      have HQ2 := Box.mk (HQ1.out.keep hb2)
      have HN2 := Box.mk (HN1.out.trans (ButH.of hb2))
      have hc0 := hst.head
      have hlt2 : w1.heap.size < w2.heap.size := by
        by_cases hh : w1.heap.size < w2.heap.size
        · exact hh
        · have h := hc0
          unfold World.cell? at h
          rw [show w2.heap[w1.heap.size]? = none from Array.getElem?_eq_none (by omega)] at h
          cases h
      have hG1 : w.heap.size ≤ w1.heap.size := HB1.out.size
      have HSTA := Box.mk (startReq_any l0 g mm w2 (by have := HZ0.out; omega) HM2.out HQ2.out)
      clear hst hb2 HSPL HM1 HQ1 HN1 HBY1 hcv
      generalize startR l0 = S at *
      obtain ⟨er, m, tt, z⟩ := S
      go_wp2_with fail
      refine HSTA.out.mono ?_
      rintro e w3 ⟨rfl, hq3, hn3⟩
      have HQ3 := Box.mk hq3
      have HN3 := Box.mk (HN2.out.trans hn3)
      have HST3 := Box.mk ((hn3.strs HST.out hlt2 (by omega)).tail)
      have hs3 : w2.heap.size ≤ w3.heap.size := hn3.size
      clear hq3 hn3 HST HSTA HQ2 HN2 HM2 hc0
      by_cases h0 : er = 0
      · subst h0
        have HR2 := Box.mk (show R = ((fieldsS ls').1, m, tt, z, (fieldsS ls').2) by rw [HR.out, if_pos rfl])
        clear HR
        by_cases hc1 : cap = 1
        · subst hc1
          obtain rfl : ls' = [] := List.eq_nil_of_length_eq_zero (by omega)
          go_wp2_with fail
          refine (projFieldsH_any [] (some ⟨w1.heap.size, 0, none⟩) 0 w3 (StrsAt.nil _ _) HZL.out (by simp)).mono ?_
          rintro e w4 ⟨x, fa, fc, er, hx, rfl, hfx, hfr, hb4⟩
          obtain ⟨hs1, hs2, _⟩ := fieldsS_small hx HZL.out
          have HR3 := Box.mk (show R = (er, m, tt, z, x) by rw [HR2.out, hx])
          have HFX := Box.mk hfx
          have HQ4 := Box.mk (HQ3.out.keep hb4)
          have HN4 := Box.mk (HN3.out.trans (ButH.of hb4))
          have HFR := Box.mk (show ∀ y, fa = some y → w.heap.size ≤ y.block from fun y hy => by have := hfr y hy; omega)
          have HS1 := Box.mk hs1
          clear hx hfx hfr hb4 HR2 HST3 HQ3 HN3 hs1
          go_wp2_with fail
          go_ret2
          rw [HR3.out]
          exact ⟨fa, fc, rfl, HQ4.out, HFX.out, HFR.out, HN4.out, HS1.out, hs2⟩
        · have hlc2 : 1 ≤ cap := by omega
          go_wp2_with fail
          refine (projFieldsH_any ls' (some ⟨w1.heap.size, 1, none⟩) (cap - 1) w3 HST3.out HZL.out (by omega)).mono ?_
          rintro e w4 ⟨x, fa, fc, er, hx, rfl, hfx, hfr, hb4⟩
          obtain ⟨hs1, hs2, _⟩ := fieldsS_small hx HZL.out
          have HR3 := Box.mk (show R = (er, m, tt, z, x) by rw [HR2.out, hx])
          have HFX := Box.mk hfx
          have HQ4 := Box.mk (HQ3.out.keep hb4)
          have HN4 := Box.mk (HN3.out.trans (ButH.of hb4))
          have HFR := Box.mk (show ∀ y, fa = some y → w.heap.size ≤ y.block from fun y hy => by have := hfr y hy; omega)
          have HS1 := Box.mk hs1
          clear hx hfx hfr hb4 HR2 HST3 HQ3 HN3 hs1
          go_wp2_with fail
          go_ret2
          rw [HR3.out]
          exact ⟨fa, fc, rfl, HQ4.out, HFX.out, HFR.out, HN4.out, HS1.out, hs2⟩
      · have e0 : (er != 0) = true := by rw [bne_iff_ne]; exact h0
        have HR2 := Box.mk (show R = (er, m, tt, z, []) by rw [HR.out, if_neg h0])
        clear HR h0
        go_wp2_with fail
        go_ret2
        rw [HR2.out]
        exact ⟨none, 0, rfl, HQ3.out, FldsIn.nil _ _, (fun _ e => by cases e), HN3.out, (fun f hf => by cases hf), Nat.zero_le _⟩
    · have hw0 : (linesGo [] b).isSome = false := by rw [← Bool.not_eq_true]; exact hw
      rw [hw0]
      have HR := Box.mk (show R = (2, ⟨#[]⟩, ⟨#[]⟩, 0, []) by
        rw [HD.out]
        have : linesS b = none := by
          unfold linesS
          cases hh : linesGo [] b with
          | none => split <;> rfl
          | some L => rw [hh] at hw0; cases hw0
        rw [this])
      clear hw hw0 HD HE HT
      go_wp2_with fail
      go_ret2
      rw [HR.out]
      exact ⟨none, 0, rfl, HQ1.out, FldsIn.nil _ _, (fun _ e => by cases e), HN1.out, (fun f hf => by cases hf), Nat.zero_le _⟩
  · have HNE := Box.mk (end_not he)
    have HR := Box.mk (show R = (2, ⟨#[]⟩, ⟨#[]⟩, 0, []) by
      rw [HD.out]
      have : linesS b = none := by unfold linesS; rw [if_neg (fun h => he h.1)]
      rw [this])
    generalize endS b b.length = E at *
    obtain ⟨n, er⟩ := E
    clear he HD
    go_enter Tryz.func146, Tryz.ntmps146
    go_wp2_with fail
    refine HEND.out.mono ?_
    rintro e w1 ⟨rfl, hb1⟩
    have HQ1 := Box.mk (HQ.out.keep hb1)
    have HN1 := Box.mk (ButH.of (p := g) hb1)
    clear hb1 HEND HQ HBY HM
    by_cases h0 : er = 0
    · subst h0
      have en : (n != (b.length : Int)) = true := by rw [bne_iff_ne]; exact fun h => HNE.out ⟨rfl, h⟩
      clear HNE
      go_wp2_with fail
      go_ret2
      rw [HR.out]
      exact ⟨none, 0, rfl, HQ1.out, FldsIn.nil _ _, (fun _ e => by cases e), HN1.out, (fun f hf => by cases hf), Nat.zero_le _⟩
    · have e0 : (er != 0) = true := by rw [bne_iff_ne]; exact h0
      clear HNE h0
      go_wp2_with fail
      go_ret2
      rw [HR.out]
      exact ⟨none, 0, rfl, HQ1.out, FldsIn.nil _ _, (fun _ e => by cases e), HN1.out, (fun f hf => by cases hf), Nat.zero_le _⟩
end Go.Proofs.YteoadfckcilalaaGreatDoor
namespace Go.Proofs.YteoadfckcilalaaGreatDoor
open Go.RowKit

theorem QVarP.cells6 {w : World} {g : Nat} {m t : ByteArray} {z : Int} {v : Value} (h : QVarP w g m t z v) : w.cell? ⟨g, 0, none⟩ = some (.string m) ∧ w.cell? ⟨g, 1, none⟩ = some (.string t) ∧ w.cell? ⟨g, 2, none⟩ = some (.int .i64 z) ∧ w.cell? ⟨g, 3, none⟩ = some v ∧ w.cell? ⟨g, 4, none⟩ = some (.bool false) ∧ w.cell? ⟨g, 5, none⟩ = some (.slice none 0 0) := by
  refine ⟨?_, ?_, ?_, ?_, ?_, ?_⟩ <;> rw [cell_of_row _ _ _ _ _ _ h] <;> rfl
theorem QVarP.put {w : World} {g : Nat} {m t : ByteArray} {z : Int} {v u : Value} (h : QVarP w g m t z v) : QVarP (w.setCell ⟨g, 3, none⟩ u) g m t z u := by
  unfold QVarP; rw [heap_setCell_same _ _ _ _ _ _ h]; rfl
theorem QVarP.frozen {w : World} {g i : Nat} {m t : ByteArray} {z : Int} {v : Value} (h : QVarP w g m t z v) : w.frozen? ⟨g, i, none⟩ = false := by
  unfold QVarP at h; simp [World.frozen?, h]
theorem HdOk.lt {w : World} {mm : Int} (hm : HdOk w mm) : 1 < w.heap.size := by
  unfold HdOk World.cell? at hm
  by_cases hh : 1 < w.heap.size
  · exact hh
  · rw [show w.heap[1]? = none from Array.getElem?_eq_none (by omega)] at hm
    cases hm
theorem headR_P (b : List UInt8) : headR b = if (headP b).1 = 0 then (if hostB (headP b).2.2.2.2 (headP b).2.2.2.1 = true then headP b else (2, ⟨#[]⟩, ⟨#[]⟩, 0, [])) else ((headP b).1, ⟨#[]⟩, ⟨#[]⟩, 0, []) := by
  unfold headR headP
  rcases hls : linesS b with _ | L
  · rfl
  · rcases L with _ | ⟨l0, ls⟩
    · rfl
    · simp only []
      have hne := lineR_ne (splitS 32 l0)
      unfold startR
      generalize lineR (splitS 32 l0) = o at *
      obtain ⟨o1, er⟩ := o
      rcases o1 with _ | f
      · simp only []
        have h0 : ¬ er = 0 := hne rfl
        rw [if_neg h0]
        simp only [h0, if_false]
      · simp only [if_true]
        generalize fieldsS ls = F
        obtain ⟨er2, x⟩ := F
        simp only []
        by_cases h0 : er2 = 0
        · subst h0
          simp only [if_true]
          unfold hostB
          by_cases hh : (valuesL x hostN).length = 1 ∨ ((valuesL x hostN).length = 0 ∧ ¬ f.2.2 = 1)
          · rw [if_neg (by omega), if_pos (decide_eq_true hh)]
          · rw [if_pos (by
              rcases Nat.lt_or_ge 1 (valuesL x hostN).length with h1 | h1
              · exact .inl h1
              · right
                constructor
                · omega
                · exact Classical.byContradiction fun h2 => hh (.inr ⟨by omega, h2⟩)), if_neg (by rw [decide_eq_true_iff]; exact hh)]
        · rw [if_neg h0, if_neg h0]
set_option maxRecDepth 100000 in
set_option maxHeartbeats 4000000 in
theorem projHeadReqF_any (b : List UInt8) (a : Option Addr) (c : Nat) (mm : Int) (w : World) (h : IsBytes w a b c) (hl : b.length ≤ 3000000) (hm : HdOk w mm) :
    Calls Tryz.prog 109 #[.slice a b.length c] w (RetReqF w (headR b)) := by
  obtain ⟨W0, hW0⟩ : ∃ W0, W0 = w.alloc (.cells #[.string ⟨#[]⟩, .string ⟨#[]⟩, .int .i64 0, .slice none 0 0, .bool false, .slice none 0 0] 29) := ⟨_, rfl⟩
  have hs0 : W0.heap.size = w.heap.size + 1 := by rw [hW0]; exact Array.size_push _
  obtain ⟨W1, hW1⟩ : ∃ W1, W1 = W0.alloc (.cells #[.string ⟨#[]⟩, .string ⟨#[]⟩, .int .i64 0, .slice none 0 0, .bool false, .slice none 0 0] 172) := ⟨_, rfl⟩
  have hb0 : Below w.heap.size w W0 := by rw [hW0]; exact below_oneF w _
  have hb1 : Below W0.heap.size W0 W1 := by rw [hW1]; exact below_oneF W0 _
  have HR0 := Box.mk (show QVarH W0 w.heap.size ⟨#[]⟩ ⟨#[]⟩ 0 (.slice none 0 0) by rw [hW0]; exact heap_alloc_new _ _)
  have HR1 := Box.mk (HR0.out.keep hb1)
  have HQ1 := Box.mk (show QVarP W1 W0.heap.size ⟨#[]⟩ ⟨#[]⟩ 0 (.slice none 0 0) by rw [hW1]; exact heap_alloc_new _ _)
  have HB1 := Box.mk (below_trans hb0 hb1)
  have hmlt := hm.lt
  have hs1 : W1.heap.size = w.heap.size + 2 := by rw [hW1]; exact (Array.size_push _).trans (by rw [hs0])
  have HCALL := Box.mk (projParseP_any b a c W0.heap.size mm W1 (h.keep HB1.out) hl (hm.keep HB1.out) (by omega) HQ1.out)
  have HD := Box.mk (headR_P b)
  generalize headR b = R at *
  generalize headP b = S at *
  obtain ⟨er, m, t, z, x⟩ := S
  rw [hs0] at HCALL HQ1
  rw [hW0] at hW1
  have HW1 := Box.mk hW1
  clear h hm hW0 hW1 hb0 hb1 hs0 HR0 HQ1 hmlt
  go_enter Tryz.func109, Tryz.ntmps109
  go_wp2_with fail
  rw [← HW1.out]
  clear HW1
  refine HCALL.out.mono ?_
  rintro e w2 ⟨fa, fc, rfl, hq2, hfx, hfr, hn2, hsf, hx64⟩
  have HQ2 := Box.mk hq2
  have HFX := Box.mk hfx
  have HFR := Box.mk hfr
  have HSF := Box.mk hsf
  have HR2 := Box.mk (show QVarH w2 w.heap.size ⟨#[]⟩ ⟨#[]⟩ 0 (.slice none 0 0) by unfold QVarH; rw [hn2.block _ (by omega) (by omega)]; exact HR1.out)
  have HB2 := Box.mk (HB1.out.trans (hn2.below (K := w.heap.size) (by omega) (by omega)))
  have hs2 : W1.heap.size ≤ w2.heap.size := hn2.size
  clear hq2 hfx hfr hn2 hsf HR1 HB1 HCALL
  by_cases h0 : er = 0
  · subst h0
    have HD1 := Box.mk (show R = if hostB x z = true then (0, m, t, z, x) else (2, ⟨#[]⟩, ⟨#[]⟩, 0, []) from HD.out)
    have hc2 := HQ2.out.cells6.2.2.1
    clear HD
    go_wp2_with fail
    refine (projHosted_any z x fa fc w2 HFX.out HSF.out (by omega)).mono ?_
    rintro e w3 ⟨he, hb3⟩
    have HQ3 := Box.mk (HQ2.out.keep hb3)
    have HR3 := Box.mk (HR2.out.keep hb3)
    have HFX3 := Box.mk (HFX.out.keep hb3)
    have HB3 := Box.mk (below_trans HB2.out hb3)
    clear hb3 HQ2 HR2 HFX HB2 hc2
    by_cases hh : hostB x z = true
    · rw [hh] at he
      subst he
      have HD2 := Box.mk (show R = (0, m, t, z, x) by rw [HD1.out, if_pos hh])
      have hf3 := HQ3.out.frozen (i := 3)
      obtain ⟨k0, k1, k2, k3, k4, k5⟩ := HQ3.out.cells6
      clear HD1 hh
      obtain ⟨W4, hW4⟩ : ∃ W4, W4 = w3.setCell ⟨w.heap.size + 1, 3, none⟩ (.slice fa x.length fc) := ⟨_, rfl⟩
      have HQ4 := Box.mk (show QVarP W4 (w.heap.size + 1) m t z (.slice fa x.length fc) by rw [hW4]; exact HQ3.out.put)
      have HR4 := Box.mk (show QVarH W4 w.heap.size ⟨#[]⟩ ⟨#[]⟩ 0 (.slice none 0 0) by
        unfold QVarH; rw [hW4, heap_setCell_other _ _ _ _ (by show w.heap.size ≠ w.heap.size + 1; omega)]; exact HR3.out)
      have HB4 := Box.mk (show Below w.heap.size w W4 by rw [hW4]; exact HB3.out.setCell (p := ⟨w.heap.size + 1, 3, none⟩) (show w.heap.size ≤ w.heap.size + 1 by omega) (.slice fa x.length fc))
      have HX4 := Box.mk (show FldsIn W4 fa x by
        rw [hW4]; exact HFX3.out.same fun y hy => heap_setCell_other _ _ _ _ (by have := HFR.out y hy; show y.block ≠ w.heap.size + 1; omega))
      subst hW4
      obtain ⟨c0, c1, c2, c3, c4, c5⟩ := HQ4.out.cells6
      clear HQ3 HR3 HFX3 HB3
      go_wp2_with (refine wpList_store_row rfl 29 _ _ rfl w.heap.size #[.string m, .string t, .int .i64 z, .slice fa x.length fc, .bool false, .slice none 0 0] rfl rfl 29 _ HR4.out sizeR rfl (oneQH _ _ _ _ _ _) ?_)
      (try simp only [Exit.inBlock, Exit.then])
      refine bodyPost_ret (results_row_tmpF rfl _ _ w.heap.size _ _ _ _ rfl (setRow_heap _ _ _ _ _ _ HR4.out) Tryz.underlying29 rfl sizeR) rfl ?_
      rw [HD2.out]
      exact ⟨fa, fc, rfl, HX4.out.same fun y hy => setRow_other _ _ _ _ (by have := HFR.out y hy; omega), (fun y hy => by have := HFR.out y hy; omega), below_setRow HB4.out (Nat.le_refl _) _⟩
    · have hh0 : hostB x z = false := by rw [← Bool.not_eq_true]; exact hh
      rw [hh0] at he
      subst he
      have HP := Box.mk (show R = (2, ⟨#[]⟩, ⟨#[]⟩, 0, []) by rw [HD1.out, if_neg hh])
      clear HD1 hh hh0
      go_wp2_with (refine wpList_store_row rfl 29 _ _ rfl w.heap.size #[.string ⟨#[]⟩, .string ⟨#[]⟩, .int .i64 0, .slice none 0 0, .bool false, .slice none 0 0] rfl rfl 29 _ HR3.out sizeR rfl (oneQH _ _ _ _ _ _) ?_)
      (try simp only [Exit.inBlock, Exit.then])
      refine bodyPost_ret (results_row_tmpF rfl _ _ w.heap.size _ _ _ _ rfl (setRow_heap _ _ _ _ _ _ HR3.out) Tryz.underlying29 rfl sizeR) rfl ?_
      rw [HP.out]
      exact ⟨none, 0, rfl, FldsIn.nil _ _, (fun y hy => by cases hy), below_setRow HB3.out (Nat.le_refl _) _⟩
  · have e0 : (er == 0) = false := by rw [beq_eq_false_iff_ne]; exact h0
    have e1 : (er != 0) = true := by rw [bne_iff_ne]; exact h0
    have HP := Box.mk (show R = (er, ⟨#[]⟩, ⟨#[]⟩, 0, []) by rw [HD.out, if_neg h0])
    clear HD h0
    go_wp2_with (refine wpList_store_row rfl 29 _ _ rfl w.heap.size #[.string ⟨#[]⟩, .string ⟨#[]⟩, .int .i64 0, .slice none 0 0, .bool false, .slice none 0 0] rfl rfl 29 _ HR2.out sizeR rfl (oneQH _ _ _ _ _ _) ?_)
    (try simp only [Exit.inBlock, Exit.then])
    refine bodyPost_ret (results_row_tmpF rfl _ _ w.heap.size _ _ _ _ rfl (setRow_heap _ _ _ _ _ _ HR2.out) Tryz.underlying29 rfl sizeR) rfl ?_
    rw [HP.out]
    exact ⟨none, 0, rfl, FldsIn.nil _ _, (fun y hy => by cases hy), below_setRow HB2.out (Nat.le_refl _) _⟩
end Go.Proofs.YteoadfckcilalaaGreatDoor
namespace Go.Proofs.YteoadfckcilalaaGreatDoor
open Go.RowKit

/-- A variable of head's own type of replies. -/
def AVarP (w : World) (g : Nat) (m : Int) (t : ByteArray) (z : Int) (v : Value) : Prop := w.heap[g]? = some (.cells #[.int .i64 m, .string t, .int .i64 z, v, .slice none 0 0] 177 (0, 0))
theorem AVarP.keep {w w' : World} {g : Nat} {m : Int} {t : ByteArray} {z : Int} {v : Value} (h : AVarP w g m t z v) (hb : Below w.heap.size w w') : AVarP w' g m t z v := by
  unfold AVarP at *
  rw [hb.block g (Array.getElem?_eq_some_iff.1 h).1]; exact h
theorem sizeAP : (Tryz.prog.info? 177).map (·.size) = some 5 := by kernel_rfl
/-- What start leaves: error, method, target, minor version. -/
def startA (s : ByteArray) : Int × Int × ByteArray × Int :=
  match parseA s with
  | some f => (0, f.1, f.2.1, f.2.2)
  | none => (2, 0, ⟨#[]⟩, 0)
set_option maxRecDepth 100000 in
set_option maxHeartbeats 4000000 in
theorem startAny_rep (s : ByteArray) (g : Nat) (w : World) (hs : s.size ≤ 4000000) (hq : AVarP w g 0 ⟨#[]⟩ 0 (.slice none 0 0)) :
    Calls Tryz.prog 150 #[.pointer (some ⟨g, 0, none⟩), .string s] w fun e w' => e = .returned (.int .i64 (startA s).1) ∧ AVarP w' g (startA s).2.1 (startA s).2.2.1 (startA s).2.2.2 (.slice none 0 0) ∧ ButH g w w' := by
  have HQ := Box.mk hq
  have HC := Box.mk (projParseRep_any s w (by unfold maxLen; omega))
  have HD := Box.mk (show startA s = match parseA s with
  | some f => (0, f.1, f.2.1, f.2.2)
  | none => (2, 0, ⟨#[]⟩, 0) from rfl)
  generalize startA s = R at *
  generalize parseA s = o at *
  clear hq
  have hg : g < w.heap.size := (Array.getElem?_eq_some_iff.1 HQ.out).1
  go_enter Tryz.func150, Tryz.ntmps150
  go_wp2_with fail
  refine HC.out.mono ?_
  rintro e w1 ⟨he, hb1⟩
  have HB1 := Box.mk (ButH.of (p := g) hb1)
  have HQ1 := Box.mk (HQ.out.keep hb1)
  clear hb1 HC HQ
  rcases o with _ | ⟨m, t, z⟩
  · simp only [replyV] at he
    subst he
    have HP := Box.mk (show R = (2, 0, ⟨#[]⟩, 0) from HD.out)
    clear HD
    have hb2 := below_oneF w1 (.cells #[.int .i64 0, .string ⟨#[]⟩, .int .i64 0, .slice none 0 0, .slice none 0 0] 31)
    have HQ2 := Box.mk (HQ1.out.keep hb2)
    have HB2 := Box.mk (HB1.out.trans (ButH.of hb2))
    clear hb2
    go_wp2_with (refine wpList_store_row rfl 177 _ _ rfl g #[.int .i64 0, .string ⟨#[]⟩, .int .i64 0, .slice none 0 0, .slice none 0 0] rfl rfl 177 _ HQ2.out sizeAP rfl (oneAH _ _ _ _ _ _) ?_)
    go_ret
    rw [HP.out]
    exact ⟨rfl, setRow_heap _ _ _ _ _ _ HQ2.out, HB2.out.setRow _⟩
  · simp only [replyV] at he
    subst he
    have HP := Box.mk (show R = (0, m, t, z) from HD.out)
    clear HD
    have hb2 := below_oneF w1 (.cells #[.int .i64 m, .string t, .int .i64 z, .slice none 0 0, .slice none 0 0] 31)
    have HQ2 := Box.mk (HQ1.out.keep hb2)
    have HB2 := Box.mk (HB1.out.trans (ButH.of hb2))
    clear hb2
    go_wp2_with (refine wpList_store_row rfl 177 _ _ rfl g #[.int .i64 m, .string t, .int .i64 z, .slice none 0 0, .slice none 0 0] rfl rfl 177 _ HQ2.out sizeAP rfl (oneAH _ _ _ _ _ _) ?_)
    go_ret
    rw [HP.out]
    exact ⟨rfl, setRow_heap _ _ _ _ _ _ HQ2.out, HB2.out.setRow _⟩
/-- What parse leaves: error, method, target, minor version, fields. -/
def headPA (b : List UInt8) : Int × Int × ByteArray × Int × List Fld :=
  match linesS b with
  | some (l0 :: ls) => if (startA l0).1 = 0 then ((fieldsS ls).1, (startA l0).2.1, (startA l0).2.2.1, (startA l0).2.2.2, (fieldsS ls).2) else ((startA l0).1, (startA l0).2.1, (startA l0).2.2.1, (startA l0).2.2.2, [])
  | _ => (2, 0, ⟨#[]⟩, 0, [])
def RetParseA (w : World) (g : Nat) (r : Int × Int × ByteArray × Int × List Fld) (e : Ending) (w' : World) : Prop :=
  ∃ fa fc, e = .returned (.tuple #[.slice fa r.2.2.2.2.length fc, .int .i64 r.1]) ∧ AVarP w' g r.2.1 r.2.2.1 r.2.2.2.1 (.slice none 0 0) ∧ FldsIn w' fa r.2.2.2.2 ∧ (∀ y, fa = some y → w.heap.size ≤ y.block) ∧ ButH g w w' ∧ ShortF r.2.2.2.2 ∧ r.2.2.2.2.length ≤ 64
set_option maxRecDepth 100000 in
set_option maxHeartbeats 4000000 in
theorem projParseA_any (b : List UInt8) (a : Option Addr) (c g : Nat) (mm : Int) (w : World) (h : IsBytes w a b c) (hl : b.length ≤ 3000000) (hm : HdOk w mm) (hgm : 1 ≠ g) (hq : AVarP w g 0 ⟨#[]⟩ 0 (.slice none 0 0)) :
    Calls Tryz.prog 146 #[.slice a b.length c, .func (.func 150) #[.pointer (some ⟨g, 0, none⟩)] #[]] w (RetParseA w g (headPA b)) := by
  have HQ := Box.mk hq
  have HM := Box.mk hm
  have HBY := Box.mk h
  have hg : g < w.heap.size := (Array.getElem?_eq_some_iff.1 hq).1
  have HD := Box.mk (show headPA b = match linesS b with
    | some (l0 :: ls) => if (startA l0).1 = 0 then ((fieldsS ls).1, (startA l0).2.1, (startA l0).2.2.1, (startA l0).2.2.2, (fieldsS ls).2) else ((startA l0).1, (startA l0).2.1, (startA l0).2.2.1, (startA l0).2.2.2, [])
    | _ => (2, 0, ⟨#[]⟩, 0, []) from rfl)
  have HEND := Box.mk (projEnd_any b a c b.length mm w h hl hm)
  have HGM := Box.mk hgm
  generalize headPA b = R at *
  clear h hm hq hgm
  by_cases he : endZ b = b.length
  · obtain ⟨t, ht, h4⟩ := head_cut he
    rw [end_yes he] at HEND
    have HE := Box.mk he
    have HT := Box.mk ht
    clear he ht
    go_enter Tryz.func146, Tryz.ntmps146
    go_wp2_with fail
    refine HEND.out.mono ?_
    rintro e w1 ⟨rfl, hb1⟩
    have HB1 := Box.mk hb1
    have HBY1 := Box.mk (HBY.out.keep hb1)
    have HM1 := Box.mk (HM.out.keep hb1)
    have HQ1 := Box.mk (HQ.out.keep hb1)
    have HN1 := Box.mk (ButH.of (p := g) hb1)
    have hg1 : g < w1.heap.size := (Array.getElem?_eq_some_iff.1 HQ1.out).1
    have hcv := conv_bytes HBY1.out
    clear hb1 HEND HBY HM HQ
    go_wp2_with fail
    refine (projWhole_any b mm w1 (by omega) HM1.out).mono ?_
    rintro e w2 ⟨rfl, rfl⟩
    by_cases hw : (linesGo [] b).isSome = true
    · obtain ⟨l0, ls, ls', hls, hps, hfs, hz0, hzl, hln⟩ := linesS_pieces HT.out HE.out hw
      rw [hw]
      have HR := Box.mk (show R = if (startA l0).1 = 0 then ((fieldsS ls').1, (startA l0).2.1, (startA l0).2.2.1, (startA l0).2.2.2, (fieldsS ls').2) else ((startA l0).1, (startA l0).2.1, (startA l0).2.2.1, (startA l0).2.2.2, []) by rw [HD.out, hls, hfs])
      have htz : t.length ≤ 3000000 := by have := HT.out; rw [this, List.length_append] at hl; omega
      have HSUF := Box.mk (show Calls Tryz.prog 168 #[.string ⟨b.toArray⟩, .string ⟨#[13, 10, 13, 10]⟩] w1 fun e w' => e = .returned (.string ⟨t.toArray⟩) ∧ w1 = w' by
        have h := suffixR_any ⟨b.toArray⟩ ⟨#[13, 10, 13, 10]⟩ w1 (by show b.length ≤ _; omega)
        have e : (⟨(Lib.trimSuffix (⟨b.toArray⟩ : ByteArray).data.toList (⟨#[13, 10, 13, 10]⟩ : ByteArray).data.toList).toArray⟩ : ByteArray) = ⟨t.toArray⟩ := by
          show (⟨(Lib.trimSuffix b crlf2).toArray⟩ : ByteArray) = _
          rw [HT.out, trim_crlf2]
        rw [e] at h
        exact h)
      have HSPL := Box.mk (splitL_any ⟨t.toArray⟩ w1 mm (by show t.length < _; omega) HM1.out)
      rw [hps] at HSPL
      have HZ0 := Box.mk hz0
      have HZL := Box.mk (show ∀ s ∈ ls', s.size ≤ maxLen from fun s hs => Nat.le_trans (hzl s hs) (by unfold maxLen; omega))
      clear hw hls hps hfs hzl HD HE HT hz0
      go_wp2_with fail
      refine HSUF.out.mono ?_
      rintro e w2 ⟨rfl, rfl⟩
      clear HSUF
      go_wp2_with fail
      refine HSPL.out.mono ?_
      rintro e w2 ⟨cap, rfl, hlc, hcap, hst, hb2⟩
      rw [List.length_cons] at hlc
      have HST := Box.mk hst
      have HB2 := Box.mk (below_trans HB1.out hb2)
      have HM2 := Box.mk (HM1.out.keep hb2)
      have HQ2 := Box.mk (HQ1.out.keep hb2)
      have HN2 := Box.mk (HN1.out.trans (ButH.of hb2))
      have hc0 := hst.head
      have hlt2 : w1.heap.size < w2.heap.size := by
        by_cases hh : w1.heap.size < w2.heap.size
        · exact hh
        · have h := hc0
          unfold World.cell? at h
          rw [show w2.heap[w1.heap.size]? = none from Array.getElem?_eq_none (by omega)] at h
          cases h
      have hG1 : w.heap.size ≤ w1.heap.size := HB1.out.size
      have HSTA := Box.mk (startAny_rep l0 g w2 (by have := HZ0.out; omega) HQ2.out)
      clear hst hb2 HSPL HM1 HQ1 HN1 HBY1 hcv
      generalize startA l0 = S at *
      obtain ⟨er, m, tt, z⟩ := S
      go_wp2_with fail
      refine HSTA.out.mono ?_
      rintro e w3 ⟨rfl, hq3, hn3⟩
      have HQ3 := Box.mk hq3
      have HN3 := Box.mk (HN2.out.trans hn3)
      have HST3 := Box.mk ((hn3.strs HST.out hlt2 (by omega)).tail)
      have hs3 : w2.heap.size ≤ w3.heap.size := hn3.size
      clear hq3 hn3 HST HSTA HQ2 HN2 HM2 hc0
      by_cases h0 : er = 0
      · subst h0
        have HR2 := Box.mk (show R = ((fieldsS ls').1, m, tt, z, (fieldsS ls').2) by rw [HR.out, if_pos rfl])
        clear HR
        by_cases hc1 : cap = 1
        · subst hc1
          obtain rfl : ls' = [] := List.eq_nil_of_length_eq_zero (by omega)
          go_wp2_with fail
          refine (projFieldsH_any [] (some ⟨w1.heap.size, 0, none⟩) 0 w3 (StrsAt.nil _ _) HZL.out (by simp)).mono ?_
          rintro e w4 ⟨x, fa, fc, er, hx, rfl, hfx, hfr, hb4⟩
          obtain ⟨hs1, hs2, _⟩ := fieldsS_small hx HZL.out
          have HR3 := Box.mk (show R = (er, m, tt, z, x) by rw [HR2.out, hx])
          have HFX := Box.mk hfx
          have HQ4 := Box.mk (HQ3.out.keep hb4)
          have HN4 := Box.mk (HN3.out.trans (ButH.of hb4))
          have HFR := Box.mk (show ∀ y, fa = some y → w.heap.size ≤ y.block from fun y hy => by have := hfr y hy; omega)
          have HS1 := Box.mk hs1
          clear hx hfx hfr hb4 HR2 HST3 HQ3 HN3 hs1
          go_wp2_with fail
          go_ret2
          rw [HR3.out]
          exact ⟨fa, fc, rfl, HQ4.out, HFX.out, HFR.out, HN4.out, HS1.out, hs2⟩
        · have hlc2 : 1 ≤ cap := by omega
          go_wp2_with fail
          refine (projFieldsH_any ls' (some ⟨w1.heap.size, 1, none⟩) (cap - 1) w3 HST3.out HZL.out (by omega)).mono ?_
          rintro e w4 ⟨x, fa, fc, er, hx, rfl, hfx, hfr, hb4⟩
          obtain ⟨hs1, hs2, _⟩ := fieldsS_small hx HZL.out
          have HR3 := Box.mk (show R = (er, m, tt, z, x) by rw [HR2.out, hx])
          have HFX := Box.mk hfx
          have HQ4 := Box.mk (HQ3.out.keep hb4)
          have HN4 := Box.mk (HN3.out.trans (ButH.of hb4))
          have HFR := Box.mk (show ∀ y, fa = some y → w.heap.size ≤ y.block from fun y hy => by have := hfr y hy; omega)
          have HS1 := Box.mk hs1
          clear hx hfx hfr hb4 HR2 HST3 HQ3 HN3 hs1
          go_wp2_with fail
          go_ret2
          rw [HR3.out]
          exact ⟨fa, fc, rfl, HQ4.out, HFX.out, HFR.out, HN4.out, HS1.out, hs2⟩
      · have e0 : (er != 0) = true := by rw [bne_iff_ne]; exact h0
        have HR2 := Box.mk (show R = (er, m, tt, z, []) by rw [HR.out, if_neg h0])
        clear HR h0
        go_wp2_with fail
        go_ret2
        rw [HR2.out]
        exact ⟨none, 0, rfl, HQ3.out, FldsIn.nil _ _, (fun _ e => by cases e), HN3.out, (fun f hf => by cases hf), Nat.zero_le _⟩
    · have hw0 : (linesGo [] b).isSome = false := by rw [← Bool.not_eq_true]; exact hw
      rw [hw0]
      have HR := Box.mk (show R = (2, 0, ⟨#[]⟩, 0, []) by
        rw [HD.out]
        have : linesS b = none := by
          unfold linesS
          cases hh : linesGo [] b with
          | none => split <;> rfl
          | some L => rw [hh] at hw0; cases hw0
        rw [this])
      clear hw hw0 HD HE HT
      go_wp2_with fail
      go_ret2
      rw [HR.out]
      exact ⟨none, 0, rfl, HQ1.out, FldsIn.nil _ _, (fun _ e => by cases e), HN1.out, (fun f hf => by cases hf), Nat.zero_le _⟩
  · have HNE := Box.mk (end_not he)
    have HR := Box.mk (show R = (2, 0, ⟨#[]⟩, 0, []) by
      rw [HD.out]
      have : linesS b = none := by unfold linesS; rw [if_neg (fun h => he h.1)]
      rw [this])
    generalize endS b b.length = E at *
    obtain ⟨n, er⟩ := E
    clear he HD
    go_enter Tryz.func146, Tryz.ntmps146
    go_wp2_with fail
    refine HEND.out.mono ?_
    rintro e w1 ⟨rfl, hb1⟩
    have HQ1 := Box.mk (HQ.out.keep hb1)
    have HN1 := Box.mk (ButH.of (p := g) hb1)
    clear hb1 HEND HQ HBY HM
    by_cases h0 : er = 0
    · subst h0
      have en : (n != (b.length : Int)) = true := by rw [bne_iff_ne]; exact fun h => HNE.out ⟨rfl, h⟩
      clear HNE
      go_wp2_with fail
      go_ret2
      rw [HR.out]
      exact ⟨none, 0, rfl, HQ1.out, FldsIn.nil _ _, (fun _ e => by cases e), HN1.out, (fun f hf => by cases hf), Nat.zero_le _⟩
    · have e0 : (er != 0) = true := by rw [bne_iff_ne]; exact h0
      clear HNE h0
      go_wp2_with fail
      go_ret2
      rw [HR.out]
      exact ⟨none, 0, rfl, HQ1.out, FldsIn.nil _ _, (fun _ e => by cases e), HN1.out, (fun f hf => by cases hf), Nat.zero_le _⟩
theorem AVarP.cells5 {w : World} {g : Nat} {m : Int} {t : ByteArray} {z : Int} {v : Value} (h : AVarP w g m t z v) : w.cell? ⟨g, 0, none⟩ = some (.int .i64 m) ∧ w.cell? ⟨g, 1, none⟩ = some (.string t) ∧ w.cell? ⟨g, 2, none⟩ = some (.int .i64 z) ∧ w.cell? ⟨g, 3, none⟩ = some v ∧ w.cell? ⟨g, 4, none⟩ = some (.slice none 0 0) := by
  refine ⟨?_, ?_, ?_, ?_, ?_⟩ <;> rw [cell_of_row _ _ _ _ _ _ h] <;> rfl
theorem AVarP.put {w : World} {g : Nat} {m : Int} {t : ByteArray} {z : Int} {v u : Value} (h : AVarP w g m t z v) : AVarP (w.setCell ⟨g, 3, none⟩ u) g m t z u := by
  unfold AVarP; rw [heap_setCell_same _ _ _ _ _ _ h]; rfl
theorem AVarP.frozen {w : World} {g i : Nat} {m : Int} {t : ByteArray} {z : Int} {v : Value} (h : AVarP w g m t z v) : w.frozen? ⟨g, i, none⟩ = false := by
  unfold AVarP at h; simp [World.frozen?, h]
theorem headA_P (b : List UInt8) : headA b = if (headPA b).1 = 0 then headPA b else ((headPA b).1, 0, ⟨#[]⟩, 0, []) := by
  unfold headA headPA
  rcases hls : linesS b with _ | L
  · rfl
  · rcases L with _ | ⟨l0, ls⟩
    · rfl
    · simp only []
      unfold startA
      rcases parseA l0 with _ | f
      · rfl
      · simp only [if_true]
        generalize fieldsS ls = F
        obtain ⟨er2, x⟩ := F
        simp only []
        by_cases h0 : er2 = 0
        · subst h0; rfl
        · rw [if_neg h0, if_neg h0]
set_option maxRecDepth 100000 in
set_option maxHeartbeats 4000000 in
theorem projHeadRepF_any (b : List UInt8) (a : Option Addr) (c : Nat) (mm : Int) (w : World) (h : IsBytes w a b c) (hl : b.length ≤ 3000000) (hm : HdOk w mm) :
    Calls Tryz.prog 113 #[.slice a b.length c] w (RetRepF w (headA b)) := by
  obtain ⟨W0, hW0⟩ : ∃ W0, W0 = w.alloc (.cells #[.int .i64 0, .string ⟨#[]⟩, .int .i64 0, .slice none 0 0, .slice none 0 0] 31) := ⟨_, rfl⟩
  have hs0 : W0.heap.size = w.heap.size + 1 := by rw [hW0]; exact Array.size_push _
  obtain ⟨W1, hW1⟩ : ∃ W1, W1 = W0.alloc (.cells #[.int .i64 0, .string ⟨#[]⟩, .int .i64 0, .slice none 0 0, .slice none 0 0] 177) := ⟨_, rfl⟩
  have hb0 : Below w.heap.size w W0 := by rw [hW0]; exact below_oneF w _
  have hb1 : Below W0.heap.size W0 W1 := by rw [hW1]; exact below_oneF W0 _
  have HR0 := Box.mk (show AVarH W0 w.heap.size 0 ⟨#[]⟩ 0 (.slice none 0 0) by rw [hW0]; exact heap_alloc_new _ _)
  have HR1 := Box.mk (HR0.out.keep hb1)
  have HQ1 := Box.mk (show AVarP W1 W0.heap.size 0 ⟨#[]⟩ 0 (.slice none 0 0) by rw [hW1]; exact heap_alloc_new _ _)
  have HB1 := Box.mk (below_trans hb0 hb1)
  have hmlt := hm.lt
  have hs1 : W1.heap.size = w.heap.size + 2 := by rw [hW1]; exact (Array.size_push _).trans (by rw [hs0])
  have HCALL := Box.mk (projParseA_any b a c W0.heap.size mm W1 (h.keep HB1.out) hl (hm.keep HB1.out) (by omega) HQ1.out)
  have HD := Box.mk (headA_P b)
  generalize headA b = R at *
  generalize headPA b = S at *
  obtain ⟨er, m, t, z, x⟩ := S
  rw [hs0] at HCALL HQ1
  rw [hW0] at hW1
  have HW1 := Box.mk hW1
  clear h hm hW0 hW1 hb0 hb1 hs0 HR0 HQ1 hmlt
  go_enter Tryz.func113, Tryz.ntmps113
  go_wp2_with fail
  rw [← HW1.out]
  clear HW1
  refine HCALL.out.mono ?_
  rintro e w2 ⟨fa, fc, rfl, hq2, hfx, hfr, hn2, hsf, hx64⟩
  have HQ2 := Box.mk hq2
  have HFX := Box.mk hfx
  have HFR := Box.mk hfr
  have HSF := Box.mk hsf
  have HR2 := Box.mk (show AVarH w2 w.heap.size 0 ⟨#[]⟩ 0 (.slice none 0 0) by unfold AVarH; rw [hn2.block _ (by omega) (by omega)]; exact HR1.out)
  have HB2 := Box.mk (HB1.out.trans (hn2.below (K := w.heap.size) (by omega) (by omega)))
  have hs2 : W1.heap.size ≤ w2.heap.size := hn2.size
  clear hq2 hfx hfr hn2 hsf HR1 HB1 HCALL
  by_cases h0 : er = 0
  · subst h0
    have HD2 := Box.mk (show R = (0, m, t, z, x) from HD.out)
    clear HD
    have hf3 := HQ2.out.frozen (i := 3)
    obtain ⟨k0, k1, k2, k3, k4⟩ := HQ2.out.cells5
    obtain ⟨W4, hW4⟩ : ∃ W4, W4 = w2.setCell ⟨w.heap.size + 1, 3, none⟩ (.slice fa x.length fc) := ⟨_, rfl⟩
    have HQ4 := Box.mk (show AVarP W4 (w.heap.size + 1) m t z (.slice fa x.length fc) by rw [hW4]; exact HQ2.out.put)
    have HR4 := Box.mk (show AVarH W4 w.heap.size 0 ⟨#[]⟩ 0 (.slice none 0 0) by
      unfold AVarH; rw [hW4, heap_setCell_other _ _ _ _ (by show w.heap.size ≠ w.heap.size + 1; omega)]; exact HR2.out)
    have HB4 := Box.mk (show Below w.heap.size w W4 by rw [hW4]; exact HB2.out.setCell (p := ⟨w.heap.size + 1, 3, none⟩) (show w.heap.size ≤ w.heap.size + 1 by omega) (.slice fa x.length fc))
    have HX4 := Box.mk (show FldsIn W4 fa x by
      rw [hW4]; exact HFX.out.same fun y hy => heap_setCell_other _ _ _ _ (by have := HFR.out y hy; show y.block ≠ w.heap.size + 1; omega))
    subst hW4
    obtain ⟨c0, c1, c2, c3, c4⟩ := HQ4.out.cells5
    clear HQ2 HR2 HFX HB2
    go_wp2_with (refine wpList_store_row rfl 31 _ _ rfl w.heap.size #[.int .i64 m, .string t, .int .i64 z, .slice fa x.length fc, .slice none 0 0] rfl rfl 31 _ HR4.out sizeA rfl (oneAH _ _ _ _ _ _) ?_)
    (try simp only [Exit.inBlock, Exit.then])
    refine bodyPost_ret (results_row_tmpF rfl _ _ w.heap.size _ #[.int .i64 m, .string t, .int .i64 z, .slice fa x.length fc, .slice none 0 0] _ _ rfl (setRow_heap _ _ _ _ _ _ HR4.out) Tryz.underlying31 rfl sizeA) rfl ?_
    rw [HD2.out]
    exact ⟨fa, fc, rfl, HX4.out.same fun y hy => setRow_other _ _ _ _ (by have := HFR.out y hy; omega), (fun y hy => by have := HFR.out y hy; omega), below_setRow HB4.out (Nat.le_refl _) _⟩
  · have e1 : (er != 0) = true := by rw [bne_iff_ne]; exact h0
    have HP := Box.mk (show R = (er, 0, ⟨#[]⟩, 0, []) by rw [HD.out, if_neg h0])
    clear HD h0
    go_wp2_with (refine wpList_store_row rfl 31 _ _ rfl w.heap.size #[.int .i64 0, .string ⟨#[]⟩, .int .i64 0, .slice none 0 0, .slice none 0 0] rfl rfl 31 _ HR2.out sizeA rfl (oneAH _ _ _ _ _ _) ?_)
    (try simp only [Exit.inBlock, Exit.then])
    refine bodyPost_ret (results_row_tmpF rfl _ _ w.heap.size _ _ _ _ rfl (setRow_heap _ _ _ _ _ _ HR2.out) Tryz.underlying31 rfl sizeA) rfl ?_
    rw [HP.out]
    exact ⟨none, 0, rfl, FldsIn.nil _ _, (fun y hy => by cases hy), below_setRow HB2.out (Nat.le_refl _) _⟩
end Go.Proofs.YteoadfckcilalaaGreatDoor
namespace Go.Proofs.YteoadfckcilalaaGreatDoor
open Go.RowKit

theorem Own.grown {B : Nat} {w w' : World} {v : Value} {l : List UInt8} {row : Option Nat} (h : Own B w v l) (hg : w.grownBy w' row) (hne : ∀ k, v.ownBlock = some k → some k ≠ row) : Own B w' v l :=
  h.same fun k hk => hg.block k (h.lt hk).2 (hne k hk)
theorem isBytes_oneF (w : World) (c : UInt8) : IsBytes (w.alloc (.cells #[.int .u8 (c.toNat : Int)] 5)) (some ⟨w.heap.size, 0, none⟩) [c] 1 := by
  refine .inr ⟨_, rfl, Nat.le_refl _, by decide, fun j hj => ?_⟩
  obtain rfl : j = 0 := by simpa using hj
  rw [Addr.add_lit, new_cellF]; rfl
set_option maxRecDepth 100000 in
set_option maxHeartbeats 2000000 in
theorem srcBytes_any (g m : Nat) (a : Option Addr) (n c : Nat) (w : World) (h : Src w g a n c) (hm : m ≤ 1000) :
    Calls Tryz.prog 45 #[.pointer (some ⟨g, 0, none⟩), .int .i64 m] w fun e w' => ∃ v l, e = .returned v ∧ Own w.heap.size w' v l ∧ l.length ≤ m ∧ Src w' g a n c ∧ w.grownBy w' (some g) := by
  have H0 := Box.mk h
  have HLOW := Box.mk h.low
  have hlt := h.lt
  clear h
  go_enter Tryz.func45, Tryz.ntmps45
  go_wp2_with fail
  refine (next_any g (m + 1) a n c w H0.out (by omega) (by omega)).mono ?_
  rintro e w1 ⟨k, hk, rfl, hsrc, hg1⟩
  have HS1 := Box.mk hsrc
  have HG1 := Box.mk hg1
  clear hsrc hg1 H0
  go_wp2_with fail
  go_loopw [5, 6] (fun v iv wr => ∃ j : Nat, j ≤ m ∧ iv = .int .i64 j ∧ ∃ l : List UInt8, l.length + j ≤ m ∧ Box (Own w.heap.size wr v l ∧ Src wr g a n c ∧ w.grownBy wr (some g))) (fun _ iv _ => (intOf iv).toNat)
  case atStart => exact ⟨k, by omega, rfl, [], by simp; omega, ⟨Own.start _ _, HS1.out, HG1.out⟩⟩
  case round =>
    clear HS1 HG1
    obtain ⟨j, hj, rfl, l, hl, HM⟩ := hrel
    by_cases hpos : 0 < j
    · go_wp2_with fail
      refine (next_any g 7 a n c wr HM.out.2.1 (by decide) (by decide)).mono ?_
      rintro e w2 ⟨i, hi, rfl, hsrc, hg2⟩
      have HO2 := Box.mk (HM.out.1.grown hg2 (fun q e e2 => by have := (HM.out.1.lt e).1; have := Option.some.inj e2; omega))
      have HS2 := Box.mk hsrc
      have HG2 := Box.mk (grownBy_trans HM.out.2.2 hg2)
      have hsz := HG2.out.size
      clear hsrc hg2 HM
      obtain ⟨y, hy⟩ : ∃ y : UInt8, ∀ hd, (⟨#[97, 98, 13, 10, 48, 59, 32]⟩ : ByteArray)[i]'hd = y := ⟨(⟨#[97, 98, 13, 10, 48, 59, 32]⟩ : ByteArray)[i]'(by show i < 7; exact hi), fun _ => rfl⟩
      have hy1 : (y.toNat : Int) ≤ 255 := by have := y.toNat_lt; omega
      go_wp2_with (at_builtin; refine wpList_append_ownb _ rfl _ _ rfl rfl (HO2.out.keep (below_oneF w2 (.cells #[.int .u8 (y.toNat : Int)] 5))) (r := [y]) rfl (isBytes_oneF w2 y) (by simp; omega) (by simp; omega) ?c3)
      case c3 =>
        intro v' w3 hown hgrow _
        have HO3 := Box.mk hown
        have hgrow2 : w2.grownBy w3 u5.ownBlock := ⟨hgrow.os, hgrow.tape, hgrow.output, Nat.le_trans (by simp) hgrow.size, fun k hk hne => by
          rw [hgrow.block k (by simp; omega) hne]
          exact (below_oneF w2 _).block k hk⟩
        have HS3 := Box.mk (HS2.out.grown hgrow2 (fun e => by have := (HO2.out.lt e.symm).1; omega) (fun x e h0 e2 => by have := (HO2.out.lt e2.symm).1; have := HLOW.out x e h0; omega))
        have HG3 := Box.mk (grownBy_new HG2.out hgrow2 (fun i e => (HO2.out.lt e).1))
        clear hown hgrow hgrow2 HO2 HS2 HG2 hy
        go_wp2_with fail
        go_roundw
        case rel => exact ⟨j - 1, by omega, by go_num, l ++ [y], by simp; omega, ⟨HO3.out, HS3.out, HG3.out⟩⟩
        case measure => simp [intOf]; omega
    · obtain rfl : j = 0 := by omega
      go_wp2_with fail
      go_ret
      exact ⟨_, l, rfl, HM.out.1, by omega, HM.out.2.1, HM.out.2.2⟩
end Go.Proofs.YteoadfckcilalaaGreatDoor
namespace Go.Proofs.YteoadfckcilalaaGreatDoor
open Go.RowKit

theorem digs_len {b : Nat} (hb : 2 ≤ b) : ∀ (k n : Nat), n < 2 ^ k → 1 ≤ k → (digs b n).length ≤ k
  | 0, n, _, h => absurd h (by omega)
  | k + 1, n, hn, _ => by
    by_cases h : n < b
    · rw [digs_small h]; simp
    · rw [digs_big hb h, List.length_append]
      have h1 : n / b ≤ n / 2 := Nat.div_le_div_left hb (by omega)
      have h2 : n / 2 < 2 ^ k := by rw [Nat.pow_succ] at hn; omega
      have h3 : 1 ≤ n / b := by
        have : b / b ≤ n / b := Nat.div_le_div_right (by omega)
        rw [Nat.div_self (by omega)] at this; exact this
      have hk : 1 ≤ k := by
        match k, h2 with
        | 0, h2 => simp at h2; omega
        | k + 1, _ => omega
      have := digs_len hb k (n / b) (by omega) hk
      simp; omega
theorem fmtS_size {b : Nat} (hb : 2 ≤ b) (n : Int) (h1 : n ≤ 9223372036854775807) : (fmtS b n).size ≤ 64 := by
  unfold fmtS; split
  · decide
  · show (digs b n.toNat).toArray.size ≤ 64
    simpa using digs_len hb 64 n.toNat (by have : (2 : Nat) ^ 64 = 18446744073709551616 := by decide
                                           omega) (by omega)
theorem fmtS_max {b : Nat} (hb : 2 ≤ b) (n : Int) (h1 : n ≤ 9223372036854775807) : (fmtS b n).size ≤ maxLen := Nat.le_trans (fmtS_size hb n h1) (by decide)
end Go.Proofs.YteoadfckcilalaaGreatDoor
namespace Go.Proofs.YteoadfckcilalaaGreatDoor
open Go.RowKit

theorem fmtS_len (a : Nat) (h : a ≤ 1000000000) : (fmtS 10 (a : Int)).size ≤ maxLen := fmtS_max (by decide) _ (by omega)
theorem refSum_two (s1 s2 : ByteArray) (a : Addr) (c : Nat) (w : World) (h1 : s1.size ≤ maxLen) (h2 : s2.size ≤ maxLen) (h : StrsIn w (some a) [s1, s2]) :
    Calls Tryz.prog 95 #[.slice (some a) 2 c] w fun e w' => ∃ h : Nat, e = .returned (.int .u64 h) ∧ h < 18446744073709551616 ∧ Below w.heap.size w w' := by
  refine (refSum_any [s1, s2] (some a) c w (by show 2 ≤ maxLen; decide) (fun x hx => ?_) h).mono ?_
  · simp at hx
    rcases hx with rfl | rfl
    · exact h1
    · exact h2
  · rintro e w' ⟨rfl, hb⟩
    exact ⟨_, rfl, (by unfold sumL; rw [List.foldl_cons, List.foldl_cons, List.foldl_nil]; exact sumN_lt _ _), hb⟩
/-- A digit of an ID. -/
def hexOk (c : UInt8) : Bool := decide (48 ≤ c.toNat ∧ c.toNat ≤ 57 ∨ 97 ≤ c.toNat ∧ c.toNat ≤ 102)
theorem hex_digit {z : Int} (h0 : 0 ≤ z) (h1 : z ≤ 15) : (fmtS 16 z).size = 1 ∧ (fmtS 16 z).data.toList.all hexOk = true := by
  obtain ⟨k, rfl⟩ : ∃ k : Nat, z = k := ⟨z.toNat, by omega⟩
  have hk : k < 16 := by omega
  have h : ∀ m : Fin 16, (fmtS 16 (m.val : Int)).size = 1 ∧ (fmtS 16 (m.val : Int)).data.toList.all hexOk = true := by decide +kernel
  exact h ⟨k, hk⟩

set_option maxRecDepth 100000 in
set_option maxHeartbeats 2000000 in
theorem refNewID_any (a b : Nat) (w : World) (ha : a ≤ 1000000000) (hb : b ≤ 1000000000) :
    Calls Tryz.prog 67 #[.int .i64 a, .int .i64 b] w fun e w' => ∃ s : ByteArray, e = .returned (.string s) ∧ s.size = 16 ∧ s.data.toList.all hexOk = true ∧ Below w.heap.size w w' := by
  go_enter Tryz.func67, Tryz.ntmps67
  go_wp2_with fail
  refine (refDecimal_any a _ (by omega) (by omega)).mono ?_
  rintro e w1 ⟨rfl, hb1⟩
  have HB1 := Box.mk hb1
  clear hb1
  go_wp2_with fail
  refine (refDecimal_any b _ (by omega) (by omega)).mono ?_
  rintro e w2 ⟨rfl, hb2⟩
  have HB2 := Box.mk (below_trans HB1.out hb2)
  have HZ := Box.mk (And.intro (fmtS_len a ha) (fmtS_len b hb))
  clear hb2 HB1
  generalize fmtS 10 a = s1 at *
  generalize fmtS 10 b = s2 at *
  go_wp2_with fail
  refine (refSum_two s1 s2 _ _ _ HZ.out.1 HZ.out.2 (strsIn_twoF w2 s1 s2 _)).mono ?_
  rintro e w3 ⟨h, rfl, hh, hb3⟩
  have HB3 := Box.mk (below_trans (below_twoF HB2.out (.cells #[.string s1, .string s2] 9)) hb3)
  clear hb3 HB2 HZ
  go_wp2_with fail
  go_loopw [6, 7] (fun v iv wr => ∃ k : Nat, k ≤ 16 ∧ iv = .int .i64 k ∧ ∃ s : ByteArray, v = .string s ∧ s.size ≤ 1000 ∧ Box (s.size = k ∧ s.data.toList.all hexOk = true ∧ Below w.heap.size w wr)) (fun _ iv _ => 16 - (intOf iv).toNat)
  case atStart => exact ⟨0, Nat.zero_le _, rfl, ⟨#[]⟩, rfl, by decide, ⟨rfl, rfl, HB3.out⟩⟩
  case round =>
    clear HB3
    obtain ⟨k, hk, rfl, s, rfl, hs, HM⟩ := hrel
    by_cases hlt : k < 16
    · go_wp2_with fail
      obtain ⟨d, hd, hd15⟩ : ∃ d : Nat, wrap64 (bits .and .u64 ((h : Int) / 2 ^ (60 - 4 * k)) 15) = d ∧ d ≤ 15 := by
        have e1 : ((h : Int) / 2 ^ (60 - 4 * k)) = ((h / 2 ^ (60 - 4 * k) : Nat) : Int) := by push_cast; rfl
        have h2 : h / 2 ^ (60 - 4 * k) < 18446744073709551616 := Nat.lt_of_le_of_lt (Nat.div_le_self _ _) hh
        have h3 := bits_and_u64_nat (h / 2 ^ (60 - 4 * k)) 15 h2 (by decide)
        refine ⟨h / 2 ^ (60 - 4 * k) &&& 15, ?_, Nat.and_le_right⟩
        rw [e1, show (15 : Int) = ((15 : Nat) : Int) from rfl, h3]
        have h4 : h / 2 ^ (60 - 4 * k) &&& 15 ≤ 15 := Nat.and_le_right
        generalize h / 2 ^ (60 - 4 * k) &&& 15 = x at *
        simp only [wrap64]; omega
      rw [hd]
      have HD := Box.mk (hex_digit (z := (d : Int)) (by omega) (by omega))
      refine (refHex_any (d : Int) wr (by omega) (by omega)).mono ?_
      rintro e w4 ⟨rfl, hb4⟩
      generalize fmtS 16 (d : Int) = t at *
      have hts : t.size ≤ 10 := by have := HD.out.1; omega
      have HM2 := Box.mk (show (s ++ t).size = k + 1 ∧ (s ++ t).data.toList.all hexOk = true ∧ Below w.heap.size w w4 from ⟨by rw [ByteArray.size_append, HM.out.1, HD.out.1], by rw [ba_app_list, List.all_append, HM.out.2.1, HD.out.2]; rfl, below_trans HM.out.2.2 hb4⟩)
      clear hb4 HM HD hd
      go_wp2_with fail
      go_roundw
      case rel => exact ⟨k + 1, by omega, by go_num, s ++ t, rfl, by have := HM2.out.1; omega, HM2⟩
      case measure => simp [intOf]; omega
    · obtain rfl : k = 16 := by omega
      go_wp2_with fail
      go_ret
      exact ⟨s, rfl, HM.out.1, HM.out.2.1, HM.out.2.2⟩

set_option maxHeartbeats 1000000 in
theorem srcID_any (g : Nat) (a : Option Addr) (n c : Nat) (w : World) (h : Src w g a n c) :
    Calls Tryz.prog 44 #[.pointer (some ⟨g, 0, none⟩)] w fun e w' => ∃ s : ByteArray, e = .returned (.string s) ∧ s.size = 16 ∧ s.data.toList.all hexOk = true ∧ Src w' g a n c ∧ w.grownBy w' (some g) := by
  have H0 := Box.mk h
  clear h
  go_enter Tryz.func44, Tryz.ntmps44
  go_wp2_with fail
  refine (next_any g 8 a n c w H0.out (by decide) (by decide)).mono ?_
  rintro e w1 ⟨k, hk, rfl, hsrc, hg1⟩
  have HS := Box.mk hsrc
  have HG := Box.mk hg1
  clear hsrc hg1 H0
  go_wp2_with fail
  refine (refNewID_any k 7 w1 (by omega) (by decide)).mono ?_
  rintro e w2 ⟨s, rfl, hz, hx, hb⟩
  have HF := Box.mk (And.intro hz (And.intro hx (And.intro (HS.out.keep hb) (grownBy_trans HG.out (grownBy_below hb)))))
  clear hz hx hb
  go_wp2_with fail
  go_ret
  exact ⟨s, rfl, HF.out.1, HF.out.2.1, HF.out.2.2.1, HF.out.2.2.2⟩
end Go.Proofs.YteoadfckcilalaaGreatDoor
