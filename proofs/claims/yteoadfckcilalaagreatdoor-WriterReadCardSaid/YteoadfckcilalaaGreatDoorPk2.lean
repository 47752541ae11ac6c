/- FNV-1a in plain words, and the contracts of mix and Write, of package hash and of its reference. The contracts of Sum, of package hash and of its reference. Appending a slice of bytes that came in to a slice of the call's own; the law HashWrite at open arguments; what the bound on the arguments gives. More of a region's single operations: comparisons, lengths, slices of slices that are built. A region that draws its order and stores once, by what each operation leaves. SHA-256 in plain words, over words of 32 bits; how the arithmetic of the translated code is spelt at them. Fields: Valid of package field and of its reference; a field's line. A set of names in a map: setOf, and whether a field's name is in it. Slices of fields in memory: read, appended to, opened among the arguments. Values, Has and Without, in the reference. Values, Without and Has of package field. Has of package field (a closure), Elements, SameFields. With: appends of whole slices of fields, slices.Grow and slices.Concat. slices.Concat, With of package field and of its reference, SameFields. Text, by the library's Builder and in the reference. Format, by the library's Builder and in the reference. -/
import Derived.Test.YteoadfckcilalaaGreatDoorPk1
import Derived.Test.YteoadfckcilalaaGreatDoorRows
import Derived.WalkKit
import Derived.WalkSpells
import Derived.WalkLawsBesides
import Derived.BigQuiet
import Derived.Deep.QuietTactic
import Derived.Lib.Bytealg
import Derived.Lib.IndexLaws
import Derived.Lib.Hide
import Derived.ProofKit
import Derived.OpenShut
import Derived.Laws.IdiomStrings
import Derived.Lib.Strings
import Derived.Laws.Bits64
import Derived.Deep.AppendLies
import Derived.SliceStrings
import Derived.Lib.SlBytesConst
import Derived.Maps.AppendAt
import Derived.Laws.AppendOwnNone
import Derived.Deep.Quiet
import Derived.Tactics
import Derived.KernelRfl
import Derived.Below
import Derived.Great.BuildSlice
import Derived.Laws.Rows
import Derived.Laws.BitsAllLaws
import Derived.Laws.Shifts
import Derived.Lib.SlTrimSet
import Derived.Lib.IndexBytes
import Derived.Lib.Split
import Derived.Shelf.Strings.SlTrimAscii
import Derived.Shelf.Strings.SplitShaped
import Derived.Shelf.LaysM
import Derived.Shelf.Strings.BuilderK
import Derived.Shelf.Strconv.Itoa4
import Derived.Shelf.Strings.Prefix
import Derived.Shelf.Bytes.SlIndexWhole
import Derived.Test.YteoadfckcilalaaGreatDoorProg
import Derived.Lib.SplitLaws
import Derived.WalkSmall
import Derived.Maps.OwnOps
import Derived.Maps.OwnSet
import Derived.Deep.SlicePairs
import Derived.Lib.AppendZerosOnto
import Derived.Lib.AppendStr
namespace Go.Proofs.YteoadfckcilalaaGreatDoor
open Go.RowKit

/-- One round: a number of 64 bits and a byte. -/
def mixN (h : Nat) (c : Nat) : Nat := ((h ^^^ c) * 1099511628211) % 18446744073709551616
def mixL (h : Nat) (l : List UInt8) : Nat := l.foldl (fun h c => mixN h c.toNat) h
theorem mixN_lt (h c : Nat) : mixN h c < 18446744073709551616 := Nat.mod_lt _ (by decide)
theorem mixL_lt : ∀ (l : List UInt8) (h : Nat), h < 18446744073709551616 → mixL h l < 18446744073709551616
  | [], _, hh => hh
  | c :: r, h, _ => mixL_lt r (mixN h c.toNat) (mixN_lt _ _)
theorem mixL_append (h : Nat) (l r : List UInt8) : mixL h (l ++ r) = mixL (mixL h l) r := List.foldl_append ..
theorem mixL_nil (h : Nat) : mixL h [] = h := rfl
theorem mixL_cons (h : Nat) (c : UInt8) (r : List UInt8) : mixL h (c :: r) = mixL (mixN h c.toNat) r := rfl
theorem mixL_snoc (h : Nat) (l : List UInt8) (k : Nat) (hk : k < l.length) : mixL h (l.take (k + 1)) = mixN (mixL h (l.take k)) l[k].toNat := by
  rw [List.take_succ_eq_append_getElem hk, mixL_append, mixL_cons, mixL_nil]
theorem two64 : (18446744073709551616 : Nat) = 2 ^ 64 := by decide
theorem xor_lt (h c : Nat) (hh : h < 18446744073709551616) (hc : c < 18446744073709551616) : h ^^^ c < 18446744073709551616 := by
  rw [two64] at hh hc ⊢
  exact Nat.xor_lt_two_pow hh hc
theorem mix_bits (h : Nat) (c : UInt8) (hh : h < 18446744073709551616) : bits BinOp.xor IntKind.u64 (h : Int) (c.toNat : Int) = ((h ^^^ c.toNat : Nat) : Int) :=
  bits_xor_u64_nat _ _ hh (by have := c.toNat_lt; omega)
theorem mix_wrap (X : Nat) : IntKind.u64.wrap ((X : Int) * 1099511628211) = (((X * 1099511628211) % 18446744073709551616 : Nat) : Int) := by
  rw [IntKind.wrap_u64]; omega
/-- The slice at a holds the bytes l. -/
def BytesIn (w : World) (a : Option Addr) (l : List UInt8) : Prop :=
  ∀ j (hj : j < l.length), ∃ x, a = some x ∧ w.cell? (x.add j) = some (.int .u8 (l[j].toNat : Int))
theorem BytesIn.nil (w : World) (a : Option Addr) : BytesIn w a [] := fun _ hj => absurd hj (Nat.not_lt_zero _)
set_option maxHeartbeats 1000000 in
theorem refHashWrite_any (h : Nat) (l : List UInt8) (a : Option Addr) (cap : Nat) (w : World) (hh : h < 18446744073709551616) (hlen : l.length ≤ maxLen) (ha : BytesIn w a l) :
    Calls Tryz.prog 130 #[.int .u64 h, .slice a l.length cap] w fun e w' => e = .returned (.int .u64 (mixL h l : Nat)) ∧ w = w' := by
  unfold maxLen at hlen
  have HA := Lib.hid ha
  clear ha
  go_enter Tryz.func130, Tryz.ntmps130
  go_wp2
  go_loop [0, 5] (fun n i => ∃ (k X : Nat), k ≤ l.length ∧ i = .int .i64 k ∧ n = .int .u64 X ∧ X < 18446744073709551616 ∧ Hid (X = mixL h (l.take k))) (fun _ i => l.length - (intOf i).toNat)
  case atStart => exact ⟨0, h, Nat.zero_le _, rfl, rfl, hh, Lib.hid (by rw [List.take_zero, mixL_nil])⟩
  case round =>
    obtain ⟨k, X, hk, rfl, rfl, hX, HG⟩ := hrel
    by_cases hlt : k < l.length
    · obtain ⟨x, rfl, hc⟩ := HA.out k hlt
      have b1 : (l[k].toNat : Int) ≤ 255 := by have := l[k].toNat_lt; omega
      have hb := mix_bits X l[k] hX
      have hxl := xor_lt X l[k].toNat hX (by have := l[k].toNat_lt; omega)
      have HN : Hid (mixN X l[k].toNat = ((X ^^^ l[k].toNat) * 1099511628211) % 18446744073709551616) := Lib.hid rfl
      have HX := Lib.hid (mixN_lt X l[k].toNat)
      generalize X ^^^ l[k].toNat = Y at *
      have hw := mix_wrap Y
      go_wp2
      go_round
      case rel => exact ⟨k + 1, mixN X l[k].toNat, by omega, by go_num, congrArg (Value.int .u64) (by rw [HN.out]; omega), HX.out, Lib.hid (by rw [mixL_snoc h l k hlt, HG.out])⟩
      case measure => simp [intOf]; omega
    · go_wp2
      go_ret
      exact ⟨ret_int (by rw [HG.out, List.take_of_length_le (by omega)]), rfl⟩
end Go.Proofs.YteoadfckcilalaaGreatDoor
namespace Go.Proofs.YteoadfckcilalaaGreatDoor
open Go.RowKit

/-- The hash after a string and its end. -/
def sumN (h : Nat) (s : ByteArray) : Nat := mixN (mixL h s.data.toList) 0
def sumL (l : List ByteArray) : Nat := l.foldl sumN 14695981039346656037
theorem sumN_lt (h : Nat) (s : ByteArray) : sumN h s < 18446744073709551616 := mixN_lt _ _
theorem sumL_nil : sumL [] = 14695981039346656037 := by unfold sumL; rw [List.foldl_nil]
theorem sumL_snoc (l : List ByteArray) (k : Nat) (hk : k < l.length) : sumL (l.take (k + 1)) = sumN (sumL (l.take k)) l[k] := by
  unfold sumL
  rw [List.take_succ_eq_append_getElem hk, List.foldl_append, List.foldl_cons, List.foldl_nil]

theorem refStart_any (w : World) : Calls Tryz.prog 129 #[] w fun e w' => e = .returned (.int .u64 14695981039346656037) ∧ w = w' := by
  go_enter Tryz.func129, Tryz.ntmps129
  go_wp2
  go_ret
  exact ⟨rfl, rfl⟩

/-- The bytes of a string, in a block of their own. -/
theorem bytesIn_new (w : World) (s : ByteArray) (cap : Nat) :
    BytesIn (w.alloc (.cells (bytesRow s cap) 5 ((bytesRow s cap).size, (bytesRow s cap).size + 1))).drew (some ⟨w.heap.size, 0, none⟩) s.data.toList := fun j hj => by
  refine ⟨_, rfl, ?_⟩
  rw [Addr.add_lit, Nat.zero_add]
  exact (bytesAt_new w s cap j hj).1
theorem byteIn_new (w : World) (c : UInt8) (fr : Nat × Nat) : BytesIn (w.alloc (.cells #[.int .u8 (c.toNat : Int)] 5 fr)) (some ⟨w.heap.size, 0, none⟩) [c] := fun j hj => by
  have : j = 0 := by simpa using hj
  subst this
  refine ⟨_, rfl, ?_⟩
  rw [Addr.add_lit, Nat.zero_add, World.cell?_alloc_mark]; rfl

theorem len_toList (s : ByteArray) : s.data.toList.length = s.size := by simp
theorem refWrite_str (h : Nat) (s : ByteArray) (a : Option Addr) (cap : Nat) (w : World) (hh : h < 18446744073709551616) (hs : s.size ≤ maxLen) (ha : BytesIn w a s.data.toList) :
    Calls Tryz.prog 130 #[.int .u64 h, .slice a s.size cap] w fun e w' => e = .returned (.int .u64 (mixL h s.data.toList : Nat)) ∧ w = w' := by
  have := refHashWrite_any h s.data.toList a cap w hh (by rw [len_toList]; exact hs) ha
  rw [len_toList] at this; exact this
theorem refWrite_byte (h : Nat) (c : UInt8) (z : Int) (hz : z = (c.toNat : Int)) (w : World) (fr : Nat × Nat) (hh : h < 18446744073709551616) :
    Calls Tryz.prog 130 #[.int .u64 h, .slice (some ⟨w.heap.size, 0, none⟩) 1 1] (w.alloc (.cells #[.int .u8 z] 5 fr)) fun e w' => e = .returned (.int .u64 (mixN h c.toNat : Nat)) ∧ (w.alloc (.cells #[.int .u8 z] 5 fr)) = w' := by
  subst hz
  have := refHashWrite_any h [c] _ 1 _ hh (show 1 ≤ maxLen by decide) (byteIn_new w c fr)
  rw [mixL_cons, mixL_nil] at this
  exact this

set_option maxHeartbeats 1000000 in
theorem refSum_any (l : List ByteArray) (a : Option Addr) (cap : Nat) (w : World) (hlen : l.length ≤ maxLen) (hz : ∀ s ∈ l, s.size ≤ maxLen) (ha : StrsIn w a l) :
    Calls Tryz.prog 95 #[.slice a l.length cap] w fun e w' => e = .returned (.int .u64 (sumL l : Nat)) ∧ Below w.heap.size w w' := by
  unfold maxLen at hlen
  have HA := Lib.hid ha
  have HZ := Lib.hid hz
  clear ha hz
  have hcv := fun (w : World) (s : ByteArray) => run_bytes_of_string (P := Tryz.prog) w 9 23 5 s Tryz.underlying9 Tryz.underlying23 Tryz.underlying5
  go_enter Tryz.func95, Tryz.ntmps95
  go_wp2_with (go_at_call 129; refine (refStart_any _).mono ?_; rintro e w' ⟨rfl, rfl⟩)
  go_loopw [3, 4] (fun n i wr => ∃ (k X : Nat), k ≤ l.length ∧ i = .int .i64 k ∧ n = .int .u64 X ∧ X < 18446744073709551616 ∧ Hid (X = sumL (l.take k)) ∧ Hid (Below w.heap.size w wr)) (fun _ i _ => l.length - (intOf i).toNat)
  case atStart => exact ⟨0, 14695981039346656037, Nat.zero_le _, rfl, rfl, by decide, Lib.hid (by rw [List.take_zero, sumL_nil]), Lib.hid (Below.refl _ _)⟩
  case round =>
    obtain ⟨k, X, hk, rfl, rfl, hX, HG, HB⟩ := hrel
    by_cases hlt : k < l.length
    · obtain ⟨x, rfl, hc⟩ := HA.out.keep HB.out k hlt
      have hs := HZ.out _ (List.getElem_mem hlt)
      have HS := Lib.hid (sumL_snoc l k hlt)
      generalize l[k] = s at *
      go_wp2_with fail
      have HC := Lib.hid (bytesIn_new wr s (grownCap wr s.size 0 5))
      have HN := Lib.hid (below_trans HB.out (((Below.refl wr.heap.size wr).alloc (Nat.le_refl _) (.cells (bytesRow s (grownCap wr s.size 0 5)) 5 ((bytesRow s (grownCap wr s.size 0 5)).size, (bytesRow s (grownCap wr s.size 0 5)).size + 1))).drew))
      generalize (wr.alloc (.cells (bytesRow s (grownCap wr s.size 0 5)) 5 ((bytesRow s (grownCap wr s.size 0 5)).size, (bytesRow s (grownCap wr s.size 0 5)).size + 1))).drew = W1 at *
      refine (refWrite_str X s _ _ W1 hX hs HC.out).mono ?_
      rintro e w1 ⟨rfl, rfl⟩
      go_wp2_with fail
      refine (refWrite_byte _ 0 0 rfl W1 _ (mixL_lt _ _ hX)).mono ?_
      rintro e w1 ⟨rfl, rfl⟩
      go_wp2_with fail
      go_roundw
      case rel => exact ⟨k + 1, sumN X s, by omega, by go_num, rfl, sumN_lt _ _, Lib.hid (by rw [HS.out, HG.out]), Lib.hid (HN.out.alloc HN.out.size _)⟩
      case measure => simp [intOf]; omega
    · go_wp2
      go_ret
      exact ⟨ret_int (by rw [HG.out, List.take_of_length_le (by omega)]), HB.out⟩
end Go.Proofs.YteoadfckcilalaaGreatDoor
namespace Go.Proofs.YteoadfckcilalaaGreatDoor
open Go.ChangeShapes Go.WideShapes Go.ChangeAt Go.RowKit

theorem IsBytes.keep {w w' : World} {a : Option Addr} {l : List UInt8} {cap : Nat} (h : IsBytes w a l cap) (hb : Below w.heap.size w w') : IsBytes w' a l cap := by
  rcases h with h | ⟨x, h1, h2, h3, h4⟩
  · exact .inl h
  · exact .inr ⟨x, h1, h2, h3, fun j hj => below_cell hb (h4 j hj)⟩

/-- A new slice that is empty and not nil. -/
theorem AccB.empty (w : World) : AccB w (w.alloc (.cells #[] 5)) (.slice (some ⟨w.heap.size, 0, none⟩) 0 0) [] := by
  refine ⟨⟨rfl, .inr ⟨w.heap.size, 0, #[], rfl, Nat.le_refl _, ?_, Nat.le_refl _, Nat.zero_le _, rfl, rfl⟩⟩, (Below.refl _ _).alloc (Nat.le_refl _) _⟩
  show (w.heap.push _)[w.heap.size]? = _
  simp

section
variable {ops : Array Oper} {rest : List Oper} {o : Oper} {act : Act} {Q : Exit → Act → World → Prop}
/-- APPEND of a slice of bytes that is read to a slice of the call's own. -/
theorem wpList_append_accs (w : World) (hgd : o.guard = none) (s x : Operand) (ho : o.op = .call { callee := .builtin .append, args := #[s, x], argTypes := #[23, 23] })
    {w0 : World} {v : Value} {l : List UInt8} (hs : act.eval s = v) (h : AccB w0 w v l) {a : Option Addr} {r : List UInt8} {c : Nat} (hx : act.eval x = .slice a r.length c) (hr : IsBytes w a r c)
    (hn : l.length + r.length ≤ 140737488355328)
    (K : ∀ v' w', AccB w0 w' v' (l ++ r) → wpList Tryz.prog ops Q rest (act.put o.dst v') w') : wpList Tryz.prog ops Q (o :: rest) act w := by
  obtain ⟨i0, hi, hz0, hz1, hz2⟩ := info_parts Tryz.info5
  rcases hr with ⟨rfl, rfl, rfl⟩ | ⟨ad, rfl, hr1, hr2, hr3⟩
  · refine wpList_append_own_none hgd s x 23 ho w0.heap.size 5 i0 1 Tryz.underlying23 hi v l.length (bytesV l) hs h.1 hx (K _ _ ?_)
    rw [List.append_nil]; exact h
  · refine wpList_append_own_at w hgd s x 23 ho w0.heap.size 5 i0 (.int .u8 0) 1 1 Tryz.underlying23 hi hz0 hz1 hz2 rfl (by decide) v l.length (bytesV l) hs h.1 ad r.length c (bytesV r) hx (by rw [bytesV_len, Nat.mul_one]) ?_ ?_ (by unfold maxLen; omega) (by omega) h.2.size ?_
    · intro j u hj
      unfold bytesV at hj
      rw [List.getElem?_map] at hj
      obtain ⟨c', hc', rfl⟩ := Option.map_eq_some_iff.1 hj
      obtain ⟨hlt, rfl⟩ := List.getElem?_eq_some_iff.1 hc'
      exact hr3 j hlt
    · intro u hu
      unfold bytesV at hu
      obtain ⟨c', _, rfl⟩ := List.mem_map.1 hu
      rfl
    · intro v' w' hown hgrow _ _
      refine K v' w' ⟨?_, h.2.grown hgrow h.2.size fun k hk => (World.ownsRow.lt h.1 k hk).1⟩
      rw [List.length_append]
      have e : bytesV (l ++ r) = bytesV l ++ bytesV r := by unfold bytesV; rw [List.map_append]
      rw [e]; exact hown
end

theorem bulk_one {H : Type} (d : DataW H) : 1 ≤ Rows.uptoBulk d := by
  cases d with
  | lit l => cases l <;> simp [Rows.uptoBulk]
  | nil => simp [Rows.uptoBulk]
  | ptr d => simp [Rows.uptoBulk]
  | slice elems spare => simp [Rows.uptoBulk]
  | agg parts => simp [Rows.uptoBulk]
  | iface t d => simp [Rows.uptoBulk]
  | map entries => simp [Rows.uptoBulk]
  | held h => simp [Rows.uptoBulk]
theorem bulk_length {H : Type} : ∀ l : List (DataW H), l.length ≤ Rows.uptoBulkAll l
  | [] => Nat.zero_le _
  | x :: r => by have := bulk_one x; have := bulk_length r; simp only [Rows.uptoBulkAll, List.length_cons]; omega

/-- A slice of bytes among the arguments, and its bulk. -/
theorem open_bytes_bulk {H : Type} {enc : TypeId × Value → H} {W : World} {a : Option Addr} {len cap : Nat} {d : DataW H} {ps : List MemPlace} {base : Nat}
    (h : DataW.Trod enc Tryz.prog W base (fun _ => true) true 23 (.slice a len cap) d ps) : ∃ l : List UInt8, len = l.length ∧ IsBytes W a l cap ∧ l.length ≤ Rows.uptoBulk d := by
  obtain ⟨l, hl, hb⟩ := open_bytes h
  refine ⟨l, hl, hb, ?_⟩
  obtain ⟨fuel, hf⟩ := h
  rcases open_ints Tryz.underlying23 Tryz.underlying5 (by kernel_rfl) hf with ⟨hcs, _⟩ | ⟨x, n, c, zs, hcs, _, hn, hm, hz, hx, _, _⟩
  · simp [Value.cells] at hcs
    omega
  · simp [Value.cells] at hcs
    obtain ⟨rfl, rfl, rfl⟩ := hcs
    have hz' : zs.length = cap := by simpa using hz
    have h1 := bulk_length (lits (H := H) .u8 (zs.take len))
    have h2 : (lits (H := H) .u8 (zs.take len)).length = len := by simp [lits]; omega
    have e := congrArg Prod.fst hx
    simp only at e
    rw [e]
    simp only [Rows.uptoBulk]
    omega
end Go.Proofs.YteoadfckcilalaaGreatDoor
namespace Go.Proofs.YteoadfckcilalaaGreatDoor
open Go.RowKit

def BytesV (w : World) (v : Value) (l : List UInt8) : Prop := ∃ a c, v = .slice a l.length c ∧ IsBytes w a l c
theorem BytesV.keep {w w' : World} {v : Value} {l : List UInt8} (h : BytesV w v l) (hb : Below w.heap.size w w') : BytesV w' v l := by
  obtain ⟨a, c, h1, h2⟩ := h
  exact ⟨a, c, h1, h2.keep hb⟩
theorem AccB.bytesV {w0 w : World} {v : Value} {l : List UInt8} (h : AccB w0 w v l) : BytesV w v l := h.shape
def Spec.bytes (l : List UInt8) : Spec := ⟨fun v w => BytesV w v l, fun _ _ _ h hb => h.keep hb⟩

section
variable {Q : Exit → Act → World → Prop} {a : Act} {w : World} {o : Oper} {s : Spec}
theorem loc_eql_str {x y : Operand} {t : TypeId} (ho : o.op = .binOp .eql 9 x y t) {b : ByteArray} (hx : a.eval x = .string b) (hy : a.eval y = .string b) (hs : s.p (.bool true) w) :
    o.wp Tryz.prog a w (fun a' w' => ∃ v, a' = a.put o.dst v ∧ Below w.heap.size w w' ∧ s.p v w') Q :=
  loc_run (v := .bool true) (by
    unfold execOp
    simp [ho, hx, hy, eqGuard, binOp, Op.stringOp]) (Below.refl _ _) hs
theorem loc_len {x : Operand} (ho : o.op = .call { callee := .builtin .len, args := #[x], argTypes := #[23] }) {ad : Option Addr} {n c : Nat} (hx : a.eval x = .slice ad n c) (hs : s.p (.int .i64 n) w) :
    o.wp Tryz.prog a w (fun a' w' => ∃ v, a' = a.put o.dst v ∧ Below w.heap.size w w' ∧ s.p v w') Q :=
  loc_run (v := .int .i64 n) (by
    unfold execOp
    simp [ho, hx, resolve, invoke, builtin, Builtin.len_, run_underlying Tryz.underlying23]
    try rfl) (Below.refl _ _) hs
theorem loc_string {x : Operand} (ho : o.op = .convert 23 9 x) {l : List UInt8} (h : BytesV w (a.eval x) l) (hs : s.p (.string ⟨l.toArray⟩) w) :
    o.wp Tryz.prog a w (fun a' w' => ∃ v, a' = a.put o.dst v ∧ Below w.heap.size w w' ∧ s.p v w') Q := by
  obtain ⟨ad, c, h1, h2⟩ := h
  refine loc_convert ho ?_ hs
  rw [h1]
  exact conv_bytes h2
end
end Go.Proofs.YteoadfckcilalaaGreatDoor
namespace Go.Proofs.YteoadfckcilalaaGreatDoor
open Go.RowKit

/-- .. with what stays known of the value alone. -/
structure SpecQ extends Spec where
  q : Value → Prop
  weak : ∀ v w, p v w → q v
def SpecQ.val (v : Value) : SpecQ := ⟨.val v, fun x => x = v, fun _ _ h => h⟩
def SpecQ.of (s : Spec) : SpecQ := ⟨s, fun _ => True, fun _ _ _ => trivial⟩

def specAt (S : List (Option SpecQ)) : List Spec := S.map fun | some s => s.toSpec | none => .any
def HoldsW (ops : Array Oper) (S : List (Option SpecQ)) (a : Act) (j : Nat) : Prop :=
  match ops[j]?, S[j]? with
  | some o, some (some s) => (match o.dst with | some d => s.q (a.eval (.tmp d)) | none => True)
  | _, _ => True
/-- One operation that may come behind the store: it sees values alone. -/
def StepW (P : Program) (Q : Exit → Act → World → Prop) (ops : Array Oper) (S : List (Option SpecQ)) (a0 : Act) (o : Oper) (s : SpecQ) : Prop :=
  ∀ a w, Fr ops a0 a → (∀ j, waitsFor o j = true → HoldsW ops S a j) →
    Region.wanted o (yielded ops a.tmps) = true ∧ o.wp P a w (fun a' w' => w' = w ∧ ∃ v, a' = a.put o.dst v ∧ s.q v) Q
def StepsS (P : Program) (Q : Exit → Act → World → Prop) (ops : Array Oper) (S : List (Option SpecQ)) (a0 : Act) (w0 : World) : List Oper → List (Option SpecQ) → Prop
  | o :: os, some s :: ss => StepOK P Q ops (specAt S) a0 w0 o s.toSpec ∧ StepsS P Q ops S a0 w0 os ss
  | _ :: os, none :: ss => StepsS P Q ops S a0 w0 os ss
  | [], [] => True
  | _, _ => False
def LateOK (P : Program) (Q : Exit → Act → World → Prop) (ops : Array Oper) (S : List (Option SpecQ)) (a0 : Act) : List Nat → Prop
  | i :: r => (match ops[i]?, S[i]? with | some o, some (some s) => StepW P Q ops S a0 o s | _, _ => True) ∧ LateOK P Q ops S a0 r
  | [] => True
/-- Whatever is not among the late ones is waited for by the store. -/
def lateB (ops : Array Oper) (st : Nat) (late : List Nat) : Bool :=
  (List.range ops.size).all fun i => decide (i = st) || late.contains i || (match ops[st]? with | some o => waitsFor o i | none => false)
def StoreOK (P : Program) (Q : Exit → Act → World → Prop) (ops : Array Oper) (S : List (Option SpecQ)) (a0 : Act) (w0 : World) (st : Nat) (Post : World → Prop) : Prop :=
  match ops[st]? with
  | some o => o.dst = none ∧ ∀ a w, Below w0.heap.size w0 w → Fr ops a0 a → (∀ j, waitsFor o j = true → Holds ops (specAt S) a w j) → Region.wanted o (yielded ops a.tmps) = true ∧ o.wp P a w (fun a' w' => a' = a ∧ Post w') Q
  | none => False

section
variable {P : Program} {Q : Exit → Act → World → Prop} {ops : Array Oper} {S : List (Option SpecQ)} {a0 : Act} {w0 : World}
theorem stepsS_at : ∀ {os : List Oper} {ss : List (Option SpecQ)}, StepsS P Q ops S a0 w0 os ss → ∀ (i : Nat) (o : Oper), os[i]? = some o → ∃ s, ss[i]? = some s ∧ ∀ s', s = some s' → StepOK P Q ops (specAt S) a0 w0 o s'.toSpec
  | o :: os, some s :: ss, h, 0, _, rfl => ⟨some s, rfl, fun s' e => by obtain rfl := Option.some.inj e; exact h.1⟩
  | o :: os, some s :: ss, h, i + 1, o', ho => stepsS_at (os := os) (ss := ss) h.2 i o' ho
  | o :: os, none :: ss, h, 0, _, rfl => ⟨none, rfl, fun s' e => by cases e⟩
  | o :: os, none :: ss, h, i + 1, o', ho => stepsS_at (os := os) (ss := ss) h i o' ho
  | [], _, _, i, _, ho => by simp at ho
theorem lateOK_at : ∀ {late : List Nat}, LateOK P Q ops S a0 late → ∀ i, i ∈ late → ∀ o s, ops[i]? = some o → S[i]? = some (some s) → StepW P Q ops S a0 o s
  | k :: r, h, i, hi, o, s, ho, hs => by
    rcases List.mem_cons.1 hi with rfl | hi
    · have := h.1; simp only [ho, hs] at this; exact this
    · exact lateOK_at h.2 i hi o s ho hs
theorem specAt_get {j : Nat} {s : SpecQ} (h : S[j]? = some (some s)) : (specAt S)[j]? = some s.toSpec := by unfold specAt; rw [List.getElem?_map, h]; rfl
theorem holds_weak {a : Act} {w : World} {j : Nat} (h : Holds ops (specAt S) a w j) : HoldsW ops S a j := by
  unfold HoldsW
  split
  · rename_i o s ho hs
    unfold Holds at h
    rw [ho, specAt_get hs] at h
    cases hd : o.dst with
    | none => trivial
    | some d => simp only [hd] at h; exact s.weak _ _ h
  · trivial
theorem fr_put {a : Act} {o : Oper} {i : Nat} (ho : ops[i]? = some o) (hf : Fr ops a0 a) (v : Value) : Fr ops a0 (a.put o.dst v) := by
  refine ⟨?_, ?_, fun k hk => ?_⟩
  · have := hf.defers
    cases o.dst <;> simpa [Act.put] using this
  · have := hf.size
    cases o.dst <;> simpa [Act.put] using this
  · rw [eval_put_other, hf.base k hk]
    intro hk2
    have : isDst ops k = true := by
      unfold isDst
      exact List.any_eq_true.2 ⟨o, Array.mem_toList_iff.2 (Array.mem_of_getElem? ho), by rw [hk2]; simp⟩
    rw [hk] at this; cases this
theorem holds_put {a : Act} {o : Oper} {i j : Nat} {w : World} {T : List Spec} (hd : dstsOk ops a0.tmps.size = true) (ho : ops[i]? = some o) (hji : j ≠ i) {v : Value} (h : Holds ops T a w j) : Holds ops T (a.put o.dst v) w j := by
  unfold Holds at *
  cases hoj : ops[j]? with
  | none => simp
  | some o' =>
    cases hsj : T[j]? with
    | none => simp
    | some s' =>
      simp only [hoj, hsj] at h ⊢
      cases hdo : o'.dst with
      | none => trivial
      | some d =>
        simp only [hdo] at h ⊢
        show s'.p ((a.put o.dst v).eval (.tmp d)) w
        rw [eval_put_other]
        · exact h
        · intro e
          exact (dsts_lt hd ho e).2 j o' hoj hji hdo
theorem holdsW_put {a : Act} {o : Oper} {i j : Nat} (hd : dstsOk ops a0.tmps.size = true) (ho : ops[i]? = some o) (hji : j ≠ i) {v : Value} (h : HoldsW ops S a j) : HoldsW ops S (a.put o.dst v) j := by
  unfold HoldsW at *
  cases hoj : ops[j]? with
  | none => simp
  | some o' =>
    cases hsj : S[j]? with
    | none => simp
    | some s' =>
      cases s' with
      | none => simp
      | some s' =>
        simp only [hoj, hsj] at h ⊢
        cases hdo : o'.dst with
        | none => trivial
        | some d =>
          simp only [hdo] at h ⊢
          show s'.q ((a.put o.dst v).eval (.tmp d))
          rw [eval_put_other]
          · exact h
          · intro e
            exact (dsts_lt hd ho e).2 j o' hoj hji hdo
theorem wp_region_store {id : Nat} (S : List (Option SpecQ)) (st : Nat) (late : List Nat) (Post : World → Prop) (hm : P.follows .mixedOrders = true)
    (hB : (List.range ops.size).all (fun i => match ops[i]? with | some x => x.after.all (fun e => !Region.binds .any e || decide (e.on < i)) | none => true) = true)
    (hd : dstsOk ops a0.tmps.size = true) (hl : lateB ops st late = true) (hst : S[st]? = some none) (hlen : S.length = ops.size) (hone : (List.range S.length).all (fun i => decide (i = st) || (match S[i]? with | some (some _) => true | _ => false)) = true)
    (h : StepsS P Q ops S a0 w0 ops.toList S) (hL : LateOK P Q ops S a0 late) (hS : StoreOK P Q ops S a0 w0 st Post)
    (hQ : ∀ a w, Post w → Fr ops a0 a → (∀ j, j < ops.size → HoldsW ops S a j) → Q .normal a w) : (Code.region id ops true).wp P Q a0 w0 := by
  have hstlt : st < ops.size := by rw [← hlen]; exact (List.getElem?_eq_some_iff.1 hst).1
  have hosto : ops[st]? = some ops[st] := Array.getElem?_eq_getElem hstlt
  unfold StoreOK at hS
  rw [hosto] at hS
  simp only at hS
  refine wp_region_inv hm (fun m a w => Fr ops a0 a ∧ ((m.getD st false = false ∧ Below w0.heap.size w0 w ∧ ∀ j, m.getD j false = true → Holds ops (specAt S) a w j) ∨
    (m.getD st false = true ∧ Post w ∧ (∀ j, m.getD j false = true → HoldsW ops S a j) ∧ ∀ j, waitsFor ops[st] j = true → m.getD j false = true))) ?_ ?_ ?_
  · rintro m a w hs ⟨hf, hh⟩ i hi
    obtain ⟨h1, o, ho, hall⟩ := mem_ready.1 hi
    have hil : i < ops.size := (Array.getElem?_eq_some_iff.1 ho).1
    have hmi : m.getD i false = false := by
      have hs' : i < m.size := by rw [hs]; exact hil
      simp [hs'] at h1 ⊢; exact h1
    have hdeps : ∀ j, waitsFor o j = true → m.getD j false = true := fun j hj => by
      obtain ⟨e, he, h2⟩ := List.any_eq_true.1 hj
      simp only [Bool.and_eq_true, beq_iff_eq] at h2
      obtain ⟨h3, rfl⟩ := h2
      exact hall e (Array.mem_toList_iff.1 he) h3
    unfold wpOp
    simp only [ho]
    by_cases hist : i = st
    · subst hist
      have hoe : o = ops[i] := Option.some.inj (ho.symm.trans hosto)
      subst hoe
      rcases hh with ⟨_, hb, hh⟩ | ⟨h2, _⟩
      · obtain ⟨hdn, hS⟩ := hS
        obtain ⟨hw, hwp⟩ := hS a w hb hf fun j hj => hh j (hdeps j hj)
        rw [if_pos hw]
        refine .inl (Oper.wp_mono ?_ hwp)
        rintro a' w' ⟨rfl, hp⟩
        have hsz : i < m.size := by rw [hs]; exact hil
        refine ⟨hf, .inr ⟨by simp [hsz], hp, fun j hj => ?_, fun j hj => getD_set_true (hdeps j hj)⟩⟩
        by_cases hji : j = i
        · subst hji
          unfold HoldsW
          rw [hosto, hst]; trivial
        · rw [getD_set_ne false (fun e => hji e.symm)] at hj
          exact holds_weak (hh j hj)
      · rw [hmi] at h2; cases h2
    · have hsi : ∃ s, S[i]? = some (some s) := by
        have := List.all_eq_true.1 hone i (List.mem_range.2 (by rw [hlen]; exact hil))
        cases hq : S[i]? with
        | none => rw [hq] at this; simp [hist] at this
        | some x =>
          cases x with
          | none => rw [hq] at this; simp [hist] at this
          | some s => exact ⟨s, rfl⟩
      obtain ⟨s, hsi⟩ := hsi
      rcases hh with ⟨h2, hb, hh⟩ | ⟨h2, hp, hh, hall2⟩
      · obtain ⟨s', hs', hstep⟩ := stepsS_at h i o (by simpa using ho)
        obtain rfl : s' = some s := Option.some.inj (hs'.symm.trans hsi)
        obtain ⟨hw, hwp⟩ := hstep s rfl a w hb hf fun j hj => hh j (hdeps j hj)
        rw [if_pos hw]
        refine .inl (Oper.wp_mono ?_ hwp)
        rintro a' w' ⟨v, rfl, hb', hsp⟩
        refine ⟨fr_put ho hf v, .inl ⟨by rw [getD_set_ne false hist]; exact h2, hb.trans (hb'.mono hb.size), fun j hj => ?_⟩⟩
        by_cases hji : j = i
        · subst hji
          unfold Holds
          simp only [ho, specAt_get hsi]
          cases hdo : o.dst with
          | none => trivial
          | some d =>
            show s.p ((a.put (some d) v).eval (.tmp d)) w'
            rw [eval_put_same]
            · exact hsp
            · rw [hf.size]; exact (dsts_lt hd ho hdo).1
        · have hj' : m.getD j false = true := by rw [getD_set_ne false (fun e => hji e.symm)] at hj; exact hj
          exact holds_put hd ho hji (holds_mono (hh j hj') hb')
      · have hlate : i ∈ late := by
          have := List.all_eq_true.1 hl i (List.mem_range.2 hil)
          rw [hosto] at this
          simp only [Bool.or_eq_true, decide_eq_true_eq, List.contains_iff_mem] at this
          rcases this with (h3 | h3) | h3
          · exact absurd h3 hist
          · exact h3
          · have := hall2 i h3; rw [hmi] at this; cases this
        obtain ⟨hw, hwp⟩ := lateOK_at hL i hlate o s ho hsi a w hf fun j hj => hh j (hdeps j hj)
        rw [if_pos hw]
        refine .inl (Oper.wp_mono ?_ hwp)
        rintro a' w' ⟨rfl, v, rfl, hq⟩
        refine ⟨fr_put ho hf v, .inr ⟨getD_set_true h2, hp, fun j hj => ?_, fun j hj => getD_set_true (hall2 j hj)⟩⟩
        by_cases hji : j = i
        · subst hji
          unfold HoldsW
          simp only [ho, hsi]
          cases hdo : o.dst with
          | none => trivial
          | some d =>
            show s.q ((a.put (some d) v).eval (.tmp d))
            rw [eval_put_same]
            · exact hq
            · rw [hf.size]; exact (dsts_lt hd ho hdo).1
        · have hj' : m.getD j false = true := by rw [getD_set_ne false (fun e => hji e.symm)] at hj; exact hj
          exact holdsW_put hd ho hji (hh j hj')
  · rintro m a w hs ⟨hf, hh⟩ hr
    have hmarked : ∀ j, j < ops.size → m.getD j false = true := fun j => by
      induction j using Nat.strongRecOn with
      | _ j ih =>
        intro hj
        cases hmj : m.getD j false with
        | true => rfl
        | false =>
          exfalso
          have hoj : ops[j]? = some ops[j] := Array.getElem?_eq_getElem hj
          have hbk := List.all_eq_true.1 hB j (List.mem_range.2 hj)
          rw [hoj] at hbk
          simp only [Array.all_eq_true_iff_forall_mem, Bool.or_eq_true, Bool.not_eq_true', decide_eq_true_eq] at hbk
          have hlt : ∀ e ∈ ops[j].after, Region.binds .any e = true → e.on < j := fun e he hbd => by
            rcases hbk e he with h | h
            · rw [hbd] at h; cases h
            · exact h
          have : j ∈ Region.ready .any ops m := mem_ready.2 ⟨by
            have hs' : j < m.size := by rw [hs]; exact hj
            simp [hs'] at hmj ⊢; exact hmj, ops[j], hoj, fun e he hbd => ih _ (hlt e he hbd) (by have := hlt e he hbd; omega)⟩
          rw [hr] at this; cases this
    rcases hh with ⟨h2, _⟩ | ⟨_, hp, hh, _⟩
    · rw [hmarked st hstlt] at h2; cases h2
    · exact hQ a w hp hf fun j hj => hh j (hmarked j hj)
  · refine ⟨⟨rfl, rfl, fun _ _ => rfl⟩, .inl ⟨?_, (Below.refl _ _).drew, fun j hj => ?_⟩⟩
    · simp only [Array.getD_eq_getD_getElem?, Array.getElem?_replicate]; split <;> rfl
    · exfalso
      simp only [Array.getD_eq_getD_getElem?, Array.getElem?_replicate] at hj
      split at hj <;> simp at hj
end

section
variable {P : Program} {Q : Exit → Act → World → Prop} {ops : Array Oper} {a : Act} {w : World} {o : Oper} {s : SpecQ}
theorem late_run {v : Value} (h : (execOp a.eval o).run P w = .ok (.value v) w) (hs : s.q v) : o.wp P a w (fun a' w' => w' = w ∧ ∃ v, a' = a.put o.dst v ∧ s.q v) Q := by
  unfold Oper.wp
  rw [h]
  exact ⟨rfl, v, rfl, hs⟩
theorem late_assign {x : Operand} (ho : o.op = .assign x) (hs : s.q (a.eval x)) : o.wp P a w (fun a' w' => w' = w ∧ ∃ v, a' = a.put o.dst v ∧ s.q v) Q :=
  late_run (by unfold execOp; rw [ho]; rfl) hs
end
end Go.Proofs.YteoadfckcilalaaGreatDoor
namespace Go.Proofs.YteoadfckcilalaaGreatDoor

/-- A fact that no tactic looks into (Hid is a definition, which some unfold). -/
structure Box (p : Prop) : Prop where
  out : p
/-- A word as an integer: of its bounds nothing is to be seen. -/
def vU (x : UInt32) : Int := (x.toNat : Int)
def vW (x : UInt32) : Value := .int .u32 (vU x)
structure St where
  (a b c d e f g h : UInt32)
def St.cells (s : St) : Array Value := #[vW s.a, vW s.b, vW s.c, vW s.d, vW s.e, vW s.f, vW s.g, vW s.h]
def St.add (s t : St) : St := ⟨s.a + t.a, s.b + t.b, s.c + t.c, s.d + t.d, s.e + t.e, s.f + t.f, s.g + t.g, s.h + t.h⟩

/-- Four bytes as a word, the first one the greatest. -/
def w4 (l : List UInt8) : UInt32 := l.foldl (fun x c => (x <<< 8) ||| c.toUInt32) 0
end Go.Proofs.YteoadfckcilalaaGreatDoor
namespace Go.Proofs.YteoadfckcilalaaGreatDoor
open Go.RowKit

theorem below_oneF (w : World) (o : Obj) : Below w.heap.size w (w.alloc o) := (Below.refl _ _).alloc (Nat.le_refl _) _
/-- Whether a field is valid. -/
def fldB (n v : ByteArray) : Bool := tokS n && valS v
theorem fldB_tok {n v : ByteArray} (h : tokS n = false) : fldB n v = false := by unfold fldB; rw [h]; rfl
theorem fldB_val {n v : ByteArray} (h : tokS n = true) : fldB n v = valS v := by unfold fldB; rw [h]; rfl

set_option maxHeartbeats 1000000 in
theorem hdrValid_any (n v : ByteArray) (w : World) (hn : n.size ≤ maxLen) (hv : v.size ≤ maxLen) :
    Calls Tryz.prog 131 #[.agg #[.string n, .string v]] w fun e w' => e = .returned (.bool (fldB n v)) ∧ Below w.heap.size w w' := by
  go_enter Tryz.func131, Tryz.ntmps131
  by_cases ht : tokS n = true
  · have HT := Box.mk ht
    go_wp2_with fail
    refine (token_any n _ hn).mono ?_
    rintro e w1 ⟨rfl, rfl⟩
    go_wp2_with fail
    refine (value_any v _ hv).mono ?_
    rintro e w1 ⟨rfl, hb⟩
    clear ht
    go_wp2_with fail
    go_ret
    exact ⟨ret_bool (fldB_val HT.out).symm, below_trans (below_oneF _ _) hb⟩
  · have ht' : tokS n = false := by simpa using ht
    have HT := Box.mk ht'
    clear ht
    go_wp2_with fail
    refine (token_any n _ hn).mono ?_
    rintro e w1 ⟨rfl, rfl⟩
    go_wp2_with fail
    go_ret
    exact ⟨ret_bool (fldB_tok HT.out).symm, below_oneF _ _⟩

set_option maxHeartbeats 1000000 in
theorem refFieldValid_any (n v : ByteArray) (w : World) (hn : n.size ≤ maxLen) (hv : v.size ≤ maxLen) :
    Calls Tryz.prog 102 #[.agg #[.string n, .string v]] w fun e w' => e = .returned (.bool (fldB n v)) ∧ Below w.heap.size w w' := by
  go_enter Tryz.func102, Tryz.ntmps102
  by_cases ht : tokS n = true
  · have HT := Box.mk ht
    go_wp2_with fail
    refine (refToken_any n _ hn).mono ?_
    rintro e w1 ⟨rfl, rfl⟩
    go_wp2_with fail
    refine (refValue_any v _ hv).mono ?_
    rintro e w1 ⟨rfl, rfl⟩
    clear ht
    go_wp2_with fail
    go_ret
    exact ⟨ret_bool (fldB_val HT.out).symm, below_oneF _ _⟩
  · have ht' : tokS n = false := by simpa using ht
    have HT := Box.mk ht'
    clear ht
    go_wp2_with fail
    refine (refToken_any n _ hn).mono ?_
    rintro e w1 ⟨rfl, rfl⟩
    go_wp2_with fail
    go_ret
    exact ⟨ret_bool (fldB_tok HT.out).symm, below_oneF _ _⟩

set_option maxHeartbeats 1000000 in
theorem hdrLine_any (n v : ByteArray) (w : World) (hn : n.size ≤ 1000000000) (hv : v.size ≤ 1000000000) :
    Calls Tryz.prog 133 #[.agg #[.string n, .string v]] w fun e w' => e = .returned (.string (n ++ ⟨#[58, 32]⟩ ++ v ++ ⟨#[13, 10]⟩)) ∧ Below w.heap.size w w' := by
  have h1 : (n ++ ⟨#[58, 32]⟩).size = n.size + 2 := by rw [ByteArray.size_append]; rfl
  have h2 : (n ++ ⟨#[58, 32]⟩ ++ v).size = n.size + 2 + v.size := by rw [ByteArray.size_append, h1]
  go_enter Tryz.func133, Tryz.ntmps133
  go_wp2_with fail
  go_ret
  exact ⟨rfl, below_oneF _ _⟩
end Go.Proofs.YteoadfckcilalaaGreatDoor
namespace Go.Proofs.YteoadfckcilalaaGreatDoor
open Go.RowKit
open Go.Maps (Keyed string_keyed)

theorem keyedF : Keyed Tryz.prog 9 := string_keyed Tryz.underlying9
theorem zeroBF (w : World) : (zeroValue 4).run Tryz.prog w = .ok (.bool false) w := by kernel_rfl
/-- Whether a string is among these. -/
def inS (s : ByteArray) (S : List ByteArray) : Bool := S.any fun x => x.toList == s.toList
/-- Block b is a map of at most n entries, which has just the strings S, all with true. -/
def SetIn (w : World) (b n : Nat) (S : List ByteArray) : Prop :=
  ∃ D : DataW Unit, w.ownsMap Tryz.prog 9 (plainElem Tryz.prog 4) b n D ∧ ∀ s : ByteArray, D.atKey (.string s.data.toList) (.lit (.bool false)) = .lit (.bool (inS s S))
theorem SetIn.keep {w w' : World} {b n : Nat} {S : List ByteArray} (h : SetIn w b n S) (hb : Below w.heap.size w w') : SetIn w' b n S := by
  obtain ⟨D, h1, h2⟩ := h
  have hlt := h1.lt
  obtain ⟨es, clock, hbk, F, hs, hD⟩ := h1
  exact ⟨D, ⟨es, clock, by rw [hb.block b hlt]; exact hbk, F, hs, hD⟩, h2⟩
theorem SetIn.lt {w : World} {b n : Nat} {S : List ByteArray} (h : SetIn w b n S) : b < w.heap.size := by
  obtain ⟨D, h1, _⟩ := h; exact h1.lt
theorem SetIn.made (w : World) : SetIn (w.alloc (.map #[] 0)) w.heap.size 0 [] :=
  ⟨.map [], World.ownsMap_made _ _ _ _, fun s => by simp [DataW.atKey, inS]⟩

section
variable {ops : Array Oper} {rest : List Oper} {o : Oper} {act : Act} {Q : Exit → Act → World → Prop}
set_option maxRecDepth 100000 in
theorem SetIn.run {w : World} {b n : Nat} {S : List ByteArray} (h : SetIn w b n S) (s : ByteArray) (hs : s.size ≤ maxLen) :
    (Instr.lookup 208 (.map (some b)) (.string s) false).run Tryz.prog w = .ok (.bool (inS s S)) w := by
  obtain ⟨D, h1, h2⟩ := h
  obtain ⟨v, ps, hrun, hv⟩ := h1.lookup (t := 208) (e := 4) keyedF Tryz.underlying208 (zeroBF w) (plainElem_bool Tryz.underlying4 false) (key := .string s) (kl := .string s.data.toList) (WideMaps.keyOf_string_mk Tryz.underlying9 hs)
  rw [h2 s] at hv
  have : v = .bool (inS s S) := by
    unfold plainElem at hv
    rw [Tryz.underlying4] at hv
    generalize inS s S = r at *
    cases v <;> simp at hv
    rw [hv.1]
  rw [hrun, this]
theorem wpList_update_set (w : World) (hg : o.guard = none) (m x : Operand) (hop : o.op = Op.mapUpdate 208 m x (.const (.bool true))) {b n : Nat} {S : List ByteArray} {s : ByteArray}
    (hm : act.eval m = .map (some b)) (hS : SetIn w b n S) (hn : n < maxLen) (hx : act.eval x = .string s) (hs : s.size ≤ maxLen)
    (hK : ∀ w', SetIn w' b (n + 1) (S ++ [s]) → w.grownBy w' (some b) → wpList Tryz.prog ops Q rest (act.put o.dst undef) w') : wpList Tryz.prog ops Q (o :: rest) act w := by
  obtain ⟨D, h1, h2⟩ := hS
  refine wpList_mapUpdate_own w hg m x (.const (.bool true)) 208 hop 9 4 keyedF Tryz.underlying208 _ b n D hm h1 hn (.string s) (.bool true) (.string s.data.toList) hx rfl (WideMaps.keyOf_string_mk Tryz.underlying9 hs)
    (.lit (.bool true)) [] (plainElem_bool Tryz.underlying4 true) ?_
  intro w' h3 h4
  refine hK w' ⟨_, h3, fun s' => ?_⟩ h4
  by_cases he : s' = s
  · subst he
    rw [Maps.atKey_put_same (h1.isMap) (show WideAt.IsKeyLit (.string s'.data.toList) from trivial)]
    simp [inS]
  · rw [Maps.atKey_put_other (fun e => he (ba_ext (by injection e)))]
    rw [h2 s']
    have : (s.toList == s'.toList) = false := by rw [toList_eq]; simp; exact fun e => he e.symm
    simp [inS, this]
end

theorem lowS_sizeF (s : ByteArray) : (lowS s).size = s.size := by
  show (lowS s).data.size = s.data.size
  simp [lowS]
def RetSet (w : World) (S : List ByteArray) (e : Ending) (w' : World) : Prop :=
  ∃ b n, e = .returned (.map (some b)) ∧ SetIn w' b n S ∧ Below w.heap.size w w'

set_option maxRecDepth 100000 in
set_option maxHeartbeats 1000000 in
theorem setOf_any (l : List ByteArray) (a : Option Addr) (cap : Nat) (w : World) (h : StrsIn w a l) (hz : ∀ s ∈ l, s.size ≤ maxLen) (hl : l.length ≤ 140737488355328) :
    Calls Tryz.prog 192 #[.slice a l.length cap] w (RetSet w (l.map lowS)) := by
  have H0 := Box.mk h
  have HZ := Box.mk hz
  clear h hz
  have hmm := @run_makeMap Tryz.prog
  go_enter Tryz.func192, Tryz.ntmps192
  go_wp2_with fail
  obtain ⟨W, hW⟩ : ∃ W, W = w.alloc (.map #[] 0) := ⟨_, rfl⟩
  have HS := Box.mk (SetIn.made w)
  have HB := Box.mk (below_oneF w (.map #[] 0))
  rw [← hW] at HS HB ⊢
  clear hW
  generalize hb : w.heap.size = b at HS ⊢
  have HBS := Box.mk hb
  clear hb
  go_loopw [9] (fun iv wr => ∃ k : Nat, k ≤ l.length ∧ iv = .int .i64 k ∧ Box (SetIn wr b k ((l.take k).map lowS) ∧ Below w.heap.size w wr)) (fun iv _ => l.length - (intOf iv).toNat)
  case atStart => exact ⟨0, Nat.zero_le _, rfl, ⟨by simpa using HS.out, HB.out⟩⟩
  case round =>
    clear HS HB
    obtain ⟨k, hk, rfl, HM⟩ := hrel
    by_cases hlt : k < l.length
    · obtain ⟨x, rfl, hx⟩ := (H0.out.keep HM.out.2) k hlt
      have HT := Box.mk (show (l.take (k + 1)).map lowS = (l.take k).map lowS ++ [lowS l[k]] by rw [List.take_succ_eq_append_getElem hlt, List.map_append]; rfl)
      have HSZ := Box.mk (HZ.out _ (List.getElem_mem hlt))
      generalize l[k] = s at *
      go_wp2_with fail
      refine (lower_any s _ HSZ.out).mono ?_
      rintro e w1 ⟨rfl, hb1⟩
      have HS1 := Box.mk (HM.out.1.keep hb1)
      have HB1 := Box.mk (below_trans HM.out.2 hb1)
      have HLZ := Box.mk (show (lowS s).size ≤ maxLen by rw [lowS_sizeF]; exact HSZ.out)
      clear hb1
      go_wp2_with (at_mapUpdate; refine wpList_update_set _ rfl _ _ rfl rfl HS1.out (by unfold maxLen; omega) rfl HLZ.out ?c1)
      case c1 =>
        intro w2 hs2 hg2
        have HM2 := Box.mk (show SetIn w2 b (k + 1) ((l.take (k + 1)).map lowS) ∧ Below w.heap.size w w2 from ⟨by rw [HT.out, List.map_take]; exact hs2, HB1.out.grown hg2 HB1.out.size (fun j hj => by injection hj with hj; have := HBS.out; omega)⟩)
        clear hs2 hg2 HS1 HB1 HT
        go_wp2_with fail
        go_roundw
        case rel => exact ⟨k + 1, by omega, by go_num, HM2⟩
        case measure => simp [intOf]; omega
    · have HE := Box.mk (show SetIn wr b k (l.map lowS) by have := HM.out.1; rw [List.take_of_length_le (by omega)] at this; exact this)
      go_wp2_with fail
      go_ret
      exact ⟨b, k, rfl, HE.out, HM.out.2⟩

set_option maxHeartbeats 1000000 in
theorem hdrIn_any (n v : ByteArray) (b m : Nat) (S : List ByteArray) (w : World) (h : SetIn w b m S) (hn : n.size ≤ maxLen) :
    Calls Tryz.prog 193 #[.agg #[.string n, .string v], .map (some b)] w fun e w' => e = .returned (.bool (inS (lowS n) S)) ∧ Below w.heap.size w w' := by
  have H0 := Box.mk (h.keep (below_oneF w (.cells #[.string n, .string v] 161)))
  clear h
  go_enter Tryz.func193, Tryz.ntmps193
  go_wp2_with fail
  refine (lower_any n _ hn).mono ?_
  rintro e w1 ⟨rfl, hb⟩
  have hrun := (H0.out.keep hb).run (lowS n) (by rw [lowS_sizeF]; exact hn)
  have HB := Box.mk (below_trans (below_oneF w (.cells #[.string n, .string v] 161)) hb)
  clear hb
  generalize hr : inS (lowS n) S = r at *
  have HR := Box.mk hr
  clear hr
  go_wp2_with fail
  go_ret
  exact ⟨ret_bool HR.out.symm, HB.out⟩
end Go.Proofs.YteoadfckcilalaaGreatDoor
namespace Go.Proofs.YteoadfckcilalaaGreatDoor
open Go.ChangeShapes Go.WideShapes Go.ChangeAt Go.RowKit

abbrev Fld := ByteArray × ByteArray
/-- The cells of fields. -/
def cellsF (l : List Fld) : List Value := l.flatMap fun f => [.string f.1, .string f.2]
theorem cellsF_len (l : List Fld) : (cellsF l).length = l.length * 2 := by
  induction l with
  | nil => rfl
  | cons a t ih =>
    have : cellsF (a :: t) = .string a.1 :: .string a.2 :: cellsF t := rfl
    rw [this]; simp only [List.length_cons, ih]; omega
theorem cellsF_app (a b : List Fld) : cellsF (a ++ b) = cellsF a ++ cellsF b := by unfold cellsF; rw [List.flatMap_append]
theorem cellsF_get : ∀ (l : List Fld) (j : Nat) (hj : j < l.length), (cellsF l)[j * 2]? = some (.string l[j].1) ∧ (cellsF l)[j * 2 + 1]? = some (.string l[j].2)
  | a :: t, 0, _ => ⟨rfl, rfl⟩
  | a :: t, j + 1, hj => by
    have ih := cellsF_get t j (by simpa using hj)
    have e : cellsF (a :: t) = .string a.1 :: .string a.2 :: cellsF t := rfl
    rw [e, show (j + 1) * 2 = j * 2 + 1 + 1 by omega, show j * 2 + 1 + 1 + 1 = (j * 2 + 1) + 1 + 1 by omega]
    simpa using ih
theorem cellsF_one (l : List Fld) : ∀ u ∈ cellsF l, u.oneCell' = true := by
  intro u hu
  unfold cellsF at hu
  obtain ⟨f, _, hf⟩ := List.mem_flatMap.1 hu
  simp at hf
  rcases hf with rfl | rfl <;> rfl

theorem cell_next {w : World} {x : Addr} {i : Nat} {v : Value} (h : w.cell? (x.add (i + 1)) = some v) : w.cell? ⟨(x.add i).block, (x.add i).off + 1, none⟩ = some v := by
  rw [← Go.Deep.add_add] at h
  rw [← h]; rfl
/-- The slice at a holds the fields l. -/
def FldsIn (w : World) (a : Option Addr) (l : List Fld) : Prop :=
  ∀ j (hj : j < l.length), ∃ x, a = some x ∧ w.cell? (x.add (j * 2)) = some (.string l[j].1) ∧ w.cell? (x.add (j * 2 + 1)) = some (.string l[j].2)
theorem FldsIn.keep {w w' : World} {a : Option Addr} {l : List Fld} (h : FldsIn w a l) (hb : Below w.heap.size w w') : FldsIn w' a l := fun j hj => by
  obtain ⟨x, e, h1, h2⟩ := h j hj
  exact ⟨x, e, below_cell hb h1, below_cell hb h2⟩
theorem FldsIn.nil (w : World) (a : Option Addr) : FldsIn w a [] := fun _ hj => absurd hj (Nat.not_lt_zero _)
theorem FldsIn.take {w : World} {a : Option Addr} {l : List Fld} (h : FldsIn w a l) (k : Nat) : FldsIn w a (l.take k) := fun j hj => by
  have hj' : j < l.length := by rw [List.length_take] at hj; omega
  obtain ⟨x, e, h1, h2⟩ := h j hj'
  exact ⟨x, e, by rw [List.getElem_take]; exact h1, by rw [List.getElem_take]; exact h2⟩
theorem FldsIn.cells {w : World} {x : Addr} {l : List Fld} (h : FldsIn w (some x) l) : ∀ j u, (cellsF l)[j]? = some u → w.cell? (x.add j) = some u := fun j u hj => by
  have hlt : j < l.length * 2 := by rw [← cellsF_len]; exact (List.getElem?_eq_some_iff.1 hj).1
  have hk : j / 2 < l.length := by omega
  obtain ⟨y, e, h1, h2⟩ := h (j / 2) hk
  obtain rfl := Option.some.inj e
  obtain ⟨g1, g2⟩ := cellsF_get l (j / 2) hk
  rcases Nat.mod_two_eq_zero_or_one j with hm | hm
  · have : j / 2 * 2 = j := by omega
    rw [this] at h1 g1
    rw [hj] at g1; rw [h1, ← g1]
  · have : j / 2 * 2 + 1 = j := by omega
    rw [this] at h2 g2
    rw [hj] at g2; rw [h2, ← g2]
theorem FldsIn.of_cells {w : World} {x : Addr} {l : List Fld} (h : ∀ j u, (cellsF l)[j]? = some u → w.cell? (x.add j) = some u) : FldsIn w (some x) l := fun j hj =>
  ⟨x, rfl, h _ _ (cellsF_get l j hj).1, h _ _ (cellsF_get l j hj).2⟩

theorem run_loadF (w : World) (p : Addr) (n v : ByteArray) (h0 : w.cell? p = some (.string n)) (h1 : w.cell? (p.add 1) = some (.string v)) :
    (Instr.loadAt 88 (.pointer (some p))).run Tryz.prog w = .ok (.agg #[.string n, .string v]) w := by
  have hl : (loadCells p 2).run Tryz.prog w = .ok #[.string n, .string v] w :=
    run_loadCells_list (P := Tryz.prog) w p [.string n, .string v] (fun j u hj => by
      match j, hj with
      | 0, hj => simp at hj; subst hj; rw [show p.add 0 = p by unfold Addr.add; split <;> simp_all]; exact h0
      | 1, hj => simp at hj; subst hj; exact h1
      | j + 2, hj => simp at hj)
  have hagg : (isAgg 88).run Tryz.prog w = .ok true w := by
    unfold isAgg
    rw [Sem.run_bind, run_underlying Tryz.underlying88 w]; rfl
  have hs : ((Tryz.prog.info? 88).map (·.size)) = some 2 := by kernel_rfl
  cases hq : Tryz.prog.info? 88 with
  | none => rw [hq] at hs; cases hs
  | some i =>
    have hs' : i.size = 2 := by rw [hq] at hs; simpa using hs
    simp [Instr.loadAt, Instr.sureAddr, loadVar, Sem.run_bind, hagg, sizeOf, typeInfo, hq, hs', hl]
theorem FldsIn.load {w : World} {x : Addr} {l : List Fld} (h : FldsIn w (some x) l) {j : Nat} (hj : j < l.length) :
    (Instr.loadAt 88 (.pointer (some (x.add (j * 2))))).run Tryz.prog w = .ok (.agg #[.string l[j].1, .string l[j].2]) w := by
  obtain ⟨y, e, h1, h2⟩ := h j hj
  obtain rfl := Option.some.inj e
  exact run_loadF w _ _ _ h1 (by rw [Go.Deep.add_add]; exact h2)

theorem Tryz.info88 : (Tryz.prog.info? 88).map (fun i => (i.zero, i.size, i.bytes)) = some (some (.agg #[.string ⟨#[]⟩, .string ⟨#[]⟩]), 2, 32) := by kernel_rfl
/-- v is a slice of the call's own with the fields l; what was there before the call is as it was. -/
def AccF (w0 w : World) (v : Value) (l : List Fld) : Prop :=
  w.ownsRow w0.heap.size 88 2 v l.length (cellsF l) ∧ Below w0.heap.size w0 w
theorem AccF.start (w : World) : AccF w w (.slice none 0 0) [] := ⟨World.ownsRow_nil _ _ _ _, Below.refl _ _⟩
theorem AccF.size {w0 w : World} {v : Value} {l : List Fld} (h : AccF w0 w v l) : w0.heap.size ≤ w.heap.size := h.2.size
theorem AccF.keep {w0 w w' : World} {v : Value} {l : List Fld} (h : AccF w0 w v l) (hb : Below w.heap.size w w') : AccF w0 w' v l :=
  ⟨ownsRow_keep h.1 hb, h.2.trans (hb.mono h.2.size)⟩
theorem AccF.shape {w0 w : World} {v : Value} {l : List Fld} (h : AccF w0 w v l) : ∃ a cap, v = .slice a l.length cap ∧ FldsIn w a l := by
  obtain ⟨⟨h1, h2⟩, _⟩ := h
  rcases h2 with ⟨rfl, h2⟩ | ⟨g, cap, cur, rfl, hg, hc, hcap, hm, hsz, ht⟩
  · have : l = [] := List.eq_nil_of_length_eq_zero h2
    subst this
    exact ⟨none, 0, rfl, FldsIn.nil _ _⟩
  · refine ⟨_, cap, rfl, FldsIn.of_cells fun j u hj => ?_⟩
    have e := congrArg (fun x => x[j]?) ht
    have hlt : j < l.length * 2 := by rw [← cellsF_len]; exact (List.getElem?_eq_some_iff.1 hj).1
    rw [hj, List.getElem?_take_of_lt hlt] at e
    rw [Addr.add_lit]
    simp only [World.cell?, hc, Nat.zero_add]
    simpa using e

section
variable {ops : Array Oper} {rest : List Oper} {o : Oper} {act : Act} {Q : Exit → Act → World → Prop}
/-- APPEND of one field to a slice of the call's own. -/
theorem wpList_append_accf (w : World) (hgd : o.guard = none) (s x : Operand) (ho : o.op = .call { callee := .builtin .append, args := #[s, x], argTypes := #[27, 27] })
    {w0 : World} {v : Value} {l : List Fld} (hs : act.eval s = v) (h : AccF w0 w v l) {b c : Nat} (hx : act.eval x = .slice (some ⟨b, 0, none⟩) 1 c) {y : Fld} (hy : w.cell? ⟨b, 0, none⟩ = some (.string y.1)) (hy2 : w.cell? ⟨b, 1, none⟩ = some (.string y.2))
    (hn : l.length + 1 ≤ 4398046511104)
    (K : ∀ g cap w', AccF w0 w' (.slice (some ⟨g, 0, none⟩) (l.length + 1) cap) (l ++ [y]) →
      wpList Tryz.prog ops Q rest (act.put o.dst (.slice (some ⟨g, 0, none⟩) (l.length + 1) cap)) w') : wpList Tryz.prog ops Q (o :: rest) act w := by
  obtain ⟨i0, hi, hz0, hz1, hz2⟩ := info_parts Tryz.info88
  refine wpList_append_lies w hgd s x 27 ho w0.heap.size 88 i0 _ 2 32 Tryz.underlying27 hi hz0 hz1 hz2 rfl (by decide) v l.length (cellsF l) hs h.1 ⟨b, 0, none⟩ 1 c [.string y.1, .string y.2] hx rfl ?_ ?_ (by decide) (by unfold maxLen; omega) (by omega) h.2.size w.heap.size rfl ?_
  · intro j u hj
    match j, hj with
    | 0, hj => simp at hj; subst hj; rw [Addr.add_lit]; exact hy
    | 1, hj => simp at hj; subst hj; rw [Addr.add_lit]; exact hy2
    | j + 2, hj => simp at hj
  · intro u hu; simp at hu; rcases hu with rfl | rfl <;> rfl
  · intro g cap w' hown hgrow hg hlt
    refine K g cap w' ⟨?_, h.2.grown hgrow h.2.size fun k hk => ?_⟩
    · rw [List.length_append, cellsF_app]; exact hown
    · exact (World.ownsRow.lt h.1 k hk).1
end

/-- Strings that a program may hold. -/
def ShortF (l : List Fld) : Prop := ∀ f ∈ l, f.1.size ≤ maxLen ∧ f.2.size ≤ maxLen
theorem ShortF.take {l : List Fld} (h : ShortF l) (k : Nat) : ShortF (l.take k) := fun f hf => h f (List.mem_of_mem_take hf)
theorem bulk_mem {H : Type} {x : DataW H} : ∀ {l : List (DataW H)}, x ∈ l → Rows.uptoBulk x ≤ Rows.uptoBulkAll l
  | y :: r, h => by
    simp only [Rows.uptoBulkAll]
    rcases List.mem_cons.1 h with rfl | h
    · omega
    · have := bulk_mem h; omega
def strF : Value → ByteArray | .string s => s | _ => ⟨#[]⟩
theorem open_fields {H : Type} {enc : TypeId × Value → H} {W : World} {a : Option Addr} {len cap : Nat} {d : DataW H} {ps : List MemPlace} {base : Nat}
    (h : DataW.Trod enc Tryz.prog W base (fun _ => true) true 27 (.slice a len cap) d ps) :
    ∃ l : List Fld, len = l.length ∧ FldsIn W a l ∧ l.length ≤ cap ∧ cap ≤ maxLen ∧ ShortF l ∧ ∀ f ∈ l, f.1.size ≤ Rows.uptoBulk d ∧ f.2.size ≤ Rows.uptoBulk d := by
  obtain ⟨fuel, hf⟩ := h
  rcases Go.Deep.open_slice_pairs Tryz.underlying27 Tryz.underlying88 (by kernel_rfl) (by kernel_rfl) (by kernel_rfl) (by kernel_rfl) (by kernel_rfl) hf with ⟨hcs, _⟩ | ⟨x, n, c, m, k, V0, V1, D0, D1, P0, P1, hcs, _, hl, hm, hmm, hx, hi⟩
  · simp [Value.cells] at hcs
    obtain ⟨rfl, rfl, rfl⟩ := hcs
    exact ⟨[], rfl, FldsIn.nil _ _, Nat.le_refl _, Nat.zero_le _, (fun f hf => by cases hf), (fun f hf => by cases hf)⟩
  · simp [Value.cells] at hcs
    obtain ⟨rfl, rfl, rfl⟩ := hcs
    have hlm : len ≤ m := by rw [hmm]; split <;> omega
    have each : ∀ i, i < m → ∃ s t : ByteArray, V0 i = .string s ∧ V1 i = .string t ∧ s.size ≤ maxLen ∧ t.size ≤ maxLen ∧ D0 i = .lit (.string s.data.toList) ∧ D1 i = .lit (.string t.data.toList) := fun i him => by
      obtain ⟨_, _, h3, h4⟩ := hi i him
      obtain ⟨s, e1, e2, e3⟩ := DataW.trod_string Tryz.underlying9 h3
      obtain ⟨t, f1, f2, f3⟩ := DataW.trod_string Tryz.underlying9 h4
      injection e1 with e1; injection f1 with f1
      exact ⟨s, t, e1, f1, e3, f3, congrArg Prod.fst e2, congrArg Prod.fst f2⟩
    have hlen : ((List.range len).map fun i => ((strF (V0 i), strF (V1 i)) : Fld)).length = len := by simp
    have hd : d = .slice ((List.range len).map fun i => .agg [D0 i, D1 i]) ((List.range (m - len)).map fun j => .agg [D0 (len + j), D1 (len + j)]) := congrArg Prod.fst hx
    refine ⟨(List.range len).map fun i => (strF (V0 i), strF (V1 i)), hlen.symm, fun j hj => ?_, by rw [hlen]; exact hl, hm, fun f hf => ?_, fun f hf => ?_⟩
    · rw [hlen] at hj
      obtain ⟨h1, h2, _⟩ := hi j (by omega)
      obtain ⟨s, t, e1, e2, _⟩ := each j (by omega)
      refine ⟨x, rfl, ?_, ?_⟩
      · rw [h1, e1]; simp [strF, e1]
      · rw [h2, e2]; simp [strF, e2]
    · obtain ⟨i, hi', rfl⟩ := List.mem_map.1 hf
      obtain ⟨s, t, e1, e2, e3, e4, _⟩ := each i (by have := List.mem_range.1 hi'; omega)
      rw [e1, e2]; exact ⟨e3, e4⟩
    · obtain ⟨i, hi', rfl⟩ := List.mem_map.1 hf
      obtain ⟨s, t, e1, e2, e3, e4, e5, e6⟩ := each i (by have := List.mem_range.1 hi'; omega)
      have hb := bulk_mem (x := (.agg [D0 i, D1 i] : DataW H)) (l := (List.range len).map fun i => .agg [D0 i, D1 i]) (List.mem_map.2 ⟨i, hi', rfl⟩)
      rw [e5, e6] at hb
      simp only [Rows.uptoBulk, Rows.uptoBulkAll] at hb
      have g1 : s.data.toList.length = s.size := by rw [Array.length_toList]; rfl
      have g2 : t.data.toList.length = t.size := by rw [Array.length_toList]; rfl
      rw [e1, e2, hd]
      simp only [strF, Rows.uptoBulk]
      omega
end Go.Proofs.YteoadfckcilalaaGreatDoor
namespace Go.Proofs.YteoadfckcilalaaGreatDoor
open Go.RowKit

def valuesL (l : List Fld) (n : ByteArray) : List ByteArray := (l.filter fun f => foldS f.1 n).map (·.2)
theorem valuesL_yes (l : List Fld) (n : ByteArray) (k : Nat) (h : k < l.length) (hf : foldS l[k].1 n = true) : valuesL (l.take (k + 1)) n = valuesL (l.take k) n ++ [l[k].2] := by
  unfold valuesL
  rw [List.take_succ_eq_append_getElem h, List.filter_append, List.map_append]; simp [hf]
theorem valuesL_no (l : List Fld) (n : ByteArray) (k : Nat) (h : k < l.length) (hf : foldS l[k].1 n = false) : valuesL (l.take (k + 1)) n = valuesL (l.take k) n := by
  unfold valuesL
  rw [List.take_succ_eq_append_getElem h, List.filter_append, List.map_append]; simp [hf]
theorem valuesL_len (l : List Fld) (n : ByteArray) : (valuesL l n).length ≤ l.length := by
  unfold valuesL; rw [List.length_map]; exact List.length_filter_le _ _
def hasL (l : List Fld) (n : ByteArray) : Bool := l.any fun f => foldS f.1 n

def inFoldL (l : List ByteArray) (s : ByteArray) : Bool := l.any fun x => foldS x s
/-- The call returns a slice of the fields l; what was there is as it was. -/
def RetFlds (w : World) (l : List Fld) (e : Ending) (w' : World) : Prop :=
  ∃ a cap, e = .returned (.slice a l.length cap) ∧ FldsIn w' a l ∧ Below w.heap.size w w'
end Go.Proofs.YteoadfckcilalaaGreatDoor
namespace Go.Proofs.YteoadfckcilalaaGreatDoor
open Go.RowKit

theorem inS_map (s : ByteArray) (ns : List ByteArray) : inS (lowS s) (ns.map lowS) = inFoldL ns s := by
  unfold inS inFoldL foldS
  rw [List.any_map]; rfl
theorem inS_one (s n : ByteArray) : inS (lowS s) ([n].map lowS) = foldS s n := by
  rw [inS_map]
  unfold inFoldL foldS
  simp only [List.any_cons, List.any_nil, Bool.or_false]
  exact Bool.beq_comm
theorem new_cellF (w : World) (cs : Array Value) (t : TypeId) (j : Nat) : (w.alloc (.cells cs t (0, 0))).cell? ⟨w.heap.size, j, none⟩ = cs[j]? :=
  cell_of_row _ _ _ _ _ _ (heap_alloc_new w (.cells cs t (0, 0)))
theorem strsIn_one (w : World) (n : ByteArray) (t : TypeId) : StrsIn (w.alloc (.cells #[.string n] t)) (some ⟨w.heap.size, 0, none⟩) [n] := fun j hj => by
  obtain rfl : j = 0 := by simpa using hj
  exact ⟨_, rfl, by rw [Addr.add_lit, new_cellF]; rfl⟩
theorem below_twoF {w w1 : World} (h : Below w.heap.size w w1) (o : Obj) : Below w.heap.size w (w1.alloc o) := below_trans h (below_oneF w1 o)

theorem SetIn.grown {w w' : World} {b n : Nat} {S : List ByteArray} {row : Option Nat} (h : SetIn w b n S) (hg : w.grownBy w' row) (hne : row ≠ some b) : SetIn w' b n S := by
  obtain ⟨D, h1, h2⟩ := h
  exact ⟨D, h1.kept hg (fun e => hne e.symm), h2⟩
section
variable {ops : Array Oper} {rest : List Oper} {o : Oper} {act : Act} {Q : Exit → Act → World → Prop}
/-- APPEND of one string beside a set. -/
theorem wpList_append_accset (w : World) (hgd : o.guard = none) (s x : Operand) (ho : o.op = .call { callee := .builtin .append, args := #[s, x], argTypes := #[71, 71] })
    {w0 : World} {v : Value} {l : List ByteArray} (hs : act.eval s = v) (h : Acc w0 w v l) {b c : Nat} (hx : act.eval x = .slice (some ⟨b, 0, none⟩) 1 c) {y : ByteArray} (hy : w.cell? ⟨b, 0, none⟩ = some (.string y))
    {q m : Nat} {S : List ByteArray} (hS : SetIn w q m S) (hne : v.ownBlock ≠ some q) (hn : l.length + 1 ≤ 8796093022208)
    (K : ∀ v' w', Acc w0 w' v' (l ++ [y]) → SetIn w' q m S → v'.ownBlock ≠ some q → wpList Tryz.prog ops Q rest (act.put o.dst v') w') : wpList Tryz.prog ops Q (o :: rest) act w := by
  obtain ⟨i0, hi, hz0, hz1, hz2⟩ := info_parts Tryz.info9
  refine wpList_append_lies w hgd s x 71 ho w0.heap.size 9 i0 (.string ⟨#[]⟩) 1 16 Tryz.underlying71 hi hz0 hz1 hz2 rfl (by decide) v l.length (l.map Value.string) hs h.1 ⟨b, 0, none⟩ 1 c [.string y] hx rfl ?_ ?_ (by decide) (by unfold maxLen; omega) (by omega) h.2.size w.heap.size rfl ?_
  · intro j u hj
    match j, hj with
    | 0, hj => simp at hj; subst hj; rw [Addr.add_lit]; exact hy
    | j + 1, hj => simp at hj
  · intro u hu; simp at hu; subst hu; rfl
  · intro g cap w' hown hgrow hg hlt
    refine K _ w' ⟨by simpa using hown, h.2.grown hgrow h.2.size fun k hk => (World.ownsRow.lt h.1 k hk).1⟩ (hS.grown hgrow hne) (fun e => ?_)
    have : g = q := by simpa [Value.ownBlock] using e
    subst this
    rcases hg with hg | hg
    · exact hne hg
    · have := hS.lt; omega
end
theorem one_short (n : ByteArray) : ([n] : List ByteArray).length ≤ 140737488355328 := by show 1 ≤ 140737488355328; decide

set_option maxRecDepth 100000 in
set_option maxHeartbeats 2000000 in
theorem fValues_any (l : List Fld) (n : ByteArray) (a : Option Addr) (cap : Nat) (w : World) (h : FldsIn w a l) (hz : ShortF l) (hn : n.size ≤ maxLen) (hl : l.length ≤ 1000000) :
    Calls Tryz.prog 171 #[.slice a l.length cap, .string n] w (RetStrs w (valuesL l n)) := by
  have H0 := Box.mk h
  have HZ := Box.mk hz
  clear h hz
  go_enter Tryz.func171, Tryz.ntmps171
  go_wp2_with fail
  refine (setOf_any [n] _ _ _ (strsIn_one w n _) (by simpa using hn) (one_short n)).mono ?_
  rintro e w1 ⟨b, m, rfl, hS, hb⟩
  have HS := Box.mk hS
  have HB := Box.mk (below_trans (below_oneF w (.cells #[.string n] 9)) hb)
  clear hS hb
  have HA0 := Box.mk (show Acc w w1 (.slice none 0 0) (valuesL (l.take 0) n) from ⟨World.ownsRow_nil _ _ _ _, HB.out⟩)
  go_wp2_with fail
  go_loopw [5, 14] (fun v iv wr => ∃ k : Nat, k ≤ l.length ∧ iv = .int .i64 k ∧ Box (Acc w wr v (valuesL (l.take k) n) ∧ SetIn wr b m ([n].map lowS) ∧ v.ownBlock ≠ some b)) (fun _ iv _ => l.length - (intOf iv).toNat)
  case atStart => exact ⟨0, Nat.zero_le _, rfl, ⟨HA0.out, HS.out, by simp [Value.ownBlock]⟩⟩
  case round =>
    clear HS HB HA0
    obtain ⟨k, hk, rfl, HM⟩ := hrel
    by_cases hlt : k < l.length
    · obtain ⟨x, rfl, hx1, hx2⟩ := (H0.out.keep HM.out.1.2) k hlt
      have hx2 := cell_next hx2
      have HSZ := Box.mk (HZ.out _ (List.getElem_mem hlt))
      have hVL := valuesL_len (l.take k) n
      have hVL2 : (l.take k).length ≤ k := List.length_take_le _ _
      by_cases hf : foldS l[k].1 n = true
      · have HT := Box.mk (valuesL_yes l n k hlt hf)
        have HIN := Box.mk (show inS (lowS l[k].1) ([n].map lowS) = true by rw [inS_one]; exact hf)
        clear hf
        generalize l[k] = f at *
        go_wp2_with fail
        refine (hdrIn_any f.1 f.2 b m _ _ (HM.out.2.1.keep (below_oneF wr (.cells #[.string f.1, .string f.2] 88))) HSZ.out.1).mono ?_
        rintro e w2 ⟨he, hb1⟩
        rw [HIN.out] at he
        subst he
        have hc2 : w2.cell? ⟨wr.heap.size, 1, none⟩ = some (.string f.2) := below_cell hb1 (by rw [new_cellF]; rfl)
        have HB2 := Box.mk (below_trans (below_oneF wr (.cells #[.string f.1, .string f.2] 88)) hb1)
        have HA2 := Box.mk (HM.out.1.keep HB2.out)
        have HS2 := Box.mk (HM.out.2.1.keep HB2.out)
        clear hb1 HIN
        go_wp2_with (at_builtin; refine wpList_append_accset _ rfl _ _ rfl rfl (HA2.out.keep ((Below.refl _ _).alloc (Nat.le_refl _) _)) rfl (y := f.2) ?c1 (HS2.out.keep ((Below.refl _ _).alloc (Nat.le_refl _) _)) HM.out.2.2 ?c2 ?c3)
        case c1 => simp
        case c2 => omega
        case c3 =>
          intro v' w' hacc hs' hne
          have HACC := Box.mk (show Acc w w' v' (valuesL (l.take (k + 1)) n) ∧ SetIn w' b m ([n].map lowS) ∧ v'.ownBlock ≠ some b by rw [HT.out]; exact ⟨hacc, hs', hne⟩)
          clear hacc hs' hne HT HA2 HS2 HB2 HM
          go_wp2_with fail
          go_roundw
          case rel => exact ⟨k + 1, by omega, by go_num, HACC⟩
          case measure => simp [intOf]; omega
      · have hf' : foldS l[k].1 n = false := by simpa using hf
        have HT := Box.mk (valuesL_no l n k hlt hf')
        have HIN := Box.mk (show inS (lowS l[k].1) ([n].map lowS) = false by rw [inS_one]; exact hf')
        clear hf hf'
        generalize l[k] = f at *
        go_wp2_with fail
        refine (hdrIn_any f.1 f.2 b m _ _ (HM.out.2.1.keep (below_oneF wr (.cells #[.string f.1, .string f.2] 88))) HSZ.out.1).mono ?_
        rintro e w2 ⟨he, hb1⟩
        rw [HIN.out] at he
        subst he
        have HB2 := Box.mk (below_trans (below_oneF wr (.cells #[.string f.1, .string f.2] 88)) hb1)
        have HM2 := Box.mk (show Acc w w2 _ (valuesL (l.take (k + 1)) n) ∧ SetIn w2 b m ([n].map lowS) ∧ _ by rw [HT.out]; exact ⟨HM.out.1.keep HB2.out, HM.out.2.1.keep HB2.out, HM.out.2.2⟩)
        clear hb1 HIN HT HB2
        go_wp2_with fail
        go_roundw
        case rel => exact ⟨k + 1, by omega, by go_num, HM2⟩
        case measure => simp [intOf]; omega
    · have HE := Box.mk (show Acc w wr _ (valuesL l n) by have := HM.out.1; rw [List.take_of_length_le (by omega)] at this; exact this)
      go_wp2_with fail
      obtain ⟨a', cap', rfl, hs⟩ := HE.out.shape
      go_ret
      exact ⟨a', cap', rfl, hs, HE.out.2⟩

end Go.Proofs.YteoadfckcilalaaGreatDoor
namespace Go.Proofs.YteoadfckcilalaaGreatDoor
open Go.RowKit

set_option maxHeartbeats 1000000 in
theorem hasClosure_any (f : Fld) (c b m : Nat) (S : List ByteArray) (w : World) (hc : w.cell? ⟨c, 0, none⟩ = some (.map (some b))) (h : SetIn w b m S) (hn : f.1.size ≤ maxLen) :
    Calls Tryz.prog 195 #[.agg #[.string f.1, .string f.2], .pointer (some ⟨c, 0, none⟩)] w fun e w' => e = .returned (.bool (inS (lowS f.1) S)) ∧ Below w.heap.size w w' := by
  have H0 := Box.mk (h.keep (below_oneF w (.cells #[.string f.1, .string f.2] 88)))
  have hc' := below_cell (below_oneF w (.cells #[.string f.1, .string f.2] 88)) hc
  clear h hc
  go_enter Tryz.func195, Tryz.ntmps195
  go_wp2_with fail
  refine (hdrIn_any f.1 f.2 b m S _ H0.out hn).mono ?_
  rintro e w1 ⟨rfl, hb⟩
  have HB := Box.mk (below_trans (below_oneF w (.cells #[.string f.1, .string f.2] 88)) hb)
  clear hb
  generalize hr : inS (lowS f.1) S = r at *
  have HR := Box.mk hr
  clear hr
  go_wp2_with fail
  go_ret
  exact ⟨ret_bool HR.out.symm, HB.out⟩

set_option maxRecDepth 100000 in
set_option maxHeartbeats 2000000 in
theorem indexFunc_any (l : List Fld) (S : List ByteArray) (a : Option Addr) (cap c b m : Nat) (w : World) (h : FldsIn w a l) (hz : ShortF l) (hc : w.cell? ⟨c, 0, none⟩ = some (.map (some b))) (hS : SetIn w b m S) (hl : l.length ≤ 1000000) :
    Calls Tryz.prog 216 #[.slice a l.length cap, .func (.func 195) #[] #[.pointer (some ⟨c, 0, none⟩)]] w
      fun e w' => ∃ i : Int, e = .returned (.int .i64 i) ∧ decide (0 ≤ i) = l.any (fun f => inS (lowS f.1) S) ∧ Below w.heap.size w w' := by
  have H0 := Box.mk h
  have HZ := Box.mk hz
  have HC := Box.mk hc
  have HS := Box.mk hS
  clear h hz hc hS
  go_enter Tryz.func216, Tryz.ntmps216
  go_wp2_with fail
  go_loopw [8] (fun iv wr => ∃ k : Nat, k ≤ l.length ∧ iv = .int .i64 k ∧ Box (Below w.heap.size w wr ∧ ∀ f ∈ l.take k, inS (lowS f.1) S = false)) (fun iv _ => l.length - (intOf iv).toNat)
  case atStart => exact ⟨0, Nat.zero_le _, rfl, ⟨Below.refl _ _, by simp⟩⟩
  case round =>
    obtain ⟨k, hk, rfl, HM⟩ := hrel
    by_cases hlt : k < l.length
    · obtain ⟨x, rfl, hx1, hx2⟩ := (H0.out.keep HM.out.1) k hlt
      have hx2 := cell_next hx2
      have HSZ := Box.mk (HZ.out _ (List.getElem_mem hlt))
      have HMEM := Box.mk (List.getElem_mem hlt)
      have HTK := Box.mk (show l.take (k + 1) = l.take k ++ [l[k]] from List.take_succ_eq_append_getElem hlt)
      generalize l[k] = f at *
      have HC1 := Box.mk (below_cell HM.out.1 HC.out)
      by_cases hin : inS (lowS f.1) S = true
      · have HIN := Box.mk hin
        have HR := Box.mk (show l.any (fun f => inS (lowS f.1) S) = true from List.any_eq_true.2 ⟨f, HMEM.out, hin⟩)
        clear hin
        go_wp2_with fail
        refine (hasClosure_any f c b m S _ HC1.out (HS.out.keep HM.out.1) HSZ.out.1).mono ?_
        rintro e w1 ⟨he, hb1⟩
        rw [HIN.out] at he
        subst he
        have HB1 := Box.mk (below_trans HM.out.1 hb1)
        clear hb1
        go_wp2_with fail
        go_ret
        exact ⟨(k : Int), rfl, by rw [HR.out]; simp, HB1.out⟩
      · have HIN := Box.mk (show inS (lowS f.1) S = false by simpa using hin)
        clear hin
        go_wp2_with fail
        refine (hasClosure_any f c b m S _ HC1.out (HS.out.keep HM.out.1) HSZ.out.1).mono ?_
        rintro e w1 ⟨he, hb1⟩
        rw [HIN.out] at he
        subst he
        have HM1 := Box.mk (show Below w.heap.size w w1 ∧ ∀ f ∈ l.take (k + 1), inS (lowS f.1) S = false from ⟨below_trans HM.out.1 hb1, by
          rw [HTK.out]
          intro y hy
          rcases List.mem_append.1 hy with h | h
          · exact HM.out.2 y h
          · simp at h; rw [h]; exact HIN.out⟩)
        clear hb1
        go_wp2_with fail
        go_roundw
        case rel => exact ⟨k + 1, by omega, by go_num, HM1⟩
        case measure => simp [intOf]; omega
    · have HR := Box.mk (show l.any (fun f => inS (lowS f.1) S) = false by
        have := HM.out.2
        rw [List.take_of_length_le (by omega)] at this
        rw [List.any_eq_false]
        intro y hy; rw [this y hy]; simp)
      go_wp2_with fail
      go_ret
      exact ⟨-1, rfl, by rw [HR.out]; rfl, HM.out.1⟩

set_option maxHeartbeats 1000000 in
theorem containsFunc_any (l : List Fld) (S : List ByteArray) (a : Option Addr) (cap c b m : Nat) (w : World) (h : FldsIn w a l) (hz : ShortF l) (hc : w.cell? ⟨c, 0, none⟩ = some (.map (some b))) (hS : SetIn w b m S) (hl : l.length ≤ 1000000) :
    Calls Tryz.prog 194 #[.slice a l.length cap, .func (.func 195) #[] #[.pointer (some ⟨c, 0, none⟩)]] w
      fun e w' => e = .returned (.bool (l.any (fun f => inS (lowS f.1) S))) ∧ Below w.heap.size w w' := by
  have H0 := Box.mk h
  have HC := Box.mk hc
  clear h hc
  go_enter Tryz.func194, Tryz.ntmps194
  go_wp2_with fail
  refine (indexFunc_any l S a cap c b m _ H0.out hz HC.out hS hl).mono ?_
  rintro e w1 ⟨i, rfl, hi, hb⟩
  have HI := Box.mk hi
  clear hi
  go_wp2_with fail
  go_ret
  exact ⟨ret_bool HI.out, hb⟩

theorem hasL_set (l : List Fld) (n : ByteArray) : (l.any fun f => inS (lowS f.1) ([n].map lowS)) = hasL l n := by
  unfold hasL
  congr 1
  funext f
  rw [inS_one]

set_option maxHeartbeats 1000000 in
theorem fHas_any (l : List Fld) (n : ByteArray) (a : Option Addr) (cap : Nat) (w : World) (h : FldsIn w a l) (hz : ShortF l) (hn : n.size ≤ maxLen) (hl : l.length ≤ 1000000) :
    Calls Tryz.prog 172 #[.slice a l.length cap, .string n] w fun e w' => e = .returned (.bool (hasL l n)) ∧ Below w.heap.size w w' := by
  have H0 := Box.mk h
  clear h
  go_enter Tryz.func172, Tryz.ntmps172
  go_wp2_with fail
  refine (setOf_any [n] _ _ _ (strsIn_one w n _) (by simpa using hn) (one_short n)).mono ?_
  rintro e w1 ⟨b, m, rfl, hS, hb⟩
  have HB1 := Box.mk (below_trans (below_oneF w (.cells #[.string n] 9)) hb)
  have HS := Box.mk hS
  clear hS hb
  go_wp2_with fail
  have HB2 := Box.mk (below_trans HB1.out (below_oneF w1 (.cells #[.map (some b)] 208)))
  have hcn : (w1.alloc (.cells #[.map (some b)] 208)).cell? ⟨w1.heap.size, 0, none⟩ = some (.map (some b)) := by rw [new_cellF]; rfl
  have HS2 := Box.mk (HS.out.keep (below_oneF w1 (.cells #[.map (some b)] 208)))
  have HH := Box.mk (hasL_set l n)
  generalize [n].map lowS = S at *
  refine (containsFunc_any l S a cap _ b m _ (H0.out.keep HB2.out) hz hcn HS2.out hl).mono ?_
  rintro e w3 ⟨he, hb3⟩
  rw [HH.out] at he
  subst he
  have HB3 := Box.mk (below_trans HB2.out hb3)
  clear hb3 hcn
  go_wp2_with fail
  go_ret
  exact ⟨rfl, HB3.out⟩

theorem StrsIn.at {w : World} {b off : Nat} {l : List ByteArray} (h : StrsIn w (some ⟨b, off, none⟩) l) : StrsAt w (some ⟨b, off, none⟩) l := fun j hj => by
  obtain ⟨x, e, hc⟩ := h j hj
  obtain rfl := Option.some.inj e
  exact ⟨b, off, rfl, by rw [← hc, show (⟨b, off, none⟩ : Addr).add j = ⟨b, off + j, none⟩ by unfold Addr.add; split <;> simp_all]⟩

section
variable (w : World) (m : Int)
set_option maxHeartbeats 1000000 in
theorem fElements_any (l : List Fld) (n : ByteArray) (a : Option Addr) (cap : Nat) (h : FldsIn w a l) (hz : ShortF l) (hn : n.size ≤ maxLen) (hl : l.length ≤ 1000000) (hm : w.cell? ⟨1, 0, none⟩ = some (.int .i64 m)) (ht : total (valuesL l n) ≤ 4000000000) :
    Calls Tryz.prog 174 #[.slice a l.length cap, .string n] w (RetStrs w (listL (valuesL l n))) := by
  have H0 := Box.mk h
  have HM := Box.mk hm
  clear h hm
  go_enter Tryz.func174, Tryz.ntmps174
  go_wp2_with fail
  refine (fValues_any l n a cap _ H0.out hz hn hl).mono ?_
  rintro e w1 ⟨a', cap', rfl, hs, hb⟩
  have HB := Box.mk hb
  clear hb
  go_wp2_with fail
  refine (list_any _ a' cap' _ m hs (below_cell HB.out HM.out) ht).mono ?_
  rintro e w2 ⟨a2, cap2, rfl, hs2, hb2⟩
  have HB2 := Box.mk (below_trans HB.out hb2)
  have HS2 := Box.mk hs2
  clear hb2 hs2 hs
  go_wp2_with fail
  go_ret
  exact ⟨a2, cap2, rfl, HS2.out, HB2.out⟩
end
end Go.Proofs.YteoadfckcilalaaGreatDoor
namespace Go.Proofs.YteoadfckcilalaaGreatDoor
open Go.RowKit

/-- The slice with its capacity: where it is nil, it is nil altogether. -/
def FldsC (w : World) (a : Option Addr) (l : List Fld) (c : Nat) : Prop := FldsIn w a l ∧ (a = none → l = [] ∧ c = 0)
theorem FldsC.keep {w w' : World} {a : Option Addr} {l : List Fld} {c : Nat} (h : FldsC w a l c) (hb : Below w.heap.size w w') : FldsC w' a l c := ⟨h.1.keep hb, h.2⟩
theorem AccF.empty (w : World) : AccF w (w.alloc (.cells #[] 88)) (.slice (some ⟨w.heap.size, 0, none⟩) 0 0) [] := by
  refine ⟨⟨rfl, .inr ⟨w.heap.size, 0, #[], rfl, Nat.le_refl _, ?_, Nat.le_refl _, Nat.zero_le _, rfl, rfl⟩⟩, (Below.refl _ _).alloc (Nat.le_refl _) _⟩
  show (w.heap.push _)[w.heap.size]? = _
  simp
theorem AccF.shapeC {w0 w : World} {v : Value} {l : List Fld} (h : AccF w0 w v l) : ∃ a cap, v = .slice a l.length cap ∧ FldsC w a l cap := by
  obtain ⟨a, cap, e, hs⟩ := h.shape
  refine ⟨a, cap, e, hs, fun ha => ?_⟩
  subst ha
  obtain ⟨⟨h1, h2⟩, _⟩ := h
  rcases h2 with ⟨rfl, h2⟩ | ⟨g, cap', cur, rfl, _⟩
  · injection e with e1 e2 e3
    exact ⟨List.eq_nil_of_length_eq_zero h2, e3.symm⟩
  · injection e with e1; cases e1

section
variable {ops : Array Oper} {rest : List Oper} {o : Oper} {act : Act} {Q : Exit → Act → World → Prop}
/-- APPEND of a slice of fields that is read to a slice of the call's own. -/
theorem wpList_append_accfs (w : World) (hgd : o.guard = none) (s x : Operand) (ho : o.op = .call { callee := .builtin .append, args := #[s, x], argTypes := #[27, 27] })
    {w0 : World} {v : Value} {l : List Fld} (hs : act.eval s = v) (h : AccF w0 w v l) {a : Option Addr} {r : List Fld} {c : Nat} (hx : act.eval x = .slice a r.length c) (hr : FldsC w a r c)
    (hn : l.length + r.length ≤ 4398046511104)
    (K : ∀ v' w', AccF w0 w' v' (l ++ r) → wpList Tryz.prog ops Q rest (act.put o.dst v') w') : wpList Tryz.prog ops Q (o :: rest) act w := by
  obtain ⟨i0, hi, hz0, hz1, hz2⟩ := info_parts Tryz.info88
  cases a with
  | none =>
    obtain ⟨rfl, rfl⟩ := hr.2 rfl
    refine wpList_append_own_none hgd s x 27 ho w0.heap.size 88 i0 2 Tryz.underlying27 hi v l.length (cellsF l) hs h.1 hx (K _ _ ?_)
    rw [List.append_nil]; exact h
  | some ad =>
    refine wpList_append_own_at w hgd s x 27 ho w0.heap.size 88 i0 _ 2 32 Tryz.underlying27 hi hz0 hz1 hz2 rfl (by decide) v l.length (cellsF l) hs h.1 ad r.length c (cellsF r) hx (cellsF_len r) (hr.1.cells) (cellsF_one r) (by unfold maxLen; omega) (by omega) h.2.size ?_
    intro v' w' hown hgrow _ _
    refine K v' w' ⟨?_, h.2.grown hgrow h.2.size fun k hk => (World.ownsRow.lt h.1 k hk).1⟩
    rw [List.length_append, cellsF_app]; exact hown
end

theorem grow_runF (w : World) (n : Nat) (h0 : 0 < n) (hn : n ≤ 4000000) (ty : TypeId) :
    ∃ cap w', (Builtin.append_ #[27, 3] ty #[.slice none 0 0, .int .i64 (n : Int)]).run Tryz.prog w = .ok (.slice (some ⟨w.heap.size, 0, none⟩) n cap) w' ∧ n ≤ cap ∧ cap ≤ maxLen ∧ AccF w w' (.slice (some ⟨w.heap.size, 0, none⟩) 0 cap) [] := by
  obtain ⟨i0, hi, hz0, hz1, hz2⟩ := info_parts Tryz.info88
  have h := Lib.run_append_grow_zeros w 27 3 ty 88 i0 _ .i64 .i64 Tryz.underlying27 Tryz.underlying3 hi hz0 none 0 0 [] (by rw [hz1]; simp [Builtin.firstCells]) n h0 (by rw [hz1]; decide) (by omega) (by omega) (by rw [hz2]; omega) (by rw [hz2]; exact growslice_fits (by omega) (by omega))
  rw [Nat.zero_add] at h
  have hcap := grownCap_ge w n 0 88
  have hmx := grownCap_le_maxLen w n 0 88 (by unfold maxLen; omega)
  refine ⟨_, _, h, hcap, hmx, ⟨rfl, .inr ⟨w.heap.size, _, _, rfl, Nat.le_refl _, (heap_alloc_new w.drew _), Nat.zero_le _, hmx, ?_, rfl⟩⟩, ((Below.refl _ _).drew).alloc (Nat.le_refl _) _⟩
  simp only [Array.size_append, size_zeroCells, List.size_toArray, List.length_nil]
  show 0 + n * 2 + (_ - n) * 2 = _
  omega

set_option maxRecDepth 100000 in
set_option maxHeartbeats 2000000 in
theorem growF_any (n : Nat) (w : World) (hn : n ≤ 4000000) :
    Calls Tryz.prog 140 #[.slice none 0 0, .int .i64 (n : Int)] w fun e w' => ∃ v, e = .returned v ∧ AccF w w' v [] := by
  by_cases h0 : 0 < n
  · obtain ⟨cap, w', hrun, hc1, hc2, hacc⟩ := grow_runF w n h0 hn 27
    have HACC := Box.mk hacc
    clear hacc
    unfold maxLen at hc2
    go_enter Tryz.func140, Tryz.ntmps140
    go_wp2_with (at_builtin; refine Lib.wpList_append_run _ rfl _ _ _ _ rfl _ _ rfl rfl _ _ hrun ?_)
    go_ret
    exact ⟨_, rfl, HACC.out⟩
  · obtain rfl : n = 0 := by omega
    go_enter Tryz.func140, Tryz.ntmps140
    go_wp2_with fail
    go_ret
    exact ⟨_, rfl, AccF.start w⟩
end Go.Proofs.YteoadfckcilalaaGreatDoor
namespace Go.Proofs.YteoadfckcilalaaGreatDoor
open Go.RowKit

/-- The slice at p holds two slices of fields. -/
def TwoF (w : World) (p : Nat) (l r : List Fld) : Prop :=
  ∃ a ca b cb, w.cell? ⟨p, 0, none⟩ = some (.slice a l.length ca) ∧ w.cell? ⟨p, 1, none⟩ = some (.slice b r.length cb) ∧ FldsC w a l ca ∧ FldsC w b r cb
theorem TwoF.keep {w w' : World} {p : Nat} {l r : List Fld} (h : TwoF w p l r) (hb : Below w.heap.size w w') : TwoF w' p l r := by
  obtain ⟨a, ca, b, cb, h1, h2, h3, h4⟩ := h
  exact ⟨a, ca, b, cb, below_cell hb h1, below_cell hb h2, h3.keep hb, h4.keep hb⟩
def nthF (l r : List Fld) (k : Nat) : List Fld := if k = 0 then l else r
def sumF (l r : List Fld) (k : Nat) : Nat := if k = 0 then 0 else if k = 1 then l.length else l.length + r.length
def joinF (l r : List Fld) (k : Nat) : List Fld := if k = 0 then [] else if k = 1 then l else l ++ r
theorem TwoF.at {w : World} {p : Nat} {l r : List Fld} (h : TwoF w p l r) {k : Nat} (hk : k < 2) : ∃ a c, w.cell? ⟨p, k, none⟩ = some (.slice a (nthF l r k).length c) ∧ FldsC w a (nthF l r k) c := by
  obtain ⟨a, ca, b, cb, h1, h2, h3, h4⟩ := h
  match k, hk with
  | 0, _ => exact ⟨a, ca, h1, h3⟩
  | 1, _ => exact ⟨b, cb, h2, h4⟩
theorem sumF_step (l r : List Fld) {k : Nat} (hk : k < 2) : sumF l r (k + 1) = sumF l r k + (nthF l r k).length := by
  match k, hk with
  | 0, _ => simp [sumF, nthF]
  | 1, _ => simp [sumF, nthF]
theorem joinF_step (l r : List Fld) {k : Nat} (hk : k < 2) : joinF l r (k + 1) = joinF l r k ++ nthF l r k := by
  match k, hk with
  | 0, _ => simp [joinF, nthF]
  | 1, _ => simp [joinF, nthF]
theorem joinF_len (l r : List Fld) (k : Nat) : (joinF l r k).length ≤ l.length + r.length := by
  unfold joinF; split
  · simp
  · split <;> simp
theorem sumF_le (l r : List Fld) (k : Nat) : sumF l r k ≤ l.length + r.length := by
  unfold sumF; split
  · omega
  · split <;> omega
theorem nthF_len (l r : List Fld) (k : Nat) : (nthF l r k).length ≤ l.length + r.length := by
  unfold nthF; split <;> omega

set_option maxRecDepth 100000 in
set_option maxHeartbeats 2000000 in
theorem concatF_any (l r : List Fld) (p : Nat) (w : World) (h : TwoF w p l r) (hl : l.length ≤ 1000000) (hr : r.length ≤ 1000000) :
    Calls Tryz.prog 107 #[.slice (some ⟨p, 0, none⟩) 2 2] w fun e w' => RetFlds w (l ++ r) e w' ∧ ∃ a c, e = .returned (.slice a (l ++ r).length c) ∧ FldsC w' a (l ++ r) c := by
  have H0 := Box.mk h
  clear h
  go_enter Tryz.func107, Tryz.ntmps107
  go_wp2_with fail
  go_loop [3, 11] (fun v iv => ∃ k : Nat, k ≤ 2 ∧ iv = .int .i64 k ∧ ∃ q : Nat, v = .int .i64 q ∧ Box (q = sumF l r k) ∧ q ≤ 2000000) (fun _ iv => 2 - (intOf iv).toNat)
  case atStart => exact ⟨0, Nat.zero_le _, rfl, 0, rfl, ⟨rfl⟩, by omega⟩
  case round =>
    obtain ⟨k, hk, rfl, q, rfl, HQ, hq⟩ := hrel
    by_cases hlt : k < 2
    · obtain ⟨a, c, hc, _⟩ := H0.out.at hlt
      have HS := Box.mk (sumF_step l r hlt)
      have h1 := sumF_le l r (k + 1)
      have h2 := nthF_len l r k
      have h3 : q + (nthF l r k).length ≤ 2000000 := by have := HS.out; have := HQ.out; omega
      go_wp2_with fail
      go_round
      case rel => exact ⟨k + 1, by omega, by go_num, q + (nthF l r k).length, by go_num, ⟨by rw [HS.out, HQ.out]⟩, by omega⟩
      case measure => simp [intOf]; omega
    · obtain rfl : k = 2 := by omega
      have h0 : q ≤ 4000000 := by omega
      go_wp2_with fail
      refine (growF_any q _ h0).mono ?_
      rintro e w1 ⟨v, rfl, hacc⟩
      have HA := Box.mk hacc
      clear hacc HQ
      go_wp2_with fail
      go_loopw [6, 27] (fun v iv wr => ∃ k : Nat, k ≤ 2 ∧ iv = .int .i64 k ∧ Box (AccF w wr v (joinF l r k))) (fun _ iv _ => 2 - (intOf iv).toNat)
      case atStart => exact ⟨0, Nat.zero_le _, rfl, ⟨HA.out⟩⟩
      case round =>
        clear HA
        obtain ⟨k, hk, rfl, HM⟩ := hrel
        by_cases hlt : k < 2
        · obtain ⟨a, c, hc, hf⟩ := (H0.out.keep HM.out.2).at hlt
          have HF := Box.mk hf
          have HJ := Box.mk (joinF_step l r hlt)
          have h1 := joinF_len l r k
          have h2 := nthF_len l r k
          clear hf
          go_wp2_with (at_builtin; refine wpList_append_accfs _ rfl _ _ rfl rfl HM.out rfl HF.out (by omega) ?c1)
          case c1 =>
            intro v' w' hacc
            have HACC := Box.mk (show AccF w w' v' (joinF l r (k + 1)) by rw [HJ.out]; exact hacc)
            clear hacc HM HF HJ
            go_wp2_with fail
            go_roundw
            case rel => exact ⟨k + 1, by omega, by go_num, HACC⟩
            case measure => simp [intOf]; omega
        · obtain rfl : k = 2 := by omega
          have HE := Box.mk (show AccF w wr _ (l ++ r) from HM.out)
          clear HM
          go_wp2_with fail
          obtain ⟨a', cap', rfl, hs⟩ := HE.out.shapeC
          go_ret
          exact ⟨⟨a', cap', rfl, hs.1, HE.out.2⟩, a', cap', rfl, hs⟩

theorem twoF_new (w : World) (l r : List Fld) (a b : Option Addr) (ca cb : Nat) (t : TypeId) (h : FldsC w a l ca) (k : FldsC w b r cb) : TwoF (w.alloc (.cells #[.slice a l.length ca, .slice b r.length cb] t)) w.heap.size l r :=
  ⟨a, ca, b, cb, by rw [new_cellF]; rfl, by rw [new_cellF]; rfl, h.keep (below_oneF _ _), k.keep (below_oneF _ _)⟩

set_option maxHeartbeats 1000000 in
theorem fWith_any (l r : List Fld) (a b : Option Addr) (ca cb : Nat) (w : World) (h : FldsC w a l ca) (k : FldsC w b r cb) (hl : l.length ≤ 1000000) (hr : r.length ≤ 1000000) :
    Calls Tryz.prog 77 #[.slice a l.length ca, .slice b r.length cb] w (RetFlds w (l ++ r)) := by
  have H0 := Box.mk (twoF_new w l r a b ca cb 27 h k)
  have HB := Box.mk (below_oneF w (.cells #[.slice a l.length ca, .slice b r.length cb] 27))
  clear h k
  go_enter Tryz.func77, Tryz.ntmps77
  go_wp2_with fail
  refine (concatF_any l r _ _ H0.out hl hr).mono ?_
  rintro e w1 ⟨⟨a', c', rfl, hs, hb⟩, _⟩
  have HB1 := Box.mk (below_trans HB.out hb)
  have HS := Box.mk hs
  clear hs hb
  go_wp2_with fail
  go_ret
  exact ⟨a', c', by simp, HS.out, HB1.out⟩

end Go.Proofs.YteoadfckcilalaaGreatDoor
namespace Go.Proofs.YteoadfckcilalaaGreatDoor
open Go.RowKit

/-- A Builder of the call's own, in block b, that holds the bytes l. -/
def Bld (w0 w : World) (b : Nat) (l : List UInt8) : Prop := Lib.IsBuilder 159 5 w0.heap.size b (bytesV l) w ∧ Below w0.heap.size w0 w

theorem bld_info : (Tryz.prog.info? 159).isSome = true := by kernel_rfl
theorem bld_conv (w : World) (b : Nat) (hsh : w.shape? b = some (159, 2)) :
    (convert 157 197 (.pointer (some ⟨b, 0, none⟩))).run Tryz.prog w = .ok (.pointer (some ⟨b, 0, none⟩)) w := by
  obtain ⟨j, hj⟩ := Option.isSome_iff_exists.1 bld_info
  refine Lib.run_to_unsafe w ⟨b, 0, none⟩ Tryz.underlying157 Tryz.underlying197 hj ?_ hsh (show 0 < 2 by decide)
  have : (Tryz.prog.info? 159).map (·.size) = some 2 := by kernel_rfl
  rw [hj] at this; simp at this; omega
theorem bld_back (w : World) (b : Nat) (hsh : w.shape? b = some (159, 2)) :
    (convert 197 157 (.pointer (some ⟨b, 0, none⟩))).run Tryz.prog w = .ok (.pointer (some ⟨b, 0, none⟩)) w := by
  obtain ⟨j, hj⟩ := Option.isSome_iff_exists.1 bld_info
  exact Lib.run_from_unsafe w ⟨b, 0, none⟩ Tryz.underlying197 Tryz.underlying157 hj hsh (by kernel_rfl)
theorem bld_same (w : World) (b : Nat) : (binOp .neq 157 (.pointer (some ⟨b, 0, none⟩)) (.pointer (some ⟨b, 0, none⟩))).run Tryz.prog w = .ok (.bool false) w := by
  obtain ⟨j, hj⟩ := Option.isSome_iff_exists.1 bld_info
  exact Lib.run_neq_ptr_same w ⟨b, 0, none⟩ Tryz.underlying157 hj

set_option maxRecDepth 100000 in
set_option maxHeartbeats 1000000 in
theorem copyCheck_any (w0 w : World) (b : Nat) (l : List UInt8) (h : Bld w0 w b l) :
    Calls Tryz.prog 159 #[.pointer (some ⟨b, 0, none⟩)] w fun e w' => e = .returned (.tuple #[]) ∧ Lib.BuilderAt 159 5 w0.heap.size b (.pointer (some ⟨b, 0, none⟩)) (bytesV l) w' ∧ Below w0.heap.size w0 w' := by
  obtain ⟨h1, hB⟩ := h
  rcases h1 with h1 | h1
  · have hc := h1.cell0
    have hf := h1.frozen0
    have HU := Box.mk (h1.used (.pointer (some ⟨b, 0, none⟩)))
    have HB := Box.mk (hB.setCell (p := ⟨b, 0, none⟩) h1.1 (.pointer (some ⟨b, 0, none⟩)))
    have hsh := h1.shape
    clear h1 hB
    go_enter Tryz.func159, Tryz.ntmps159
    have hcv := bld_conv w b hsh
    have hbk := bld_back w b hsh
    have hsm := fun W => bld_same W b
    go_wp2_with fail
    rw [run_callFunc_extern Tryz.func181 (by kernel_rfl) (by kernel_rfl) (by kernel_rfl) (e := Extern.AbiNoEscape.same) (by kernel_rfl), Lib.run_noEscape]
    simp only [Result.andThen]
    rw [Oper.upon_value]
    go_wp2_with fail
    go_end0
    exact ⟨rfl, HU.out, HB.out⟩
  · have hc := h1.cell0
    have hsm := fun W => bld_same W b
    have HU := Box.mk h1
    have HB := Box.mk hB
    clear h1 hB
    go_enter Tryz.func159, Tryz.ntmps159
    go_wp2_with fail
    go_end0
    exact ⟨rfl, HU.out, HB.out⟩

section
variable {ops : Array Oper} {rest : List Oper} {o : Oper} {act : Act} {Q : Exit → Act → World → Prop}
end

theorem bldX : Builder.Extra Tryz.prog Tryz.lays169_ren where -- 134
  sizeBuilder := by kernel_rfl
  liesBuilder := by kernel_rfl
  t5 := Tryz.underlying5
  a5 := Tryz.isAgg5
  z5 := Tryz.sizeOf5
  v5 := Tryz.zeroValue5
  infoByte := Tryz.info5
  cellsByte := by kernel_rfl
  sizeByte := by kernel_rfl
  neB5 := by decide
theorem bld_string (w0 w : World) (b : Nat) (l : List UInt8) (h : Bld w0 w b l) :
    Calls Tryz.prog 134 #[.pointer (some ⟨b, 0, none⟩)] w fun e w' => e = .returned (.string ⟨l.toArray⟩) ∧ Below w0.heap.size w0 w' := by
  refine (Any.Builder_String_any_k Tryz.lays169 bldX w0.heap.size b l w (Lib.IsBuilderF.of h.1) h.2.size).mono ?_
  rintro e w' ⟨he, _, hb, _⟩
  exact ⟨he, h.2.trans hb⟩

end Go.Proofs.YteoadfckcilalaaGreatDoor
namespace Go.Proofs.YteoadfckcilalaaGreatDoor
open Go.RowKit

theorem strCells_bytes (s : ByteArray) : Lib.strCells s = bytesV s.data.toList := by
  unfold Lib.strCells bytesV; rfl
set_option maxHeartbeats 1000000 in
theorem writeString_any (w0 w : World) (b : Nat) (l : List UInt8) (s : ByteArray) (h : Bld w0 w b l) (hl : l.length + s.size ≤ 140737488355328) :
    Calls Tryz.prog 132 #[.pointer (some ⟨b, 0, none⟩), .string s] w fun e w' => e = .returned (.tuple #[.int .i64 s.size, .nilIface]) ∧ Bld w0 w' b (l ++ s.data.toList) := by
  have H0 := Box.mk h
  clear h
  obtain ⟨i0, hi, hz0, hz1, hz2⟩ := info_parts Tryz.info5
  have HI := Box.mk (And.intro hi (And.intro hz0 (And.intro hz1 hz2)))
  clear hi hz0 hz1 hz2
  go_enter Tryz.func132, Tryz.ntmps132
  go_wp2_with fail
  refine (copyCheck_any w0 w b l H0.out).mono ?_
  rintro e w1 ⟨rfl, ⟨hb0, v, hbk, hown, hne⟩, hB⟩
  have hc1 : w1.cell? ⟨b, 1, none⟩ = some v := by rw [cell_of_row _ _ _ _ _ _ hbk]; rfl
  have hsz : b < w1.heap.size := (Array.getElem?_eq_some_iff.1 hbk).1
  have HOWN := Box.mk hown
  have HK := Box.mk (And.intro hb0 (And.intro hbk (And.intro hne hsz)))
  have HB := Box.mk hB
  have hbl := bytesV_len l
  clear hb0 hbk hown hne hB hsz
  go_wp2_with (at_builtin; refine Lib.wpList_append_own_string _ rfl _ _ 23 9 rfl w0.heap.size 5 i0 Tryz.underlying23 Tryz.underlying9 HI.out.1 HI.out.2.1 HI.out.2.2.1 HI.out.2.2.2 _ _ _ rfl HOWN.out s rfl ?c3 ?c4 ?c5 ?c1)
  case c3 => unfold maxLen; omega
  case c4 => omega
  case c5 => have := HB.out.size; omega
  case c1 =>
    intro v2 w2 hown2 hgrow _
    have hown3 : w2.ownsRow w0.heap.size 5 1 v2 (bytesV (l ++ s.data.toList)).length (bytesV (l ++ s.data.toList)) := by
      have e1 : bytesV (l ++ s.data.toList) = bytesV l ++ Lib.strCells s := by rw [strCells_bytes]; unfold bytesV; rw [List.map_append]
      have e2 : (bytesV l ++ Lib.strCells s).length = (bytesV l).length + s.size := by rw [List.length_append, Lib.strCells_length]
      rw [e1, e2, hbl]; exact hown2
    have HOWN3 := Box.mk hown3
    obtain ⟨a2, n2, cp2, rfl⟩ : ∃ a2 n2 cp2, v2 = .slice a2 n2 cp2 := by
      rcases hown2.2 with ⟨hv, _⟩ | ⟨g, cap, cur, hv, _⟩
      · exact ⟨_, _, _, hv⟩
      · exact ⟨_, _, _, hv⟩
    have hbk2 := (hgrow.block b HK.out.2.2.2 (fun e => HK.out.2.2.1 e.symm)).trans HK.out.2.1
    have hc2 : w2.cell? ⟨b, 1, none⟩ = some v := by rw [cell_of_row _ _ _ _ _ _ hbk2]; rfl
    have hf2 := frozen_of_row w2 b 1 _ _ hbk2
    have HP := Box.mk (Lib.BuilderAt.put HK.out.1 hbk2 (v' := .slice a2 n2 cp2) HOWN3.out (by decide))
    have HB2 := Box.mk ((HB.out.grown hgrow HB.out.size fun k hk => (World.ownsRow.lt HOWN.out k hk).1).setCell (p := ⟨b, 1, none⟩) HK.out.1 (.slice a2 n2 cp2))
    clear hown2 hown3 hgrow hbk2 HK HB HOWN HOWN3
    go_wp2_with fail
    go_ret2
    exact ⟨rfl, .inr HP.out, HB2.out⟩

theorem bld_newF (w : World) : Bld w (w.alloc (.cells #[.pointer none, .slice none 0 0] 159)) w.heap.size [] :=
  ⟨.inl ⟨Nat.le_refl _, .slice none 0 0, heap_alloc_new _ _, World.ownsRow_nil _ _ _ _, by simp [Value.ownBlock]⟩, (Below.refl _ _).alloc (Nat.le_refl _) _⟩
/-- The builder where the call goes on in a world that has more in it. -/
theorem Bld.keep {w0 w w' : World} {b : Nat} {l : List UInt8} (h : Bld w0 w b l) (hb : Below w.heap.size w w') : Bld w0 w' b l := by
  obtain ⟨h1, h2⟩ := h
  refine ⟨?_, h2.trans (hb.mono h2.size)⟩
  rcases h1 with ⟨hb0, v, hbk, hown, hne⟩ | ⟨hb0, v, hbk, hown, hne⟩
  · have hlt : b < w.heap.size := (Array.getElem?_eq_some_iff.1 hbk).1
    exact .inl ⟨hb0, v, by rw [hb.block b hlt]; exact hbk, ownsRow_keep hown hb, hne⟩
  · have hlt : b < w.heap.size := (Array.getElem?_eq_some_iff.1 hbk).1
    exact .inr ⟨hb0, v, by rw [hb.block b hlt]; exact hbk, ownsRow_keep hown hb, hne⟩

theorem new_cellF2 (w : World) (o : Obj) (cs : Array Value) (t : TypeId) (j : Nat) : ((w.alloc o).alloc (.cells cs t (0, 0))).cell? ⟨w.heap.size + 1, j, none⟩ = cs[j]? := by
  have h := new_cellF (w.alloc o) cs t j
  rw [show (w.alloc o).heap.size = w.heap.size + 1 by simp] at h
  exact h
/-- The lines of fields. -/
def lineB (f : Fld) : List UInt8 := f.1.data.toList ++ [58, 32] ++ f.2.data.toList ++ [13, 10]
def linesB (l : List Fld) : List UInt8 := l.flatMap lineB
def allB (l : List Fld) : Bool := l.all fun f => fldB f.1 f.2
def fmtF (l : List Fld) : ByteArray := if allB l then ⟨(linesB l).toArray⟩ else ⟨#[]⟩
theorem lineB_eq (f : Fld) : (f.1 ++ ⟨#[58, 32]⟩ ++ f.2 ++ ⟨#[13, 10]⟩ : ByteArray).data.toList = lineB f := by
  unfold lineB
  simp only [ByteArray.data_append, Array.toList_append]
theorem linesB_step (l : List Fld) (k : Nat) (h : k < l.length) : linesB (l.take (k + 1)) = linesB (l.take k) ++ lineB l[k] := by
  unfold linesB
  rw [List.take_succ_eq_append_getElem h, List.flatMap_append]; simp
theorem lineB_len (f : Fld) : (lineB f).length = f.1.size + f.2.size + 4 := by
  unfold lineB
  simp only [List.length_append, List.length_cons, List.length_nil, Array.length_toList]
  generalize e1 : f.1.data.size = n1
  generalize e2 : f.2.data.size = n2
  have g1 : f.1.size = n1 := e1
  have g2 : f.2.size = n2 := e2
  rw [g1, g2]; omega
/-- Strings that are small enough to be joined. -/
def SmallF (l : List Fld) : Prop := ∀ f ∈ l, f.1.size ≤ 1048576 ∧ f.2.size ≤ 1048576
theorem linesB_len (l : List Fld) (h : SmallF l) (k : Nat) : (linesB (l.take k)).length ≤ k * 2097156 := by
  induction k with
  | zero => simp [linesB]
  | succ k ih =>
    by_cases hk : k < l.length
    · rw [linesB_step l k hk, List.length_append, lineB_len]
      have := h _ (List.getElem_mem hk)
      omega
    · rw [List.take_of_length_le (by omega)]
      rw [List.take_of_length_le (by omega)] at ih
      exact Nat.le_trans ih (Nat.mul_le_mul_right _ (Nat.le_succ k))
theorem fmtF_no {l : List Fld} {k : Nat} (hk : k < l.length) (h : fldB l[k].1 l[k].2 = false) : fmtF l = ⟨#[]⟩ := by
  unfold fmtF
  rw [if_neg]
  intro ha
  have := List.all_eq_true.1 ha _ (List.getElem_mem hk)
  rw [h] at this; cases this
theorem fmtF_yes {l : List Fld} {k : Nat} (hk : k ≤ l.length) (hk2 : ¬ k < l.length) (h : ∀ f ∈ l.take k, fldB f.1 f.2 = true) : fmtF l = ⟨(linesB l).toArray⟩ := by
  unfold fmtF
  rw [List.take_of_length_le (by omega)] at h
  have : allB l = true := List.all_eq_true.2 h
  rw [if_pos this]
theorem all_stepF {l : List Fld} {k : Nat} (hk : k < l.length) (h : ∀ f ∈ l.take k, fldB f.1 f.2 = true) (hf : fldB l[k].1 l[k].2 = true) : ∀ f ∈ l.take (k + 1), fldB f.1 f.2 = true := by
  rw [List.take_succ_eq_append_getElem hk]
  intro y hy
  rcases List.mem_append.1 hy with h1 | h1
  · exact h y h1
  · simp at h1; rw [h1]; exact hf
theorem le_maxLen {n : Nat} (h : n ≤ 1048576) : n ≤ maxLen := by unfold maxLen; omega

set_option maxRecDepth 100000 in
set_option maxHeartbeats 2000000 in
theorem fFormat_any (l : List Fld) (a : Option Addr) (cap : Nat) (w : World) (h : FldsIn w a l) (hz : SmallF l) (hl : l.length ≤ 1000000) :
    Calls Tryz.prog 96 #[.slice a l.length cap] w fun e w' => e = .returned (.string (fmtF l)) ∧ Below w.heap.size w w' := by
  have H0 := Box.mk h
  have HZ := Box.mk hz
  clear h hz
  go_enter Tryz.func96, Tryz.ntmps96
  go_wp2_with fail
  obtain ⟨W, hW⟩ : ∃ W, W = w.alloc (.cells #[.pointer none, .slice none 0 0] 159) := ⟨_, rfl⟩
  have HB0 := Box.mk (bld_newF w)
  rw [← hW] at HB0 ⊢
  clear hW
  generalize hb : w.heap.size = b at *
  have HBS := Box.mk hb
  clear hb
  go_loopw [9] (fun iv wr => ∃ k : Nat, k ≤ l.length ∧ iv = .int .i64 k ∧ Box (Bld w wr b (linesB (l.take k)) ∧ ∀ f ∈ l.take k, fldB f.1 f.2 = true)) (fun iv _ => l.length - (intOf iv).toNat)
  case atStart => exact ⟨0, Nat.zero_le _, rfl, ⟨HB0.out, by simp⟩⟩
  case round =>
    clear HB0
    obtain ⟨k, hk, rfl, HM⟩ := hrel
    by_cases hlt : k < l.length
    · obtain ⟨x, rfl, hx1, hx2⟩ := (H0.out.keep HM.out.1.2) k hlt
      have hx2 := cell_next hx2
      have HSZ := Box.mk (HZ.out _ (List.getElem_mem hlt))
      have hLB := linesB_len l HZ.out k
      have HST := Box.mk (linesB_step l k hlt)
      by_cases hv : fldB l[k].1 l[k].2 = true
      · have HALL := Box.mk (all_stepF hlt HM.out.2 hv)
        have HV := Box.mk hv
        clear hv
        generalize l[k] = f at *
        have HLL := Box.mk (lineB_len f)
        go_wp2_with fail
        refine (hdrValid_any f.1 f.2 _ (le_maxLen HSZ.out.1) (le_maxLen HSZ.out.2)).mono ?_
        rintro e w1 ⟨he, hb1⟩
        rw [HV.out] at he
        subst he
        have HB1 := Box.mk (below_trans (below_oneF wr (.cells #[.string f.1, .string f.2] 88)) (below_trans (below_oneF _ (.cells #[.string f.1, .string f.2] 161)) hb1))
        have hc1 : w1.cell? ⟨wr.heap.size + 1, 0, none⟩ = some (.string f.1) := below_cell hb1 (by rw [new_cellF2]; rfl)
        have hc2 : w1.cell? ⟨wr.heap.size + 1, 1, none⟩ = some (.string f.2) := below_cell hb1 (by rw [new_cellF2]; rfl)
        have HM1 := Box.mk (HM.out.1.keep HB1.out)
        clear hb1 hx1 hx2
        go_wp2_with fail
        refine (hdrLine_any f.1 f.2 _ (by have := HSZ.out.1; omega) (by have := HSZ.out.2; omega)).mono ?_
        rintro e w2 ⟨rfl, hb2⟩
        have HM2 := Box.mk (HM1.out.keep hb2)
        have HLE := Box.mk (lineB_eq f)
        have HS := Box.mk (show (f.1 ++ ⟨#[58, 32]⟩ ++ f.2 ++ ⟨#[13, 10]⟩ : ByteArray).size = f.1.size + f.2.size + 4 by
          rw [← HLL.out, ← HLE.out, Array.length_toList]; rfl)
        clear hb2 hc1 hc2 HM1
        generalize (f.1 ++ ⟨#[58, 32]⟩ ++ f.2 ++ ⟨#[13, 10]⟩ : ByteArray) = L at *
        go_wp2_with fail
        refine (writeString_any w w2 b _ L HM2.out (by have := HS.out; have := HSZ.out; omega)).mono ?_
        rintro e w3 ⟨rfl, h3⟩
        have HM3 := Box.mk (show Bld w w3 b (linesB (l.take (k + 1))) ∧ ∀ f ∈ l.take (k + 1), fldB f.1 f.2 = true from ⟨by rw [HST.out, ← HLE.out]; exact h3, HALL.out⟩)
        clear h3 HM2 HLE HST HALL
        go_wp2_with fail
        go_roundw
        case rel => exact ⟨k + 1, by omega, by go_num, HM3⟩
        case measure => simp [intOf]; omega
      · have HV := Box.mk (show fldB l[k].1 l[k].2 = false by simpa using hv)
        have HE := Box.mk (fmtF_no hlt HV.out)
        clear hv
        generalize l[k] = f at *
        go_wp2_with fail
        refine (hdrValid_any f.1 f.2 _ (le_maxLen HSZ.out.1) (le_maxLen HSZ.out.2)).mono ?_
        rintro e w1 ⟨he, hb1⟩
        rw [HV.out] at he
        subst he
        have HB1 := Box.mk (HM.out.1.2.trans ((below_trans (below_oneF wr (.cells #[.string f.1, .string f.2] 88)) (below_trans (below_oneF _ (.cells #[.string f.1, .string f.2] 161)) hb1)).mono HM.out.1.2.size))
        clear hb1
        go_wp2_with fail
        go_ret
        exact ⟨ret_str HE.out.symm, HB1.out⟩
    · have HE := Box.mk (fmtF_yes hk hlt HM.out.2)
      have HM1 := Box.mk (show Bld w wr b (linesB l) by have := HM.out.1; rw [List.take_of_length_le (by omega)] at this; exact this)
      clear HM
      go_wp2_with fail
      refine (bld_string w wr b _ HM1.out).mono ?_
      rintro e w2 ⟨rfl, hb⟩
      have HB := Box.mk hb
      clear hb
      go_wp2_with fail
      go_ret
      exact ⟨ret_str HE.out.symm, HB.out⟩

theorem ba_app_list (a b : ByteArray) : (a ++ b).data.toList = a.data.toList ++ b.data.toList := by rw [ByteArray.data_append]; simp

set_option maxRecDepth 100000 in
set_option maxHeartbeats 2000000 in
theorem refFormat_any (l : List Fld) (a : Option Addr) (cap : Nat) (w : World) (h : FldsIn w a l) (hz : SmallF l) (hl : l.length ≤ 1000000) :
    Calls Tryz.prog 72 #[.slice a l.length cap] w fun e w' => e = .returned (.string (fmtF l)) ∧ Below w.heap.size w w' := by
  have H0 := Box.mk h
  have HZ := Box.mk hz
  clear h hz
  go_enter Tryz.func72, Tryz.ntmps72
  go_wp2_with fail
  go_loopw [3, 4] (fun v iv wr => ∃ k : Nat, k ≤ l.length ∧ iv = .int .i64 k ∧ ∃ s : ByteArray, v = .string s ∧ s.size ≤ k * 2097156 ∧ Box (s.data.toList = linesB (l.take k) ∧ Below w.heap.size w wr ∧ ∀ f ∈ l.take k, fldB f.1 f.2 = true)) (fun _ iv _ => l.length - (intOf iv).toNat)
  case atStart => exact ⟨0, Nat.zero_le _, rfl, ⟨#[]⟩, rfl, Nat.zero_le _, ⟨by simp [linesB], Below.refl _ _, by simp⟩⟩
  case round =>
    obtain ⟨k, hk, rfl, s, rfl, hs, HM⟩ := hrel
    by_cases hlt : k < l.length
    · obtain ⟨x, rfl, hx1, hx2⟩ := (H0.out.keep HM.out.2.1) k hlt
      have HX := Box.mk (And.intro hx1 hx2)
      have hx2 := cell_next hx2
      have HSZ := Box.mk (HZ.out _ (List.getElem_mem hlt))
      have HST := Box.mk (linesB_step l k hlt)
      by_cases hv : fldB l[k].1 l[k].2 = true
      · have HALL := Box.mk (all_stepF hlt HM.out.2.2 hv)
        have HV := Box.mk hv
        clear hv
        generalize l[k] = f at *
        have HLE := Box.mk (lineB_eq f)
        go_wp2_with fail
        refine (refFieldValid_any f.1 f.2 _ (le_maxLen HSZ.out.1) (le_maxLen HSZ.out.2)).mono ?_
        rintro e w1 ⟨he, hb1⟩
        rw [HV.out] at he
        subst he
        have hc1 := below_cell hb1 HX.out.1
        have hc2 := cell_next (below_cell hb1 HX.out.2)
        have HB1 := Box.mk (below_trans HM.out.2.1 hb1)
        have z1 := HSZ.out.1
        have z2 := HSZ.out.2
        have g1 : (s ++ f.1).size = s.size + f.1.size := by rw [ByteArray.size_append]
        have g2 : (s ++ f.1 ++ ⟨#[58, 32]⟩).size = s.size + f.1.size + 2 := by rw [ByteArray.size_append, g1]; rfl
        have g3 : (s ++ f.1 ++ ⟨#[58, 32]⟩ ++ f.2).size = s.size + f.1.size + 2 + f.2.size := by rw [ByteArray.size_append, g2]
        have G4 := Box.mk (show (s ++ f.1 ++ ⟨#[58, 32]⟩ ++ f.2 ++ ⟨#[13, 10]⟩).size = s.size + f.1.size + 2 + f.2.size + 2 by rw [ByteArray.size_append, g3]; rfl)
        have HNEW := Box.mk (show (s ++ f.1 ++ ⟨#[58, 32]⟩ ++ f.2 ++ ⟨#[13, 10]⟩).data.toList = linesB (l.take (k + 1)) by
          rw [HST.out, ← HLE.out, ← HM.out.1]
          simp only [ba_app_list, List.append_assoc])
        clear hb1 hx1 hx2
        go_wp2_with fail
        go_quiet (fail)
        go_wp2
        go_roundw
        case rel => exact ⟨k + 1, by omega, by go_num, _, rfl, by rw [G4.out]; omega, ⟨HNEW.out, below_drewN HB1.out _, HALL.out⟩⟩
        case measure => simp [intOf]; omega
      · have HV := Box.mk (show fldB l[k].1 l[k].2 = false by simpa using hv)
        have HE := Box.mk (fmtF_no hlt HV.out)
        clear hv
        generalize l[k] = f at *
        go_wp2_with fail
        refine (refFieldValid_any f.1 f.2 _ (le_maxLen HSZ.out.1) (le_maxLen HSZ.out.2)).mono ?_
        rintro e w1 ⟨he, hb1⟩
        rw [HV.out] at he
        subst he
        have HB1 := Box.mk (below_trans HM.out.2.1 hb1)
        clear hb1
        go_wp2_with fail
        go_ret
        exact ⟨ret_str HE.out.symm, HB1.out⟩
    · have HE := Box.mk (fmtF_yes hk hlt HM.out.2.2)
      have HS := Box.mk (show s = ⟨(linesB l).toArray⟩ from ba_ext (by have := HM.out.1; rw [List.take_of_length_le (by omega)] at this; rw [this]))
      go_wp2_with fail
      go_ret
      exact ⟨ret_str (by rw [HE.out, HS.out]), HM.out.2.1⟩
end Go.Proofs.YteoadfckcilalaaGreatDoor
