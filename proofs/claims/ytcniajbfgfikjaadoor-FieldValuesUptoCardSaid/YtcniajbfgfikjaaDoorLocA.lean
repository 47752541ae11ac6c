/- More of a region's single operations: comparisons, lengths, slices of slices that are built. -/
import Derived.Test.YtcniajbfgfikjaaDoorLoc
import Derived.Test.YtcniajbfgfikjaaDoorHashD
import Derived.Great.BuildSlice
import Derived.Laws.Rows
namespace Go.Proofs.YtcniajbfgfikjaaDoor
open Go.RowKit

def BytesV (w : World) (v : Value) (l : List UInt8) : Prop := ∃ a c, v = .slice a l.length c ∧ IsBytes w a l c
theorem BytesV.keep {w w' : World} {v : Value} {l : List UInt8} (h : BytesV w v l) (hb : Below w.heap.size w w') : BytesV w' v l := by
  obtain ⟨a, c, h1, h2⟩ := h
  exact ⟨a, c, h1, h2.keep hb⟩
theorem AccB.bytesV {w0 w : World} {v : Value} {l : List UInt8} (h : AccB w0 w v l) : BytesV w v l := h.shape
def Spec.bytes (l : List UInt8) : Spec := ⟨fun v w => BytesV w v l, fun _ _ _ h hb => h.keep hb⟩

section
variable {Q : Exit → Act → World → Prop} {a : Act} {w : World} {o : Oper} {s : Spec}
theorem loc_eql_str {x y : Operand} {t : TypeId} (ho : o.op = .binOp .eql 9 x y t) {b : ByteArray} (hx : a.eval x = .string b) (hy : a.eval y = .string b) (hs : s.p (.bool true) w) :
    o.wp Tryd.prog a w (fun a' w' => ∃ v, a' = a.put o.dst v ∧ Below w.heap.size w w' ∧ s.p v w') Q :=
  loc_run (v := .bool true) (by
    unfold execOp
    simp [ho, hx, hy, eqGuard, binOp, Op.stringOp]) (Below.refl _ _) hs
theorem loc_eql_int {x y : Operand} {t : TypeId} (ho : o.op = .binOp .eql 3 x y t) {n : Int} (hx : a.eval x = .int .i64 n) (hy : a.eval y = .int .i64 n) (hs : s.p (.bool true) w) :
    o.wp Tryd.prog a w (fun a' w' => ∃ v, a' = a.put o.dst v ∧ Below w.heap.size w w' ∧ s.p v w') Q :=
  loc_run (v := .bool true) (by
    unfold execOp
    simp [ho, hx, hy, eqGuard, binOp, Op.intCmp]) (Below.refl _ _) hs
theorem loc_len {x : Operand} (ho : o.op = .call { callee := .builtin .len, args := #[x], argTypes := #[43] }) {ad : Option Addr} {n c : Nat} (hx : a.eval x = .slice ad n c) (hs : s.p (.int .i64 n) w) :
    o.wp Tryd.prog a w (fun a' w' => ∃ v, a' = a.put o.dst v ∧ Below w.heap.size w w' ∧ s.p v w') Q :=
  loc_run (v := .int .i64 n) (by
    unfold execOp
    simp [ho, hx, resolve, invoke, builtin, Builtin.len_, run_underlying Tryd.underlying43]
    try rfl) (Below.refl _ _) hs
theorem loc_string {x : Operand} (ho : o.op = .convert 43 9 x) {l : List UInt8} (h : BytesV w (a.eval x) l) (hs : s.p (.string ⟨l.toArray⟩) w) :
    o.wp Tryd.prog a w (fun a' w' => ∃ v, a' = a.put o.dst v ∧ Below w.heap.size w w' ∧ s.p v w') Q := by
  obtain ⟨ad, c, h1, h2⟩ := h
  refine loc_convert ho ?_ hs
  rw [h1]
  exact conv_bytes h2
end
end Go.Proofs.YtcniajbfgfikjaaDoor
