/- The contracts of awake and of the laws of layer 3. -/
import Derived.Test.YtcniajbfgfikjaaDoorHashB
import Derived.Test.YtcniajbfgfikjaaDoorBytes
import Derived.Lib.SlBytesConst
namespace Go.Proofs.YtcniajbfgfikjaaDoor
open Go.RowKit

theorem below_new (w : World) (o : Obj) : Below w.heap.size w (w.alloc o) := (Below.refl _ _).alloc (Nat.le_refl _) _
theorem below_new_drew (w : World) (o : Obj) : Below w.heap.size w (w.alloc o).drew := ((Below.refl _ _).alloc (Nat.le_refl _) _).drew

theorem mixN_eq (h : Nat) (a b : UInt8) (hh : h < 18446744073709551616) : mixN h a.toNat = mixN h b.toNat ↔ a = b :=
  ⟨fun e => UInt8.toNat_inj.1 (mixN_inj h _ _ hh (by have := a.toNat_lt; omega) (by have := b.toNat_lt; omega) e), fun e => by rw [e]⟩

theorem sumL_sep (a b : ByteArray) : sumL [a, b] = mixN (mixL (mixL 14695981039346656037 (a ++ ⟨#[0]⟩).data.toList) b.data.toList) 0 := by
  have e : (a ++ ⟨#[0]⟩ : ByteArray).data.toList = a.data.toList ++ [0] := by rw [ByteArray.data_append]; simp
  rw [e, mixL_append, mixL_cons, mixL_nil]
  unfold sumL
  rw [List.foldl_cons, List.foldl_cons, List.foldl_nil]
  unfold sumN
  rw [show (0 : UInt8).toNat = 0 by decide]

theorem strsIn_two (w : World) (a b : ByteArray) : StrsIn (w.alloc (.cells #[.string a, .string b] 9)) (some ⟨w.heap.size, 0, none⟩) [a, b] := fun j hj => by
  refine ⟨_, rfl, ?_⟩
  rw [Addr.add_lit, Nat.zero_add, World.cell?_alloc_mark]
  match j, hj with
  | 0, _ => rfl
  | 1, _ => rfl
theorem cat_size (a b : ByteArray) : (a ++ b).size = a.size + b.size := by
  show (a ++ b).data.size = a.data.size + b.data.size
  rw [ByteArray.data_append]; simp

end Go.Proofs.YtcniajbfgfikjaaDoor
