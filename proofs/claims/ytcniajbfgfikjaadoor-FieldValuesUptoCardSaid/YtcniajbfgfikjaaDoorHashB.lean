/- The contracts of Sum, of package hash and of its reference. -/
import Derived.Test.YtcniajbfgfikjaaDoorHashA
import Derived.Test.YtcniajbfgfikjaaDoorAsciiB
import Derived.Test.YtcniajbfgfikjaaDoorStrs
import Derived.Test.YtcniajbfgfikjaaDoorOpenS
namespace Go.Proofs.YtcniajbfgfikjaaDoor
open Go.RowKit

/-- The hash after a string and its end. -/
def sumN (h : Nat) (s : ByteArray) : Nat := mixN (mixL h s.data.toList) 0
def sumL (l : List ByteArray) : Nat := l.foldl sumN 14695981039346656037
theorem sumN_lt (h : Nat) (s : ByteArray) : sumN h s < 18446744073709551616 := mixN_lt _ _
theorem sumL_nil : sumL [] = 14695981039346656037 := by unfold sumL; rw [List.foldl_nil]
theorem sumL_snoc (l : List ByteArray) (k : Nat) (hk : k < l.length) : sumL (l.take (k + 1)) = sumN (sumL (l.take k)) l[k] := by
  unfold sumL
  rw [List.take_succ_eq_append_getElem hk, List.foldl_append, List.foldl_cons, List.foldl_nil]

/-- The bytes of a string, in a block of their own. -/
theorem bytesIn_new (w : World) (s : ByteArray) (cap : Nat) :
    BytesIn (w.alloc (.cells (bytesRow s cap) 5 ((bytesRow s cap).size, (bytesRow s cap).size + 1))).drew (some ⟨w.heap.size, 0, none⟩) s.data.toList := fun j hj => by
  refine ⟨_, rfl, ?_⟩
  rw [Addr.add_lit, Nat.zero_add]
  exact (bytesAt_new w s cap j hj).1
theorem byteIn_new (w : World) (c : UInt8) (fr : Nat × Nat) : BytesIn (w.alloc (.cells #[.int .u8 (c.toNat : Int)] 5 fr)) (some ⟨w.heap.size, 0, none⟩) [c] := fun j hj => by
  have : j = 0 := by simpa using hj
  subst this
  refine ⟨_, rfl, ?_⟩
  rw [Addr.add_lit, Nat.zero_add, World.cell?_alloc_mark]; rfl

theorem len_toList (s : ByteArray) : s.data.toList.length = s.size := by simp
end Go.Proofs.YtcniajbfgfikjaaDoor
