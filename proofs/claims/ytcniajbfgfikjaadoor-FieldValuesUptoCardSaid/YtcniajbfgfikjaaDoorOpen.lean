/- Opening arguments: a byte, a slice of bytes. -/
import Derived.Test.YtcniajbfgfikjaaDoorRows
import Derived.WalkKit
import Derived.ProofKit
import Derived.OpenShut
import Derived.Laws.IdiomStrings
import Derived.Lib.Strings
namespace Go.Proofs.YtcniajbfgfikjaaDoor
open Go.ChangeShapes Go.WideShapes Go.ChangeAt Go.RowKit

theorem byte_of {x : Int} (h : (Lit.int .u8 x).wf = true) : ∃ c : UInt8, x = (c.toNat : Int) := by
  have hb : 0 ≤ x ∧ x ≤ 255 := bounds_u8 h
  refine ⟨x.toNat.toUInt8, ?_⟩
  have : (x.toNat.toUInt8).toNat = x.toNat := by rw [Nat.toUInt8_eq, UInt8.toNat_ofNat']; omega
  omega

/-- The slice at a reads as the bytes l. -/
def IsBytes (w : World) (a : Option Addr) (l : List UInt8) (cap : Nat) : Prop :=
  (a = none ∧ l = [] ∧ cap = 0) ∨ ∃ x, a = some x ∧ l.length ≤ cap ∧ cap ≤ maxLen ∧ ∀ j (hj : j < l.length), w.cell? (x.add j) = some (.int .u8 (l[j].toNat : Int))

theorem open_bytes {H : Type} {enc : TypeId × Value → H} {W : World} {a : Option Addr} {len cap : Nat} {d : DataW H} {ps : List MemPlace} {base : Nat}
    (h : DataW.Trod enc Tryd.prog W base (fun _ => true) true 43 (.slice a len cap) d ps) : ∃ l : List UInt8, len = l.length ∧ IsBytes W a l cap := by
  obtain ⟨fuel, hf⟩ := h
  rcases open_ints Tryd.underlying43 Tryd.underlying5 (by kernel_rfl) hf with ⟨hcs, _⟩ | ⟨x, l, c, zs, hcs, _, hl, hm, hz, _, hcell, hwz⟩
  · simp [Value.cells] at hcs
    obtain ⟨rfl, rfl, rfl⟩ := hcs
    exact ⟨[], rfl, .inl ⟨rfl, rfl, rfl⟩⟩
  · simp [Value.cells] at hcs
    obtain ⟨rfl, rfl, rfl⟩ := hcs
    have hz' : zs.length = cap := by simpa using hz
    have hlen : ((zs.take len).map fun z => z.toNat.toUInt8).length = len := by simp; omega
    refine ⟨(zs.take len).map fun z => z.toNat.toUInt8, hlen.symm, .inr ⟨x, rfl, by rw [hlen]; exact hl, hm, fun j hj => ?_⟩⟩
    rw [hlen] at hj
    have hj' : j < zs.length := by omega
    rw [hcell j hj']
    have hw := hwz zs[j] (List.getElem_mem _)
    obtain ⟨c, hc⟩ := byte_of hw
    have e : zs.getD j 0 = zs[j] := by rw [List.getD_eq_getElem?_getD, List.getElem?_eq_getElem hj']; rfl
    rw [e]
    have e2 : ((zs.take len).map fun z => z.toNat.toUInt8)[j]'(by rw [hlen]; exact hj) = zs[j].toNat.toUInt8 := by simp
    rw [e2, hc]
    simp

/-- string(b) of a slice of bytes that came in. -/
theorem conv_bytes {W : World} {a : Option Addr} {l : List UInt8} {cap : Nat} (h : IsBytes W a l cap) :
    (convert 43 9 (.slice a l.length cap)).run Tryd.prog W = .ok (.string ⟨l.toArray⟩) W := by
  rcases h with ⟨rfl, rfl, rfl⟩ | ⟨x, rfl, _, _, hc⟩
  · simp [convert, run_underlying Tryd.underlying43, run_underlying Tryd.underlying9, run_underlying Tryd.underlying5, Conv.bytesToString]
    rfl
  · exact run_convert_bytes_back (P := Tryd.prog) W 43 9 5 x cap l Tryd.underlying43 Tryd.underlying5 Tryd.underlying9 hc
theorem isBytes_len {W : World} {a : Option Addr} {l : List UInt8} {cap : Nat} (h : IsBytes W a l cap) : l.length ≤ maxLen := by
  rcases h with ⟨_, rfl, _⟩ | ⟨_, _, h1, h2, _⟩
  · exact Nat.zero_le _
  · exact Nat.le_trans h1 h2
end Go.Proofs.YtcniajbfgfikjaaDoor
