/- Opening a slice of numbers, for the law of the order. -/
import Derived.Test.YtpgppninmnplkaaQueP
import Derived.Test.YtpgppninmnplkaaQueO
namespace Go.Proofs.Ytpgppninmnplkaa
open Go.ChangeShapes Go.WideShapes Go.ChangeAt Go.RowKit

theorem open_intsq {H : Type} {enc : TypeId × Value → H} {W : World} {a : Option Addr} {len cap : Nat} {d : DataW H} {ps : List MemPlace} {base : Nat}
    (h : DataW.Trod enc Try.prog W base (fun _ => true) true 40 (.slice a len cap) d ps) : IntsQ W a len := by
  obtain ⟨fuel, hf⟩ := h
  rcases open_ints Try.underlying40 Try.underlying3 (by kernel_rfl) hf with ⟨hcs, _⟩ | ⟨x, l, c, zs, hcs, _, hl, hm, hz, _, hcell, hwz⟩
  · simp [Value.cells] at hcs
    obtain ⟨rfl, rfl, rfl⟩ := hcs
    exact fun k hk => absurd hk (Nat.not_lt_zero _)
  · simp [Value.cells] at hcs
    obtain ⟨rfl, rfl, rfl⟩ := hcs
    have hz' : zs.length = cap := by simpa using hz
    intro k hk
    exact ⟨x, _, rfl, hcell k (by omega)⟩
end Go.Proofs.Ytpgppninmnplkaa
