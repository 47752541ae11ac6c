/- FNV-1a in plain words, and the contracts of mix and Write, of package hash and of its reference. -/
import Derived.Test.YtcniajbfgfikjaaDoorAsciiA
import Derived.Test.YtcniajbfgfikjaaDoorOpen
import Derived.Laws.Bits64
namespace Go.Proofs.YtcniajbfgfikjaaDoor
open Go.RowKit

/-- One round: a number of 64 bits and a byte. -/
def mixN (h : Nat) (c : Nat) : Nat := ((h ^^^ c) * 1099511628211) % 18446744073709551616
def mixL (h : Nat) (l : List UInt8) : Nat := l.foldl (fun h c => mixN h c.toNat) h
theorem mixN_lt (h c : Nat) : mixN h c < 18446744073709551616 := Nat.mod_lt _ (by decide)
theorem mixL_lt : ∀ (l : List UInt8) (h : Nat), h < 18446744073709551616 → mixL h l < 18446744073709551616
  | [], _, hh => hh
  | c :: r, h, _ => mixL_lt r (mixN h c.toNat) (mixN_lt _ _)
theorem mixL_append (h : Nat) (l r : List UInt8) : mixL h (l ++ r) = mixL (mixL h l) r := List.foldl_append ..
theorem mixL_nil (h : Nat) : mixL h [] = h := rfl
theorem mixL_cons (h : Nat) (c : UInt8) (r : List UInt8) : mixL h (c :: r) = mixL (mixN h c.toNat) r := rfl
theorem mixL_snoc (h : Nat) (l : List UInt8) (k : Nat) (hk : k < l.length) : mixL h (l.take (k + 1)) = mixN (mixL h (l.take k)) l[k].toNat := by
  rw [List.take_succ_eq_append_getElem hk, mixL_append, mixL_cons, mixL_nil]
theorem two64 : (18446744073709551616 : Nat) = 2 ^ 64 := by decide
theorem xor_lt (h c : Nat) (hh : h < 18446744073709551616) (hc : c < 18446744073709551616) : h ^^^ c < 18446744073709551616 := by
  rw [two64] at hh hc ⊢
  exact Nat.xor_lt_two_pow hh hc
theorem mix_bits (h : Nat) (c : UInt8) (hh : h < 18446744073709551616) : bits BinOp.xor IntKind.u64 (h : Int) (c.toNat : Int) = ((h ^^^ c.toNat : Nat) : Int) :=
  bits_xor_u64_nat _ _ hh (by have := c.toNat_lt; omega)
theorem mix_wrap (X : Nat) : IntKind.u64.wrap ((X : Int) * 1099511628211) = (((X * 1099511628211) % 18446744073709551616 : Nat) : Int) := by
  rw [IntKind.wrap_u64]; omega
/-- Two bytes that differ lead to different numbers. -/
theorem mixN_inj (h a b : Nat) (hh : h < 18446744073709551616) (ha : a < 18446744073709551616) (hb : b < 18446744073709551616) (e : mixN h a = mixN h b) : a = b := by
  unfold mixN at e
  have key : ∀ x : Nat, x < 18446744073709551616 → ((x * 1099511628211) % 18446744073709551616 * 14886173955864302971) % 18446744073709551616 = x := fun x hx => by
    rw [Nat.mod_mul_mod, Nat.mul_assoc, Nat.mul_mod, show (1099511628211 * 14886173955864302971) % 18446744073709551616 = 1 by decide +kernel, Nat.mul_one, Nat.mod_mod, Nat.mod_eq_of_lt hx]
  have h1 := key _ (xor_lt h a hh ha)
  have h2 := key _ (xor_lt h b hh hb)
  rw [e, h2] at h1
  have := congrArg (fun z => h ^^^ z) h1
  simpa [← Nat.xor_assoc] using this.symm

/-- The slice at a holds the bytes l. -/
def BytesIn (w : World) (a : Option Addr) (l : List UInt8) : Prop :=
  ∀ j (hj : j < l.length), ∃ x, a = some x ∧ w.cell? (x.add j) = some (.int .u8 (l[j].toNat : Int))
theorem BytesIn.nil (w : World) (a : Option Addr) : BytesIn w a [] := fun _ hj => absurd hj (Nat.not_lt_zero _)
theorem BytesIn.of_is {w : World} {a : Option Addr} {l : List UInt8} {cap : Nat} (h : IsBytes w a l cap) : BytesIn w a l := fun j hj => by
  rcases h with ⟨_, rfl, _⟩ | ⟨x, h, _, _, hh⟩
  · exact absurd hj (Nat.not_lt_zero _)
  · exact ⟨x, h, hh j hj⟩

end Go.Proofs.YtcniajbfgfikjaaDoor
