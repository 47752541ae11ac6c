/- SHA-256 of a text that comes in pieces, in plain words. -/
import Derived.Test.YtcniajbfgfikjaaDoorDigMath
namespace Go.Proofs.YtcniajbfgfikjaaDoor

theorem fullB_append (s : St) (P x : List UInt8) : ∀ n, 64 * n ≤ P.length → fullB s (P ++ x) n = fullB s P n
  | 0, _ => rfl
  | n + 1, h => by
    rw [fullB, fullB, fullB_append s P x n (by omega), List.drop_append_of_le_length (by omega), List.take_append_of_le_length (by simp; omega)]
theorem tailS_len (P : List UInt8) : (tailS P).length = P.length % 64 := by unfold tailS; rw [List.length_drop]; omega
theorem stS_small (P x : List UInt8) (h : P.length % 64 + x.length < 64) : stS (P ++ x) = stS P ∧ tailS (P ++ x) = tailS P ++ x := by
  have e : (P ++ x).length / 64 = P.length / 64 := by rw [List.length_append]; omega
  unfold stS tailS
  rw [e]
  exact ⟨fullB_append _ _ _ _ (by omega), List.drop_append_of_le_length (by omega)⟩
theorem stS_full (P x : List UInt8) (h : P.length % 64 + x.length = 64) : stS (P ++ x) = blockS (stS P) (tailS P ++ x) ∧ tailS (P ++ x) = [] := by
  have e : (P ++ x).length / 64 = P.length / 64 + 1 := by rw [List.length_append]; omega
  have hd : (P ++ x).drop (64 * (P.length / 64)) = tailS P ++ x := List.drop_append_of_le_length (by omega)
  have hl : (tailS P ++ x).length = 64 := by rw [List.length_append, tailS_len]; omega
  constructor
  · unfold stS
    rw [e, fullB, fullB_append _ _ _ _ (by omega), hd, List.take_of_length_le (by omega)]
  · unfold tailS
    rw [e, List.drop_eq_nil_iff, List.length_append]; omega
/-- The whole blocks of a text. -/
def headS (L : List UInt8) : List UInt8 := L.take (64 * (L.length / 64))
theorem headS_tail (L : List UInt8) : headS L ++ tailS L = L := List.take_append_drop _ _
theorem headS_len (L : List UInt8) : (headS L).length = 64 * (L.length / 64) := by unfold headS; rw [List.length_take]; omega
theorem headS_st (L : List UInt8) : stS (headS L) = stS L ∧ tailS (headS L) = [] := by
  have h := stS_small (headS L) (tailS L) (by rw [headS_len, tailS_len]; omega)
  rw [headS_tail] at h
  refine ⟨h.1.symm, ?_⟩
  unfold tailS
  rw [headS_len, Nat.mul_div_cancel_left _ (by decide), List.drop_eq_nil_iff, headS_len]
  omega

/-- What one turn of the loop does: f bytes stand in the block, n of the rest go in. -/
structure Turn (P rest blk : List UInt8) (f n : Nat) : Prop where
  len : blk.length = 64
  hf : f = P.length % 64
  pre : blk.take f = tailS P
  hn : n = min (64 - f) rest.length
def splB (blk : List UInt8) (f : Nat) (x : List UInt8) : List UInt8 := blk.take f ++ (x ++ blk.drop (f + x.length))
theorem splB_len {blk x : List UInt8} {f : Nat} (h : f + x.length ≤ blk.length) : (splB blk f x).length = blk.length := by unfold splB; simp; omega
theorem Turn.lt {P rest blk : List UInt8} {f n : Nat} (h : Turn P rest blk f n) : f < 64 := by have := h.hf; omega
theorem Turn.full {P rest blk : List UInt8} {f n : Nat} (h : Turn P rest blk f n) (hf : f + n = 64) :
    splB blk f (rest.take n) = tailS P ++ rest.take n ∧ stS (P ++ rest.take n) = blockS (stS P) (splB blk f (rest.take n)) ∧ tailS (P ++ rest.take n) = [] ∧ (P ++ rest.take n).length % 64 = 0 := by
  have hn := h.hn
  have hl := h.len
  have hff := h.hf
  have hx : (rest.take n).length = n := by rw [List.length_take]; omega
  have e : splB blk f (rest.take n) = tailS P ++ rest.take n := by
    unfold splB
    rw [h.pre, List.drop_eq_nil_iff.2 (by omega), List.append_nil]
  have hs := stS_full P (rest.take n) (by rw [hx]; omega)
  exact ⟨e, by rw [e]; exact hs.1, hs.2, by rw [List.length_append, hx]; omega⟩
theorem Turn.part {P rest blk : List UInt8} {f n : Nat} (h : Turn P rest blk f n) (hf : f + n < 64) :
    stS (P ++ rest.take n) = stS P ∧ (splB blk f (rest.take n)).take (f + n) = tailS (P ++ rest.take n) ∧ (P ++ rest.take n).length % 64 = f + n ∧ rest.drop n = [] := by
  have hn := h.hn
  have hl := h.len
  have hff := h.hf
  have hx : (rest.take n).length = n := by rw [List.length_take]; omega
  have hs := stS_small P (rest.take n) (by rw [hx]; omega)
  refine ⟨hs.1, ?_, by rw [List.length_append, hx]; omega, by rw [List.drop_eq_nil_iff]; omega⟩
  rw [hs.2, ← h.pre]
  unfold splB
  have h1 : (blk.take f).length = f := by rw [List.length_take]; omega
  rw [← List.append_assoc, List.take_left' (by rw [List.length_append, h1, hx])]

/-- A word as four bytes, the greatest first. -/
def be4 (x : UInt32) : List UInt8 := [(x >>> 24).toUInt8, (x >>> 16).toUInt8, (x >>> 8).toUInt8, x.toUInt8]
/-- What follows a text of n bytes. -/
def padL (n : Nat) : List UInt8 := 128 :: List.replicate ((119 - n % 64) % 64) 0 ++ (be4 (UInt32.ofNat (8 * n / 4294967296)) ++ be4 (UInt32.ofNat (8 * n)))
def St.list (s : St) : List UInt32 := [s.a, s.b, s.c, s.d, s.e, s.f, s.g, s.h]
def outS (s : St) : List UInt8 := s.list.flatMap be4
def sumS (L : List UInt8) : List UInt8 := outS (stS (L ++ padL L.length))
def hexB : List UInt8 := [48, 49, 50, 51, 52, 53, 54, 55, 56, 57, 97, 98, 99, 100, 101, 102]
def hexC (c : UInt8) : List UInt8 := [hexB.getD (c.toNat / 16) 0, hexB.getD (c.toNat % 16) 0]
def hexL (l : List UInt8) : List UInt8 := l.flatMap hexC
theorem padL_len (n : Nat) : (n + (padL n).length) % 64 = 0 := by
  unfold padL be4
  simp only [List.length_append, List.length_cons, List.length_replicate, List.length_nil]
  omega
end Go.Proofs.YtcniajbfgfikjaaDoor
