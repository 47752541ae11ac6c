/- The plain mathematics of numerals: digits, their value with a limit, and that a numeral is read as its number. -/
import Derived.Lib.ItoaMem
import Derived.WalkKit
namespace Go.Proofs.YtpianlannenagaaDoor
open Go.RowKit

/-- The value of a digit; 16 for any other byte. -/
def dv (c : Int) : Int := if 48 ≤ c ∧ c ≤ 57 then c - 48 else if 97 ≤ c ∧ c ≤ 102 then c - 87 else if 65 ≤ c ∧ c ≤ 70 then c - 55 else 16
theorem dv_bd (c : Int) : 0 ≤ dv c ∧ dv c ≤ 16 := by unfold dv; (repeat' split) <;> omega
def numB (b : Int) (c : UInt8) : Bool := decide (dv c.toNat < b)
def numS (b : Int) (s : ByteArray) : Bool := s.data.toList.all (numB b) && !s.data.toList.isEmpty
/-- What is read of the digits, from acc on, with the limit most. -/
def pgo (b most : Int) : Int → List UInt8 → Int × Int
  | acc, [] => (acc, 0)
  | acc, c :: r => if dv c.toNat > most ∨ acc > (most - dv c.toNat) / b then (0, 3) else pgo b most (acc * b + dv c.toNat) r
def parseS (b most : Int) (s : ByteArray) : Int × Int := if numS b s then pgo b most 0 s.data.toList else (0, 2)
theorem pgo_no {b most acc : Int} {c : UInt8} {r : List UInt8} (h : dv c.toNat > most ∨ acc > (most - dv c.toNat) / b) : pgo b most acc (c :: r) = (0, 3) := by rw [pgo, if_pos h]
theorem pgo_go {b most acc : Int} {c : UInt8} {r : List UInt8} (h1 : dv c.toNat ≤ most) (h2 : acc ≤ (most - dv c.toNat) / b) : pgo b most acc (c :: r) = pgo b most (acc * b + dv c.toNat) r := by rw [pgo, if_neg (by omega)]
theorem drop_cons (s : ByteArray) (k : Nat) (h : k < s.size) : s.data.toList.drop k = s[k] :: s.data.toList.drop (k + 1) := by
  rw [List.drop_eq_getElem_cons (by simpa using h)]; rfl

/-- The value of digits. -/
def vgo (b : Int) : Int → List UInt8 → Int
  | acc, [] => acc
  | acc, c :: r => vgo b (acc * b + dv c.toNat) r
theorem vgo_append (b : Int) : ∀ (l r : List UInt8) (acc : Int), vgo b acc (l ++ r) = vgo b (vgo b acc l) r
  | [], r, acc => rfl
  | c :: l, r, acc => by simp only [List.cons_append, vgo]; exact vgo_append b l r _
theorem mul_ge (b acc : Int) (hb : 1 ≤ b) (ha : 0 ≤ acc) : acc ≤ acc * b := by
  have := Int.mul_le_mul_of_nonneg_left hb ha; omega
theorem vgo_ge (b : Int) (hb : 1 ≤ b) : ∀ (l : List UInt8) (acc : Int), 0 ≤ acc → acc ≤ vgo b acc l
  | [], acc, _ => Int.le_refl _
  | c :: l, acc, ha => by
    have h1 := mul_ge b acc hb ha
    have h2 := dv_bd c.toNat
    have h3 := vgo_ge b hb l (acc * b + dv c.toNat) (by omega)
    rw [vgo]; omega
theorem pgo_eq (b most : Int) (hb : 1 ≤ b) : ∀ (l : List UInt8) (acc : Int), 0 ≤ acc → (acc ≤ most ∨ l ≠ []) → pgo b most acc l = if vgo b acc l ≤ most then (vgo b acc l, 0) else (0, 3)
  | [], acc, ha, h => by
    rcases h with h | h
    · rw [pgo, vgo, if_pos h]
    · exact absurd rfl h
  | c :: l, acc, ha, _ => by
    have h1 := mul_ge b acc hb ha
    have h2 := dv_bd c.toNat
    have hge := vgo_ge b hb l (acc * b + dv c.toNat) (by omega)
    have hiff : acc ≤ (most - dv c.toNat) / b ↔ acc * b ≤ most - dv c.toNat := Int.le_ediv_iff_mul_le (by omega)
    rw [pgo, vgo]
    by_cases h : dv c.toNat > most ∨ acc > (most - dv c.toNat) / b
    · rw [if_pos h, if_neg]
      rcases h with h | h
      · omega
      · have : ¬ acc * b ≤ most - dv c.toNat := fun hh => by have := hiff.2 hh; omega
        omega
    · have hm : acc * b ≤ most - dv c.toNat := hiff.1 (by omega)
      rw [if_neg h]
      exact pgo_eq b most hb l _ (by omega) (.inl (by omega))

/-- The byte of a digit. -/
def dgc (d : Nat) : UInt8 := if d < 10 then UInt8.ofNat (48 + d) else UInt8.ofNat (87 + d)
theorem dgc_toNat {d : Nat} (h : d < 16) : (dgc d).toNat = if d < 10 then 48 + d else 87 + d := by
  unfold dgc; split
  · rw [UInt8.toNat_ofNat']; omega
  · rw [UInt8.toNat_ofNat']; omega
theorem dv_dgc {d : Nat} (h : d < 16) : dv (dgc d).toNat = d := by
  rw [dgc_toNat h]; unfold dv; by_cases h10 : d < 10
  · rw [if_pos h10, if_pos (by omega)]; omega
  · rw [if_neg h10, if_neg (by omega), if_pos (by omega)]; omega
/-- The digits of n to base b (the step: f is fuel that is never used up). -/
def digsF (b : Nat) : Nat → Nat → List UInt8
  | 0, n => [dgc (n % b)]
  | f + 1, n => if n < b then [dgc n] else digsF b f (n / b) ++ [dgc (n % b)]
def digs (b n : Nat) : List UInt8 := digsF b n n
theorem digsF_fuel (b : Nat) (hb : 2 ≤ b) : ∀ (f n : Nat), n ≤ f → digsF b f n = digsF b n n
  | 0, n, h => by obtain rfl : n = 0 := by omega
                  rfl
  | f + 1, n, h => by
    match n with
    | 0 => simp [digsF, show 0 < b by omega]
    | n + 1 =>
      have hd : (n + 1) / b ≤ n := by
        have : (n + 1) / b < n + 1 := Nat.div_lt_self (by omega) (by omega)
        omega
      simp only [digsF]
      rw [digsF_fuel b hb f _ (by omega), digsF_fuel b hb n _ hd]
theorem digs_small {b n : Nat} (h : n < b) : digs b n = [dgc n] := by
  unfold digs
  match n with
  | 0 => rw [digsF, Nat.zero_mod]
  | n + 1 => rw [digsF, if_pos h]
theorem digs_big {b n : Nat} (hb : 2 ≤ b) (h : ¬ n < b) : digs b n = digs b (n / b) ++ [dgc (n % b)] := by
  unfold digs
  match n with
  | 0 => omega
  | n + 1 =>
    have hd : (n + 1) / b ≤ n := by
      have : (n + 1) / b < n + 1 := Nat.div_lt_self (by omega) (by omega)
      omega
    rw [digsF, if_neg h, digsF_fuel b hb n _ hd]
theorem digs_ne (b n : Nat) : digs b n ≠ [] := by
  unfold digs
  match n with
  | 0 => simp [digsF]
  | n + 1 => rw [digsF]; split <;> simp
theorem digs_dec (n : Nat) : digs 10 n = Lib.decDigits n := by
  induction n using Nat.strongRecOn with
  | _ n ih =>
    by_cases h : n < 10
    · rw [digs_small h, Lib.decDigits, dif_pos h]; unfold dgc; rw [if_pos h]
    · rw [digs_big (by omega) h, Lib.decDigits, dif_neg h, ih _ (by omega)]
      congr 1; unfold dgc; rw [if_pos (by omega)]
theorem digs_num {b : Nat} (hb : 2 ≤ b) (hb16 : b ≤ 16) (n : Nat) : (digs b n).all (numB b) = true := by
  induction n using Nat.strongRecOn with
  | _ n ih =>
    have hd : ∀ d, d < b → numB b (dgc d) = true := fun d h => by
      unfold numB; rw [dv_dgc (by omega)]; simpa using h
    by_cases h : n < b
    · rw [digs_small h]; simpa using hd n h
    · rw [digs_big hb h, List.all_append, ih _ (Nat.div_lt_self (by omega) (by omega))]
      simpa using hd (n % b) (Nat.mod_lt _ (by omega))
theorem digs_val {b : Nat} (hb : 2 ≤ b) (hb16 : b ≤ 16) (n : Nat) : vgo b 0 (digs b n) = n := by
  induction n using Nat.strongRecOn with
  | _ n ih =>
    by_cases h : n < b
    · rw [digs_small h, vgo, vgo, dv_dgc (by omega)]; omega
    · rw [digs_big hb h, vgo_append, ih _ (Nat.div_lt_self (by omega) (by omega)), vgo, vgo, dv_dgc (by have := Nat.mod_lt n (show 0 < b by omega); omega)]
      have := Nat.div_add_mod n b
      rw [Nat.mul_comm] at this
      exact_mod_cast this
def numeral (b n : Nat) : ByteArray := ⟨(digs b n).toArray⟩
theorem parse_numeral {b : Nat} (hb : 2 ≤ b) (hb16 : b ≤ 16) (n : Nat) (most : Int) : parseS b most (numeral b n) = if (n : Int) ≤ most then ((n : Int), 0) else (0, 3) := by
  have hn : numS b (numeral b n) = true := by
    unfold numS numeral
    rw [digs_num hb hb16 n]
    simpa using digs_ne b n
  unfold parseS
  rw [if_pos hn]
  show pgo b most 0 (digs b n) = _
  rw [pgo_eq b most (by omega) _ 0 (Int.le_refl _) (.inr (digs_ne b n)), digs_val hb hb16]
/-- Two zeros ahead of a numeral change nothing. -/
theorem parse_zeros {b : Nat} (hb : 2 ≤ b) (hb16 : b ≤ 16) (n : Nat) (most : Int) : parseS b most (⟨#[48, 48]⟩ ++ numeral b n) = if (n : Int) ≤ most then ((n : Int), 0) else (0, 3) := by
  have e : (⟨#[48, 48]⟩ ++ numeral b n : ByteArray).data.toList = 48 :: 48 :: digs b n := by simp [numeral]
  have hn : numS b (⟨#[48, 48]⟩ ++ numeral b n) = true := by
    unfold numS
    rw [e]
    have h0 : numB b 48 = true := by
      unfold numB; show decide (dv 48 < b) = true; have : dv 48 = 0 := by decide
      rw [this]; simp; omega
    simp [digs_num hb hb16 n, h0]
  unfold parseS
  rw [if_pos hn, e, pgo_eq b most (by omega) _ 0 (Int.le_refl _) (.inr (by simp))]
  have h48 : dv (48 : UInt8).toNat = 0 := by decide
  rw [vgo, vgo, h48]
  simp only [Int.zero_mul, Int.add_zero]
  rw [digs_val hb hb16]
theorem parse_empty (b most : Int) : parseS b most ⟨#[]⟩ = (0, 2) := by
  unfold parseS numS; simp
end Go.Proofs.YtpianlannenagaaDoor
