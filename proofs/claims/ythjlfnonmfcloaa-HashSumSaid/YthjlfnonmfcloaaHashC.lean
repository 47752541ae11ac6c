/- The contracts of awake and of the laws of layer 3. -/
import Derived.Test.YthjlfnonmfcloaaHashB
import Derived.Test.YthjlfnonmfcloaaBytes
import Derived.Lib.SlBytesConst
namespace Go.Proofs.Ythjlfnonmfcloaa
open Go.RowKit

theorem below_new (w : World) (o : Obj) : Below w.heap.size w (w.alloc o) := (Below.refl _ _).alloc (Nat.le_refl _) _
theorem below_new_drew (w : World) (o : Obj) : Below w.heap.size w (w.alloc o).drew := ((Below.refl _ _).alloc (Nat.le_refl _) _).drew

set_option maxRecDepth 100000 in
set_option maxHeartbeats 1000000 in
theorem hashAwake_any (w : World) :
    Calls Try.prog 9 #[] w fun e w' => e = .returned (.bool true) ∧ Below w.heap.size w w' := by
  have kc := fun (w : World) (C : Array Value) (n c : Nat) => Lib.run_convert_bytes_const (P := Try.prog) w 23 5 C n c Try.underlying23 Try.underlying5
  go_enter Try.func9, Try.ntmps9
  go_wp2_with fail
  refine (start_any _).mono ?_
  rintro e w1 ⟨rfl, rfl⟩
  go_wp2_with fail
  refine (write_byte 14695981039346656037 97 97 rfl w _ (by decide)).mono ?_
  rintro e w1 ⟨he, rfl⟩
  rw [show mixN 14695981039346656037 (97 : UInt8).toNat = 12638187200555641996 by decide +kernel] at he
  subst he
  go_wp2_with fail
  refine (sum_any [] _ _ _ (by decide) (fun s hs => by cases hs) (StrsIn.nil _ _)).mono ?_
  rintro e w2 ⟨he, hb⟩
  rw [sumL_nil] at he
  subst he
  have HB := Lib.hid (below_trans (below_new _ _) hb)
  clear hb
  go_wp2_with fail
  go_ret
  exact ⟨rfl, HB.out⟩

theorem mixN_eq (h : Nat) (a b : UInt8) (hh : h < 18446744073709551616) : mixN h a.toNat = mixN h b.toNat ↔ a = b :=
  ⟨fun e => UInt8.toNat_inj.1 (mixN_inj h _ _ hh (by have := a.toNat_lt; omega) (by have := b.toNat_lt; omega) e), fun e => by rw [e]⟩

set_option maxRecDepth 100000 in
set_option maxHeartbeats 1000000 in
theorem hashByte_any (h : Nat) (a b : UInt8) (w : World) (hh : h < 18446744073709551616) :
    Calls Try.prog 6 #[.int .u64 h, .int .u8 a.toNat, .int .u8 b.toNat] w fun e w' => e = .returned (.bool true) ∧ Below w.heap.size w w' := by
  have HE := Lib.hid (mixN_eq h a b hh)
  go_enter Try.func6, Try.ntmps6
  go_wp2_with fail
  refine (write_byte h a _ rfl w _ hh).mono ?_
  rintro e w1 ⟨rfl, rfl⟩
  have HB := Lib.hid (below_new w (.cells #[.int .u8 (a.toNat : Int)] 5))
  generalize w.alloc (.cells #[.int .u8 (a.toNat : Int)] 5) = W1 at *
  go_wp2_with fail
  refine (write_byte h b _ rfl W1 _ hh).mono ?_
  rintro e w1 ⟨rfl, rfl⟩
  have HB2 := Lib.hid (below_trans HB.out (below_new W1 (.cells #[.int .u8 (b.toNat : Int)] 5)))
  generalize W1.alloc (.cells #[.int .u8 (b.toNat : Int)] 5) = W2 at *
  by_cases hab : a = b
  · subst hab
    go_wp2_with fail
    refine (hashAwake_any _).mono ?_
    rintro e w2 ⟨rfl, hb⟩
    have HB3 := Lib.hid (below_trans HB2.out hb)
    clear hb
    go_wp2_with fail
    go_ret
    exact ⟨rfl, HB3.out⟩
  · have h1 : ((mixN h a.toNat : Nat) : Int) ≠ ((mixN h b.toNat : Nat) : Int) := fun e => hab (HE.out.1 (Int.ofNat.inj e))
    have h2 : ((a.toNat : Nat) : Int) ≠ ((b.toNat : Nat) : Int) := fun e => hab (UInt8.toNat_inj.1 (Int.ofNat.inj e))
    generalize ((mixN h a.toNat : Nat) : Int) = x at *
    generalize ((mixN h b.toNat : Nat) : Int) = y at *
    have h3 : (x == y) = false := beq_eq_false_iff_ne.2 h1
    have h4 : (((a.toNat : Nat) : Int) == ((b.toNat : Nat) : Int)) = false := beq_eq_false_iff_ne.2 h2
    clear h1 h2
    go_wp2_with fail
    refine (hashAwake_any _).mono ?_
    rintro e w2 ⟨rfl, hb⟩
    have HB3 := Lib.hid (below_trans HB2.out hb)
    clear hb
    go_wp2_with fail
    go_ret
    exact ⟨rfl, HB3.out⟩

theorem sumL_sep (a b : ByteArray) : sumL [a, b] = mixN (mixL (mixL 14695981039346656037 (a ++ ⟨#[0]⟩).data.toList) b.data.toList) 0 := by
  have e : (a ++ ⟨#[0]⟩ : ByteArray).data.toList = a.data.toList ++ [0] := by rw [ByteArray.data_append]; simp
  rw [e, mixL_append, mixL_cons, mixL_nil]
  unfold sumL
  rw [List.foldl_cons, List.foldl_cons, List.foldl_nil]
  unfold sumN
  rw [show (0 : UInt8).toNat = 0 by decide]

set_option maxRecDepth 100000 in
set_option maxHeartbeats 1000000 in
theorem hashSum_any (l : List ByteArray) (a : Option Addr) (cap : Nat) (w : World) (hcap : l.length ≤ cap) (hmax : cap ≤ maxLen) (hz : ∀ s ∈ l, s.size ≤ maxLen) (ha : StrsIn w a l) :
    Calls Try.prog 4 #[.slice a l.length cap] w fun e w' => e = .returned (.bool true) ∧ Below w.heap.size w w' := by
  unfold maxLen at hmax
  have HA := Lib.hid ha
  have HZ := Lib.hid hz
  clear ha hz
  by_cases hlt : 50 < l.length
  · obtain ⟨x, rfl, _⟩ := HA.out 0 (by omega)
    have hl50 : (l.take 50).length = 50 := by rw [List.length_take]; omega
    have HS : Hid (∀ W, StrsIn W (some x) (l.take 50) → Calls Try.prog 10 #[.slice (some x) 50 cap] W fun e w' => e = .returned (.int .u64 (sumL (l.take 50) : Nat)) ∧ Below W.heap.size W w') := Lib.hid fun W hW => by
      have := sum_any (l.take 50) (some x) cap W (by rw [hl50]; decide) (fun s hs => HZ.out s (List.mem_of_mem_take hs)) hW
      rw [hl50] at this; exact this
    have HR : Hid (∀ W, StrsIn W (some x) (l.take 50) → Calls Try.prog 11 #[.slice (some x) 50 cap] W fun e w' => e = .returned (.int .u64 (sumL (l.take 50) : Nat)) ∧ Below W.heap.size W w') := Lib.hid fun W hW => by
      have := refSum_any (l.take 50) (some x) cap W (by rw [hl50]; decide) (fun s hs => HZ.out s (List.mem_of_mem_take hs)) hW
      rw [hl50] at this; exact this
    clear hl50
    go_enter Try.func4, Try.ntmps4
    go_wp2_with fail
    refine (HS.out w (HA.out.take 50)).mono ?_
    rintro e w1 ⟨rfl, hb⟩
    have HB := Lib.hid hb
    clear hb
    go_wp2_with fail
    refine (HR.out w1 ((HA.out.take 50).keep HB.out)).mono ?_
    rintro e w2 ⟨rfl, hb⟩
    have HB2 := Lib.hid (below_trans HB.out hb)
    clear hb
    go_wp2_with fail
    refine (hashAwake_any _).mono ?_
    rintro e w3 ⟨rfl, hb⟩
    have HB3 := Lib.hid (below_trans HB2.out hb)
    clear hb
    go_wp2_with fail
    go_ret
    exact ⟨rfl, HB3.out⟩
  · go_enter Try.func4, Try.ntmps4
    go_wp2_with fail
    refine (sum_any l a cap w (by unfold maxLen; omega) HZ.out HA.out).mono ?_
    rintro e w1 ⟨rfl, hb⟩
    have HB := Lib.hid hb
    clear hb
    go_wp2_with fail
    refine (refSum_any l a cap w1 (by unfold maxLen; omega) HZ.out (HA.out.keep HB.out)).mono ?_
    rintro e w2 ⟨rfl, hb⟩
    have HB2 := Lib.hid (below_trans HB.out hb)
    clear hb
    go_wp2_with fail
    refine (hashAwake_any _).mono ?_
    rintro e w3 ⟨rfl, hb⟩
    have HB3 := Lib.hid (below_trans HB2.out hb)
    clear hb
    go_wp2_with fail
    go_ret
    exact ⟨rfl, HB3.out⟩

theorem strsIn_two (w : World) (a b : ByteArray) : StrsIn (w.alloc (.cells #[.string a, .string b] 9)) (some ⟨w.heap.size, 0, none⟩) [a, b] := fun j hj => by
  refine ⟨_, rfl, ?_⟩
  rw [Addr.add_lit, Nat.zero_add, World.cell?_alloc_mark]
  match j, hj with
  | 0, _ => rfl
  | 1, _ => rfl
theorem cat_size (a b : ByteArray) : (a ++ b).size = a.size + b.size := by
  show (a ++ b).data.size = a.data.size + b.data.size
  rw [ByteArray.data_append]; simp

theorem write_strn (h : Nat) (s : ByteArray) (n : Nat) (hn : s.size = n) (a : Option Addr) (cap : Nat) (w : World) (hh : h < 18446744073709551616) (hs : s.size ≤ maxLen) (ha : BytesIn w a s.data.toList) :
    Calls Try.prog 7 #[.int .u64 h, .slice a n cap] w fun e w' => e = .returned (.int .u64 (mixL h s.data.toList : Nat)) ∧ w = w' := by
  rw [← hn]; exact write_str h s a cap w hh hs ha

set_option maxRecDepth 100000 in
set_option maxHeartbeats 1000000 in
theorem hashSeparates_any (a b : ByteArray) (w : World) (ha : a.size ≤ 140737488351232) (hb : b.size ≤ 140737488351232) :
    Calls Try.prog 5 #[.string a, .string b] w fun e w' => e = .returned (.bool true) ∧ Below w.heap.size w w' := by
  have HE := Lib.hid (sumL_sep a b)
  have hsz : (a ++ ⟨#[0]⟩ : ByteArray).size = a.size + 1 := by rw [cat_size]; rfl
  have HS2 := Lib.hid hsz
  have HSZ : Hid ((a ++ ⟨#[0]⟩ : ByteArray).size ≤ maxLen) := Lib.hid (by unfold maxLen; omega)
  have hcv := fun (w : World) (s : ByteArray) => run_bytes_of_string (P := Try.prog) w 9 23 5 s Try.underlying9 Try.underlying23 Try.underlying5
  go_enter Try.func5, Try.ntmps5
  go_wp2_with fail
  refine (sum_any [a, b] _ _ _ (show 2 ≤ maxLen by decide) (fun s hs => by rcases List.mem_cons.1 hs with rfl | hs; · unfold maxLen; omega
                                                                           rcases List.mem_cons.1 hs with rfl | hs; · unfold maxLen; omega
                                                                           cases hs) (strsIn_two w a b)).mono ?_
  rintro e w1 ⟨rfl, hbb⟩
  have HB := Lib.hid (below_trans (below_new _ _) hbb)
  clear hbb
  go_wp2_with fail
  refine (start_any _).mono ?_
  rintro e w2 ⟨rfl, rfl⟩
  go_wp2_with fail
  generalize grownCap w1 (a.size + 1) 0 5 = cap1
  have HC := Lib.hid (bytesIn_new w1 (a ++ ⟨#[0]⟩) cap1)
  have HN := Lib.hid (below_trans HB.out (below_new_drew w1 (.cells (bytesRow (a ++ ⟨#[0]⟩) cap1) 5 ((bytesRow (a ++ ⟨#[0]⟩) cap1).size, (bytesRow (a ++ ⟨#[0]⟩) cap1).size + 1))))
  generalize (w1.alloc (.cells (bytesRow (a ++ ⟨#[0]⟩) cap1) 5 ((bytesRow (a ++ ⟨#[0]⟩) cap1).size, (bytesRow (a ++ ⟨#[0]⟩) cap1).size + 1))).drew = W1 at *
  refine (write_strn 14695981039346656037 (a ++ ⟨#[0]⟩) _ HS2.out _ _ W1 (by decide) HSZ.out HC.out).mono ?_
  rintro e w2 ⟨rfl, rfl⟩
  have HX := Lib.hid (mixL_lt (a ++ ⟨#[0]⟩ : ByteArray).data.toList 14695981039346656037 (by decide))
  generalize mixL 14695981039346656037 (a ++ ⟨#[0]⟩ : ByteArray).data.toList = X at *
  go_wp2_with fail
  generalize grownCap W1 b.size 0 5 = cap2
  have HC2 := Lib.hid (bytesIn_new W1 b cap2)
  have HN2 := Lib.hid (below_trans HN.out (below_new_drew W1 (.cells (bytesRow b cap2) 5 ((bytesRow b cap2).size, (bytesRow b cap2).size + 1))))
  generalize (W1.alloc (.cells (bytesRow b cap2) 5 ((bytesRow b cap2).size, (bytesRow b cap2).size + 1))).drew = W2 at *
  refine (write_str X b _ _ W2 HX.out (by unfold maxLen; omega) HC2.out).mono ?_
  rintro e w2 ⟨rfl, rfl⟩
  have HY := Lib.hid (mixL_lt b.data.toList X HX.out)
  generalize mixL X b.data.toList = Y at *
  go_wp2_with fail
  refine (write_byte Y 0 0 rfl W2 _ HY.out).mono ?_
  rintro e w2 ⟨he, rfl⟩
  rw [show (0 : UInt8).toNat = 0 by decide, ← HE.out] at he
  subst he
  have HN3 := Lib.hid (below_trans HN2.out (below_new W2 (.cells #[.int .u8 0] 5)))
  generalize W2.alloc (.cells #[.int .u8 0] 5) = W3 at *
  go_wp2_with fail
  refine (hashAwake_any _).mono ?_
  rintro e w3 ⟨rfl, hb⟩
  have HB3 := Lib.hid (below_trans HN3.out hb)
  clear hb
  go_wp2_with fail
  go_ret
  exact ⟨rfl, HB3.out⟩
end Go.Proofs.Ythjlfnonmfcloaa
