/- The contracts of Sum, of package hash and of its reference. -/
import Derived.Test.YthjlfnonmfcloaaHashA
import Derived.Test.YthjlfnonmfcloaaAsciiB
import Derived.Test.YthjlfnonmfcloaaStrs
import Derived.Test.YthjlfnonmfcloaaOpenS
namespace Go.Proofs.Ythjlfnonmfcloaa
open Go.RowKit

/-- The hash after a string and its end. -/
def sumN (h : Nat) (s : ByteArray) : Nat := mixN (mixL h s.data.toList) 0
def sumL (l : List ByteArray) : Nat := l.foldl sumN 14695981039346656037
theorem sumN_lt (h : Nat) (s : ByteArray) : sumN h s < 18446744073709551616 := mixN_lt _ _
theorem sumL_nil : sumL [] = 14695981039346656037 := by unfold sumL; rw [List.foldl_nil]
theorem sumL_snoc (l : List ByteArray) (k : Nat) (hk : k < l.length) : sumL (l.take (k + 1)) = sumN (sumL (l.take k)) l[k] := by
  unfold sumL
  rw [List.take_succ_eq_append_getElem hk, List.foldl_append, List.foldl_cons, List.foldl_nil]

theorem start_any (w : World) : Calls Try.prog 12 #[] w fun e w' => e = .returned (.int .u64 14695981039346656037) ∧ w = w' := by
  go_enter Try.func12, Try.ntmps12
  go_wp2
  go_ret
  exact ⟨rfl, rfl⟩
theorem refStart_any (w : World) : Calls Try.prog 14 #[] w fun e w' => e = .returned (.int .u64 14695981039346656037) ∧ w = w' := by
  go_enter Try.func14, Try.ntmps14
  go_wp2
  go_ret
  exact ⟨rfl, rfl⟩

/-- The bytes of a string, in a block of their own. -/
theorem bytesIn_new (w : World) (s : ByteArray) (cap : Nat) :
    BytesIn (w.alloc (.cells (bytesRow s cap) 5 ((bytesRow s cap).size, (bytesRow s cap).size + 1))).drew (some ⟨w.heap.size, 0, none⟩) s.data.toList := fun j hj => by
  refine ⟨_, rfl, ?_⟩
  rw [Addr.add_lit, Nat.zero_add]
  exact (bytesAt_new w s cap j hj).1
theorem byteIn_new (w : World) (c : UInt8) (fr : Nat × Nat) : BytesIn (w.alloc (.cells #[.int .u8 (c.toNat : Int)] 5 fr)) (some ⟨w.heap.size, 0, none⟩) [c] := fun j hj => by
  have : j = 0 := by simpa using hj
  subst this
  refine ⟨_, rfl, ?_⟩
  rw [Addr.add_lit, Nat.zero_add, World.cell?_alloc_mark]; rfl

theorem len_toList (s : ByteArray) : s.data.toList.length = s.size := by simp
theorem mix_str (h : Nat) (s : ByteArray) (a : Option Addr) (cap : Nat) (w : World) (hh : h < 18446744073709551616) (hs : s.size ≤ maxLen) (ha : BytesIn w a s.data.toList) :
    Calls Try.prog 13 #[.int .u64 h, .slice a s.size cap] w fun e w' => e = .returned (.int .u64 (mixL h s.data.toList : Nat)) ∧ w = w' := by
  have := mix_any h s.data.toList a cap w hh (by rw [len_toList]; exact hs) ha
  rw [len_toList] at this; exact this
theorem mix_byte (h : Nat) (c : UInt8) (z : Int) (hz : z = (c.toNat : Int)) (w : World) (fr : Nat × Nat) (hh : h < 18446744073709551616) :
    Calls Try.prog 13 #[.int .u64 h, .slice (some ⟨w.heap.size, 0, none⟩) 1 1] (w.alloc (.cells #[.int .u8 z] 5 fr)) fun e w' => e = .returned (.int .u64 (mixN h c.toNat : Nat)) ∧ (w.alloc (.cells #[.int .u8 z] 5 fr)) = w' := by
  subst hz
  have := mix_any h [c] _ 1 _ hh (show 1 ≤ maxLen by decide) (byteIn_new w c fr)
  rw [mixL_cons, mixL_nil] at this
  exact this
theorem write_str (h : Nat) (s : ByteArray) (a : Option Addr) (cap : Nat) (w : World) (hh : h < 18446744073709551616) (hs : s.size ≤ maxLen) (ha : BytesIn w a s.data.toList) :
    Calls Try.prog 7 #[.int .u64 h, .slice a s.size cap] w fun e w' => e = .returned (.int .u64 (mixL h s.data.toList : Nat)) ∧ w = w' := by
  have := hashWrite_call h s.data.toList a cap w hh (by rw [len_toList]; exact hs) ha
  rw [len_toList] at this; exact this
theorem write_byte (h : Nat) (c : UInt8) (z : Int) (hz : z = (c.toNat : Int)) (w : World) (fr : Nat × Nat) (hh : h < 18446744073709551616) :
    Calls Try.prog 7 #[.int .u64 h, .slice (some ⟨w.heap.size, 0, none⟩) 1 1] (w.alloc (.cells #[.int .u8 z] 5 fr)) fun e w' => e = .returned (.int .u64 (mixN h c.toNat : Nat)) ∧ (w.alloc (.cells #[.int .u8 z] 5 fr)) = w' := by
  subst hz
  have := hashWrite_call h [c] _ 1 _ hh (show 1 ≤ maxLen by decide) (byteIn_new w c fr)
  rw [mixL_cons, mixL_nil] at this
  exact this
theorem refWrite_str (h : Nat) (s : ByteArray) (a : Option Addr) (cap : Nat) (w : World) (hh : h < 18446744073709551616) (hs : s.size ≤ maxLen) (ha : BytesIn w a s.data.toList) :
    Calls Try.prog 8 #[.int .u64 h, .slice a s.size cap] w fun e w' => e = .returned (.int .u64 (mixL h s.data.toList : Nat)) ∧ w = w' := by
  have := refHashWrite_any h s.data.toList a cap w hh (by rw [len_toList]; exact hs) ha
  rw [len_toList] at this; exact this
theorem refWrite_byte (h : Nat) (c : UInt8) (z : Int) (hz : z = (c.toNat : Int)) (w : World) (fr : Nat × Nat) (hh : h < 18446744073709551616) :
    Calls Try.prog 8 #[.int .u64 h, .slice (some ⟨w.heap.size, 0, none⟩) 1 1] (w.alloc (.cells #[.int .u8 z] 5 fr)) fun e w' => e = .returned (.int .u64 (mixN h c.toNat : Nat)) ∧ (w.alloc (.cells #[.int .u8 z] 5 fr)) = w' := by
  subst hz
  have := refHashWrite_any h [c] _ 1 _ hh (show 1 ≤ maxLen by decide) (byteIn_new w c fr)
  rw [mixL_cons, mixL_nil] at this
  exact this

set_option maxHeartbeats 1000000 in
theorem sum_any (l : List ByteArray) (a : Option Addr) (cap : Nat) (w : World) (hlen : l.length ≤ maxLen) (hz : ∀ s ∈ l, s.size ≤ maxLen) (ha : StrsIn w a l) :
    Calls Try.prog 10 #[.slice a l.length cap] w fun e w' => e = .returned (.int .u64 (sumL l : Nat)) ∧ Below w.heap.size w w' := by
  unfold maxLen at hlen
  have HA := Lib.hid ha
  have HZ := Lib.hid hz
  clear ha hz
  have hcv := fun (w : World) (s : ByteArray) => run_bytes_of_string (P := Try.prog) w 9 23 5 s Try.underlying9 Try.underlying23 Try.underlying5
  go_enter Try.func10, Try.ntmps10
  go_wp2
  go_loopw [3, 8] (fun n i wr => ∃ (k X : Nat), k ≤ l.length ∧ i = .int .i64 k ∧ n = .int .u64 X ∧ X < 18446744073709551616 ∧ Hid (X = sumL (l.take k)) ∧ Hid (Below w.heap.size w wr)) (fun _ i _ => l.length - (intOf i).toNat)
  case atStart => exact ⟨0, 14695981039346656037, Nat.zero_le _, rfl, rfl, by decide, Lib.hid (by rw [List.take_zero, sumL_nil]), Lib.hid (Below.refl _ _)⟩
  case round =>
    obtain ⟨k, X, hk, rfl, rfl, hX, HG, HB⟩ := hrel
    by_cases hlt : k < l.length
    · obtain ⟨x, rfl, hc⟩ := HA.out.keep HB.out k hlt
      have hs := HZ.out _ (List.getElem_mem hlt)
      have HS := Lib.hid (sumL_snoc l k hlt)
      generalize l[k] = s at *
      go_wp2_with fail
      have HC := Lib.hid (bytesIn_new wr s (grownCap wr s.size 0 5))
      have HN := Lib.hid (below_trans HB.out (((Below.refl wr.heap.size wr).alloc (Nat.le_refl _) (.cells (bytesRow s (grownCap wr s.size 0 5)) 5 ((bytesRow s (grownCap wr s.size 0 5)).size, (bytesRow s (grownCap wr s.size 0 5)).size + 1))).drew))
      generalize (wr.alloc (.cells (bytesRow s (grownCap wr s.size 0 5)) 5 ((bytesRow s (grownCap wr s.size 0 5)).size, (bytesRow s (grownCap wr s.size 0 5)).size + 1))).drew = W1 at *
      refine (mix_str X s _ _ W1 hX hs HC.out).mono ?_
      rintro e w1 ⟨rfl, rfl⟩
      go_wp2_with fail
      refine (mix_byte _ 0 0 rfl W1 _ (mixL_lt _ _ hX)).mono ?_
      rintro e w1 ⟨rfl, rfl⟩
      go_wp2_with fail
      go_roundw
      case rel => exact ⟨k + 1, sumN X s, by omega, by go_num, rfl, sumN_lt _ _, Lib.hid (by rw [HS.out, HG.out]), Lib.hid (HN.out.alloc HN.out.size _)⟩
      case measure => simp [intOf]; omega
    · go_wp2
      go_ret
      exact ⟨ret_int (by rw [HG.out, List.take_of_length_le (by omega)]), HB.out⟩

set_option maxHeartbeats 1000000 in
theorem refSum_any (l : List ByteArray) (a : Option Addr) (cap : Nat) (w : World) (hlen : l.length ≤ maxLen) (hz : ∀ s ∈ l, s.size ≤ maxLen) (ha : StrsIn w a l) :
    Calls Try.prog 11 #[.slice a l.length cap] w fun e w' => e = .returned (.int .u64 (sumL l : Nat)) ∧ Below w.heap.size w w' := by
  unfold maxLen at hlen
  have HA := Lib.hid ha
  have HZ := Lib.hid hz
  clear ha hz
  have hcv := fun (w : World) (s : ByteArray) => run_bytes_of_string (P := Try.prog) w 9 23 5 s Try.underlying9 Try.underlying23 Try.underlying5
  go_enter Try.func11, Try.ntmps11
  go_wp2_with (go_at_call 14; refine (refStart_any _).mono ?_; rintro e w' ⟨rfl, rfl⟩)
  go_loopw [3, 4] (fun n i wr => ∃ (k X : Nat), k ≤ l.length ∧ i = .int .i64 k ∧ n = .int .u64 X ∧ X < 18446744073709551616 ∧ Hid (X = sumL (l.take k)) ∧ Hid (Below w.heap.size w wr)) (fun _ i _ => l.length - (intOf i).toNat)
  case atStart => exact ⟨0, 14695981039346656037, Nat.zero_le _, rfl, rfl, by decide, Lib.hid (by rw [List.take_zero, sumL_nil]), Lib.hid (Below.refl _ _)⟩
  case round =>
    obtain ⟨k, X, hk, rfl, rfl, hX, HG, HB⟩ := hrel
    by_cases hlt : k < l.length
    · obtain ⟨x, rfl, hc⟩ := HA.out.keep HB.out k hlt
      have hs := HZ.out _ (List.getElem_mem hlt)
      have HS := Lib.hid (sumL_snoc l k hlt)
      generalize l[k] = s at *
      go_wp2_with fail
      have HC := Lib.hid (bytesIn_new wr s (grownCap wr s.size 0 5))
      have HN := Lib.hid (below_trans HB.out (((Below.refl wr.heap.size wr).alloc (Nat.le_refl _) (.cells (bytesRow s (grownCap wr s.size 0 5)) 5 ((bytesRow s (grownCap wr s.size 0 5)).size, (bytesRow s (grownCap wr s.size 0 5)).size + 1))).drew))
      generalize (wr.alloc (.cells (bytesRow s (grownCap wr s.size 0 5)) 5 ((bytesRow s (grownCap wr s.size 0 5)).size, (bytesRow s (grownCap wr s.size 0 5)).size + 1))).drew = W1 at *
      refine (refWrite_str X s _ _ W1 hX hs HC.out).mono ?_
      rintro e w1 ⟨rfl, rfl⟩
      go_wp2_with fail
      refine (refWrite_byte _ 0 0 rfl W1 _ (mixL_lt _ _ hX)).mono ?_
      rintro e w1 ⟨rfl, rfl⟩
      go_wp2_with fail
      go_roundw
      case rel => exact ⟨k + 1, sumN X s, by omega, by go_num, rfl, sumN_lt _ _, Lib.hid (by rw [HS.out, HG.out]), Lib.hid (HN.out.alloc HN.out.size _)⟩
      case measure => simp [intOf]; omega
    · go_wp2
      go_ret
      exact ⟨ret_int (by rw [HG.out, List.take_of_length_le (by omega)]), HB.out⟩
end Go.Proofs.Ythjlfnonmfcloaa
