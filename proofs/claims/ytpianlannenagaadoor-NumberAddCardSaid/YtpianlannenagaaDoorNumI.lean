/- The law NumberParse at the arguments as they read. -/
import Derived.Test.YtpianlannenagaaDoorNumH
namespace Go.Proofs.YtpianlannenagaaDoor
open Go.RowKit

def tab23 : ByteArray := ⟨#[48, 49, 50, 51, 52, 53, 54, 55, 56, 57, 97, 98, 99, 100, 101, 102, 65, 66, 67, 68, 69, 70, 45]⟩
def dig23 (d : Nat) : UInt8 := tab23.data.toList.getD d 0
theorem tab23_at (d : Nat) (hd : d < tab23.size) : tab23[d]'hd = dig23 d := by
  have hs : d < tab23.data.toList.length := by simpa using hd
  unfold dig23
  rw [List.getD_eq_getElem?_getD, List.getElem?_eq_getElem hs]; rfl

set_option maxRecDepth 100000 in
set_option maxHeartbeats 1600000 in
theorem numberParse_any (w : World) (s : ByteArray) (l : List UInt8) (a : Option Addr) (cap : Nat) (most : Int) (wild : Bool) (hs : s.size ≤ maxLen) (hl : IsBytes w a l cap) (h0 : -9223372036854775808 ≤ most) (h1 : most ≤ 9223372036854775807) (ht : Tabs w) :
    Calls Tryd.prog 4 #[.string s, .slice a l.length cap, .int .i64 most, .bool wild] w fun e w' => e = .returned (.bool true) ∧ Below w.heap.size w w' := by
  have HT := Lib.hid ht
  have hlen := isBytes_len hl
  unfold maxLen at hlen
  have HL := Lib.hid hl
  clear ht hl
  cases wild
  · go_enter Tryd.func4, Tryd.ntmps4
    go_wp2_with fail
    go_loopw [9, 10] (fun v i wr => ∃ (k : Nat) (t : List UInt8), k ≤ l.length ∧ k ≤ 24 ∧ i = .int .i64 k ∧ t.length = k ∧ Hid (AccB w wr v t)) (fun _ i _ => 24 - (intOf i).toNat)
    case atStart => exact ⟨0, [], Nat.zero_le _, by omega, rfl, rfl, Lib.hid (AccB.start w)⟩
    case round =>
      obtain ⟨k, t, hk, hk24, rfl, htl, HA⟩ := hrel
      have htl1 : t.length ≤ k := by omega
      have htl2 : k ≤ t.length := by omega
      clear htl
      by_cases hlt : k < l.length ∧ k < 24
      · obtain ⟨hlt, hlt24⟩ := hlt
        obtain ⟨x, rfl, hc⟩ : ∃ x, a = some x ∧ wr.cell? (x.add k) = some (.int .u8 (l[k].toNat : Int)) := by
          rcases HL.out with ⟨_, h, _⟩ | ⟨x, h, _, _, hh⟩
          · rw [h] at hlt; simp at hlt
          · exact ⟨x, h, below_cell HA.out.2 (hh k hlt)⟩
        have b1 : (l[k].toNat : Int) ≤ 255 := by have := l[k].toNat_lt; omega
        obtain ⟨d, hd⟩ : ∃ d : Nat, l[k].toNat % 23 = d := ⟨_, rfl⟩
        have hd23 : d < 23 := by omega
        have hr : (l[k].toNat : Int) % 23 = (d : Int) := by omega
        clear hd
        have hx : ∀ hd, (⟨#[48, 49, 50, 51, 52, 53, 54, 55, 56, 57, 97, 98, 99, 100, 101, 102, 65, 66, 67, 68, 69, 70, 45]⟩ : ByteArray)[d]'hd = dig23 d := fun hd => tab23_at d hd
        go_wp2_with (at_builtin; refine wpList_append_accb _ rfl _ _ rfl rfl (HA.out.keep ((Below.refl _ _).alloc (Nat.le_refl _) _)) rfl (y := dig23 d) ?c1 ?c2 ?c3)
        case c1 => simp
        case c2 => omega
        case c3 =>
          intro g cp w' hacc
          have HACC := Lib.hid hacc
          clear hacc
          go_wp2_with fail
          go_roundw
          case rel => exact ⟨k + 1, t ++ [dig23 d], by omega, by omega, by go_num, by simp; omega, HACC⟩
          case measure => simp [intOf]; omega
      · obtain ⟨ax, cx, rfl, hsh⟩ := HA.out.shape
        have hcv := conv_bytes hsh
        have hz : (⟨t.toArray⟩ : ByteArray).size ≤ maxLen := by show t.toArray.size ≤ _; simp; unfold maxLen; omega
        by_cases hlt1 : k < l.length
        · have hlt2 : ¬ k < 24 := fun h => hlt ⟨hlt1, h⟩
          clear hlt
          go_wp2_with fail
          refine (parseDecimal_any _ _ _ hz h0 h1).mono ?_
          rintro e w1 ⟨rfl, rfl⟩
          go_wp2_with fail
          refine (refParseDecimal_any _ _ _ hz h0 h1).mono ?_
          rintro e w1 ⟨rfl, rfl⟩
          go_wp2_with fail
          refine (parseHex_any _ _ _ hz h0 h1).mono ?_
          rintro e w1 ⟨rfl, rfl⟩
          go_wp2_with fail
          refine (refParseHex_any _ _ _ hz h0 h1).mono ?_
          rintro e w1 ⟨rfl, rfl⟩
          go_wp2_with fail
          refine (numAwake_any _ (tabs_below HT.out HA.out.2)).mono ?_
          rintro e w6 ⟨rfl, hb6⟩
          go_wp2_with fail
          go_ret
          exact ⟨rfl, below_trans HA.out.2 hb6⟩
        · clear hlt
          go_wp2_with fail
          refine (parseDecimal_any _ _ _ hz h0 h1).mono ?_
          rintro e w1 ⟨rfl, rfl⟩
          go_wp2_with fail
          refine (refParseDecimal_any _ _ _ hz h0 h1).mono ?_
          rintro e w1 ⟨rfl, rfl⟩
          go_wp2_with fail
          refine (parseHex_any _ _ _ hz h0 h1).mono ?_
          rintro e w1 ⟨rfl, rfl⟩
          go_wp2_with fail
          refine (refParseHex_any _ _ _ hz h0 h1).mono ?_
          rintro e w1 ⟨rfl, rfl⟩
          go_wp2_with fail
          refine (numAwake_any _ (tabs_below HT.out HA.out.2)).mono ?_
          rintro e w6 ⟨rfl, hb6⟩
          go_wp2_with fail
          go_ret
          exact ⟨rfl, below_trans HA.out.2 hb6⟩
  · go_enter Tryd.func4, Tryd.ntmps4
    go_wp2_with fail
    refine (parseDecimal_any _ _ _ hs h0 h1).mono ?_
    rintro e w1 ⟨rfl, rfl⟩
    go_wp2_with fail
    refine (refParseDecimal_any _ _ _ hs h0 h1).mono ?_
    rintro e w1 ⟨rfl, rfl⟩
    go_wp2_with fail
    refine (parseHex_any _ _ _ hs h0 h1).mono ?_
    rintro e w1 ⟨rfl, rfl⟩
    go_wp2_with fail
    refine (refParseHex_any _ _ _ hs h0 h1).mono ?_
    rintro e w1 ⟨rfl, rfl⟩
    go_wp2_with fail
    refine (numAwake_any _ HT.out).mono ?_
    rintro e w6 ⟨rfl, hb6⟩
    go_wp2_with fail
    go_ret
    exact ⟨rfl, hb6⟩
end Go.Proofs.YtpianlannenagaaDoor
