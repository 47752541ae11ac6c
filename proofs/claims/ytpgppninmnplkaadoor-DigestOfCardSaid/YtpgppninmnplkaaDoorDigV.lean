/- The digest and the state in the reference. -/
import Derived.Test.YtpgppninmnplkaaDoorDigD
import Derived.Test.YtpgppninmnplkaaDoorDigH
namespace Go.Proofs.YtpgppninmnplkaaDoor
open Go.RowKit

/-- The length in bits, as eight bytes. -/
def be8 (n : Nat) : List UInt8 := be4 (UInt32.ofNat (8 * n / 4294967296)) ++ be4 (UInt32.ofNat (8 * n))

theorem be4_byte (M : Nat) (j : Nat) (hj : j < 4) : ∃ y : UInt8, (be4 (UInt32.ofNat M))[j]? = some y ∧ y.toNat = M % 4294967296 / 2 ^ (24 - 8 * j) % 256 := by
  match j, hj with
  | 0, _ => exact ⟨_, rfl, by rw [UInt32.toNat_toUInt8, UInt32.toNat_shiftRight, UInt32.toNat_ofNat', Nat.shiftRight_eq_div_pow]; rfl⟩
  | 1, _ => exact ⟨_, rfl, by rw [UInt32.toNat_toUInt8, UInt32.toNat_shiftRight, UInt32.toNat_ofNat', Nat.shiftRight_eq_div_pow]; rfl⟩
  | 2, _ => exact ⟨_, rfl, by rw [UInt32.toNat_toUInt8, UInt32.toNat_shiftRight, UInt32.toNat_ofNat', Nat.shiftRight_eq_div_pow]; rfl⟩
  | 3, _ => exact ⟨_, rfl, by rw [UInt32.toNat_toUInt8, UInt32.toNat_ofNat']; simp⟩
theorem be8_at (n k : Nat) (hk : k < 8) (hn : n ≤ 70368744177664) : ∃ y : UInt8, Box ((be8 n)[k]? = some y) ∧ 8 * (n : Int) / 2 ^ (8 * (7 - k)) % 256 = ((y.toNat : Nat) : Int) := by
  have hl : (be4 (UInt32.ofNat (8 * n / 4294967296))).length = 4 := rfl
  have key : ∀ (e : Nat), 8 * (n : Int) / 2 ^ e % 256 = ((8 * n / 2 ^ e % 256 : Nat) : Int) := fun e => by
    rw [Int.natCast_emod, Int.natCast_ediv, Int.natCast_mul, Int.natCast_pow]; rfl
  by_cases h4 : k < 4
  · obtain ⟨y, h1, h2⟩ := be4_byte (8 * n / 4294967296) k h4
    refine ⟨y, ⟨by unfold be8; rw [List.getElem?_append_left (by rw [hl]; exact h4)]; exact h1⟩, ?_⟩
    rw [key, h2]
    congr 1
    match k, h4 with
    | 0, _ => simp only [Nat.reduceMul, Nat.reduceSub, Nat.reducePow]; omega
    | 1, _ => simp only [Nat.reduceMul, Nat.reduceSub, Nat.reducePow]; omega
    | 2, _ => simp only [Nat.reduceMul, Nat.reduceSub, Nat.reducePow]; omega
    | 3, _ => simp only [Nat.reduceMul, Nat.reduceSub, Nat.reducePow]; omega
  · obtain ⟨y, h1, h2⟩ := be4_byte (8 * n) (k - 4) (by omega)
    refine ⟨y, ⟨by unfold be8; rw [List.getElem?_append_right (by rw [hl]; omega), hl]; exact h1⟩, ?_⟩
    rw [key, h2]
    congr 1
    match k, hk, h4 with
    | 4, _, _ => simp only [Nat.reduceMul, Nat.reduceSub, Nat.reducePow]; omega
    | 5, _, _ => simp only [Nat.reduceMul, Nat.reduceSub, Nat.reducePow]; omega
    | 6, _, _ => simp only [Nat.reduceMul, Nat.reduceSub, Nat.reducePow]; omega
    | 7, _, _ => simp only [Nat.reduceMul, Nat.reduceSub, Nat.reducePow]; omega

/-- Over the blocks: the state in block gs, the text at pa. -/
def RO (w wr : World) (gs : Nat) (pa : Option Addr) (M : List UInt8) (pc : Nat) (s : St) : Prop :=
  Eight wr gs s.list ∧ IsBytes wr pa M pc ∧ (∀ x, pa = some x → x.block < gs) ∧ Below w.heap.size w wr ∧ w.heap.size ≤ gs
theorem AccB.block_lt {w0 w : World} {pa : Option Addr} {n pc : Nat} {l : List UInt8} (h : AccB w0 w (.slice pa n pc) l) : ∀ x, pa = some x → x.block < w.heap.size := by
  rintro x rfl
  obtain ⟨⟨_, h2⟩, _⟩ := h
  rcases h2 with ⟨e, _⟩ | ⟨g, cap, cur, e, _, hh, _⟩
  · cases e
  · injection e with e1
    cases e1
    exact lt_of_row' hh
theorem ro_world {w wr w2 W : World} {pa : Option Addr} {m pc : Nat} {M : List UInt8} (h : AccB w wr (.slice pa m pc) M) (hb : Below wr.heap.size wr w2) (hW : W = (w2.alloc (.cells z8 32)).setRow w2.heap.size initS.cells) :
    RO w W w2.heap.size pa M pc (fullB initS M 0) := by
  subst hW
  have hB : Below w2.heap.size w2 ((w2.alloc (.cells z8 32)).setRow w2.heap.size initS.cells) := below_setRow ((Below.refl _ _).alloc (Nat.le_refl _) _) (Nat.le_refl _) _
  have hB2 := below_trans hb hB
  obtain ⟨pa', pc', e, hby⟩ := h.shape
  injection e with e1 e2 e3
  subst e1 e3
  refine ⟨setRow_heap _ _ _ _ _ _ (heap_alloc_new _ _), hby.keep hB2, fun x hx => ?_, h.2.trans (hB2.mono h.2.size), ?_⟩
  · have := h.block_lt x hx
    have := hb.size
    omega
  · have := h.2.size
    have := hb.size
    omega

/-- The worlds that keep what was there in W. -/
structure BelowOf (W : World) where
  val : World
  prop : Below W.heap.size W val
instance (W : World) : Nonempty (BelowOf W) := ⟨⟨W, Below.refl _ _⟩⟩
theorem wp_region_below_tail {P : Program} {id : Nat} {Q : Exit → Act → World → Prop} {a : Act} {w : World} {full : List Oper} (n : Nat) (hm : P.follows .mixedOrders = true)
    (hlen : full.length = n + 1) (hB : backB full = true) (hS : sinkAll .any full n = true)
    (hL : (Region.noSelect (full.take n).toArray && Region.lexFrom .any (full.take n).toArray n 0 (Array.replicate (n + 1) false)) = true)
    (h : wpQuiet P (full.take n).toArray (fun w' => ∃ b : BelowOf w, w' = b.val) (fun a' => ∀ w', (∃ b : BelowOf w, w' = b.val) → wpList P full.toArray Q (full.drop n) a' w') (full.take n) a) : (Code.region id full.toArray true).wp P Q a w :=
  wp_region_quiet_tail (C := fun w' => ∃ b : BelowOf w, w' = b.val) n hm hlen hB hS hL ⟨⟨{ w with drawn := w.drawn + 1 }, ⟨rfl, rfl, rfl, Nat.le_refl _, fun _ _ => rfl⟩⟩, rfl⟩ h
theorem refBlock_q (s : St) (b : List UInt8) (hb : b.length = 64) (x : Addr) (cap : Nat) {W : World} (hx : ∀ j (hj : j < b.length), W.cell? (x.add j) = some (.int .u8 b[j].toNat)) (v : BelowOf W) :
    Calls Tryd.prog 21 #[.agg #[.int .u32 (vU s.a), .int .u32 (vU s.b), .int .u32 (vU s.c), .int .u32 (vU s.d), .int .u32 (vU s.e), .int .u32 (vU s.f), .int .u32 (vU s.g), .int .u32 (vU s.h)], .slice (some x) 64 cap] v.val
      fun e w'' => e = .returned (.agg (blockS s b).cells) ∧ ∃ b : BelowOf W, w'' = b.val := by
  refine (refBlock_any s b hb x cap v.val fun j hj => below_cell v.prop (hx j hj)).mono ?_
  rintro e w' ⟨he, hb⟩
  exact ⟨he, ⟨w', below_trans v.prop hb⟩, rfl⟩
theorem RO.keep {w wr w' : World} {gs : Nat} {pa : Option Addr} {M : List UInt8} {pc : Nat} {s : St} (h : RO w wr gs pa M pc s) (hb : Below wr.heap.size wr w') : RO w w' gs pa M pc s :=
  ⟨(hb.block _ (lt_of_row' h.1)).trans h.1, h.2.1.keep hb, h.2.2.1, h.2.2.2.1.trans (hb.mono h.2.2.2.1.size), h.2.2.2.2⟩
theorem RO.setRow {w wr : World} {gs : Nat} {pa : Option Addr} {M : List UInt8} {pc : Nat} {s : St} (h : RO w wr gs pa M pc s) (s' : St) : RO w (wr.setRow gs s'.cells) gs pa M pc s' :=
  ⟨setRow_heap _ _ _ _ _ _ h.1, bytes_setRow h.2.1 (fun x hx => by have := h.2.2.1 x hx; omega) _, h.2.2.1, below_setRow h.2.2.2.1 h.2.2.2.2 _, h.2.2.2.2⟩
theorem below_drew_alloc (w : World) (o : Obj) : Below w.heap.size w (w.drew.alloc o) := (Below.refl _ _).drew.alloc (Nat.le_refl _) _
/-- APPEND of a slice of bytes, as one step of a region that draws its order. -/
theorem step_append_own {ops : Array Oper} {o : Oper} {act : Act} {K : Act → World → Prop} {Q : Exit → Act → World → Prop} {E : Prop} (w : World) (hgd : o.guard = none) (s x : Operand)
    (ho : o.op = .call { callee := .builtin .append, args := #[s, x], argTypes := #[22, 22] })
    {w0 : World} {v : Value} {l news : List UInt8} (hs : act.eval s = v) (h : AccB w0 w v l) {b c : Nat} (hx : act.eval x = .slice (some ⟨b, 0, none⟩) news.length c) {c' : Nat} (hy : IsBytes w (some ⟨b, 0, none⟩) news c')
    (hpos : 0 < news.length) (hn : l.length + news.length ≤ 140737488355328)
    (hK : ∀ v' w', AccB w0 w' v' (l ++ news) → K (act.put o.dst v') w') : if Region.wanted o (yielded ops act.tmps) = true then Oper.wp Tryd.prog o act w K Q else E := by
  obtain ⟨i0, hi, hz0, hz1, hz2⟩ := info_parts Tryd.info5
  refine step_append_lies w hgd s x 22 ho w0.heap.size 5 i0 (.int .u8 0) 1 1 Tryd.underlying22 hi hz0 hz1 hz2 rfl (by decide) v l.length (bytesV l) hs h.1 ⟨b, 0, none⟩ news.length c (bytesV news) hx (by rw [bytesV_len, Nat.mul_one]) ?_ (bytesV_one news) hpos (by unfold maxLen; omega) (by omega) h.2.size w.heap.size rfl ?_
  · intro j u hj
    unfold bytesV at hj
    rw [List.getElem?_map] at hj
    obtain ⟨y, hy2, rfl⟩ := Option.map_eq_some_iff.1 hj
    obtain ⟨hlt, rfl⟩ := List.getElem?_eq_some_iff.1 hy2
    rcases hy with ⟨h0, _⟩ | ⟨z, h1, _, _, h4⟩
    · cases h0
    · obtain rfl := Option.some.inj h1
      exact h4 j hlt
  · intro g cap w' hown hgrow _ _
    refine hK _ w' ⟨?_, h.2.grown hgrow h.2.size fun k hk => (World.ownsRow.lt h.1 k hk).1⟩
    have e : bytesV (l ++ news) = bytesV l ++ bytesV news := by unfold bytesV; rw [List.map_append]
    rw [e, List.length_append]; exact hown
theorem addr_add_add (x : Addr) (i t : Nat) : x.add (i + t) = (x.add i).add t := by
  unfold Addr.add
  by_cases h0 : i = 0
  · subst h0; simp
  · by_cases hj0 : t = 0
    · subst hj0; simp [h0]
    · simp [h0, hj0, Nat.add_assoc]
theorem run_slice_mid (W : World) (x : Addr) (len cap l h : Nat) (hlh : l < h) (hh : h ≤ len) (hc : len ≤ cap) :
    (Instr.sliceAt 22 (.slice (some x) len cap) (some (.int .i64 (l : Int))) (some (.int .i64 (h : Int))) none).run Tryd.prog W = .ok (.slice (some (x.add l)) (h - l) (cap - l)) W := by
  have es : (sizeOf (Tryd.prog.elem 22)).run Tryd.prog W = .ok 1 W := by rw [show Tryd.prog.elem 22 = 5 by kernel_rfl]; exact sizeOf_u8 W
  rw [run_sliceAt_slice W 22 _ _ _ _ (by kernel_rfl), run_slice_lh W 22 _ _ _ (by kernel_rfl) .i64 .i64 (l : Int) (h : Int) (by omega) (by omega) (by omega), es]
  simp only [Result.andThen, sliced, Int.toNat_natCast, Nat.mul_one]
  rw [if_neg (by omega)]; rfl

set_option maxRecDepth 100000 in
set_option maxHeartbeats 4000000 in
theorem refOf_any (l : List UInt8) (a : Option Addr) (cap : Nat) (w : World) (h : IsBytes w a l cap) (hl : l.length ≤ 70368744177664) :
    Calls Tryd.prog 11 #[.slice a l.length cap] w fun e w' => ∃ v', e = .returned v' ∧ AccB w w' v' (sumS l) := by
  have H0 := Box.mk h
  clear h
  go_enter Tryd.func11, Tryd.ntmps11
  have HE := Box.mk (AccB.empty w)
  go_wp2_with (at_builtin; refine wpList_append_accs _ rfl _ _ rfl rfl HE.out rfl (H0.out.keep HE.out.2) (by simp; omega) ?c1)
  case c1 =>
    intro v1 w1 hacc
    have H1 : Box (AccB w w1 v1 l) := ⟨by simpa using hacc⟩
    clear hacc HE
    have HN : Box (∀ W : World, (W.alloc (.cells #[.int .u8 128] 5)).cell? ⟨W.heap.size, 0, none⟩ = some (.int .u8 ((128 : UInt8).toNat : Int))) := ⟨fun W => by rw [cell_of_row _ _ _ _ _ _ (heap_alloc_new _ _)]; rfl⟩
    go_wp2_with (at_builtin; refine wpList_append_accb _ rfl _ _ rfl rfl (H1.out.keep ((Below.refl _ _).alloc (Nat.le_refl _) _)) rfl (HN.out _) (by omega) ?c2)
    case c2 =>
      intro g2 cap2 w2 hacc
      have H2 := Box.mk hacc
      clear hacc H1 HN
      obtain ⟨n, HNN⟩ : ∃ n, Box (l.length = n) := ⟨_, ⟨rfl⟩⟩
      rw [show l.length = n from HNN.out] at hl ⊢
      obtain ⟨Z, HZ, hZ⟩ : ∃ Z, Box (Z = (119 - n % 64) % 64) ∧ Z < 64 := ⟨_, ⟨rfl⟩, by omega⟩
      go_wp2_with fail
      go_loopw [3] (fun sv wr => ∃ (z : Nat) (pa : Option Addr) (pc m : Nat), z ≤ Z ∧ m = n + 1 + z ∧ sv = .slice pa m pc ∧ Box (AccB w wr (.slice pa m pc) (l ++ [128] ++ List.replicate z 0))) (fun sv _ => n + 200 - sliceLen sv)
      case atStart => exact ⟨0, _, _, _, Nat.zero_le _, rfl, rfl, ⟨by rw [← HNN.out]; simpa using H2.out⟩⟩
      case round =>
        clear H2
        obtain ⟨z, pa, pc, m, hz, hm, rfl, HA⟩ := hrel
        by_cases hzz : z = Z
        · have h1 : ((m : Int) % 64) = 56 := by have := HZ.out; omega
          have hb : (((m : Int) % 64) != 56) = false := by rw [h1]; rfl
          have HMM := Box.mk hm
          clear hm h1
          subst hzz
          go_wp2_with fail
          clear hb
          go_loopw [3, 5] (fun sv iv wr => ∃ (k : Nat) (pa : Option Addr) (pc m : Nat), k ≤ 8 ∧ iv = .int .i64 (7 - (k : Int)) ∧ m = n + 1 + z + k ∧ sv = .slice pa m pc ∧
            Box (AccB w wr (.slice pa m pc) (l ++ [128] ++ List.replicate z 0 ++ (be8 n).take k))) (fun _ iv _ => (intOf iv + 1).toNat)
          case atStart => exact ⟨0, _, _, _, Nat.zero_le _, rfl, by have := HMM.out; omega, rfl, ⟨by rw [List.take_zero, List.append_nil]; exact HA.out⟩⟩
          case round =>
            clear HA HMM
            obtain ⟨k, pa, pc, m, hk, rfl, hm, rfl, HA⟩ := hrel
            by_cases hk8 : k < 8
            · obtain ⟨e, he, HE⟩ : ∃ e : Nat, (7 - (k : Int)) = e ∧ Box (e = 7 - k) := ⟨7 - k, by omega, ⟨rfl⟩⟩
              rw [he]
              have he8 : e < 8 := by omega
              have HMM := Box.mk hm
              have HEE := Box.mk he
              clear hm he
              obtain ⟨y, HY, hby⟩ : ∃ y : UInt8, Box ((be8 n)[k]? = some y) ∧ 8 * (n : Int) / 2 ^ (8 * e) % 256 = ((y.toNat : Nat) : Int) := by
                rw [HE.out]; exact be8_at n k hk8 hl
              have HN : Box (∀ W : World, (W.alloc (.cells #[.int .u8 (y.toNat : Int)] 5)).cell? ⟨W.heap.size, 0, none⟩ = some (.int .u8 (y.toNat : Int))) := ⟨fun W => by rw [cell_of_row _ _ _ _ _ _ (heap_alloc_new _ _)]; rfl⟩
              have HL2 := Box.mk (show (l ++ [128] ++ List.replicate z 0 ++ (be8 n).take k).length = m by
                have h1 : (be8 n).length = 8 := rfl
                simp only [List.length_append, List.length_cons, List.length_nil, List.length_replicate, List.length_take, h1]
                have := HMM.out; have := HNN.out; omega)
              obtain ⟨R, HR⟩ : ∃ R, Box (l ++ [128] ++ List.replicate z 0 ++ (be8 n).take k = R) := ⟨_, ⟨rfl⟩⟩
              rw [show l ++ [128] ++ List.replicate z 0 ++ (be8 n).take k = R from HR.out] at HA HL2
              go_wp2_with (at_builtin; refine wpList_append_accb _ rfl _ _ rfl rfl (HA.out.keep ((Below.refl _ _).alloc (Nat.le_refl _) _)) rfl (HN.out _) (by have := HL2.out; have := HMM.out; omega) ?c4)
              case c4 =>
                intro g4 cap4 w4 hacc
                rw [HL2.out] at hacc ⊢
                have H4 := Box.mk hacc
                clear hacc hby
                go_wp2_with fail
                go_roundw
                case rel =>
                  refine ⟨k + 1, _, _, m + 1, by omega, by have := HEE.out; congr 1; omega, by have := HMM.out; omega, rfl, ⟨?_⟩⟩
                  have e2 : (be8 n).take (k + 1) = (be8 n).take k ++ [y] := by
                    obtain ⟨hlt, rfl⟩ := List.getElem?_eq_some_iff.1 HY.out
                    exact List.take_succ_eq_append_getElem hlt
                  rw [e2, ← List.append_assoc, HR.out]; exact H4.out
                case measure => simp [intOf]
            · have hk8' : k = 8 := by omega
              have HP8 : Box (AccB w wr (.slice pa m pc) (l ++ padL n) ∧ m % 64 = 0 ∧ (l ++ padL n).length = m) := ⟨by
                have h := HA.out
                have e : l ++ [128] ++ List.replicate z 0 ++ (be8 n).take k = l ++ padL n := by
                  rw [hk8', show (be8 n).take 8 = be8 n from rfl, HZ.out]
                  unfold padL be8
                  simp
                rw [e] at h
                have h2 := h.1.1
                rw [bytesV_len, Nat.mul_one] at h2
                have h3 := padL_len n
                have h4 : (l ++ padL n).length = n + (padL n).length := by rw [List.length_append, HNN.out]
                obtain ⟨pa', pc', hv, _⟩ := h.shape
                injection hv with e1 e2 e3
                exact ⟨h, by omega, e2.symm⟩⟩
              have HMM := Box.mk hm
              have hneg : ¬ (0 : Int) ≤ 7 - (k : Int) := by omega
              clear HA hm
              go_wp2_with fail
              refine (initial_any wr).mono ?_
              rintro e w2 ⟨rfl, hb2⟩
              have HB2 := Box.mk hb2
              clear hb2
              go_wp2_with (refine wpList_store_row rfl 32 _ _ rfl w2.heap.size initS.cells rfl rfl 32 z8 (heap_alloc_new _ _) (cells_size8 initS) (z8_size initS) (cells_one initS) ?_)
              obtain ⟨W, hW⟩ : ∃ W, W = (w2.alloc (.cells z8 32)).setRow w2.heap.size initS.cells := ⟨_, rfl⟩
              obtain ⟨M, HMQ⟩ : ∃ M, Box (l ++ padL n = M) := ⟨_, ⟨rfl⟩⟩
              rw [show l ++ padL n = M from HMQ.out] at HP8
              have H0 := Box.mk (ro_world HP8.out.1 HB2.out hW)
              change Code.wp _ _ _ _ ((w2.alloc (.cells z8 32)).setRow w2.heap.size initS.cells)
              rw [← hW]
              clear hW HB2 hneg
              generalize w2.heap.size = gs at *
              go_loopw [7] (fun iv wr => ∃ q : Nat, 64 * q ≤ m ∧ iv = .int .i64 ((64 * q : Nat) : Int) ∧ Box (RO w wr gs pa M pc (fullB initS M q))) (fun iv _ => m - (intOf iv).toNat)
              case atStart => exact ⟨0, Nat.zero_le _, rfl, H0⟩
              case round =>
                clear H0
                obtain ⟨q, hq, rfl, HR⟩ := hrel
                by_cases hqt : 64 * q < m
                · obtain ⟨s, HS⟩ : ∃ s, Box (fullB initS M q = s) := ⟨_, ⟨rfl⟩⟩
                  rw [show fullB initS M q = s from HS.out] at HR
                  obtain ⟨i, j, HI, hwi, hij⟩ : ∃ i j : Nat, Box (64 * q = i ∧ j = 64 * q + 64) ∧ IntKind.i64.wrap ((i : Int) + 64) = j ∧ j ≤ m := ⟨64 * q, 64 * q + 64, ⟨rfl, rfl⟩, by
                    simp only [IntKind.wrap, IntKind.bits, IntKind.signed]; have := HMM.out; simp; omega, by have := HP8.out.2.1; omega⟩
                  rw [show 64 * q = i from HI.out.1] at hqt ⊢
                  obtain ⟨x, rfl, hxb, hcap⟩ : ∃ x, pa = some x ∧ (∀ t (ht : t < M.length), wr.cell? (x.add t) = some (.int .u8 M[t].toNat)) ∧ m ≤ pc := by
                    rcases HR.out.2.1 with ⟨_, h, _⟩ | ⟨x, h1, h2, _, h4⟩
                    · have := HP8.out.2.2; rw [h] at this; simp at this; omega
                    · exact ⟨x, h1, h4, by have := HP8.out.2.2; omega⟩
                  have HXB := Box.mk hxb
                  clear hxb
                  have hsl := fun W => run_slice_mid W x m pc i j (by have := HI.out; omega) hij hcap
                  rw [show j - i = 64 by have := HI.out; omega] at hsl
                  obtain ⟨blk, HBK⟩ : ∃ blk, Box (blk = (M.drop i).take 64) := ⟨_, ⟨rfl⟩⟩
                  have hbl : blk.length = 64 := by rw [HBK.out, List.length_take, List.length_drop, HP8.out.2.2]; have := HI.out; omega
                  have HBC : Box (∀ t (ht : t < blk.length), wr.cell? ((x.add i).add t) = some (.int .u8 blk[t].toNat)) := ⟨fun t ht => by
                    have e : blk[t] = M[i + t]'(by rw [HP8.out.2.2]; have := HI.out; omega) := by simp only [HBK.out, List.getElem_take, List.getElem_drop]
                    rw [e, ← HXB.out]
                    congr 1
                    exact (addr_add_add x i t).symm⟩
                  have hc0 := fun b : BelowOf wr => below_cell b.prop (HR.out.1.cell 0 (show 0 < 8 by decide))
                  have hc1 := fun b : BelowOf wr => below_cell b.prop (HR.out.1.cell 1 (show 1 < 8 by decide))
                  have hc2 := fun b : BelowOf wr => below_cell b.prop (HR.out.1.cell 2 (show 2 < 8 by decide))
                  have hc3 := fun b : BelowOf wr => below_cell b.prop (HR.out.1.cell 3 (show 3 < 8 by decide))
                  have hc4 := fun b : BelowOf wr => below_cell b.prop (HR.out.1.cell 4 (show 4 < 8 by decide))
                  have hc5 := fun b : BelowOf wr => below_cell b.prop (HR.out.1.cell 5 (show 5 < 8 by decide))
                  have hc6 := fun b : BelowOf wr => below_cell b.prop (HR.out.1.cell 6 (show 6 < 8 by decide))
                  have hc7 := fun b : BelowOf wr => below_cell b.prop (HR.out.1.cell 7 (show 7 < 8 by decide))
                  simp only [St.list, List.getElem_cons_zero, List.getElem_cons_succ] at hc0 hc1 hc2 hc3 hc4 hc5 hc6 hc7
                  go_wp2_with fail
                  refine wp_region_below_tail 7 (by kernel_rfl) (by kernel_rfl) (by kernel_rfl) (by kernel_rfl) (by kernel_rfl) ?_
                  simp only [List.take_succ_cons, List.take_zero, List.drop_succ_cons, List.drop_zero]
                  repeat (quiet_step (fail))
                  quiet_step (exact refBlock_q s blk hbl (x.add i) (pc - i) HBC.out _)
                  repeat (quiet_step (fail))
                  refine wpQuiet_nil ?_
                  rintro _ ⟨b, rfl⟩
                  clear hc0 hc1 hc2 hc3 hc4 hc5 hc6 hc7
                  have HRB := Box.mk (HR.out.keep b.prop)
                  generalize b.val = W5 at *
                  obtain ⟨s', HS'⟩ : ∃ s', Box (blockS s blk = s') := ⟨_, ⟨rfl⟩⟩
                  rw [show blockS s blk = s' from HS'.out]
                  go_wp2_with (refine wpList_store_row rfl 32 _ _ rfl gs s'.cells rfl rfl 32 (wordsV s.list) HRB.out.1 (cells_size8 s') rfl (cells_one s') ?_)
                  go_roundw
                  case rel =>
                    refine ⟨q + 1, by have := HI.out; omega, by have := HI.out; congr 1; omega, ⟨?_⟩⟩
                    rw [show fullB initS M (q + 1) = s' by rw [fullB, HS.out, HI.out.1, ← HBK.out, HS'.out]]
                    exact HRB.out.setRow s'
                  case measure => have := HI.out; simp [intOf]; omega
                · obtain ⟨S, HSS⟩ : ∃ S, Box (stS (l ++ padL n) = S) := ⟨_, ⟨rfl⟩⟩
                  have HE : Box (Eight wr gs S.list ∧ Below w.heap.size w wr) := ⟨by
                    have h := HR.out
                    have e : fullB initS M q = S := by
                      rw [← HSS.out, HMQ.out]
                      unfold stS
                      rw [HP8.out.2.2, show m / 64 = q by omega]
                    rw [e] at h
                    exact ⟨h.1, h.2.2.2.1⟩⟩
                  clear HR
                  obtain ⟨W5, hW5⟩ : ∃ W5, W5 = wr := ⟨_, rfl⟩
                  subst hW5
                  rw [show ((64 * q : Nat) : Int) = (m : Int) by omega]
                  go_wp2_with fail
                  try rw [show decide ((m : Int) < (m : Int)) = false by rw [decide_eq_false_iff_not]; omega]
                  go_loopw [8, 9] (fun sv iv wr' => ∃ k : Nat, k ≤ 8 ∧ iv = .int .i64 k ∧ Box (AccB W5 wr' sv ((S.list.take k).flatMap be4))) (fun _ iv _ => 8 - (intOf iv).toNat)
                  case atStart => exact ⟨0, Nat.zero_le _, rfl, ⟨AccB.start W5⟩⟩
                  case round =>
                    obtain ⟨k, hk, rfl, HA⟩ := hrel
                    by_cases hk8 : k < 8
                    · have hsl : S.list.length = 8 := rfl
                      have hc := below_cell HA.out.2 (HE.out.1.cell k hk8)
                      have HC5 := Box.mk (HE.out.1.cell k hk8)
                      have hki : (k : Int) < 8 := by omega
                      have HSN := Box.mk (flat_snoc S.list k hk8)
                      have HFL := Box.mk (show ((S.list.take k).flatMap be4).length ≤ 32 by rw [flat_len, List.length_take]; omega)
                      generalize S.list[k]'hk8 = xw at *
                      generalize (S.list.take k).flatMap be4 = R at *
                      have hs24 := vU_shr24
                      have hs16 := vU_shr16
                      have hs8 := vU_shr8
                      have hb8 := vU_byte8
                      go_wp2_with fail
                      go_region_held3 (fun w' => w'.cell? ⟨gs, k, none⟩ = some (.int .u32 (vU xw)))
                        (first
                          | exact hc
                          | exact below_cell (below_drew_alloc _ _) hc
                          | assumption)
                        (first
                          | (refine step_append_own _ rfl _ _ rfl rfl (HA.out.keep (below_drew_alloc _ _)) (news := be4 xw) rfl (bytes_new _ (be4 xw) _ rfl (show 4 ≤ maxLen by decide) (0, 0)) (show 0 < 4 by decide) (by have := HFL.out; show R.length + 4 ≤ _; omega) ?_
                             intro v9 w9 hacc9
                             have hc9 := below_cell hacc9.2 HC5.out))
                      have H9 := Box.mk hacc9
                      clear hacc9 hc9 hc hs24 hs16 hs8 hb8
                      go_wp2_with fail
                      go_roundw
                      case rel => exact ⟨k + 1, by omega, by go_num, ⟨by rw [HSN.out]; exact H9.out⟩⟩
                      case measure => simp [intOf]; omega
                    · have HZ9 := Box.mk (show AccB w wr u8 (sumS l) by
                        have h := HA.out.weaken HE.out.2
                        rw [List.take_of_length_le (by show 8 ≤ k; omega)] at h
                        unfold sumS outS
                        rw [HNN.out, HSS.out]; exact h)
                      clear HA HE
                      go_wp2_with fail
                      go_ret
                      exact ⟨_, rfl, HZ9.out⟩
        · have hb : (((m : Int) % 64) != 56) = true := by
            have h1 : ¬ ((m : Int) % 64) = 56 := by have := HZ.out; omega
            simp [h1]
          have HN : Box (∀ W : World, (W.alloc (.cells #[.int .u8 0] 5)).cell? ⟨W.heap.size, 0, none⟩ = some (.int .u8 ((0 : UInt8).toNat : Int))) := ⟨fun W => by rw [cell_of_row _ _ _ _ _ _ (heap_alloc_new _ _)]; rfl⟩
          have hml : (l ++ [128] ++ List.replicate z 0).length = m := by simp [HNN.out]; omega
          have HM := Box.mk hml
          have HMM := Box.mk hm
          clear hml hm
          go_wp2_with (at_builtin; refine wpList_append_accb _ rfl _ _ rfl rfl (HA.out.keep ((Below.refl _ _).alloc (Nat.le_refl _) _)) rfl (HN.out _) (by have := HM.out; have := HMM.out; omega) ?c3)
          case c3 =>
            intro g3 cap3 w3 hacc
            have H3 := Box.mk hacc
            clear hacc
            go_wp2_with fail
            go_roundw
            case rel =>
              refine ⟨z + 1, _, _, l.length + (z + 1) + 1, by omega, by have := HNN.out; omega, rfl, ⟨?_⟩⟩
              have e : l ++ [128] ++ List.replicate (z + 1) 0 = l ++ 128 :: (List.replicate z 0 ++ [0]) := by rw [List.replicate_succ']; simp
              rw [e]
              exact H3.out
            case measure => have := HMM.out; have := HNN.out; simp [sliceLen]; omega
end Go.Proofs.YtpgppninmnplkaaDoor
