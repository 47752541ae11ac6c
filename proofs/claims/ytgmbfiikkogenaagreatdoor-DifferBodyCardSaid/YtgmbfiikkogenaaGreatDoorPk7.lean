/- The digest and the state in the reference. Comparing replies: mathematics; the reference's value, Same, SameDifference and SameSeen. Single operations of a region that draws its order: a new struct, a truth value. A region that draws its order, where an operation may be left out by its guard. Comparing replies: laws for the regions of Compare. Comparing replies: the reference's Compare. The landed differ: the first value of each name, in a map of strings; which names differ. -/
import Derived.Test.YtgmbfiikkogenaaGreatDoorPk1
import Derived.Test.YtgmbfiikkogenaaGreatDoorPk2
import Derived.Test.YtgmbfiikkogenaaGreatDoorPk3
import Derived.Test.YtgmbfiikkogenaaGreatDoorPk4
import Derived.Test.YtgmbfiikkogenaaGreatDoorPk5
import Derived.Test.YtgmbfiikkogenaaGreatDoorPk6
import Derived.Laws.BitsAllLaws
import Derived.Laws.Shifts
import Derived.Test.YtgmbfiikkogenaaGreatDoorRows
import Derived.WalkKit
import Derived.WalkSpells
import Derived.WalkLawsBesides
import Derived.BigQuiet
import Derived.Deep.QuietTactic
import Derived.Lib.Bytealg
import Derived.Lib.IndexLaws
import Derived.Lib.Hide
import Derived.Deep.AppendLies
import Derived.Laws.Rows
import Derived.Laws.Tables
import Derived.Deep.WholeRow
import Derived.Laws.CopyOwn
import Derived.ProofKit
import Derived.OpenShut
import Derived.Laws.IdiomStrings
import Derived.Lib.Strings
import Derived.StillTailTactics
import Derived.Deep.Quiet
import Derived.Tactics
import Derived.KernelRfl
import Derived.Laws.Bits64
import Derived.SliceStrings
import Derived.Lib.SlBytesConst
import Derived.Maps.AppendAt
import Derived.Laws.AppendOwnNone
import Derived.Deep.RegionHeld3
import Derived.Below
import Derived.Great.BuildSlice
import Derived.Deep.Matrix
import Derived.Lib.SlTrimSet
import Derived.Lib.IndexBytes
import Derived.Lib.Split
import Derived.Shelf.SlGeneric
import Derived.Shelf.Strings.SlTrimAscii
import Derived.Shelf.Strings.SplitShaped
import Derived.Shelf.LaysM
import Derived.Shelf.Strings.BuilderK
import Derived.Shelf.Strconv.Itoa4
import Derived.Shelf.Strings.Builder2
import Derived.Shelf.SlLaysF0
import Derived.Shelf.SlLaysM
import Derived.Shelf.SlLaysN
import Derived.Ground.SlsfProg
import Derived.Ground.SlgmProg
import Derived.Ground.SlgnProg
import Derived.Test.YtgmbfiikkogenaaGreatDoorProg
import Derived.Lib.SplitLaws
import Derived.WalkSmall
import Derived.Maps.OwnOps
import Derived.Maps.OwnSet
import Derived.Deep.SlicePairs
import Derived.Lib.AppendZerosOnto
import Derived.Lib.AppendStr
import Derived.OwnWalk
import Derived.Laws.Strings3
import Derived.Laws.Concat
import Derived.Lib.ItoaMem
import Derived.IntWalk
import Derived.Sort.Grow
import Derived.Lib.LaidTab
import Derived.LaidSub
import Derived.Sort.Walk0
import Derived.Laws.OwnMore
import Derived.ArgAppend
import Derived.Shelf.Strings.OnBuilder
import Derived.Maps.RangeWalk
import Derived.Lib.SlicesCompact
import Derived.Shelf.SlSortCmp.Insertion
import Derived.Sort.Statements
import Derived.Shelf.SlSortCmp.WholeK
import Derived.Shelf.SlSortCmp.NoneTotal
import Derived.Shelf.SortM.Plain
import Derived.Shelf.SlicesG.CompactS
import Derived.Shelf.Small.Strs
import Derived.Sort.OwnSorted
import Derived.Deep.DeepCutAuto
import Derived.Deep.CutBlock
namespace Go.Proofs.YtgmbfiikkogenaaGreatDoor
open Go.RowKit

/-- The length in bits, as eight bytes. -/
def be8 (n : Nat) : List UInt8 := be4 (UInt32.ofNat (8 * n / 4294967296)) ++ be4 (UInt32.ofNat (8 * n))

theorem be4_byte (M : Nat) (j : Nat) (hj : j < 4) : ∃ y : UInt8, (be4 (UInt32.ofNat M))[j]? = some y ∧ y.toNat = M % 4294967296 / 2 ^ (24 - 8 * j) % 256 := by
  match j, hj with
  | 0, _ => exact ⟨_, rfl, by rw [UInt32.toNat_toUInt8, UInt32.toNat_shiftRight, UInt32.toNat_ofNat', Nat.shiftRight_eq_div_pow]; rfl⟩
  | 1, _ => exact ⟨_, rfl, by rw [UInt32.toNat_toUInt8, UInt32.toNat_shiftRight, UInt32.toNat_ofNat', Nat.shiftRight_eq_div_pow]; rfl⟩
  | 2, _ => exact ⟨_, rfl, by rw [UInt32.toNat_toUInt8, UInt32.toNat_shiftRight, UInt32.toNat_ofNat', Nat.shiftRight_eq_div_pow]; rfl⟩
  | 3, _ => exact ⟨_, rfl, by rw [UInt32.toNat_toUInt8, UInt32.toNat_ofNat']; simp⟩
theorem be8_at (n k : Nat) (hk : k < 8) (hn : n ≤ 70368744177664) : ∃ y : UInt8, Box ((be8 n)[k]? = some y) ∧ 8 * (n : Int) / 2 ^ (8 * (7 - k)) % 256 = ((y.toNat : Nat) : Int) := by
  have hl : (be4 (UInt32.ofNat (8 * n / 4294967296))).length = 4 := rfl
  have key : ∀ (e : Nat), 8 * (n : Int) / 2 ^ e % 256 = ((8 * n / 2 ^ e % 256 : Nat) : Int) := fun e => by
    rw [Int.natCast_emod, Int.natCast_ediv, Int.natCast_mul, Int.natCast_pow]; rfl
  by_cases h4 : k < 4
  · obtain ⟨y, h1, h2⟩ := be4_byte (8 * n / 4294967296) k h4
    refine ⟨y, ⟨by unfold be8; rw [List.getElem?_append_left (by rw [hl]; exact h4)]; exact h1⟩, ?_⟩
    rw [key, h2]
    congr 1
    match k, h4 with
    | 0, _ => simp only [Nat.reduceMul, Nat.reduceSub, Nat.reducePow]; omega
    | 1, _ => simp only [Nat.reduceMul, Nat.reduceSub, Nat.reducePow]; omega
    | 2, _ => simp only [Nat.reduceMul, Nat.reduceSub, Nat.reducePow]; omega
    | 3, _ => simp only [Nat.reduceMul, Nat.reduceSub, Nat.reducePow]; omega
  · obtain ⟨y, h1, h2⟩ := be4_byte (8 * n) (k - 4) (by omega)
    refine ⟨y, ⟨by unfold be8; rw [List.getElem?_append_right (by rw [hl]; omega), hl]; exact h1⟩, ?_⟩
    rw [key, h2]
    congr 1
    match k, hk, h4 with
    | 4, _, _ => simp only [Nat.reduceMul, Nat.reduceSub, Nat.reducePow]; omega
    | 5, _, _ => simp only [Nat.reduceMul, Nat.reduceSub, Nat.reducePow]; omega
    | 6, _, _ => simp only [Nat.reduceMul, Nat.reduceSub, Nat.reducePow]; omega
    | 7, _, _ => simp only [Nat.reduceMul, Nat.reduceSub, Nat.reducePow]; omega

/-- Over the blocks: the state in block gs, the text at pa. -/
def RO (w wr : World) (gs : Nat) (pa : Option Addr) (M : List UInt8) (pc : Nat) (s : St) : Prop :=
  Eight wr gs s.list ∧ IsBytes wr pa M pc ∧ (∀ x, pa = some x → x.block < gs) ∧ Below w.heap.size w wr ∧ w.heap.size ≤ gs
theorem AccB.block_lt {w0 w : World} {pa : Option Addr} {n pc : Nat} {l : List UInt8} (h : AccB w0 w (.slice pa n pc) l) : ∀ x, pa = some x → x.block < w.heap.size := by
  rintro x rfl
  obtain ⟨⟨_, h2⟩, _⟩ := h
  rcases h2 with ⟨e, _⟩ | ⟨g, cap, cur, e, _, hh, _⟩
  · cases e
  · injection e with e1
    cases e1
    exact lt_of_row' hh
theorem ro_world {w wr w2 W : World} {pa : Option Addr} {m pc : Nat} {M : List UInt8} (h : AccB w wr (.slice pa m pc) M) (hb : Below wr.heap.size wr w2) (hW : W = (w2.alloc (.cells z8 74)).setRow w2.heap.size initS.cells) :
    RO w W w2.heap.size pa M pc (fullB initS M 0) := by
  subst hW
  have hB : Below w2.heap.size w2 ((w2.alloc (.cells z8 74)).setRow w2.heap.size initS.cells) := below_setRow ((Below.refl _ _).alloc (Nat.le_refl _) _) (Nat.le_refl _) _
  have hB2 := below_trans hb hB
  obtain ⟨pa', pc', e, hby⟩ := h.shape
  injection e with e1 e2 e3
  subst e1 e3
  refine ⟨setRow_heap _ _ _ _ _ _ (heap_alloc_new _ _), hby.keep hB2, fun x hx => ?_, h.2.trans (hB2.mono h.2.size), ?_⟩
  · have := h.block_lt x hx
    have := hb.size
    omega
  · have := h.2.size
    have := hb.size
    omega

/-- The worlds that keep what was there in W. -/
structure BelowOf (W : World) where
  val : World
  prop : Below W.heap.size W val
instance (W : World) : Nonempty (BelowOf W) := ⟨⟨W, Below.refl _ _⟩⟩
theorem wp_region_below_tail {P : Program} {id : Nat} {Q : Exit → Act → World → Prop} {a : Act} {w : World} {full : List Oper} (n : Nat) (hm : P.follows .mixedOrders = true)
    (hlen : full.length = n + 1) (hB : backB full = true) (hS : sinkAll .any full n = true)
    (hL : (Region.noSelect (full.take n).toArray && Region.lexFrom .any (full.take n).toArray n 0 (Array.replicate (n + 1) false)) = true)
    (h : wpQuiet P (full.take n).toArray (fun w' => ∃ b : BelowOf w, w' = b.val) (fun a' => ∀ w', (∃ b : BelowOf w, w' = b.val) → wpList P full.toArray Q (full.drop n) a' w') (full.take n) a) : (Code.region id full.toArray true).wp P Q a w :=
  wp_region_quiet_tail (C := fun w' => ∃ b : BelowOf w, w' = b.val) n hm hlen hB hS hL ⟨⟨{ w with drawn := w.drawn + 1 }, ⟨rfl, rfl, rfl, Nat.le_refl _, fun _ _ => rfl⟩⟩, rfl⟩ h
theorem refBlock_q (s : St) (b : List UInt8) (hb : b.length = 64) (x : Addr) (cap : Nat) {W : World} (hx : ∀ j (hj : j < b.length), W.cell? (x.add j) = some (.int .u8 b[j].toNat)) (v : BelowOf W) :
    Calls Tryz.prog 49 #[.agg #[.int .u32 (vU s.a), .int .u32 (vU s.b), .int .u32 (vU s.c), .int .u32 (vU s.d), .int .u32 (vU s.e), .int .u32 (vU s.f), .int .u32 (vU s.g), .int .u32 (vU s.h)], .slice (some x) 64 cap] v.val
      fun e w'' => e = .returned (.agg (blockS s b).cells) ∧ ∃ b : BelowOf W, w'' = b.val := by
  refine (refBlock_any s b hb x cap v.val fun j hj => below_cell v.prop (hx j hj)).mono ?_
  rintro e w' ⟨he, hb⟩
  exact ⟨he, ⟨w', below_trans v.prop hb⟩, rfl⟩
theorem RO.keep {w wr w' : World} {gs : Nat} {pa : Option Addr} {M : List UInt8} {pc : Nat} {s : St} (h : RO w wr gs pa M pc s) (hb : Below wr.heap.size wr w') : RO w w' gs pa M pc s :=
  ⟨(hb.block _ (lt_of_row' h.1)).trans h.1, h.2.1.keep hb, h.2.2.1, h.2.2.2.1.trans (hb.mono h.2.2.2.1.size), h.2.2.2.2⟩
theorem RO.setRow {w wr : World} {gs : Nat} {pa : Option Addr} {M : List UInt8} {pc : Nat} {s : St} (h : RO w wr gs pa M pc s) (s' : St) : RO w (wr.setRow gs s'.cells) gs pa M pc s' :=
  ⟨setRow_heap _ _ _ _ _ _ h.1, bytes_setRow h.2.1 (fun x hx => by have := h.2.2.1 x hx; omega) _, h.2.2.1, below_setRow h.2.2.2.1 h.2.2.2.2 _, h.2.2.2.2⟩
theorem below_drew_alloc (w : World) (o : Obj) : Below w.heap.size w (w.drew.alloc o) := (Below.refl _ _).drew.alloc (Nat.le_refl _) _
/-- APPEND of a slice of bytes, as one step of a region that draws its order. -/
theorem step_append_own {ops : Array Oper} {o : Oper} {act : Act} {K : Act → World → Prop} {Q : Exit → Act → World → Prop} {E : Prop} (w : World) (hgd : o.guard = none) (s x : Operand)
    (ho : o.op = .call { callee := .builtin .append, args := #[s, x], argTypes := #[24, 24] })
    {w0 : World} {v : Value} {l news : List UInt8} (hs : act.eval s = v) (h : AccB w0 w v l) {b c : Nat} (hx : act.eval x = .slice (some ⟨b, 0, none⟩) news.length c) {c' : Nat} (hy : IsBytes w (some ⟨b, 0, none⟩) news c')
    (hpos : 0 < news.length) (hn : l.length + news.length ≤ 140737488355328)
    (hK : ∀ v' w', AccB w0 w' v' (l ++ news) → K (act.put o.dst v') w') : if Region.wanted o (yielded ops act.tmps) = true then Oper.wp Tryz.prog o act w K Q else E := by
  obtain ⟨i0, hi, hz0, hz1, hz2⟩ := info_parts Tryz.info5
  refine step_append_lies w hgd s x 24 ho w0.heap.size 5 i0 (.int .u8 0) 1 1 Tryz.underlying24 hi hz0 hz1 hz2 rfl (by decide) v l.length (bytesV l) hs h.1 ⟨b, 0, none⟩ news.length c (bytesV news) hx (by rw [bytesV_len, Nat.mul_one]) ?_ (bytesV_one news) hpos (by unfold maxLen; omega) (by omega) h.2.size w.heap.size rfl ?_
  · intro j u hj
    unfold bytesV at hj
    rw [List.getElem?_map] at hj
    obtain ⟨y, hy2, rfl⟩ := Option.map_eq_some_iff.1 hj
    obtain ⟨hlt, rfl⟩ := List.getElem?_eq_some_iff.1 hy2
    rcases hy with ⟨h0, _⟩ | ⟨z, h1, _, _, h4⟩
    · cases h0
    · obtain rfl := Option.some.inj h1
      exact h4 j hlt
  · intro g cap w' hown hgrow _ _
    refine hK _ w' ⟨?_, h.2.grown hgrow h.2.size fun k hk => (World.ownsRow.lt h.1 k hk).1⟩
    have e : bytesV (l ++ news) = bytesV l ++ bytesV news := by unfold bytesV; rw [List.map_append]
    rw [e, List.length_append]; exact hown
theorem addr_add_add (x : Addr) (i t : Nat) : x.add (i + t) = (x.add i).add t := by
  unfold Addr.add
  by_cases h0 : i = 0
  · subst h0; simp
  · by_cases hj0 : t = 0
    · subst hj0; simp [h0]
    · simp [h0, hj0, Nat.add_assoc]
theorem run_slice_mid (W : World) (x : Addr) (len cap l h : Nat) (hlh : l < h) (hh : h ≤ len) (hc : len ≤ cap) :
    (Instr.sliceAt 24 (.slice (some x) len cap) (some (.int .i64 (l : Int))) (some (.int .i64 (h : Int))) none).run Tryz.prog W = .ok (.slice (some (x.add l)) (h - l) (cap - l)) W := by
  have es : (sizeOf (Tryz.prog.elem 24)).run Tryz.prog W = .ok 1 W := by rw [show Tryz.prog.elem 24 = 5 by kernel_rfl]; exact sizeOf_u8 W
  rw [run_sliceAt_slice W 24 _ _ _ _ (by kernel_rfl), run_slice_lh W 24 _ _ _ (by kernel_rfl) .i64 .i64 (l : Int) (h : Int) (by omega) (by omega) (by omega), es]
  simp only [Result.andThen, sliced, Int.toNat_natCast, Nat.mul_one]
  rw [if_neg (by omega)]; rfl

set_option maxRecDepth 100000 in
set_option maxHeartbeats 4000000 in
theorem refOf_any (l : List UInt8) (a : Option Addr) (cap : Nat) (w : World) (h : IsBytes w a l cap) (hl : l.length ≤ 70368744177664) :
    Calls Tryz.prog 26 #[.slice a l.length cap] w fun e w' => ∃ v', e = .returned v' ∧ AccB w w' v' (sumS l) := by
  have H0 := Box.mk h
  clear h
  go_enter Tryz.func26, Tryz.ntmps26
  have HE := Box.mk (AccB.empty w)
  go_wp2_with (at_builtin; refine wpList_append_accs _ rfl _ _ rfl rfl HE.out rfl (H0.out.keep HE.out.2) (by simp; omega) ?c1)
  case c1 =>
    intro v1 w1 hacc
    have H1 : Box (AccB w w1 v1 l) := ⟨by simpa using hacc⟩
    clear hacc HE
    have HN : Box (∀ W : World, (W.alloc (.cells #[.int .u8 128] 5)).cell? ⟨W.heap.size, 0, none⟩ = some (.int .u8 ((128 : UInt8).toNat : Int))) := ⟨fun W => by rw [cell_of_row _ _ _ _ _ _ (heap_alloc_new _ _)]; rfl⟩
    go_wp2_with (at_builtin; refine wpList_append_accb _ rfl _ _ rfl rfl (H1.out.keep ((Below.refl _ _).alloc (Nat.le_refl _) _)) rfl (HN.out _) (by omega) ?c2)
    case c2 =>
      intro g2 cap2 w2 hacc
      have H2 := Box.mk hacc
      clear hacc H1 HN
      obtain ⟨n, HNN⟩ : ∃ n, Box (l.length = n) := ⟨_, ⟨rfl⟩⟩
      rw [show l.length = n from HNN.out] at hl ⊢
      obtain ⟨Z, HZ, hZ⟩ : ∃ Z, Box (Z = (119 - n % 64) % 64) ∧ Z < 64 := ⟨_, ⟨rfl⟩, by omega⟩
      go_wp2_with fail
      go_loopw [3] (fun sv wr => ∃ (z : Nat) (pa : Option Addr) (pc m : Nat), z ≤ Z ∧ m = n + 1 + z ∧ sv = .slice pa m pc ∧ Box (AccB w wr (.slice pa m pc) (l ++ [128] ++ List.replicate z 0))) (fun sv _ => n + 200 - sliceLen sv)
      case atStart => exact ⟨0, _, _, _, Nat.zero_le _, rfl, rfl, ⟨by rw [← HNN.out]; simpa using H2.out⟩⟩
      case round =>
        clear H2
        obtain ⟨z, pa, pc, m, hz, hm, rfl, HA⟩ := hrel
        by_cases hzz : z = Z
        · have h1 : ((m : Int) % 64) = 56 := by have := HZ.out; omega
          have hb : (((m : Int) % 64) != 56) = false := by rw [h1]; rfl
          have HMM := Box.mk hm
          clear hm h1
          subst hzz
          go_wp2_with fail
          clear hb
          go_loopw [3, 5] (fun sv iv wr => ∃ (k : Nat) (pa : Option Addr) (pc m : Nat), k ≤ 8 ∧ iv = .int .i64 (7 - (k : Int)) ∧ m = n + 1 + z + k ∧ sv = .slice pa m pc ∧
            Box (AccB w wr (.slice pa m pc) (l ++ [128] ++ List.replicate z 0 ++ (be8 n).take k))) (fun _ iv _ => (intOf iv + 1).toNat)
          case atStart => exact ⟨0, _, _, _, Nat.zero_le _, rfl, by have := HMM.out; omega, rfl, ⟨by rw [List.take_zero, List.append_nil]; exact HA.out⟩⟩
          case round =>
            clear HA HMM
            obtain ⟨k, pa, pc, m, hk, rfl, hm, rfl, HA⟩ := hrel
            by_cases hk8 : k < 8
            · obtain ⟨e, he, HE⟩ : ∃ e : Nat, (7 - (k : Int)) = e ∧ Box (e = 7 - k) := ⟨7 - k, by omega, ⟨rfl⟩⟩
              rw [he]
              have he8 : e < 8 := by omega
              have HMM := Box.mk hm
              have HEE := Box.mk he
              clear hm he
              obtain ⟨y, HY, hby⟩ : ∃ y : UInt8, Box ((be8 n)[k]? = some y) ∧ 8 * (n : Int) / 2 ^ (8 * e) % 256 = ((y.toNat : Nat) : Int) := by
                rw [HE.out]; exact be8_at n k hk8 hl
              have HN : Box (∀ W : World, (W.alloc (.cells #[.int .u8 (y.toNat : Int)] 5)).cell? ⟨W.heap.size, 0, none⟩ = some (.int .u8 (y.toNat : Int))) := ⟨fun W => by rw [cell_of_row _ _ _ _ _ _ (heap_alloc_new _ _)]; rfl⟩
              have HL2 := Box.mk (show (l ++ [128] ++ List.replicate z 0 ++ (be8 n).take k).length = m by
                have h1 : (be8 n).length = 8 := rfl
                simp only [List.length_append, List.length_cons, List.length_nil, List.length_replicate, List.length_take, h1]
                have := HMM.out; have := HNN.out; omega)
              obtain ⟨R, HR⟩ : ∃ R, Box (l ++ [128] ++ List.replicate z 0 ++ (be8 n).take k = R) := ⟨_, ⟨rfl⟩⟩
              rw [show l ++ [128] ++ List.replicate z 0 ++ (be8 n).take k = R from HR.out] at HA HL2
              go_wp2_with (at_builtin; refine wpList_append_accb _ rfl _ _ rfl rfl (HA.out.keep ((Below.refl _ _).alloc (Nat.le_refl _) _)) rfl (HN.out _) (by have := HL2.out; have := HMM.out; omega) ?c4)
              case c4 =>
                intro g4 cap4 w4 hacc
                rw [HL2.out] at hacc ⊢
                have H4 := Box.mk hacc
                clear hacc hby
                go_wp2_with fail
                go_roundw
                case rel =>
                  refine ⟨k + 1, _, _, m + 1, by omega, by have := HEE.out; congr 1; omega, by have := HMM.out; omega, rfl, ⟨?_⟩⟩
                  have e2 : (be8 n).take (k + 1) = (be8 n).take k ++ [y] := by
                    obtain ⟨hlt, rfl⟩ := List.getElem?_eq_some_iff.1 HY.out
                    exact List.take_succ_eq_append_getElem hlt
                  rw [e2, ← List.append_assoc, HR.out]; exact H4.out
                case measure => simp [intOf]
            · have hk8' : k = 8 := by omega
              have HP8 : Box (AccB w wr (.slice pa m pc) (l ++ padL n) ∧ m % 64 = 0 ∧ (l ++ padL n).length = m) := ⟨by
                have h := HA.out
                have e : l ++ [128] ++ List.replicate z 0 ++ (be8 n).take k = l ++ padL n := by
                  rw [hk8', show (be8 n).take 8 = be8 n from rfl, HZ.out]
                  unfold padL be8
                  simp
                rw [e] at h
                have h2 := h.1.1
                rw [bytesV_len, Nat.mul_one] at h2
                have h3 := padL_len n
                have h4 : (l ++ padL n).length = n + (padL n).length := by rw [List.length_append, HNN.out]
                obtain ⟨pa', pc', hv, _⟩ := h.shape
                injection hv with e1 e2 e3
                exact ⟨h, by omega, e2.symm⟩⟩
              have HMM := Box.mk hm
              have hneg : ¬ (0 : Int) ≤ 7 - (k : Int) := by omega
              clear HA hm
              go_wp2_with fail
              refine (initial_any wr).mono ?_
              rintro e w2 ⟨rfl, hb2⟩
              have HB2 := Box.mk hb2
              clear hb2
              go_wp2_with (refine wpList_store_row rfl 74 _ _ rfl w2.heap.size initS.cells rfl rfl 74 z8 (heap_alloc_new _ _) (cells_size8 initS) (z8_size initS) (cells_one initS) ?_)
              obtain ⟨W, hW⟩ : ∃ W, W = (w2.alloc (.cells z8 74)).setRow w2.heap.size initS.cells := ⟨_, rfl⟩
              obtain ⟨M, HMQ⟩ : ∃ M, Box (l ++ padL n = M) := ⟨_, ⟨rfl⟩⟩
              rw [show l ++ padL n = M from HMQ.out] at HP8
              have H0 := Box.mk (ro_world HP8.out.1 HB2.out hW)
              change Code.wp _ _ _ _ ((w2.alloc (.cells z8 74)).setRow w2.heap.size initS.cells)
              rw [← hW]
              clear hW HB2 hneg
              generalize w2.heap.size = gs at *
              go_loopw [7] (fun iv wr => ∃ q : Nat, 64 * q ≤ m ∧ iv = .int .i64 ((64 * q : Nat) : Int) ∧ Box (RO w wr gs pa M pc (fullB initS M q))) (fun iv _ => m - (intOf iv).toNat)
              case atStart => exact ⟨0, Nat.zero_le _, rfl, H0⟩
              case round =>
                clear H0
                obtain ⟨q, hq, rfl, HR⟩ := hrel
                by_cases hqt : 64 * q < m
                · obtain ⟨s, HS⟩ : ∃ s, Box (fullB initS M q = s) := ⟨_, ⟨rfl⟩⟩
                  rw [show fullB initS M q = s from HS.out] at HR
                  obtain ⟨i, j, HI, hwi, hij⟩ : ∃ i j : Nat, Box (64 * q = i ∧ j = 64 * q + 64) ∧ IntKind.i64.wrap ((i : Int) + 64) = j ∧ j ≤ m := ⟨64 * q, 64 * q + 64, ⟨rfl, rfl⟩, by
                    simp only [IntKind.wrap, IntKind.bits, IntKind.signed]; have := HMM.out; simp; omega, by have := HP8.out.2.1; omega⟩
                  rw [show 64 * q = i from HI.out.1] at hqt ⊢
                  obtain ⟨x, rfl, hxb, hcap⟩ : ∃ x, pa = some x ∧ (∀ t (ht : t < M.length), wr.cell? (x.add t) = some (.int .u8 M[t].toNat)) ∧ m ≤ pc := by
                    rcases HR.out.2.1 with ⟨_, h, _⟩ | ⟨x, h1, h2, _, h4⟩
                    · have := HP8.out.2.2; rw [h] at this; simp at this; omega
                    · exact ⟨x, h1, h4, by have := HP8.out.2.2; omega⟩
                  have HXB := Box.mk hxb
                  clear hxb
                  have hsl := fun W => run_slice_mid W x m pc i j (by have := HI.out; omega) hij hcap
                  rw [show j - i = 64 by have := HI.out; omega] at hsl
                  obtain ⟨blk, HBK⟩ : ∃ blk, Box (blk = (M.drop i).take 64) := ⟨_, ⟨rfl⟩⟩
                  have hbl : blk.length = 64 := by rw [HBK.out, List.length_take, List.length_drop, HP8.out.2.2]; have := HI.out; omega
                  have HBC : Box (∀ t (ht : t < blk.length), wr.cell? ((x.add i).add t) = some (.int .u8 blk[t].toNat)) := ⟨fun t ht => by
                    have e : blk[t] = M[i + t]'(by rw [HP8.out.2.2]; have := HI.out; omega) := by simp only [HBK.out, List.getElem_take, List.getElem_drop]
                    rw [e, ← HXB.out]
                    congr 1
                    exact (addr_add_add x i t).symm⟩
                  have hc0 := fun b : BelowOf wr => below_cell b.prop (HR.out.1.cell 0 (show 0 < 8 by decide))
                  have hc1 := fun b : BelowOf wr => below_cell b.prop (HR.out.1.cell 1 (show 1 < 8 by decide))
                  have hc2 := fun b : BelowOf wr => below_cell b.prop (HR.out.1.cell 2 (show 2 < 8 by decide))
                  have hc3 := fun b : BelowOf wr => below_cell b.prop (HR.out.1.cell 3 (show 3 < 8 by decide))
                  have hc4 := fun b : BelowOf wr => below_cell b.prop (HR.out.1.cell 4 (show 4 < 8 by decide))
                  have hc5 := fun b : BelowOf wr => below_cell b.prop (HR.out.1.cell 5 (show 5 < 8 by decide))
                  have hc6 := fun b : BelowOf wr => below_cell b.prop (HR.out.1.cell 6 (show 6 < 8 by decide))
                  have hc7 := fun b : BelowOf wr => below_cell b.prop (HR.out.1.cell 7 (show 7 < 8 by decide))
                  simp only [St.list, List.getElem_cons_zero, List.getElem_cons_succ] at hc0 hc1 hc2 hc3 hc4 hc5 hc6 hc7
                  go_wp2_with fail
                  refine wp_region_below_tail 7 (by kernel_rfl) (by kernel_rfl) (by kernel_rfl) (by kernel_rfl) (by kernel_rfl) ?_
                  simp only [List.take_succ_cons, List.take_zero, List.drop_succ_cons, List.drop_zero]
                  repeat (quiet_step (fail))
                  quiet_step (exact refBlock_q s blk hbl (x.add i) (pc - i) HBC.out _)
                  repeat (quiet_step (fail))
                  refine wpQuiet_nil ?_
                  rintro _ ⟨b, rfl⟩
                  clear hc0 hc1 hc2 hc3 hc4 hc5 hc6 hc7
                  have HRB := Box.mk (HR.out.keep b.prop)
                  generalize b.val = W5 at *
                  obtain ⟨s', HS'⟩ : ∃ s', Box (blockS s blk = s') := ⟨_, ⟨rfl⟩⟩
                  rw [show blockS s blk = s' from HS'.out]
                  go_wp2_with (refine wpList_store_row rfl 74 _ _ rfl gs s'.cells rfl rfl 74 (wordsV s.list) HRB.out.1 (cells_size8 s') rfl (cells_one s') ?_)
                  go_roundw
                  case rel =>
                    refine ⟨q + 1, by have := HI.out; omega, by have := HI.out; congr 1; omega, ⟨?_⟩⟩
                    rw [show fullB initS M (q + 1) = s' by rw [fullB, HS.out, HI.out.1, ← HBK.out, HS'.out]]
                    exact HRB.out.setRow s'
                  case measure => have := HI.out; simp [intOf]; omega
                · obtain ⟨S, HSS⟩ : ∃ S, Box (stS (l ++ padL n) = S) := ⟨_, ⟨rfl⟩⟩
                  have HE : Box (Eight wr gs S.list ∧ Below w.heap.size w wr) := ⟨by
                    have h := HR.out
                    have e : fullB initS M q = S := by
                      rw [← HSS.out, HMQ.out]
                      unfold stS
                      rw [HP8.out.2.2, show m / 64 = q by omega]
                    rw [e] at h
                    exact ⟨h.1, h.2.2.2.1⟩⟩
                  clear HR
                  obtain ⟨W5, hW5⟩ : ∃ W5, W5 = wr := ⟨_, rfl⟩
                  subst hW5
                  rw [show ((64 * q : Nat) : Int) = (m : Int) by omega]
                  go_wp2_with fail
                  try rw [show decide ((m : Int) < (m : Int)) = false by rw [decide_eq_false_iff_not]; omega]
                  go_loopw [8, 9] (fun sv iv wr' => ∃ k : Nat, k ≤ 8 ∧ iv = .int .i64 k ∧ Box (AccB W5 wr' sv ((S.list.take k).flatMap be4))) (fun _ iv _ => 8 - (intOf iv).toNat)
                  case atStart => exact ⟨0, Nat.zero_le _, rfl, ⟨AccB.start W5⟩⟩
                  case round =>
                    obtain ⟨k, hk, rfl, HA⟩ := hrel
                    by_cases hk8 : k < 8
                    · have hsl : S.list.length = 8 := rfl
                      have hc := below_cell HA.out.2 (HE.out.1.cell k hk8)
                      have HC5 := Box.mk (HE.out.1.cell k hk8)
                      have hki : (k : Int) < 8 := by omega
                      have HSN := Box.mk (flat_snoc S.list k hk8)
                      have HFL := Box.mk (show ((S.list.take k).flatMap be4).length ≤ 32 by rw [flat_len, List.length_take]; omega)
                      generalize S.list[k]'hk8 = xw at *
                      generalize (S.list.take k).flatMap be4 = R at *
                      have hs24 := vU_shr24
                      have hs16 := vU_shr16
                      have hs8 := vU_shr8
                      have hb8 := vU_byte8
                      go_wp2_with fail
                      go_region_held3 (fun w' => w'.cell? ⟨gs, k, none⟩ = some (.int .u32 (vU xw)))
                        (first
                          | exact hc
                          | exact below_cell (below_drew_alloc _ _) hc
                          | assumption)
                        (first
                          | (refine step_append_own _ rfl _ _ rfl rfl (HA.out.keep (below_drew_alloc _ _)) (news := be4 xw) rfl (bytes_new _ (be4 xw) _ rfl (show 4 ≤ maxLen by decide) (0, 0)) (show 0 < 4 by decide) (by have := HFL.out; show R.length + 4 ≤ _; omega) ?_
                             intro v9 w9 hacc9
                             have hc9 := below_cell hacc9.2 HC5.out))
                      have H9 := Box.mk hacc9
                      clear hacc9 hc9 hc hs24 hs16 hs8 hb8
                      go_wp2_with fail
                      go_roundw
                      case rel => exact ⟨k + 1, by omega, by go_num, ⟨by rw [HSN.out]; exact H9.out⟩⟩
                      case measure => simp [intOf]; omega
                    · have HZ9 := Box.mk (show AccB w wr u8 (sumS l) by
                        have h := HA.out.weaken HE.out.2
                        rw [List.take_of_length_le (by show 8 ≤ k; omega)] at h
                        unfold sumS outS
                        rw [HNN.out, HSS.out]; exact h)
                      clear HA HE
                      go_wp2_with fail
                      go_ret
                      exact ⟨_, rfl, HZ9.out⟩
        · have hb : (((m : Int) % 64) != 56) = true := by
            have h1 : ¬ ((m : Int) % 64) = 56 := by have := HZ.out; omega
            simp [h1]
          have HN : Box (∀ W : World, (W.alloc (.cells #[.int .u8 0] 5)).cell? ⟨W.heap.size, 0, none⟩ = some (.int .u8 ((0 : UInt8).toNat : Int))) := ⟨fun W => by rw [cell_of_row _ _ _ _ _ _ (heap_alloc_new _ _)]; rfl⟩
          have hml : (l ++ [128] ++ List.replicate z 0).length = m := by simp [HNN.out]; omega
          have HM := Box.mk hml
          have HMM := Box.mk hm
          clear hml hm
          go_wp2_with (at_builtin; refine wpList_append_accb _ rfl _ _ rfl rfl (HA.out.keep ((Below.refl _ _).alloc (Nat.le_refl _) _)) rfl (HN.out _) (by have := HM.out; have := HMM.out; omega) ?c3)
          case c3 =>
            intro g3 cap3 w3 hacc
            have H3 := Box.mk hacc
            clear hacc
            go_wp2_with fail
            go_roundw
            case rel =>
              refine ⟨z + 1, _, _, l.length + (z + 1) + 1, by omega, by have := HNN.out; omega, rfl, ⟨?_⟩⟩
              have e : l ++ [128] ++ List.replicate (z + 1) 0 = l ++ 128 :: (List.replicate z 0 ++ [0]) := by rw [List.replicate_succ']; simp
              rw [e]
              exact H3.out
            case measure => have := HMM.out; have := HNN.out; simp [sliceLen]; omega
end Go.Proofs.YtgmbfiikkogenaaGreatDoor
namespace Go.Proofs.YtgmbfiikkogenaaGreatDoor
open Go.RowKit
set_option linter.unusedSimpArgs false
set_option linter.unusedVariables false

/-- What is seen of a reply. -/
structure Sn where
  st : Int
  fs : List Fld
  size : Int
  sum : List UInt8
/-- A difference. -/
structure Df where
  st : Bool
  bd : Bool
  fs : List ByteArray
/-- Where the slices of one lie. -/
structure SnP where
  fa : Option Addr
  fc : Nat
  sa : Option Addr
  sc : Nat
def Sn.cells (s : Sn) (p : SnP) : Array Value := #[.int .i64 s.st, .slice p.fa s.fs.length p.fc, .int .i64 s.size, .slice p.sa s.sum.length p.sc]
def Sn.v (s : Sn) (p : SnP) : Value := .agg #[.int .i64 s.st, .slice p.fa s.fs.length p.fc, .int .i64 s.size, .slice p.sa s.sum.length p.sc]
def SnIn (w : World) (s : Sn) (p : SnP) : Prop := FldsC w p.fa s.fs p.fc ∧ s.fs.length ≤ p.fc ∧ IsBytes w p.sa s.sum p.sc
theorem SnIn.keep {w w' : World} {s : Sn} {p : SnP} (h : SnIn w s p) (hb : Below w.heap.size w w') : SnIn w' s p := ⟨h.1.keep hb, h.2.1, h.2.2.keep hb⟩
def Df.cells (d : Df) (a : Option Addr) (c : Nat) : Array Value := #[.bool d.st, .bool d.bd, .slice a d.fs.length c]
def Df.v (d : Df) (a : Option Addr) (c : Nat) : Value := .agg #[.bool d.st, .bool d.bd, .slice a d.fs.length c]
def valueO (l : List Fld) (n : ByteArray) : Option ByteArray := (l.find? fun f => decide (f.1 = n)).map (·.2)
def fsD (a b : List Fld) : List ByteArray := (namesS ((a ++ b).map (·.1))).filter fun n => decide (valueO a n ≠ valueO b n)
def cmpV (a b : Sn) : Df := ⟨decide (a.st ≠ b.st), decide (a.size ≠ b.size ∨ a.sum ≠ b.sum), fsD a.fs b.fs⟩
def sameD (d : Df) : Bool := !d.st && !d.bd && decide (d.fs.length = 0)
theorem valueO_hit {l : List Fld} {k : Nat} {n : ByteArray} (h : k < l.length) (h1 : ∀ j (h : j < l.length), j < k → l[j].1 ≠ n) (h2 : l[k].1 = n) : valueO l n = some l[k].2 := by
  have e : l = l.take k ++ l[k] :: l.drop (k + 1) := by
    conv => lhs; rw [← List.take_append_drop k l, List.drop_eq_getElem_cons h]
  unfold valueO
  conv => lhs; rw [e]
  rw [List.find?_append, List.find?_eq_none.2 (fun f hf => by
    rw [List.mem_iff_getElem] at hf
    obtain ⟨j, hj, rfl⟩ := hf
    rw [List.length_take] at hj
    rw [List.getElem_take]
    simpa using h1 j (by omega) (by omega)), Option.none_or, List.find?_cons_of_pos (by simpa using h2)]
  rfl
theorem valueO_miss {l : List Fld} {n : ByteArray} (h1 : ∀ j (h : j < l.length), l[j].1 ≠ n) : valueO l n = none := by
  unfold valueO
  rw [List.find?_eq_none.2 (fun f hf => by
    rw [List.mem_iff_getElem] at hf
    obtain ⟨j, hj, rfl⟩ := hf
    simpa using h1 j hj)]
  rfl
theorem fsD_symm (a b : List Fld) : fsD a b = fsD b a := by
  unfold fsD
  rw [namesS_congr (a := (a ++ b).map (·.1)) (b := (b ++ a).map (·.1)) (fun x => by simp [or_comm])]
  refine List.filter_congr fun n _ => ?_
  rw [decide_eq_decide]
  exact ⟨fun h e => h e.symm, fun h e => h e.symm⟩
theorem fsD_self (a : List Fld) : fsD a a = [] := by
  unfold fsD
  rw [List.filter_eq_nil_iff]
  intro n _
  simp
theorem cmpV_symm (a b : Sn) : cmpV a b = cmpV b a := by
  unfold cmpV
  rw [fsD_symm a.fs b.fs]
  congr 1
  · rw [decide_eq_decide]; exact ⟨fun h e => h e.symm, fun h e => h e.symm⟩
  · rw [decide_eq_decide]
    exact ⟨fun h => h.elim (fun h => .inl (Ne.symm h)) (fun h => .inr (Ne.symm h)), fun h => h.elim (fun h => .inl (Ne.symm h)) (fun h => .inr (Ne.symm h))⟩
theorem same_self (a : Sn) : sameD (cmpV a a) = true := by
  unfold sameD cmpV
  rw [fsD_self]
  simp

def optV (o : Option ByteArray) : ByteArray := o.getD ⟨#[]⟩
set_option maxRecDepth 10000 in
set_option maxHeartbeats 2000000 in
theorem refValueD_any (l : List Fld) (n : ByteArray) (a : Option Addr) (cap : Nat) (w : World) (h : FldsIn w a l) (hl : l.length ≤ 1000000) :
    Calls Tryz.prog 31 #[.slice a l.length cap, .string n] w fun e w' => e = .returned (.tuple #[.string (optV (valueO l n)), .bool (valueO l n).isSome]) ∧ w = w' := by
  have HI := Box.mk h
  clear h
  obtain ⟨r, hr⟩ : ∃ r, valueO l n = r := ⟨_, rfl⟩
  have HR := Box.mk hr
  rw [hr]
  clear hr
  go_enter Tryz.func31, Tryz.ntmps31
  go_wp2_with fail
  go_loopw [6] (fun iv wr => ∃ k : Nat, k ≤ l.length ∧ iv = .int .i64 k ∧ Box (∀ j (h : j < l.length), j < k → l[j].1 ≠ n) ∧ w = wr) (fun iv _ => l.length - (intOf iv).toNat)
  case atStart => exact ⟨0, Nat.zero_le _, rfl, ⟨fun j _ h => absurd h (Nat.not_lt_zero _)⟩, rfl⟩
  case round =>
    obtain ⟨k, hk, rfl, HL, rfl⟩ := hrel
    by_cases hlt : k < l.length
    · obtain ⟨x, rfl, hc1, hc2⟩ := HI.out k hlt
      have hc3 := cell_next hc2
      by_cases he : l[k].1 = n
      · have he' := beqS_t he
        have HX := Box.mk (show r = some l[k].2 by rw [← HR.out]; exact valueO_hit hlt HL.out he)
        have HE := Box.mk he
        clear he HL HR
        go_wp2_with fail
        (try simp only [Exit.inBlock, Exit.then])
        refine bodyPost_ret (results_tmp2 rfl _ _ _) rfl ?_
        exact ⟨by rw [HX.out]; rfl, rfl⟩
      · have he' := beqS_f he
        have HL2 := Box.mk (show ∀ j (h : j < l.length), j < k + 1 → l[j].1 ≠ n from fun j h1 h2 => by
          rcases Nat.lt_or_ge j k with h3 | h3
          · exact HL.out j h1 h3
          · obtain rfl : j = k := by omega
            exact he)
        clear HL he
        go_wp2_with fail
        go_roundw
        case rel => exact ⟨k + 1, by omega, by go_num, HL2, trivial⟩
        case measure => simp [intOf]; omega
    · have HX := Box.mk (show r = none by rw [← HR.out]; exact valueO_miss fun j h => HL.out j h (by omega))
      clear HL HR
      go_wp2_with fail
      (try simp only [Exit.inBlock, Exit.then])
      refine bodyPost_ret (results_tmp2 rfl _ _ _) rfl ?_
      exact ⟨by rw [HX.out]; rfl, rfl⟩
set_option maxHeartbeats 1000000 in
theorem refSame_any (d : Df) (a : Option Addr) (c : Nat) (w : World) :
    Calls Tryz.prog 17 #[d.v a c] w fun e w' => e = .returned (.bool (sameD d)) ∧ Below w.heap.size w w' := by
  obtain ⟨st, bd, fs⟩ := d
  have HB := Box.mk (below_oneF w (.cells (Df.cells ⟨st, bd, fs⟩ a c) 37))
  unfold Df.v sameD
  unfold Df.cells at HB
  simp only at HB ⊢
  cases st
  · cases bd
    · by_cases h : fs.length = 0
      · have e1 : ((fs.length : Int) == 0) = true := by rw [h]; rfl
        have HX := Box.mk (show (!false && !false && decide (fs.length = 0)) = true by rw [decide_eq_true h]; rfl)
        clear h
        go_enter Tryz.func17, Tryz.ntmps17
        go_wp2_with fail
        go_ret
        exact ⟨ret_bool HX.out.symm, HB.out⟩
      · have e1 : ((fs.length : Int) == 0) = false := by rw [beq_eq_false_iff_ne]; omega
        have HX := Box.mk (show (!false && !false && decide (fs.length = 0)) = false by rw [decide_eq_false h]; rfl)
        clear h
        go_enter Tryz.func17, Tryz.ntmps17
        go_wp2_with fail
        go_ret
        exact ⟨ret_bool HX.out.symm, HB.out⟩
    · go_enter Tryz.func17, Tryz.ntmps17
      go_wp2_with fail
      go_ret
      exact ⟨rfl, HB.out⟩
  · go_enter Tryz.func17, Tryz.ntmps17
    go_wp2_with fail
    go_ret
    exact ⟨rfl, HB.out⟩
set_option maxRecDepth 10000 in
set_option maxHeartbeats 2000000 in
theorem sameDiff_self (d : Df) (a b : Option Addr) (c e : Nat) (w : World) (ha : StrsIn w a d.fs) (hb : StrsIn w b d.fs) (hl : d.fs.length ≤ 1000000) :
    Calls Tryz.prog 13 #[d.v a c, d.v b e] w fun e w' => e = .returned (.bool true) ∧ Below w.heap.size w w' := by
  obtain ⟨st, bd, fs⟩ := d
  obtain ⟨W, hW⟩ : ∃ W, W = (w.alloc (.cells #[.bool st, .bool bd, .slice a fs.length c] 37)).alloc (.cells #[.bool st, .bool bd, .slice b fs.length e] 37) := ⟨_, rfl⟩
  have HB := Box.mk (show Below w.heap.size w W by rw [hW]; exact below_twoF (below_oneF w _) _)
  have HV := Box.mk (show VarA W w.heap.size #[.bool st, .bool bd, .slice a fs.length c] 37 by rw [hW]; exact (VarA.new _ _ _).below _)
  have HU := Box.mk (show VarA W (w.heap.size + 1) #[.bool st, .bool bd, .slice b fs.length e] 37 by rw [hW]; have := VarA.new (w.alloc (.cells #[.bool st, .bool bd, .slice a fs.length c] 37)) #[.bool st, .bool bd, .slice b fs.length e] 37; rw [World.size_alloc] at this; exact this)
  have HI := Box.mk (And.intro (ha.keep HB.out) (hb.keep HB.out))
  simp only at hl
  clear ha hb
  unfold Df.v
  simp only
  go_enter Tryz.func13, Tryz.ntmps13
  go_upto_region 1 with fail
  change Code.wp _ _ _ _ ((w.alloc (.cells #[.bool st, .bool bd, .slice a fs.length c] 37)).alloc (.cells #[.bool st, .bool bd, .slice b fs.length e] 37))
  rw [← hW]
  clear hW
  have v0 := HV.out.cell (i := 0) (v := .bool st) rfl
  have v1 := HV.out.cell (i := 1) (v := .bool bd) rfl
  have v2 := HV.out.cell (i := 2) (v := .slice a fs.length c) rfl
  have u0 := HU.out.cell (i := 0) (v := .bool st) rfl
  have u1 := HU.out.cell (i := 1) (v := .bool bd) rfl
  have u2 := HU.out.cell (i := 2) (v := .slice b fs.length e) rfl
  clear HV HU
  cases st <;> cases bd
  all_goals
    go_wp2_with fail
    refine (sameIn_self fs a b c e W HI.out.1 HI.out.2 (by omega)).mono ?_
    rintro e' w2 ⟨rfl, hb⟩
    have HB2 := Box.mk (below_trans HB.out hb)
    clear hb v0 v1 v2 u0 u1 u2
    go_wp2_with fail
    go_ret
    exact ⟨rfl, HB2.out⟩
set_option maxRecDepth 10000 in
set_option maxHeartbeats 2000000 in
theorem sameSeen_self (s : Sn) (p q : SnP) (w : World) (hp : SnIn w s p) (hq : SnIn w s q) (hl : s.fs.length ≤ 1000000) :
    Calls Tryz.prog 10 #[s.v p, s.v q] w fun e w' => e = .returned (.bool true) ∧ Below w.heap.size w w' := by
  obtain ⟨st, fs, size, sum⟩ := s
  obtain ⟨fa, fc, sa, sc⟩ := p
  obtain ⟨ga, gc, ta, tc⟩ := q
  obtain ⟨W, hW⟩ : ∃ W, W = (w.alloc (.cells #[.int .i64 st, .slice fa fs.length fc, .int .i64 size, .slice sa sum.length sc] 32)).alloc (.cells #[.int .i64 st, .slice ga fs.length gc, .int .i64 size, .slice ta sum.length tc] 32) := ⟨_, rfl⟩
  have HB := Box.mk (show Below w.heap.size w W by rw [hW]; exact below_twoF (below_oneF w _) _)
  have HV := Box.mk (show VarA W w.heap.size #[.int .i64 st, .slice fa fs.length fc, .int .i64 size, .slice sa sum.length sc] 32 by rw [hW]; exact (VarA.new _ _ _).below _)
  have HU := Box.mk (show VarA W (w.heap.size + 1) #[.int .i64 st, .slice ga fs.length gc, .int .i64 size, .slice ta sum.length tc] 32 by rw [hW]; have := VarA.new (w.alloc (.cells #[.int .i64 st, .slice fa fs.length fc, .int .i64 size, .slice sa sum.length sc] 32)) #[.int .i64 st, .slice ga fs.length gc, .int .i64 size, .slice ta sum.length tc] 32; rw [World.size_alloc] at this; exact this)
  have HI := Box.mk (And.intro (hp.keep HB.out).1.1 (hq.keep HB.out).1.1)
  have cv1 := conv_bytes (hp.keep HB.out).2.2
  have cv2 := conv_bytes (hq.keep HB.out).2.2
  simp only at hl cv1 cv2
  clear hp hq
  unfold Sn.v
  simp only
  go_enter Tryz.func10, Tryz.ntmps10
  go_upto_region 1 with fail
  change Code.wp _ _ _ _ ((w.alloc (.cells #[.int .i64 st, .slice fa fs.length fc, .int .i64 size, .slice sa sum.length sc] 32)).alloc (.cells #[.int .i64 st, .slice ga fs.length gc, .int .i64 size, .slice ta sum.length tc] 32))
  rw [← hW]
  clear hW
  have v0 := HV.out.cell (i := 0) (v := .int .i64 st) rfl
  have v1 := HV.out.cell (i := 1) (v := .slice fa fs.length fc) rfl
  have v2 := HV.out.cell (i := 2) (v := .int .i64 size) rfl
  have v3 := HV.out.cell (i := 3) (v := .slice sa sum.length sc) rfl
  have u0 := HU.out.cell (i := 0) (v := .int .i64 st) rfl
  have u1 := HU.out.cell (i := 1) (v := .slice ga fs.length gc) rfl
  have u2 := HU.out.cell (i := 2) (v := .int .i64 size) rfl
  have u3 := HU.out.cell (i := 3) (v := .slice ta sum.length tc) rfl
  clear HV HU
  go_wp2_with fail
  refine (sameFlds_self fs fa ga fc gc W HI.out.1 HI.out.2 (by omega)).mono ?_
  rintro e' w2 ⟨rfl, hb⟩
  have HB2 := Box.mk (below_trans HB.out hb)
  clear hb v0 v1 v2 v3 u0 u1 u2 u3
  go_wp2_with fail
  go_ret
  exact ⟨rfl, HB2.out⟩
end Go.Proofs.YtgmbfiikkogenaaGreatDoor
namespace Go.Proofs.YtgmbfiikkogenaaGreatDoor
open Go.RowKit

/-- A new row, of the call's own. -/
def RowNewV (B : Nat) (cs : Array Value) (t : TypeId) (w : World) (v : Value) : Prop := ∃ g, v = .pointer (some ⟨g, 0, none⟩) ∧ B ≤ g ∧ VarA w g cs t
def Spec.rowNew (B : Nat) (cs : Array Value) (t : TypeId) : Spec := ⟨fun v w => RowNewV B cs t w v, fun _ _ _ h hb => by
  obtain ⟨g, h1, h2, h3⟩ := h
  exact ⟨g, h1, h2, h3.keep hb⟩⟩
section
variable {P : Program} {Q : Exit → Act → World → Prop} {act : Act} {w : World} {o : Oper} {s : Spec}
theorem loc_alloc_G {ty : TypeId} {cs : Array Value} (ho : o.op = .alloc ty) {B : Nat} (hB : B ≤ w.heap.size) (hz : (P.info? ty).bind (·.zero) = some (.agg cs)) (hs : ∀ v w', RowNewV B cs ty w' v → s.p v w') :
    o.wp P act w (fun a' w' => ∃ v, a' = act.put o.dst v ∧ Below w.heap.size w w' ∧ s.p v w') Q := by
  refine loc_run (v := .pointer (some ⟨w.heap.size, 0, none⟩)) (w' := w.alloc (.cells cs ty)) ?_ (below_oneF _ _) (hs _ _ ⟨_, rfl, hB, heap_alloc_new _ _⟩)
  cases hq : P.info? ty with
  | none => rw [hq] at hz; cases hz
  | some i =>
    rw [hq] at hz
    simp only [Option.bind_some] at hz
    unfold execOp
    simp [ho, Instr.alloc, zeroValue, typeInfo, hq, hz, newRow, newVar, Value.cells]
end
end Go.Proofs.YtgmbfiikkogenaaGreatDoor
namespace Go.Proofs.YtgmbfiikkogenaaGreatDoor
open Go.RowKit

/-- One operation by itself: it is done, or its guard says no and nothing is claimed of its slot. -/
def StepSk (P : Program) (Q : Exit → Act → World → Prop) (ops : Array Oper) (S : List Spec) (a0 : Act) (w0 : World) (o : Oper) (s : Spec) : Prop :=
  ∀ a w, Below w0.heap.size w0 w → Fr ops a0 a → (∀ j, waitsFor o j = true → Holds ops S a w j) →
    (Region.wanted o (yielded ops a.tmps) = true ∧ o.wp P a w (fun a' w' => ∃ v, a' = a.put o.dst v ∧ Below w.heap.size w w' ∧ s.p v w') Q) ∨ (Region.wanted o (yielded ops a.tmps) = false ∧ s = Spec.any)
def StepsSk (P : Program) (Q : Exit → Act → World → Prop) (ops : Array Oper) (S : List Spec) (a0 : Act) (w0 : World) : List Oper → List Spec → Prop
  | o :: os, s :: ss => StepSk P Q ops S a0 w0 o s ∧ StepsSk P Q ops S a0 w0 os ss
  | [], [] => True
  | _, _ => False
section
variable {P : Program} {Q : Exit → Act → World → Prop} {ops : Array Oper} {S : List Spec} {a0 : Act} {w0 : World}
theorem stepsSk_at : ∀ {os : List Oper} {ss : List Spec}, StepsSk P Q ops S a0 w0 os ss → ∀ (i : Nat) (o : Oper), os[i]? = some o → ∃ s, ss[i]? = some s ∧ StepSk P Q ops S a0 w0 o s
  | o :: os, s :: ss, h, 0, _, rfl => ⟨s, rfl, h.1⟩
  | o :: os, s :: ss, h, i + 1, o', ho => stepsSk_at h.2 i o' ho
  | [], _, _, i, _, ho => by simp at ho
theorem wanted_yes0 {a : Act} {o : Oper} {j d : Nat} (h : o.guard = some (j, false)) (hd : (ops[j]?).bind (·.dst) = some d) (hv : a.eval (.tmp d) = .bool false) : Region.wanted o (yielded ops a.tmps) = true := by
  have e : a.tmps[d]? = some (.bool false) := by
    unfold Act.eval at hv
    simp only [Array.getD_eq_getD_getElem?] at hv
    cases hq : a.tmps[d]? with
    | none => rw [hq] at hv; cases hv
    | some x => rw [hq] at hv; simp at hv; rw [hv]
  unfold Region.wanted yielded
  rw [h]
  simp [hd, e]
theorem wanted_no0 {a : Act} {o : Oper} {j d : Nat} (h : o.guard = some (j, false)) (hd : (ops[j]?).bind (·.dst) = some d) (hv : a.eval (.tmp d) = .bool true) : Region.wanted o (yielded ops a.tmps) = false := by
  have e : a.tmps[d]? = some (.bool true) := by
    unfold Act.eval at hv
    simp only [Array.getD_eq_getD_getElem?] at hv
    cases hq : a.tmps[d]? with
    | none => rw [hq] at hv; cases hv
    | some x => rw [hq] at hv; simp at hv; rw [hv]
  unfold Region.wanted yielded
  rw [h]
  simp [hd, e]
theorem loc_pickF {act : Act} {w : World} {o : Oper} {s : Spec} {c x y : Operand} (ho : o.op = .pick c x y) (hc : act.eval c = .bool false) (hs : s.p (act.eval y) w) : o.wp P act w (fun a' w' => ∃ v, a' = act.put o.dst v ∧ Below w.heap.size w w' ∧ s.p v w') Q :=
  loc_run (by unfold execOp; rw [ho]; simp only [hc]; rfl) (Below.refl _ _) hs
end
end Go.Proofs.YtgmbfiikkogenaaGreatDoor
namespace Go.Proofs.YtgmbfiikkogenaaGreatDoor
open Go.RowKit
set_option linter.unusedSimpArgs false
set_option linter.unusedVariables false

def Spec.own0D (B : Nat) : Spec := ⟨fun v w => (∃ g, v = .slice (some ⟨g, 0, none⟩) 0 0) ∧ OwnF B w v [], fun _ _ _ h hb => ⟨h.1, h.2.keep hb⟩⟩
section
variable {Q : Exit → Act → World → Prop} {act : Act} {w : World} {o : Oper} {s : Spec} {K : Act → World → Prop}
theorem loc_build0D (ho : o.op = .buildSlice 23 0 #[]) {B : Nat} (hBw : B ≤ w.heap.size) (hs : ∀ v w', (∃ g, v = .slice (some ⟨g, 0, none⟩) 0 0) ∧ OwnF B w' v [] → s.p v w') :
    o.wp Tryz.prog act w (fun a' w' => ∃ v, a' = act.put o.dst v ∧ Below w.heap.size w w' ∧ s.p v w') Q := by
  refine loc_run (v := .slice (some ⟨w.heap.size, 0, none⟩) 0 0) (w' := w.alloc (.cells #[] 46)) ?_ (below_oneF _ _) (hs _ _ ⟨⟨_, rfl⟩, rfl, .inr ⟨w.heap.size, 0, #[], rfl, hBw, heap_alloc_new _ _, Nat.le_refl _, Nat.zero_le _, rfl, rfl⟩⟩)
  obtain ⟨i0, hi, hz0, hz1, hz2⟩ := info_parts Tryz.info46
  unfold execOp
  simp [ho, Instr.buildSlice, run_underlying Tryz.underlying23, sizeOf, typeInfo, hi, Instr.fill, newRow, show Array.range 0 = #[] from rfl]
theorem loc_append0D {x y : Operand} (ho : o.op = .call { callee := .builtin .append, args := #[x, y], argTypes := #[23, 23] }) {B g : Nat} (hx : act.eval x = .slice (some ⟨g, 0, none⟩) 0 0) (hown : OwnF B w (act.eval x) []) {a : Option Addr} {r : List Fld} {c : Nat}
    (hy : act.eval y = .slice a r.length c) (hr : FldsC w a r c) (hn : r.length ≤ 1000000) (hBw : B ≤ w.heap.size) (hs : ∀ v w', OwnF B w' v r → s.p v w') :
    o.wp Tryz.prog act w (fun a' w' => ∃ v, a' = act.put o.dst v ∧ Below w.heap.size w w' ∧ s.p v w') Q := by
  obtain ⟨i0, hi, hz0, hz1, hz2⟩ := info_parts Tryz.info46
  have fin : ∀ v w', (Builtin.append_ #[23, 23] o.type #[.slice (some ⟨g, 0, none⟩) 0 0, .slice a r.length c]).run Tryz.prog w = .ok v w' → Below w.heap.size w w' → OwnF B w' v r →
      o.wp Tryz.prog act w (fun a' w' => ∃ v, a' = act.put o.dst v ∧ Below w.heap.size w w' ∧ s.p v w') Q := fun v w' h1 h2 h3 => by
    refine loc_run (v := v) (w' := w') ?_ h2 (hs v w' h3)
    unfold execOp
    simp only [ho]
    simp [resolve, invoke, builtin, hx, hy, h1, Result.andThen]
  by_cases h0 : r = []
  · subst h0
    refine fin (.slice (some ⟨g, 0, none⟩) 0 0) w ?_ (Below.refl _ _) (by rw [← hx]; exact hown)
    cases a <;> simp [Builtin.append_, run_underlying Tryz.underlying23, sizeOf, typeInfo, hi, Builtin.lenOf, Builtin.firstCells, loadCells, storeCells, loadCellsFrom]
  · cases a with
    | none => exact absurd (hr.2 rfl).1 h0
    | some ad =>
      have hp : 0 < r.length := List.length_pos_iff.2 h0
      obtain ⟨v, w', h1, h2, h3⟩ := run_append_arg_grows (P := Tryz.prog) (w := w) 23 o.type 46 i0 _ 2 32 Tryz.underlying23 hi hz0 hz1 hz2 rfl (by decide) ⟨g, 0, none⟩ 0 0 [] rfl (fun j u hj => by simp at hj) ad r.length c (cellsF r) (cellsF_len r) hr.1.cells (by omega) (by unfold maxLen; omega) (by omega)
      refine fin v w' h1 ((Below.refl _ _).grown h3 (Nat.le_refl _) (fun k hk => by cases hk)) ?_
      have h4 : w'.ownsRow w.heap.size 46 2 v r.length (cellsF r) := by simpa using h2
      rcases h4.2 with ⟨e, e2⟩ | ⟨g', cap, cur, e, hg, hc⟩
      · exact ⟨h4.1, .inl ⟨e, e2⟩⟩
      · exact ⟨h4.1, .inr ⟨g', cap, cur, e, Nat.le_trans hBw hg, hc⟩⟩
theorem wp_append_ownDs {x y : Operand} (ho : o.op = .call { callee := .builtin .append, args := #[x, y], argTypes := #[23, 23] }) {B : Nat} {l r : List Fld} {a : Option Addr} {c : Nat} (hx : OwnF B w (act.eval x) l)
    (hy : act.eval y = .slice a r.length c) (hr : FldsC w a r c) (hn : l.length + r.length ≤ 4398046511104) (hB : B ≤ w.heap.size)
    (h : ∀ v' w', OwnF B w' v' (l ++ r) → w.grownBy w' (act.eval x).ownBlock → K (act.put o.dst v') w') : o.wp Tryz.prog act w K Q := by
  obtain ⟨i0, hi, hz0, hz1, hz2⟩ := info_parts Tryz.info46
  have fin : ∀ v w', (Builtin.append_ #[23, 23] o.type #[act.eval x, .slice a r.length c]).run Tryz.prog w = .ok v w' → OwnF B w' v (l ++ r) → w.grownBy w' (act.eval x).ownBlock → o.wp Tryz.prog act w K Q := fun v w' h1 h2 h3 => by
    unfold Oper.wp execOp
    simp only [ho, resolve, invoke, builtin, Sem.run_bind, Sem.run_pure, Result.andThen_ok, List.map_toArray, List.map_cons, List.map_nil, hy, h1]
    exact h v w' h2 h3
  cases a with
  | none =>
    obtain ⟨rfl, rfl⟩ := hr.2 rfl
    refine fin (act.eval x) w (run_append_owned_none (P := Tryz.prog) (w := w) B 23 o.type 46 i0 2 Tryz.underlying23 hi (act.eval x) l.length (cellsF l) hx) ?_ ⟨rfl, rfl, rfl, Nat.le_refl _, fun _ _ _ => rfl⟩
    rw [List.append_nil]; exact hx
  | some ad =>
    obtain ⟨v', w', hr2, h2, h3, _, _⟩ := run_append_own_at (P := Tryz.prog) w B 23 o.type 46 i0 _ 2 32 Tryz.underlying23 hi hz0 hz1 hz2 rfl (by decide) (act.eval x) l.length (cellsF l) hx ad r.length c (cellsF r) (cellsF_len r) (hr.1.cells) (cellsF_one r) (by unfold maxLen; omega) (by omega) hB
    refine fin v' w' hr2 ?_ h3
    unfold OwnF
    rw [List.length_append, cellsF_app]; exact h2
theorem wp_store_sliceD {P : Program} {ty : TypeId} {x y : Operand} (ho : o.op = .store ty x y) {p : Addr} {sa : Option Addr} {sn sc : Nat} {u : Value} (hx : act.eval x = .pointer (some p)) (hy : act.eval y = .slice sa sn sc) (hi : (P.info? ty).map (·.size) = some 1)
    (hc : w.cell? p = some u) (hf : w.frozen? p = false) (h : K (act.put o.dst undef) (w.setCell p (.slice sa sn sc))) : o.wp P act w K Q := by
  have hz : (sizeOf ty).run P w = .ok 1 w := by
    cases hq : P.info? ty with
    | none => rw [hq] at hi; cases hi
    | some i => rw [hq] at hi; simp at hi; simp [sizeOf, typeInfo, hq, hi]
  unfold Oper.wp execOp
  simp_all [Instr.storeAt, Instr.sureAddr, storeVar, storeCells, Value.cells, go_sem]
theorem loc_extractD0 {x : Operand} (ho : o.op = .extract x 0) {u v : Value} (hx : act.eval x = .tuple #[u, v]) (hs : s.p u w) :
    o.wp Tryz.prog act w (fun a' w' => ∃ v, a' = act.put o.dst v ∧ Below w.heap.size w w' ∧ s.p v w') Q :=
  loc_run (v := u) (by unfold execOp; simp [ho, hx, Instr.extract]) (Below.refl _ _) hs
theorem loc_extractD1 {x : Operand} (ho : o.op = .extract x 1) {u v : Value} (hx : act.eval x = .tuple #[u, v]) (hs : s.p v w) :
    o.wp Tryz.prog act w (fun a' w' => ∃ v, a' = act.put o.dst v ∧ Below w.heap.size w w' ∧ s.p v w') Q :=
  loc_run (v := v) (by unfold execOp; simp [ho, hx, Instr.extract]) (Below.refl _ _) hs
theorem loc_fieldSn {x : Operand} {i : Nat} (ho : o.op = .fieldAddr 32 x i) {g : Nat} (hx : act.eval x = .pointer (some ⟨g, 0, none⟩)) (hi : i < 4) (hs : s.p (.pointer (some ⟨g, i, none⟩)) w) :
    o.wp Tryz.prog act w (fun a' w' => ∃ v, a' = act.put o.dst v ∧ Below w.heap.size w w' ∧ s.p v w') Q :=
  loc_field_G ho hx (by
    match i, hi with
    | 0, _ => simp [Instr.fieldAt, run_underlying Tryz.underlying32, Instr.sureAddr, fieldPlace, Addr.add]
    | 1, _ => simp [Instr.fieldAt, run_underlying Tryz.underlying32, Instr.sureAddr, fieldPlace, Addr.add]
    | 2, _ => simp [Instr.fieldAt, run_underlying Tryz.underlying32, Instr.sureAddr, fieldPlace, Addr.add]
    | 3, _ => simp [Instr.fieldAt, run_underlying Tryz.underlying32, Instr.sureAddr, fieldPlace, Addr.add]) hs
theorem loc_fieldDf {x : Operand} {i : Nat} (ho : o.op = .fieldAddr 37 x i) {g : Nat} (hx : act.eval x = .pointer (some ⟨g, 0, none⟩)) (hi : i < 3) (hs : s.p (.pointer (some ⟨g, i, none⟩)) w) :
    o.wp Tryz.prog act w (fun a' w' => ∃ v, a' = act.put o.dst v ∧ Below w.heap.size w w' ∧ s.p v w') Q :=
  loc_field_G ho hx (by
    match i, hi with
    | 0, _ => simp [Instr.fieldAt, run_underlying Tryz.underlying37, Instr.sureAddr, fieldPlace, Addr.add]
    | 1, _ => simp [Instr.fieldAt, run_underlying Tryz.underlying37, Instr.sureAddr, fieldPlace, Addr.add]
    | 2, _ => simp [Instr.fieldAt, run_underlying Tryz.underlying37, Instr.sureAddr, fieldPlace, Addr.add]) hs
theorem agg_fieldsD (w : World) : (isAgg 23).run Tryz.prog w = .ok false w := by
  simp [isAgg, run_underlying Tryz.underlying23]
theorem agg_strsD (w : World) : (isAgg 27).run Tryz.prog w = .ok false w := by
  simp [isAgg, run_underlying Tryz.underlying27]
end
theorem results_rD {P : Program} {fn : Func} {p1 : Tmp} {ty1 : TypeId} (h : fn.results = #[.cell p1 ty1]) (tmps : Array Value) (w : World) (g1 : Nat) (t1 : TypeId) (c1 : Array Value) (f1 : Nat × Nat) (d1 : TypeDesc)
    (hp1 : tmps.getD p1 undef = .pointer (some ⟨g1, 0, none⟩)) (hg1 : w.heap[g1]? = some (.cells c1 t1 f1))
    (hu1 : P.underlying ty1 = some d1) (hd1 : (match d1 with | .struct _ | .array _ _ => true | _ => false) = true) (hi1 : (P.info? ty1).map (·.size) = some c1.size) :
    (results fn tmps).run P w = .ok (.agg c1) w := by
  have hp1' : tmps[p1]?.getD undef = .pointer (some ⟨g1, 0, none⟩) := by simpa using hp1
  simp [results, h, hp1', asAddr, run_loadVar_row w g1 t1 ty1 c1 f1 d1 hg1 hu1 hd1 hi1]
theorem refValue_v {l : List Fld} {n : ByteArray} {r : Option ByteArray} {a : Option Addr} {cap : Nat} {v u : Value} (w : World) (hv : v = .slice a l.length cap) (hu : u = .string n) (h : FldsIn w a l) (hl : l.length ≤ 1000000) (hr : valueO l n = r) :
    Calls Tryz.prog 31 #[v, u] w fun e w' => ∃ v', e = .returned v' ∧ Below w.heap.size w w' ∧ v' = .tuple #[.string (optV r), .bool r.isSome] := by
  subst hv hu hr
  refine (refValueD_any l n a cap w h hl).mono ?_
  rintro e w' ⟨rfl, rfl⟩
  exact ⟨_, rfl, Below.refl _ _, rfl⟩
theorem refNames_v {l : List Fld} {r : List ByteArray} {B : Nat} {v : Value} (w : World) (h : OwnF B w v l) (hl : l.length ≤ 1000000) (hr : namesS (l.map (·.1)) = r) :
    Calls Tryz.prog 30 #[v] w fun e w' => ∃ v', e = .returned v' ∧ Below w.heap.size w w' ∧ ∃ a c, v' = .slice a r.length c ∧ StrsC w' a r c := by
  subst hr
  obtain ⟨a, c, rfl, hf, _⟩ := h.shape
  refine (refNames_any l a c w hf.1 hl).mono ?_
  rintro e w' ⟨ra, rc, rfl, h1, h2⟩
  exact ⟨_, rfl, h2, ra, rc, rfl, h1⟩
theorem sizeDf (a b : Bool) (s : Option Addr) (n c : Nat) : (Tryz.prog.info? 37).map (·.size) = some (#[Value.bool a, .bool b, .slice s n c] : Array Value).size := by kernel_rfl
theorem oneDf (a b : Bool) (s : Option Addr) (n c : Nat) : (#[Value.bool a, .bool b, .slice s n c] : Array Value).all (·.oneCell') = true := by simp [Value.oneCell']
end Go.Proofs.YtgmbfiikkogenaaGreatDoor
namespace Go.Proofs.YtgmbfiikkogenaaGreatDoor
open Go.RowKit
set_option linter.unusedSimpArgs false
set_option linter.unusedVariables false

theorem fsD_take (N : List ByteArray) (P : ByteArray → Bool) (k : Nat) (h : k < N.length) : (N.take (k + 1)).filter P = (N.take k).filter P ++ (if P N[k] = true then [N[k]] else []) := by
  rw [List.take_succ_eq_append_getElem h, List.filter_append, List.filter_cons, List.filter_nil]
/-- The variables of Compare. -/
structure CpSt (g : Nat) (ar br dr : Array Value) (w0 w : World) : Prop where
  va : VarA w g ar 32
  vb : VarA w (g + 1) br 32
  vz : VarA w (g + 2) #[.bool false, .bool false, .slice none 0 0] 37
  vd : VarA w (g + 3) dr 37
  bel : Below w0.heap.size w0 w
theorem CpSt.keep {g : Nat} {ar br dr : Array Value} {w0 w w' : World} (h : CpSt g ar br dr w0 w) (hb : Below w.heap.size w w') : CpSt g ar br dr w0 w' :=
  ⟨h.va.keep hb, h.vb.keep hb, h.vz.keep hb, h.vd.keep hb, below_trans h.bel hb⟩
theorem CpSt.grown {g : Nat} {ar br dr : Array Value} {w0 w w' : World} {r : Option Nat} (h : CpSt g ar br dr w0 w) (hg : w.grownBy w' r) (hr : ∀ k, r = some k → g + 4 ≤ k) (hw : w0.heap.size ≤ g + 4) : CpSt g ar br dr w0 w' := by
  have hne : ∀ j, j < g + 4 → j < w.heap.size → w'.heap[j]? = w.heap[j]? := fun j hj hl => hg.block j hl (fun e => by have := hr _ e.symm; omega)
  refine ⟨?_, ?_, ?_, ?_, h.bel.grown hg h.bel.size (fun k e => by have := hr _ e; omega)⟩
  · have := h.va; unfold VarA at *; rw [hne _ (by omega) h.va.lt]; exact this
  · have := h.vb; unfold VarA at *; rw [hne _ (by omega) h.vb.lt]; exact this
  · have := h.vz; unfold VarA at *; rw [hne _ (by omega) h.vz.lt]; exact this
  · have := h.vd; unfold VarA at *; rw [hne _ (by omega) h.vd.lt]; exact this
theorem bneI {a b : Int} {z : Bool} (h : z = decide (a ≠ b)) : (a != b) = z := by
  rw [h]
  by_cases e : a = b
  · rw [decide_eq_false (fun h => h e)]; simp [e]
  · rw [decide_eq_true e]; simp [e]

def LowA (B : Nat) (a : Option Addr) (n : Nat) : Prop := ∀ x, a = some x → 0 < n → x.block < B
theorem lowA_strs {w : World} {a : Option Addr} {l : List ByteArray} {c : Nat} (h : StrsC w a l c) : LowA w.heap.size a l.length := fun x e h0 => by
  obtain ⟨y, e2, hc⟩ := h.1 0 h0
  rw [e] at e2
  obtain rfl := Option.some.inj e2
  have := lt_cell hc
  rwa [add_blockF] at this
theorem lowA_flds {w : World} {a : Option Addr} {l : List Fld} {c : Nat} (h : FldsC w a l c) : LowA w.heap.size a l.length := fun x e h0 => by
  obtain ⟨y, e2, hc, _⟩ := h.1 0 h0
  rw [e] at e2
  obtain rfl := Option.some.inj e2
  have := lt_cell hc
  rwa [add_blockF] at this
theorem LowA.up {B B' : Nat} {a : Option Addr} {n : Nat} (h : LowA B a n) (hb : B ≤ B') : LowA B' a n := fun x e h0 => Nat.lt_of_lt_of_le (h x e h0) hb
/-- What Compare reads: the names and both lists of fields. -/
structure RdSt (na : Option Addr) (nc : Nat) (N : List ByteArray) (pa : Option Addr) (pc : Nat) (af : List Fld) (qa : Option Addr) (qc : Nat) (bf : List Fld) (B : Nat) (w : World) : Prop where
  n : StrsC w na N nc
  a : FldsC w pa af pc
  b : FldsC w qa bf qc
  ln : LowA B na N.length
  la : LowA B pa af.length
  lb : LowA B qa bf.length
section
variable {na pa qa : Option Addr} {nc pc qc B : Nat} {N : List ByteArray} {af bf : List Fld} {w w' : World}
theorem RdSt.keep (h : RdSt na nc N pa pc af qa qc bf B w) (hb : Below w.heap.size w w') : RdSt na nc N pa pc af qa qc bf B w' := ⟨h.n.keep hb, h.a.keep hb, h.b.keep hb, h.ln, h.la, h.lb⟩
theorem RdSt.move (h : RdSt na nc N pa pc af qa qc bf B w) (hc : ∀ (y : Addr) (s : ByteArray), y.block < B → w.cell? y = some (.string s) → w'.cell? y = some (.string s)) : RdSt na nc N pa pc af qa qc bf B w' := by
  refine ⟨⟨fun j hj => ?_, h.n.2⟩, ⟨fun j hj => ?_, h.a.2⟩, ⟨fun j hj => ?_, h.b.2⟩, h.ln, h.la, h.lb⟩
  · obtain ⟨x, e, h1⟩ := h.n.1 j hj
    exact ⟨x, e, hc _ _ (by rw [add_blockF]; exact h.ln x e (by omega)) h1⟩
  · obtain ⟨x, e, h1, h2⟩ := h.a.1 j hj
    exact ⟨x, e, hc _ _ (by rw [add_blockF]; exact h.la x e (by omega)) h1, hc _ _ (by rw [add_blockF]; exact h.la x e (by omega)) h2⟩
  · obtain ⟨x, e, h1, h2⟩ := h.b.1 j hj
    exact ⟨x, e, hc _ _ (by rw [add_blockF]; exact h.lb x e (by omega)) h1, hc _ _ (by rw [add_blockF]; exact h.lb x e (by omega)) h2⟩
theorem RdSt.grown {r : Option Nat} (h : RdSt na nc N pa pc af qa qc bf B w) (hg : w.grownBy w' r) (hr : ∀ k, r = some k → B ≤ k) : RdSt na nc N pa pc af qa qc bf B w' :=
  h.move fun y s hy hc => hg.cell hc (fun e => by have := hr _ e.symm; omega)
theorem RdSt.setD {g : Nat} {cs : Array Value} {t : TypeId} {u v : Value} (h : RdSt na nc N pa pc af qa qc bf B w) (hv : VarA w g cs t) (hu : cs[2]? = some u) (hne : ∀ s, u ≠ .string s) : RdSt na nc N pa pc af qa qc bf B (w.setCell ⟨g, 2, none⟩ v) :=
  h.move fun y s hy hc => by
    rw [World.cell?_setCell_other]
    · exact hc
    · intro e
      subst e
      rw [hv.cell hu] at hc
      exact hne s (Option.some.inj hc)
end

set_option maxRecDepth 100000 in
set_option maxHeartbeats 8000000 in
theorem refCompare_any (a b : Sn) (p q : SnP) (w : World) (ha : SnIn w a p) (hb : SnIn w b q) (hal : a.fs.length ≤ 1000) (hbl : b.fs.length ≤ 1000) :
    Calls Tryz.prog 15 #[a.v p, b.v q] w fun e w' => ∃ da dc, e = .returned ((cmpV a b).v da dc) ∧ StrsC w' da (cmpV a b).fs dc ∧ Below w.heap.size w w' := by
  obtain ⟨ax, af, az, asum⟩ := a
  obtain ⟨afa, afc, asa, asc⟩ := p
  obtain ⟨bs, bf, bz, bsum⟩ := b
  obtain ⟨bfa, bfc, bsa, bsc⟩ := q
  obtain ⟨sb, hsb⟩ : ∃ z, z = decide (ax ≠ bs) := ⟨_, rfl⟩
  obtain ⟨bb, hbb⟩ : ∃ z, z = decide (az ≠ bz ∨ asum ≠ bsum) := ⟨_, rfl⟩
  obtain ⟨N, hN⟩ : ∃ N, namesS ((af ++ bf).map (·.1)) = N := ⟨_, rfl⟩
  obtain ⟨F, hF⟩ : ∃ F, fsD af bf = F := ⟨_, rfl⟩
  have HBB := Box.mk hbb
  have HN := Box.mk hN
  have HF := Box.mk (show N.filter (fun n => decide (valueO af n ≠ valueO bf n)) = F by rw [← hF, ← hN]; rfl)
  have HNL := Box.mk (show N.length ≤ 2000 by
    rw [← hN]
    have h := namesS_len ((af ++ bf).map (·.1))
    rw [List.length_map, List.length_append] at h
    simp only at hal hbl
    omega)
  have HV := Box.mk (show cmpV ⟨ax, af, az, asum⟩ ⟨bs, bf, bz, bsum⟩ = ⟨sb, bb, F⟩ by unfold cmpV; rw [hsb, hbb, hF])
  rw [HV.out]
  have e1 := bneI hsb
  clear hsb hbb hN hF HV
  obtain ⟨W, hW⟩ : ∃ W, W = ((w.alloc (.cells #[.int .i64 ax, .slice afa af.length afc, .int .i64 az, .slice asa asum.length asc] 32)).alloc (.cells #[.int .i64 bs, .slice bfa bf.length bfc, .int .i64 bz, .slice bsa bsum.length bsc] 32)).alloc (.cells #[.bool false, .bool false, .slice none 0 0] 37) := ⟨_, rfl⟩
  have hWs : W.heap.size = w.heap.size + 3 := by rw [hW, World.size_alloc, World.size_alloc, World.size_alloc]
  have HB := Box.mk (show Below w.heap.size w W by rw [hW]; exact below_twoF (below_twoF (below_oneF w _) _) _)
  have HA := Box.mk (show VarA W w.heap.size #[.int .i64 ax, .slice afa af.length afc, .int .i64 az, .slice asa asum.length asc] 32 by rw [hW]; exact ((VarA.new _ _ _).below _).below _)
  have HU := Box.mk (show VarA W (w.heap.size + 1) #[.int .i64 bs, .slice bfa bf.length bfc, .int .i64 bz, .slice bsa bsum.length bsc] 32 by rw [hW]; have := (VarA.new (w.alloc (.cells #[.int .i64 ax, .slice afa af.length afc, .int .i64 az, .slice asa asum.length asc] 32)) #[.int .i64 bs, .slice bfa bf.length bfc, .int .i64 bz, .slice bsa bsum.length bsc] 32).below (.cells #[.bool false, .bool false, .slice none 0 0] 37); rw [World.size_alloc] at this; exact this)
  have HZ := Box.mk (show VarA W (w.heap.size + 2) #[.bool false, .bool false, .slice none 0 0] 37 by rw [hW]; have := VarA.new ((w.alloc (.cells #[.int .i64 ax, .slice afa af.length afc, .int .i64 az, .slice asa asum.length asc] 32)).alloc (.cells #[.int .i64 bs, .slice bfa bf.length bfc, .int .i64 bz, .slice bsa bsum.length bsc] 32)) #[.bool false, .bool false, .slice none 0 0] 37; rw [World.size_alloc, World.size_alloc] at this; exact this)
  have HWS := Box.mk hWs
  have HIA := Box.mk (And.intro (ha.keep HB.out).1 (hb.keep HB.out).1)
  have cv1 := conv_bytes (ha.keep HB.out).2.2
  have cv2 := conv_bytes (hb.keep HB.out).2.2
  simp only at hal hbl cv1 cv2 HIA
  clear ha hb hWs
  unfold Sn.v
  simp only
  go_enter Tryz.func15, Tryz.ntmps15
  go_upto_region 1 with fail
  change Code.wp _ _ _ _ (((w.alloc (.cells #[.int .i64 ax, .slice afa af.length afc, .int .i64 az, .slice asa asum.length asc] 32)).alloc (.cells #[.int .i64 bs, .slice bfa bf.length bfc, .int .i64 bz, .slice bsa bsum.length bsc] 32)).alloc (.cells #[.bool false, .bool false, .slice none 0 0] 37))
  rw [← hW]
  clear hW
  generalize hg : w.heap.size = g at *
  have HG := Box.mk hg
  clear hg
  have v0 := HA.out.cell (i := 0) (v := .int .i64 ax) rfl
  have v2 := HA.out.cell (i := 2) (v := .int .i64 az) rfl
  have v3 := HA.out.cell (i := 3) (v := .slice asa asum.length asc) rfl
  have u0 := HU.out.cell (i := 0) (v := .int .i64 bs) rfl
  have u2 := HU.out.cell (i := 2) (v := .int .i64 bz) rfl
  have u3 := HU.out.cell (i := 3) (v := .slice bsa bsum.length bsc) rfl
  have HC := Box.mk (fun (x : Bool) (hx : x = bb) => show CpSt g #[.int .i64 ax, .slice afa af.length afc, .int .i64 az, .slice asa asum.length asc] #[.int .i64 bs, .slice bfa bf.length bfc, .int .i64 bz, .slice bsa bsum.length bsc] #[.bool sb, .bool bb, .slice none 0 0] w (W.alloc (.cells #[.bool sb, .bool x, .slice none 0 0] 37)) ∧ FldsC (W.alloc (.cells #[.bool sb, .bool x, .slice none 0 0] 37)) afa af afc ∧ FldsC (W.alloc (.cells #[.bool sb, .bool x, .slice none 0 0] 37)) bfa bf bfc from by
    subst hx
    refine ⟨?_, HIA.out.1.keep (below_oneF _ _), HIA.out.2.keep (below_oneF _ _)⟩
    refine ⟨HA.out.below _, HU.out.below _, HZ.out.below _, ?_, by rw [HG.out]; exact HB.out.trans ((below_oneF W _).mono (by have := HWS.out; omega))⟩
    have := VarA.new W #[.bool sb, .bool x, .slice none 0 0] 37
    rw [HWS.out] at this; exact this)
  have HP := Box.mk (show Value.pointer (some ⟨W.heap.size, 0, none⟩) = .pointer (some ⟨g + 3, 0, none⟩) by rw [HWS.out])
  go_upto_region 1 with fail
  go_cut [5] (fun v wx => v = .pointer (some ⟨g + 3, 0, none⟩) ∧ Box (CpSt g #[.int .i64 ax, .slice afa af.length afc, .int .i64 az, .slice asa asum.length asc] #[.int .i64 bs, .slice bfa bf.length bfc, .int .i64 bz, .slice bsa bsum.length bsc] #[.bool sb, .bool bb, .slice none 0 0] w wx ∧ FldsC wx afa af afc ∧ FldsC wx bfa bf bfc))
  case first =>
    by_cases hz : az = bz
    · have e2 : (az != bz) = false := by rw [hz]; simp
      by_cases hs : asum = bsum
      · have e3 : ((⟨asum.toArray⟩ : ByteArray).toList == (⟨bsum.toArray⟩ : ByteArray).toList) = true := by rw [hs]; exact beq_self_eq_true _
        have e4 : (asum == bsum) = true := by rw [hs]; exact beq_self_eq_true _
        have HX := Box.mk (show false = bb by rw [HBB.out]; exact (decide_eq_false (fun h => h.elim (fun h => h hz) (fun h => h hs))).symm)
        clear hz hs HBB
        go_wp2_with fail
        go_meet
        exact ⟨HP.out, ⟨HC.out _ HX.out⟩⟩
      · have e3 : ((⟨asum.toArray⟩ : ByteArray).toList == (⟨bsum.toArray⟩ : ByteArray).toList) = false := beqS_f (fun e => hs (by simpa using congrArg (fun x : ByteArray => x.data.toList) e))
        have e4 : (asum == bsum) = false := by rw [beq_eq_false_iff_ne]; exact hs
        have HX := Box.mk (show true = bb by rw [HBB.out]; exact (decide_eq_true (.inr hs)).symm)
        clear hz hs HBB
        go_wp2_with fail
        go_meet
        exact ⟨HP.out, ⟨HC.out _ HX.out⟩⟩
    · have e2 : (az != bz) = true := by simp [hz]
      have HX := Box.mk (show true = bb by rw [HBB.out]; exact (decide_eq_true (.inl hz)).symm)
      clear hz HBB
      go_wp2_with fail
      go_meet
      exact ⟨HP.out, ⟨HC.out _ HX.out⟩⟩
  case rest =>
    obtain ⟨rfl, HSX⟩ := hcut
    have HS := Box.mk HSX.out.1
    have HIB := Box.mk HSX.out.2
    clear HA HU HZ HC HP HWS v0 v2 v3 u0 u2 u3 cv1 cv2 e1 HBB
    clear HSX HIA
    have hgc : g + 3 < wc.heap.size := HS.out.vd.lt
    go_upto_region 2 with fail
    rename_i K hK
    refine wp_region_phases [6] (fun ph => match ph with | 0 => [0, 1, 2, 3, 4, 5] | _ => [7, 8])
      (fun ph => match ph with
        | 0 => [.own0D wc.heap.size, .val (.pointer (some ⟨g, 1, none⟩)), .val (.slice afa af.length afc), .ownFN wc.heap.size af, .val (.pointer (some ⟨g + 1, 1, none⟩)), .val (.slice bfa bf.length bfc), .any, .nopeS, .nopeS]
        | _ => [.any, .any, .any, .any, .any, .any, .ownFN wc.heap.size (af ++ bf), .strsV N, .strsV N])
      (fun ph => fun wx => CpSt g #[.int .i64 ax, .slice afa af.length afc, .int .i64 az, .slice asa asum.length asc] #[.int .i64 bs, .slice bfa bf.length bfc, .int .i64 bz, .slice bsa bsum.length bsc] #[.bool sb, .bool bb, .slice none 0 0] w wx ∧ Below wc.heap.size wc wx)
      (by kernel_rfl) (by kernel_rfl) (by kernel_rfl) (by kernel_rfl) (by kernel_rfl) (by kernel_rfl) ?_ ⟨HS.out, Below.refl _ _⟩ ?_ ?_ ?_
    · intro ph w6 w7 h hb
      exact ⟨h.1.keep hb, below_trans h.2 hb⟩
    · intro ph hp
      match ph, hp with
      | 0, _ =>
        refine ⟨?_, ?_, ?_, ?_, ?_, ?_, trivial⟩ <;> intro a1 w6 hv hf hd
        · exact ⟨wanted_none rfl, loc_build0D rfl hv.2.size fun v w' h => h⟩
        · exact ⟨wanted_none rfl, loc_fieldSn rfl (hf.base 2 rfl) (by decide) rfl⟩
        · exact ⟨wanted_none rfl, loc_load_cellG rfl (hd 1 rfl) (hv.1.va.cell rfl) agg_fieldsD rfl⟩
        · obtain ⟨⟨g0, e1⟩, e2⟩ := hd 0 rfl
          exact ⟨wanted_none rfl, loc_append0D rfl e1 e2 (hd 2 rfl) (HIB.out.1.keep hv.2) (by omega) hv.2.size fun v w' h => h⟩
        · exact ⟨wanted_none rfl, loc_fieldSn rfl (hf.base 3 rfl) (by decide) rfl⟩
        · exact ⟨wanted_none rfl, loc_load_cellG rfl (hd 4 rfl) (hv.1.vb.cell rfl) agg_fieldsD rfl⟩
      | 1, _ =>
        refine ⟨?_, ?_, trivial⟩ <;> intro a1 w6 hv hf hd
        · exact ⟨wanted_none rfl, loc_call rfl (by kernel_rfl) (refNames_v w6 (hd 6 rfl) (by rw [List.length_append]; omega) HN.out)⟩
        · exact ⟨wanted_none rfl, loc_assign rfl (hd 7 rfl)⟩
    · intro ph hp
      match ph, hp with
      | 0, _ =>
        intro a2 w6 hv hf hd
        have hown : OwnF wc.heap.size w6 (a2.eval (.tmp 35)) af := hd 3 rfl
        refine ⟨wanted_none rfl, wp_append_ownDs rfl hown (hd 5 rfl) (HIB.out.2.keep hv.2) (by omega) hv.2.size fun v' w7 h1 hgrow => ?_⟩
        exact ⟨v', rfl, ⟨hv.1.grown hgrow (fun k hk => by have := (hown.lt hk).1; omega) (by have := HG.out; omega), hv.2.grown hgrow hv.2.size (fun k hk => (hown.lt hk).1)⟩, h1,
          ⟨.inr fun _ _ _ => trivial, .inr fun _ _ _ => trivial, .inr fun _ _ _ => trivial, .inr fun _ _ _ => trivial, .inr fun _ _ _ => trivial, .inr fun _ _ _ => trivial, .inl rfl, .inr fun _ _ h => h.elim, .inr fun _ _ h => h.elim, trivial⟩⟩
    · intro a2 w6 hv hf hh
      obtain ⟨na, nc, e6, hns⟩ := hh 8 (by decide)
      have e6' : a2.eval (.tmp 6) = .slice na N.length nc := e6
      have HS2 := Box.mk hv.1
      have HNS := Box.mk hns
      have HB2 := Box.mk hv.2
      have HIC := Box.mk (show RdSt na nc N afa afc af bfa bfc bf w6.heap.size w6 from ⟨hns, HIB.out.1.keep hv.2, HIB.out.2.keep hv.2, lowA_strs hns, lowA_flds (HIB.out.1.keep hv.2), lowA_flds (HIB.out.2.keep hv.2)⟩)
      refine hK _ _ ?_
      rw [fr_putAll hf]
      clear hh hK hv hns
      simp only [putAll, e6']
      clear hf e6 e6'
      generalize a2.eval (.tmp 32) = t32
      generalize a2.eval (.tmp 33) = t33
      generalize a2.eval (.tmp 34) = t34
      generalize a2.eval (.tmp 35) = t35
      generalize a2.eval (.tmp 36) = t36
      generalize a2.eval (.tmp 37) = t37
      generalize a2.eval (.tmp 38) = t38
      generalize a2.eval (.tmp 39) = t39
      clear a2
      simp only [Act.put, List.setIfInBounds_toArray, List.set_cons_succ, List.set_cons_zero]
      change Code.wp _ _ _ (Act.mk _ _) _
      generalize w6 = W6 at *
      clear HS HIB HB2 hgc HN
      have hg6 : g + 3 < W6.heap.size := HS2.out.vd.lt
      have hN2 : N.length ≤ 2000 := HNL.out
      obtain ⟨P, hP⟩ : ∃ P : ByteArray → Bool, P = fun n => decide (valueO af n ≠ valueO bf n) := ⟨_, rfl⟩
      have HPF := Box.mk hP
      rw [← hP] at HF
      clear hP
      go_wp2_with fail
      go_loopw [7] (fun iv wr => ∃ (k : Nat) (da : Option Addr) (dc : Nat), k ≤ N.length ∧ iv = .int .i64 k ∧ Box (CpSt g #[.int .i64 ax, .slice afa af.length afc, .int .i64 az, .slice asa asum.length asc] #[.int .i64 bs, .slice bfa bf.length bfc, .int .i64 bz, .slice bsa bsum.length bsc] #[.bool sb, .bool bb, .slice da ((N.take k).filter P).length dc] w wr) ∧ Box (OwnS W6.heap.size wr (.slice da ((N.take k).filter P).length dc) ((N.take k).filter P)) ∧ Box (RdSt na nc N afa afc af bfa bfc bf W6.heap.size wr) ∧ W6.heap.size ≤ wr.heap.size) (fun iv _ => N.length - (intOf iv).toNat)
      case atStart => exact ⟨0, none, 0, Nat.zero_le _, rfl, HS2, ⟨OwnS.start _ _⟩, HIC, Nat.le_refl _⟩
      case round =>
        clear HS2 HNS HIC
        obtain ⟨k, da, dc, hk, rfl, HS, HO, HI, hwz⟩ := hrel
        by_cases hlt : k < N.length
        · obtain ⟨x, rfl, hcx⟩ := HI.out.n.1 k hlt
          have HCX := Box.mk hcx
          have HTK := Box.mk (fsD_take N P k hlt)
          have HFL := Box.mk (show ((N.take k).filter P).length ≤ 2000 by
            have h1 := List.length_filter_le P (N.take k)
            have h2 := HNL.out
            rw [List.length_take] at h1; omega)
          obtain ⟨oa, hoa⟩ : ∃ z, valueO af N[k] = z := ⟨_, rfl⟩
          obtain ⟨ob, hob⟩ : ∃ z, valueO bf N[k] = z := ⟨_, rfl⟩
          have HOA := Box.mk hoa
          have HOB := Box.mk hob
          have HPK := Box.mk (show P N[k] = decide (oa ≠ ob) by rw [HPF.out]; show decide (valueO af N[k] ≠ valueO bf N[k]) = _; rw [hoa, hob])
          clear hoa hob hcx
          generalize hnm : N[k] = nm at *
          have HNMK := Box.mk hnm
          clear hnm
          generalize hL : (N.take k).filter P = L at *
          generalize hL2 : (N.take (k + 1)).filter P = L2 at *
          have HLE2 := Box.mk hL2
          clear hL hL2
          go_upto_region 6 with fail
          rename_i K hK
          refine wp_region_phases [] (fun _ => [0, 1, 2, 3, 4, 5, 6, 7, 8, 9, 10, 11]) (fun _ => [.val (.pointer (some ⟨g, 1, none⟩)), .val (.slice afa af.length afc), .val (.slice (some x) N.length nc), .val (.int .i64 k), .val (.pointer (some (x.add (k * 1)))), .val (.string nm), .val (.tuple #[.string (optV oa), .bool oa.isSome]), .val (.tuple #[.string (optV oa), .bool oa.isSome]), .val (.string (optV oa)), .val (.bool oa.isSome), .val (.string (optV oa)), .val (.bool oa.isSome)]) (fun _ wx => Below wr.heap.size wr wx)
            (by kernel_rfl) (by kernel_rfl) (by kernel_rfl) (by kernel_rfl) (by kernel_rfl) (by kernel_rfl) (fun _ _ _ h hb => below_trans h hb) (Below.refl _ _) ?_ (fun p hp => absurd hp (Nat.not_lt_zero _)) ?_
          · intro ph hp
            refine ⟨?_, ?_, ?_, ?_, ?_, ?_, ?_, ?_, ?_, ?_, ?_, ?_, trivial⟩ <;> intro a' w7 hb hf hd
            · exact ⟨wanted_none rfl, loc_fieldSn rfl (hf.base 2 rfl) (by decide) rfl⟩
            · exact ⟨wanted_none rfl, loc_load_cellG rfl (hd 0 rfl) ((HS.out.keep hb).va.cell rfl) agg_fieldsD rfl⟩
            · exact ⟨wanted_none rfl, loc_move rfl (hf.base 6 rfl)⟩
            · exact ⟨wanted_none rfl, loc_move rfl (hf.base 7 rfl)⟩
            · exact ⟨wanted_none rfl, loc_index_G 1 rfl (hd 2 rfl) (hd 3 rfl) hlt (by kernel_rfl) (by kernel_rfl) rfl⟩
            · exact ⟨wanted_none rfl, loc_load_cellG rfl (hd 4 rfl) (by rw [Nat.mul_one]; exact below_cell hb HCX.out) agg_strN rfl⟩
            · exact ⟨wanted_none rfl, loc_call rfl (by kernel_rfl) (refValue_v w7 (hd 1 rfl) (hd 5 rfl) (HI.out.keep hb).a.1 (by omega) HOA.out)⟩
            · exact ⟨wanted_none rfl, loc_move rfl (hd 6 rfl)⟩
            · exact ⟨wanted_none rfl, loc_extractD0 rfl (hd 7 rfl) rfl⟩
            · exact ⟨wanted_none rfl, loc_extractD1 rfl (hd 7 rfl) rfl⟩
            · exact ⟨wanted_none rfl, loc_assign rfl (hd 8 rfl)⟩
            · exact ⟨wanted_none rfl, loc_assign rfl (hd 9 rfl)⟩
          · intro a' w7 hb hf hd
            have ev0 : a'.eval (.tmp 8) = .string (optV oa) := hd 10 (by decide)
            have ev1 : a'.eval (.tmp 9) = .bool oa.isSome := hd 11 (by decide)
            replace HS := Box.mk (HS.out.keep hb)
            replace HO := Box.mk (HO.out.keep hb)
            replace HI := Box.mk (HI.out.keep hb)
            replace HCX := Box.mk (below_cell hb HCX.out)
            have hwz' : W6.heap.size ≤ w7.heap.size := Nat.le_trans hwz hb.size
            refine hK _ _ ?_
            rw [fr_putAll hf]
            simp only [putAll, ev0, ev1]
            clear hf hd hb hK ev0 ev1 hwz
            have hwz := hwz'
            clear hwz'
            generalize a'.eval (.tmp 46) = t46
            generalize a'.eval (.tmp 47) = t47
            generalize a'.eval (.tmp 48) = t48
            generalize a'.eval (.tmp 49) = t49
            generalize a'.eval (.tmp 50) = t50
            generalize a'.eval (.tmp 51) = t51
            generalize a'.eval (.tmp 52) = t52
            generalize a'.eval (.tmp 53) = t53
            generalize a'.eval (.tmp 54) = t54
            generalize a'.eval (.tmp 55) = t55
            clear a'
            simp only [Act.put, List.setIfInBounds_toArray, List.set_cons_succ, List.set_cons_zero]
            change Code.wp _ _ _ (Act.mk _ _) _
            go_upto_region 7 with fail
            rename_i K hK
            refine wp_region_phases [] (fun _ => [0, 1, 2, 3, 4, 5, 6, 7, 8, 9, 10, 11]) (fun _ => [.val (.pointer (some ⟨g + 1, 1, none⟩)), .val (.slice bfa bf.length bfc), .val (.slice (some x) N.length nc), .val (.int .i64 k), .val (.pointer (some (x.add (k * 1)))), .val (.string nm), .val (.tuple #[.string (optV ob), .bool ob.isSome]), .val (.tuple #[.string (optV ob), .bool ob.isSome]), .val (.string (optV ob)), .val (.bool ob.isSome), .val (.string (optV ob)), .val (.bool ob.isSome)]) (fun _ wx => Below w7.heap.size w7 wx)
              (by kernel_rfl) (by kernel_rfl) (by kernel_rfl) (by kernel_rfl) (by kernel_rfl) (by kernel_rfl) (fun _ _ _ h hb => below_trans h hb) (Below.refl _ _) ?_ (fun p hp => absurd hp (Nat.not_lt_zero _)) ?_
            · intro ph hp
              refine ⟨?_, ?_, ?_, ?_, ?_, ?_, ?_, ?_, ?_, ?_, ?_, ?_, trivial⟩ <;> intro a' w8 hb hf hd
              · exact ⟨wanted_none rfl, loc_fieldSn rfl (hf.base 3 rfl) (by decide) rfl⟩
              · exact ⟨wanted_none rfl, loc_load_cellG rfl (hd 0 rfl) ((HS.out.keep hb).vb.cell rfl) agg_fieldsD rfl⟩
              · exact ⟨wanted_none rfl, loc_move rfl (hf.base 6 rfl)⟩
              · exact ⟨wanted_none rfl, loc_move rfl (hf.base 7 rfl)⟩
              · exact ⟨wanted_none rfl, loc_index_G 1 rfl (hd 2 rfl) (hd 3 rfl) hlt (by kernel_rfl) (by kernel_rfl) rfl⟩
              · exact ⟨wanted_none rfl, loc_load_cellG rfl (hd 4 rfl) (by rw [Nat.mul_one]; exact below_cell hb HCX.out) agg_strN rfl⟩
              · exact ⟨wanted_none rfl, loc_call rfl (by kernel_rfl) (refValue_v w8 (hd 1 rfl) (hd 5 rfl) (HI.out.keep hb).b.1 (by omega) HOB.out)⟩
              · exact ⟨wanted_none rfl, loc_move rfl (hd 6 rfl)⟩
              · exact ⟨wanted_none rfl, loc_extractD0 rfl (hd 7 rfl) rfl⟩
              · exact ⟨wanted_none rfl, loc_extractD1 rfl (hd 7 rfl) rfl⟩
              · exact ⟨wanted_none rfl, loc_assign rfl (hd 8 rfl)⟩
              · exact ⟨wanted_none rfl, loc_assign rfl (hd 9 rfl)⟩
            · intro a' w8 hb hf hd
              have ev0 : a'.eval (.tmp 10) = .string (optV ob) := hd 10 (by decide)
              have ev1 : a'.eval (.tmp 11) = .bool ob.isSome := hd 11 (by decide)
              replace HS := Box.mk (HS.out.keep hb)
              replace HO := Box.mk (HO.out.keep hb)
              replace HI := Box.mk (HI.out.keep hb)
              replace HCX := Box.mk (below_cell hb HCX.out)
              have hwz' : W6.heap.size ≤ w8.heap.size := Nat.le_trans hwz hb.size
              refine hK _ _ ?_
              rw [fr_putAll hf]
              simp only [putAll, ev0, ev1]
              clear hf hd hb hK ev0 ev1 hwz
              have hwz := hwz'
              clear hwz'
              generalize a'.eval (.tmp 56) = t56
              generalize a'.eval (.tmp 57) = t57
              generalize a'.eval (.tmp 58) = t58
              generalize a'.eval (.tmp 59) = t59
              generalize a'.eval (.tmp 60) = t60
              generalize a'.eval (.tmp 61) = t61
              generalize a'.eval (.tmp 62) = t62
              generalize a'.eval (.tmp 63) = t63
              generalize a'.eval (.tmp 64) = t64
              generalize a'.eval (.tmp 65) = t65
              clear a'
              simp only [Act.put, List.setIfInBounds_toArray, List.set_cons_succ, List.set_cons_zero]
              change Code.wp _ _ _ (Act.mk _ _) _
              obtain ⟨df, hdf⟩ : ∃ z, decide (oa ≠ ob) = z := ⟨_, rfl⟩
              have HDF := Box.mk hdf
              clear hdf
              go_upto_region 8 with fail
              go_cut [73] (fun v wx => w8 = wx ∧ v = .bool df)
              case first =>
                have HGD := Box.mk (show ∀ z : Bool, decide (oa ≠ ob) = z → Value.bool z = .bool df from fun z h => by rw [← h, HDF.out])
                cases oa with
                | none =>
                  cases ob with
                  | none =>
                    have f1 : (((⟨#[]⟩ : ByteArray)).toList == ((⟨#[]⟩ : ByteArray)).toList) = true := beq_self_eq_true _
                    simp only [optV, Option.getD_none, Option.isSome_none]
                    go_wp2_with fail
                    go_meet
                    exact ⟨rfl, HGD.out _ (by simp)⟩
                  | some y =>
                    simp only [optV, Option.getD_none, Option.getD_some, Option.isSome_none, Option.isSome_some]
                    go_wp2_with fail
                    go_meet
                    exact ⟨rfl, HGD.out _ (by simp)⟩
                | some y =>
                  cases ob with
                  | none =>
                    simp only [optV, Option.getD_none, Option.getD_some, Option.isSome_none, Option.isSome_some]
                    go_wp2_with fail
                    go_meet
                    exact ⟨rfl, HGD.out _ (by simp)⟩
                  | some z =>
                    simp only [optV, Option.getD_some, Option.isSome_some]
                    by_cases he : y = z
                    · have f1 := beqS_t he
                      have HX := Box.mk (show false = decide (some y ≠ some z) by rw [he]; simp)
                      clear he
                      go_wp2_with fail
                      go_meet
                      exact ⟨rfl, HGD.out _ HX.out.symm⟩
                    · have f1 := beqS_f he
                      have HX := Box.mk (show true = decide (some y ≠ some z) by simp [he])
                      clear he
                      go_wp2_with fail
                      go_meet
                      exact ⟨rfl, HGD.out _ HX.out.symm⟩
              case rest =>
                obtain ⟨rfl, rfl⟩ := hcut
                cases df with
                | true =>
                  have HL2 := Box.mk (show L ++ [nm] = L2 by rw [HTK.out, HPK.out, HDF.out, if_pos rfl])
                  clear HTK HPK HPF HOA HOB HDF
                  go_upto_region 9 with fail
                  refine wp_region_phases [7, 9] (fun ph => match ph with | 0 => [0, 1, 2, 3, 4, 5, 6] | 1 => [8] | _ => [])
                    (fun ph => match ph with
                      | 0 => [.val (.pointer (some ⟨g + 3, 2, none⟩)), .val (.slice da L.length dc), .val (.slice (some x) N.length nc), .val (.int .i64 k), .val (.pointer (some (x.add (k * 1)))), .val (.string nm), .strOne nm, .any, .nopeS, .nopeS]
                      | 1 => [.any, .any, .any, .any, .any, .any, .any, .ownS W6.heap.size L2, .val (.pointer (some ⟨g + 3, 2, none⟩)), .any]
                      | _ => [.any, .any, .any, .any, .any, .any, .any, .any, .any, .any])
                    (fun ph => match ph with
                      | 0 => fun wx => CpSt g #[.int .i64 ax, .slice afa af.length afc, .int .i64 az, .slice asa asum.length asc] #[.int .i64 bs, .slice bfa bf.length bfc, .int .i64 bz, .slice bsa bsum.length bsc] #[.bool sb, .bool bb, .slice da L.length dc] w wx ∧ OwnS W6.heap.size wx (.slice da L.length dc) L ∧ RdSt (some x) nc N (afa) afc af bfa bfc bf W6.heap.size wx ∧ W6.heap.size ≤ wx.heap.size
                      | 1 => fun wx => CpSt g #[.int .i64 ax, .slice afa af.length afc, .int .i64 az, .slice asa asum.length asc] #[.int .i64 bs, .slice bfa bf.length bfc, .int .i64 bz, .slice bsa bsum.length bsc] #[.bool sb, .bool bb, .slice da L.length dc] w wx ∧ RdSt (some x) nc N afa afc af bfa bfc bf W6.heap.size wx ∧ W6.heap.size ≤ wx.heap.size
                      | _ => fun wx => ∃ ea ec, CpSt g #[.int .i64 ax, .slice afa af.length afc, .int .i64 az, .slice asa asum.length asc] #[.int .i64 bs, .slice bfa bf.length bfc, .int .i64 bz, .slice bsa bsum.length bsc] #[.bool sb, .bool bb, .slice ea L2.length ec] w wx ∧ OwnS W6.heap.size wx (.slice ea L2.length ec) L2 ∧ RdSt (some x) nc N afa afc af bfa bfc bf W6.heap.size wx ∧ W6.heap.size ≤ wx.heap.size)
                    (by kernel_rfl) (by kernel_rfl) (by kernel_rfl) (by kernel_rfl) (by kernel_rfl) (by kernel_rfl) ?_ ⟨HS.out, HO.out, HI.out, hwz⟩ ?_ ?_ ?_
                  · intro ph w9 w10 h hb
                    match ph, h with
                    | 0, h => exact ⟨h.1.keep hb, h.2.1.keep hb, h.2.2.1.keep hb, Nat.le_trans h.2.2.2 hb.size⟩
                    | 1, h => exact ⟨h.1.keep hb, h.2.1.keep hb, Nat.le_trans h.2.2 hb.size⟩
                    | (_ + 2), h =>
                      obtain ⟨ea, ec, h1, h2, h3, h4⟩ := h
                      exact ⟨ea, ec, h1.keep hb, h2.keep hb, h3.keep hb, Nat.le_trans h4 hb.size⟩
                  · intro ph hp
                    match ph, hp with
                    | 0, _ =>
                      refine ⟨?_, ?_, ?_, ?_, ?_, ?_, ?_, trivial⟩ <;> intro a1 w9 hv hf hd
                      · exact ⟨wanted_none rfl, loc_fieldDf rfl (hf.base 5 rfl) (by decide) rfl⟩
                      · exact ⟨wanted_none rfl, loc_load_cellG rfl (hd 0 rfl) (hv.1.vd.cell rfl) agg_strsD rfl⟩
                      · exact ⟨wanted_none rfl, loc_move rfl (hf.base 6 rfl)⟩
                      · exact ⟨wanted_none rfl, loc_move rfl (hf.base 7 rfl)⟩
                      · exact ⟨wanted_none rfl, loc_index_G 1 rfl (hd 2 rfl) (hd 3 rfl) hlt (by kernel_rfl) (by kernel_rfl) rfl⟩
                      · obtain ⟨x2, e2, hc2⟩ := hv.2.2.1.n.1 k hlt
                        obtain rfl := Option.some.inj e2
                        rw [HNMK.out] at hc2
                        exact ⟨wanted_none rfl, loc_load_cellG rfl (hd 4 rfl) (by rw [Nat.mul_one]; exact hc2) agg_strN rfl⟩
                      · exact ⟨wanted_none rfl, loc_build1S rfl (hd 5 rfl) fun v w' h => h⟩
                    | 1, _ =>
                      refine ⟨?_, trivial⟩
                      intro a1 w9 hv hf hd
                      exact ⟨wanted_none rfl, loc_fieldDf rfl (hf.base 5 rfl) (by decide) rfl⟩
                    | 2, _ => exact trivial
                  · intro ph hp
                    match ph, hp with
                    | 0, _ =>
                      intro a2 w9 hv hf hd
                      obtain ⟨b1, c1, e1, e2⟩ := hd 6 rfl
                      have e75 : a2.eval (.tmp 75) = .slice da L.length dc := hd 1 rfl
                      have hown : OwnS W6.heap.size w9 (a2.eval (.tmp 75)) L := by rw [e75]; exact hv.2.1
                      refine ⟨wanted_none rfl, wp_append_oneS rfl hown e1 e2 (by have := HFL.out; omega) hv.2.2.2 fun v' w10 h1 hgrow => ?_⟩
                      exact ⟨v', rfl, ⟨hv.1.grown hgrow (fun m hm => by have := (hown.lt hm).1; omega) (by have := HG.out; omega), hv.2.2.1.grown hgrow (fun m hm => (hown.lt hm).1), Nat.le_trans hv.2.2.2 hgrow.size⟩, (by show OwnS W6.heap.size w10 v' L2; rw [← HL2.out]; exact h1),
                        ⟨.inr fun _ _ _ => trivial, .inr fun _ _ _ => trivial, .inr fun _ _ _ => trivial, .inr fun _ _ _ => trivial, .inr fun _ _ _ => trivial, .inr fun _ _ _ => trivial, .inr fun _ _ _ => trivial, .inl rfl, .inr fun _ _ h => h.elim, .inr fun _ _ h => h.elim, trivial⟩⟩
                    | 1, _ =>
                      intro a2 w9 hv hf hd
                      have hown : OwnS W6.heap.size w9 (a2.eval (.tmp 81)) L2 := hd 7 rfl
                      obtain ⟨ea, ec, e81, _⟩ := hown.shape
                      have e82 : a2.eval (.tmp 82) = .pointer (some ⟨g + 3, 2, none⟩) := hd 8 rfl
                      rw [e81] at hown
                      refine ⟨wanted_none rfl, wp_store_sliceD (u := .slice da L.length dc) rfl e82 e81 (by kernel_rfl) (hv.1.vd.cell rfl) hv.1.vd.frozen ?_⟩
                      refine ⟨undef, rfl, ⟨ea, ec, ⟨hv.1.va.other (by show g ≠ g + 3; omega), hv.1.vb.other (by show g + 1 ≠ g + 3; omega), hv.1.vz.other (by show g + 2 ≠ g + 3; omega), hv.1.vd.set, hv.1.bel.setCell (p := ⟨g + 3, 2, none⟩) (by have := HG.out; show _ ≤ g + 3; omega) _⟩, hown.same (fun m hm => heap_setCell_other w9 ⟨g + 3, 2, none⟩ m _ (by have h5 := (hown.lt hm).1; show m ≠ g + 3; omega)), hv.2.1.setD hv.1.vd rfl (fun s e => by cases e), by rw [World.size_setCell]; exact hv.2.2⟩, trivial, ⟨.inr fun _ _ _ => trivial, .inr fun _ _ _ => trivial, .inr fun _ _ _ => trivial, .inr fun _ _ _ => trivial, .inr fun _ _ _ => trivial, .inr fun _ _ _ => trivial, .inr fun _ _ _ => trivial, .inr fun _ _ _ => trivial, .inr fun _ _ _ => trivial, .inl rfl, trivial⟩⟩
                  · intro a2 w9 hv hf hh
                    clear hh
                    have HZ := Box.mk hv
                    rw [fr_putAll hf]
                    clear hf hv
                    simp only [putAll]
                    generalize a2.eval (.tmp 74) = t74
                    generalize a2.eval (.tmp 75) = t75
                    generalize a2.eval (.tmp 76) = t76
                    generalize a2.eval (.tmp 77) = t77
                    generalize a2.eval (.tmp 78) = t78
                    generalize a2.eval (.tmp 79) = t79
                    generalize a2.eval (.tmp 80) = t80
                    generalize a2.eval (.tmp 81) = t81
                    generalize a2.eval (.tmp 82) = t82
                    clear a2
                    simp only [Act.put, List.setIfInBounds_toArray, List.set_cons_succ, List.set_cons_zero]
                    obtain ⟨ea, ec, h1, h2, h3, h4⟩ := HZ.out
                    have HS3 := Box.mk h1
                    have HO3 := Box.mk h2
                    have HI3 := Box.mk h3
                    clear h1 h2 h3 HZ HS HO HI HCX HFL HNMK
                    go_wp2_with fail
                    go_roundw
                    case rel => exact ⟨k + 1, ea, ec, by omega, by go_num, by rw [HLE2.out]; exact HS3, by rw [HLE2.out]; exact HO3, HI3, h4⟩
                    case measure => simp [intOf]; omega
                | false =>
                  have HL2 := Box.mk (show L = L2 by rw [HTK.out, HPK.out, HDF.out, if_neg (by decide), List.append_nil])
                  have HZ := Box.mk (show ∃ ea ec, CpSt g #[.int .i64 ax, .slice afa af.length afc, .int .i64 az, .slice asa asum.length asc] #[.int .i64 bs, .slice bfa bf.length bfc, .int .i64 bz, .slice bsa bsum.length bsc] #[.bool sb, .bool bb, .slice ea L2.length ec] w w8 ∧ OwnS W6.heap.size w8 (.slice ea L2.length ec) L2 ∧ RdSt (some x) nc N afa afc af bfa bfc bf W6.heap.size w8 ∧ W6.heap.size ≤ w8.heap.size by rw [← HL2.out]; exact ⟨da, dc, HS.out, HO.out, HI.out, hwz⟩)
                  obtain ⟨ea, ec, h1, h2, h3, h4⟩ := HZ.out
                  have HS3 := Box.mk h1
                  have HO3 := Box.mk h2
                  have HI3 := Box.mk h3
                  clear h1 h2 h3 HZ HS HO HI HCX HFL HNMK
                  go_wp2_with fail
                  go_roundw
                  case rel => exact ⟨k + 1, ea, ec, by omega, by go_num, by rw [HLE2.out]; exact HS3, by rw [HLE2.out]; exact HO3, HI3, h4⟩
                  case measure => simp [intOf]; omega
        · have HFX := Box.mk (show (N.take k).filter P = F by rw [List.take_of_length_le (by omega)]; exact HF.out)
          rw [HFX.out] at HS HO
          have d0 := HS.out.vd.cell (i := 0) (v := .bool sb) rfl
          have d1 := HS.out.vd.cell (i := 1) (v := .bool bb) rfl
          have d2 := HS.out.vd.cell (i := 2) (v := .slice da F.length dc) rfl
          have hO2 := HO.out.same (w' := wr.setRow (g + 2) #[.bool sb, .bool bb, .slice da F.length dc]) (fun m hm => setRow_other _ _ _ _ (by have h5 := (HO.out.lt hm).1; omega))
          obtain ⟨da2, dc2, hde, hst⟩ := hO2.shape
          injection hde with he1 he2 he3
          subst he1 he3
          have HST2 := Box.mk hst
          have HN2 := Box.mk (show (wr.setRow (g + 2) #[.bool sb, .bool bb, .slice da F.length dc]).heap[g + 2]? = _ from setRow_heap _ _ _ _ _ _ HS.out.vz)
          have HB9 := Box.mk (below_setRow HS.out.bel (by have := HG.out; omega) #[.bool sb, .bool bb, .slice da F.length dc] : Below w.heap.size w (wr.setRow (g + 2) #[.bool sb, .bool bb, .slice da F.length dc]))
          clear hst hO2 HFX HF HI
          go_upto_region 10 with fail
          go_wp2_with (refine wpList_store_row rfl 37 _ _ rfl (g + 2) #[.bool sb, .bool bb, .slice da F.length dc] rfl rfl 37 _ HS.out.vz (sizeDf ..) rfl (oneDf ..) ?_)
          (try simp only [Exit.inBlock, Exit.then])
          refine bodyPost_ret (results_rD rfl _ _ (g + 2) 37 _ (0, 0) _ rfl HN2.out Tryz.underlying37 rfl (sizeDf ..)) rfl ?_
          exact ⟨da, dc, rfl, HST2.out, HB9.out⟩
end Go.Proofs.YtgmbfiikkogenaaGreatDoor
namespace Go.Proofs.YtgmbfiikkogenaaGreatDoor
open Go.RowKit
open Go.Maps (Keyed string_keyed)
set_option linter.unusedSimpArgs false
set_option linter.unusedVariables false

theorem valueO_snoc (l : List Fld) (f : Fld) (s : ByteArray) : valueO (l ++ [f]) s = (valueO l s).or (if f.1 = s then some f.2 else none) := by
  unfold valueO
  rw [List.find?_append]
  cases h : l.find? fun f => decide (f.1 = s) with
  | some g => simp
  | none =>
    by_cases e : f.1 = s
    · simp [e]
    · simp [e]
theorem sorted_filter (p : ByteArray → Bool) : ∀ l : List ByteArray, SortedS l → SortedS (l.filter p)
  | [], _ => trivial
  | x :: r, h => by
    rw [List.filter_cons]
    split
    · exact ⟨fun y hy => h.1 y (List.mem_filter.1 hy).1, sorted_filter p r h.2⟩
    · exact sorted_filter p r h.2
theorem names_filter (p : ByteArray → Bool) (l : List ByteArray) : namesS (l.filter p) = (namesS l).filter p :=
  sorted_ext (namesS_sorted _) (sorted_filter p _ (namesS_sorted _)) fun x => by rw [namesS_mem, List.mem_filter, List.mem_filter, namesS_mem]
/-- The fields whose names have other values in the other list. -/
def difF (a b : List Fld) (l : List Fld) : List Fld := l.filter fun f => decide (valueO a f.1 ≠ valueO b f.1)
theorem difF_names (a b : List Fld) : namesS ((difF a b (a ++ b)).map (·.1)) = fsD a b := by
  unfold difF fsD
  rw [← names_filter]
  congr 1
  generalize a ++ b = l
  induction l with
  | nil => rfl
  | cons f t ih =>
    rw [List.filter_cons, List.map_cons, List.filter_cons]
    split
    · rw [List.map_cons, ih]
    · exact ih
theorem difF_snoc (a b l : List Fld) (f : Fld) : difF a b (l ++ [f]) = if valueO a f.1 ≠ valueO b f.1 then difF a b l ++ [f] else difF a b l := by
  unfold difF
  rw [List.filter_append, List.filter_cons]
  split <;> rename_i h
  · rw [if_pos (by simpa using h)]; rfl
  · rw [if_neg (by simpa using h)]; simp
theorem difF_len (a b l : List Fld) : (difF a b l).length ≤ l.length := List.length_filter_le _ _
theorem optV_ne {x y : Option ByteArray} : x ≠ y ↔ (x.isSome ≠ y.isSome ∨ optV x ≠ optV y) := by
  unfold optV
  cases x <;> cases y <;> simp

theorem zeroMv (w : World) : (zeroValue 9).run Tryz.prog w = .ok (.string ⟨#[]⟩) w := by kernel_rfl
/-- Block b is a map which has the first value of each name. -/
structure MapV (w : World) (b n : Nat) (l : List Fld) (D : DataW Value) : Prop where
  map : w.ownsMap Tryz.prog 9 heldG b n D
  at_ : ∀ s, D.atKey (keyG s) (.held (.string ⟨#[]⟩)) = .held (.string (optV (valueO l s)))
  has : ∀ s, Go.Maps.has D (keyG s) = (valueO l s).isSome
theorem MapV.keep {w w' : World} {b n : Nat} {l : List Fld} {D : DataW Value} (h : MapV w b n l D) (hb : Below w.heap.size w w') : MapV w' b n l D :=
  ⟨h.map.kept (grownBy_below (row := none) hb) (by simp), h.at_, h.has⟩
theorem MapV.made (w : World) : MapV (w.alloc (.map #[] 0)) w.heap.size 0 [] (.map []) :=
  ⟨World.ownsMap_made _ _ _ _, fun s => rfl, fun s => rfl⟩
theorem MapV.skip {w : World} {b n : Nat} {l : List Fld} {D : DataW Value} (h : MapV w b n l D) {f : Fld} (hf : (valueO l f.1).isSome = true) : MapV w b (n + 1) (l ++ [f]) D := by
  have e : ∀ s, valueO (l ++ [f]) s = valueO l s := fun s => by
    rw [valueO_snoc]
    by_cases h1 : f.1 = s
    · subst h1
      rw [Option.isSome_iff_exists] at hf
      obtain ⟨v, hv⟩ := hf
      rw [hv]; rfl
    · rw [if_neg h1, Option.or_none]
  exact ⟨h.map.mono (Nat.le_succ n), fun s => by rw [e]; exact h.at_ s, fun s => by rw [e]; exact h.has s⟩
theorem MapV.put {w w5 : World} {b n : Nat} {l : List Fld} {D : DataW Value} (h : MapV w b n l D) {f : Fld} (hf : (valueO l f.1).isSome = false) (hm : w5.ownsMap Tryz.prog 9 heldG b (n + 1) (D.put (keyG f.1) (.held (.string f.2)))) : MapV w5 b (n + 1) (l ++ [f]) (D.put (keyG f.1) (.held (.string f.2))) := by
  have hD := h.map.isMap
  have hk : WideAt.IsKeyLit (keyG f.1) := trivial
  rw [Option.isSome_eq_false_iff, Option.isNone_iff_eq_none] at hf
  refine ⟨hm, fun z => ?_, fun z => ?_⟩
  · rw [valueO_snoc]
    by_cases e : z = f.1
    · subst e
      rw [Maps.atKey_put_same hD hk, hf, if_pos rfl]; rfl
    · rw [Maps.atKey_put_other (fun e2 => e (keyG_inj e2)), h.at_, if_neg (fun e2 => e e2.symm), Option.or_none]
  · rw [valueO_snoc]
    by_cases e : z = f.1
    · subst e
      rw [Maps.has_put_same hD hk, hf, if_pos rfl]; rfl
    · rw [Maps.has_put_other (fun e2 => e (keyG_inj e2)), h.has, if_neg (fun e2 => e e2.symm), Option.or_none]
def MapVIn (w : World) (b n : Nat) (l : List Fld) : Prop := ∃ D, MapV w b n l D
theorem MapVIn.keep {w w' : World} {b n : Nat} {l : List Fld} (h : MapVIn w b n l) (hb : Below w.heap.size w w') : MapVIn w' b n l := by
  obtain ⟨D, h⟩ := h; exact ⟨D, h.keep hb⟩
theorem MapVIn.lt {w : World} {b n : Nat} {l : List Fld} (h : MapVIn w b n l) : b < w.heap.size := by
  obtain ⟨D, h⟩ := h; exact h.map.lt
theorem MapVIn.skip {w : World} {b n : Nat} {l : List Fld} (h : MapVIn w b n l) {f : Fld} (hf : (valueO l f.1).isSome = true) : MapVIn w b (n + 1) (l ++ [f]) := by
  obtain ⟨D, h⟩ := h; exact ⟨D, h.skip hf⟩
theorem MapVIn.run {w : World} {b n : Nat} {l : List Fld} (h : MapVIn w b n l) (s : ByteArray) (hs : s.size ≤ maxLen) :
    (Instr.lookup 88 (.map (some b)) (.string s) true).run Tryz.prog w = .ok (.tuple #[.string (optV (valueO l s)), .bool (valueO l s).isSome]) w := by
  obtain ⟨D, h⟩ := h
  obtain ⟨v, ps, hrun, hv⟩ := h.map.look_ok (t := 88) (e := 9) keyedG Tryz.underlying88 (zeroMv w) (zd := .held (.string ⟨#[]⟩)) (zp := []) rfl (key := .string s) (kl := keyG s) (WideMaps.keyOf_string_mk Tryz.underlying9 hs)
  rw [h.at_] at hv
  rw [h.has] at hrun
  have e : v = .string (optV (valueO l s)) := by
    unfold heldG at hv
    simp only [Option.some.injEq, Prod.mk.injEq, DataW.held.injEq] at hv
    exact hv.1
  rw [hrun, e]
section
variable {ops : Array Oper} {rest : List Oper} {o : Oper} {act : Act} {Q : Exit → Act → World → Prop}
theorem wpList_look_mv (w : World) (hg : o.guard = none) (m x : Operand) (hop : o.op = Op.lookup 88 m x true) {b n : Nat} {l : List Fld} {s : ByteArray} {v : ByteArray} {k : Bool}
    (hm : act.eval m = .map (some b)) (h : MapVIn w b n l) (hx : act.eval x = .string s) (hs : s.size ≤ maxLen) (hv : optV (valueO l s) = v) (hk : (valueO l s).isSome = k) (hK : wpList Tryz.prog ops Q rest (act.put o.dst (.tuple #[.string v, .bool k])) w) : wpList Tryz.prog ops Q (o :: rest) act w := by
  refine wpList_plain hg fun K' hK' => ?_
  have hrun := h.run s hs
  rw [hv, hk] at hrun
  unfold Oper.wp
  simp [execOp, hop, hm, hx, hrun, Result.andThen]
  exact hK' _ _ hK
theorem wpList_update_mv (w : World) (hg : o.guard = none) (m x y : Operand) (hop : o.op = Op.mapUpdate 88 m x y) {b n : Nat} {l : List Fld} {f : Fld}
    (hm : act.eval m = .map (some b)) (h : MapVIn w b n l) (hn : n < maxLen) (hx : act.eval x = .string f.1) (hs : f.1.size ≤ maxLen) (hy : act.eval y = .string f.2) (hf : (valueO l f.1).isSome = false)
    (hK : ∀ w', MapVIn w' b (n + 1) (l ++ [f]) → w.grownBy w' (some b) → wpList Tryz.prog ops Q rest (act.put o.dst undef) w') : wpList Tryz.prog ops Q (o :: rest) act w := by
  obtain ⟨D, h⟩ := h
  refine wpList_mapUpdate_own w hg m x y 88 hop 9 9 keyedG Tryz.underlying88 heldG b n D hm h.map hn (.string f.1) (.string f.2) (keyG f.1) hx hy (WideMaps.keyOf_string_mk Tryz.underlying9 hs) (.held (.string f.2)) [] rfl ?_
  intro w' h1 h2
  exact hK w' ⟨_, h.put hf h1⟩ h2
end
end Go.Proofs.YtgmbfiikkogenaaGreatDoor
