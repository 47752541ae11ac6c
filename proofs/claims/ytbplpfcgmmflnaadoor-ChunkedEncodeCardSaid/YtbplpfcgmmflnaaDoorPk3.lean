/- The reference's step: a line that ends with CR. The decoder's states stay in order; the reference's step in one contract. The reference's Feed. The source of numbers of the laws: Within, Next, Of. The reference's Decode and SameChunk; Short and Cut of the laws' maker. A region that draws its order, whose last operation waits for all others and may write a slot that they read (s = s + f(..)); the rest goes on from there. Slices of slices of bytes: read, built in a region, opened among the arguments. The fields that the laws make: Field, Fields, fields, name. Contracts of the reference's functions that write a number. Split at the question mark, the version of a line, spoil; in the reference and the laws. FormatRequestLine of the reference. -/
import Derived.Test.YtbplpfcgmmflnaaDoorPk1
import Derived.Test.YtbplpfcgmmflnaaDoorPk2
import Derived.Test.YtbplpfcgmmflnaaDoorRows
import Derived.WalkKit
import Derived.WalkSpells
import Derived.WalkLawsBesides
import Derived.BigQuiet
import Derived.Deep.QuietTactic
import Derived.Lib.Bytealg
import Derived.Lib.IndexLaws
import Derived.Lib.Hide
import Derived.Laws.IdiomStrings
import Derived.Lib.SlTrimSet
import Derived.Lib.IndexBytes
import Derived.Lib.Split
import Derived.Deep.AppendLies
import Derived.Shelf.Strings.SlTrimAscii
import Derived.Shelf.Strings.SplitShaped
import Derived.Shelf.LaysM
import Derived.Shelf.Strings.BuilderK
import Derived.Shelf.Strconv.Itoa4
import Derived.Test.YtbplpfcgmmflnaaDoorProg
import Derived.Lib.SplitLaws
import Derived.WalkSmall
import Derived.ProofKit
import Derived.OpenShut
import Derived.Lib.Strings
import Derived.SliceStrings
import Derived.Deep.Quiet
import Derived.Tactics
import Derived.KernelRfl
import Derived.Below
import Derived.Laws.Bits64
import Derived.Lib.SlBytesConst
import Derived.Maps.AppendAt
import Derived.Laws.AppendOwnNone
import Derived.Great.BuildSlice
import Derived.Laws.Rows
import Derived.Laws.BitsAllLaws
import Derived.Laws.Shifts
import Derived.Maps.OwnOps
import Derived.Maps.OwnSet
import Derived.Deep.SlicePairs
import Derived.Lib.AppendZerosOnto
import Derived.Lib.AppendStr
import Derived.Laws.CopyOwn
import Derived.OwnWalk
import Derived.Laws.Strings3
import Derived.Lib.ItoaMem
import Derived.Laws.Concat
import Derived.Deep.Matrix
import Derived.IntWalk
namespace Go.Proofs.YtbplpfcgmmflnaaDoor
open Go.RowKit

theorem szS_at (y : ByteArray) : szS y = (splitS 59 y)[0]'(splitS_pos 59 y) := by unfold szS; rw [List.getElem?_eq_getElem (splitS_pos 59 y)]; rfl
theorem szS_small (y : ByteArray) : (szS y).size ≤ y.size := by rw [szS_at]; exact splitS_small 59 y _ (List.getElem_mem _)
theorem lineS_bad {l t : Int} {y : ByteArray} (h : (parseS 16 1000000000 (szS y)).2 = 2 ∨ visS y = false) : lineS ⟨0, l, t, []⟩ y = (2, zeroC) := by
  unfold lineS; rw [if_pos rfl, if_pos h]
theorem lineS_size {l t : Int} {y : ByteArray} (h : ¬ ((parseS 16 1000000000 (szS y)).2 = 2 ∨ visS y = false)) (h0 : (parseS 16 1000000000 (szS y)).2 = 0) : lineS ⟨0, l, t, []⟩ y = (0, ⟨if (parseS 16 1000000000 (szS y)).1 = 0 then 3 else 1, (parseS 16 1000000000 (szS y)).1, t, []⟩) := by
  unfold lineS; rw [if_pos rfl, if_neg h, if_pos h0]
theorem lineS_big {l t : Int} {y : ByteArray} (h : ¬ ((parseS 16 1000000000 (szS y)).2 = 2 ∨ visS y = false)) (h0 : ¬ (parseS 16 1000000000 (szS y)).2 = 0) : lineS ⟨0, l, t, []⟩ y = ((parseS 16 1000000000 (szS y)).2, zeroC) := by
  unfold lineS; rw [if_pos rfl, if_neg h, if_neg h0]
theorem empty_m (m : List UInt8) : (⟨m.toArray⟩ : ByteArray).toList.isEmpty = m.isEmpty := by rw [ByteArray.toList_eq]

set_option maxRecDepth 100000 in
set_option maxHeartbeats 4000000 in
theorem refStep_crbad (p : Int) (l t : Int) (m : List UInt8) (ad : Addr) (x : UInt8) (lc : Nat) (w : World) (h : IsBytes w (some ad) (m ++ [13]) lc) (hl : m.length ≤ 1000) (hx : ¬ x = 10) (hp : ¬ p = 3) :
    Calls Tryd.prog 26 #[.agg #[.int .i64 p, .int .i64 l, .int .i64 t, .slice (some ad) (m.length + 1) lc], .int .u8 x.toNat] w (RetStep w (byteS ⟨p, l, t, m ++ [13]⟩ t x)) := by
  have hcap : m.length + 1 ≤ lc := by
    rcases h with ⟨e, _⟩ | ⟨y, e, h1, _, _⟩
    · cases e
    · simpa using h1
  have hcz : w.cell? (ad.add m.length) = some (.int .u8 13) := by
    rcases h with ⟨e, _⟩ | ⟨y, e, _, _, hc⟩
    · cases e
    · obtain rfl := Option.some.inj e
      have := hc m.length (by simp)
      simpa using this
  have hbl : (ad.add m.length).block < w.heap.size := lt_cell hcz
  have hcv : (convert 23 9 (.slice (some ad) m.length lc)).run Tryd.prog ((w.alloc (.cells #[.int .i64 p, .int .i64 l, .int .i64 t, .slice (some ad) (m.length + 1) lc] 27)).alloc (.cells #[.int .i64 0, .int .i64 0, .int .i64 0, .slice none 0 0] 27)) = .ok (.string ⟨m.toArray⟩) ((w.alloc (.cells #[.int .i64 p, .int .i64 l, .int .i64 t, .slice (some ad) (m.length + 1) lc] 27)).alloc (.cells #[.int .i64 0, .int .i64 0, .int .i64 0, .slice none 0 0] 27)) := conv_bytes (isBytes_front (h.keep (below_twoF (below_oneF w _) _)))
  obtain ⟨W2, hW2⟩ : ∃ W2, W2 = (w.alloc (.cells #[.int .i64 p, .int .i64 l, .int .i64 t, .slice (some ad) (m.length + 1) lc] 27)).alloc (.cells #[.int .i64 0, .int .i64 0, .int .i64 0, .slice none 0 0] 27) := ⟨_, rfl⟩
  have HB2 := Box.mk (show Below w.heap.size w W2 by rw [hW2]; exact below_twoF (below_oneF w _) _)
  have HR2 := Box.mk (show CVar W2 (w.heap.size + 1) 0 0 0 (.slice none 0 0) by
    have h := heap_alloc_new (w.alloc (.cells #[.int .i64 p, .int .i64 l, .int .i64 t, .slice (some ad) (m.length + 1) lc] 27)) (.cells #[.int .i64 0, .int .i64 0, .int .i64 0, .slice none 0 0] 27)
    rw [World.size_alloc] at h; rw [hW2]; exact h)
  have HC2 := Box.mk (show CVar W2 w.heap.size p l t (.slice (some ad) (m.length + 1) lc) by
    rw [hW2]; exact CVar.keep (heap_alloc_new _ _) (below_oneF _ _))
  have HW2 := Box.mk hW2
  clear h hW2
  clear hcv
  have ep : (p == 3) = false := by rw [beq_eq_false_iff_ne]; exact hp
  have e10 : ((x.toNat : Int) != 10) = true := by
    rw [bne_iff_ne]; intro e; exact hx (UInt8.toNat_inj.1 (by rw [show (10 : UInt8).toNat = 10 from rfl]; omega))
  have HP := Box.mk (byteS_bad (s := ⟨p, l, t, m ++ [13]⟩) (t := t) (show crB (m ++ [13]) = true by rw [crB_app]; rfl) hx)
  clear hx
  have hr' := HR2
  rw [HW2.out] at hr'
  have hb' := HB2
  rw [HW2.out] at hb'
  go_enter Tryd.func26, Tryd.ntmps26
  go_wp2_with (refine wpList_store_row rfl 27 _ _ rfl (w.heap.size + 1) #[.int .i64 p, .int .i64 l, .int .i64 t, .slice (some ad) (m.length + 1) lc] rfl rfl 27 _ hr'.out sizeC rfl (oneC _ _ _ _ _ _) ?_)
  (try simp only [Exit.inBlock, Exit.then])
  refine bodyPost_ret (results_row_tmpF rfl _ _ (w.heap.size + 1) _ _ _ _ rfl (setRow_heap _ _ _ _ _ _ hr'.out) Tryd.underlying27 rfl sizeC) rfl ?_
  exact RetStep.err rfl HP.out (by decide) (below_setRow hb'.out (by omega) _)
set_option maxRecDepth 100000 in
set_option maxHeartbeats 4000000 in
theorem refStep_crbad3 (l t : Int) (m : List UInt8) (ad : Addr) (x : UInt8) (lc : Nat) (w : World) (h : IsBytes w (some ad) (m ++ [13]) lc) (hl : m.length ≤ 1000) (ht0 : 0 ≤ t) (ht : t + 1 ≤ 1024) (hx : ¬ x = 10) :
    Calls Tryd.prog 26 #[.agg #[.int .i64 3, .int .i64 l, .int .i64 t, .slice (some ad) (m.length + 1) lc], .int .u8 x.toNat] w (RetStep w (byteS ⟨3, l, t, m ++ [13]⟩ (t + 1) x)) := by
  have hcap : m.length + 1 ≤ lc := by
    rcases h with ⟨e, _⟩ | ⟨y, e, h1, _, _⟩
    · cases e
    · simpa using h1
  have hcz : w.cell? (ad.add m.length) = some (.int .u8 13) := by
    rcases h with ⟨e, _⟩ | ⟨y, e, _, _, hc⟩
    · cases e
    · obtain rfl := Option.some.inj e
      have := hc m.length (by simp)
      simpa using this
  have hbl : (ad.add m.length).block < w.heap.size := lt_cell hcz
  have hcv : (convert 23 9 (.slice (some ad) m.length lc)).run Tryd.prog ((w.alloc (.cells #[.int .i64 3, .int .i64 l, .int .i64 (t + 1), .slice (some ad) (m.length + 1) lc] 27)).alloc (.cells #[.int .i64 0, .int .i64 0, .int .i64 0, .slice none 0 0] 27)) = .ok (.string ⟨m.toArray⟩) ((w.alloc (.cells #[.int .i64 3, .int .i64 l, .int .i64 (t + 1), .slice (some ad) (m.length + 1) lc] 27)).alloc (.cells #[.int .i64 0, .int .i64 0, .int .i64 0, .slice none 0 0] 27)) := conv_bytes (isBytes_front (h.keep (below_twoF (below_oneF w _) _)))
  obtain ⟨W2, hW2⟩ : ∃ W2, W2 = (w.alloc (.cells #[.int .i64 3, .int .i64 l, .int .i64 (t + 1), .slice (some ad) (m.length + 1) lc] 27)).alloc (.cells #[.int .i64 0, .int .i64 0, .int .i64 0, .slice none 0 0] 27) := ⟨_, rfl⟩
  have HB2 := Box.mk (show Below w.heap.size w W2 by rw [hW2]; exact below_twoF (below_oneF w _) _)
  have HR2 := Box.mk (show CVar W2 (w.heap.size + 1) 0 0 0 (.slice none 0 0) by
    have h := heap_alloc_new (w.alloc (.cells #[.int .i64 3, .int .i64 l, .int .i64 (t + 1), .slice (some ad) (m.length + 1) lc] 27)) (.cells #[.int .i64 0, .int .i64 0, .int .i64 0, .slice none 0 0] 27)
    rw [World.size_alloc] at h; rw [hW2]; exact h)
  have HC2 := Box.mk (show CVar W2 w.heap.size 3 l (t + 1) (.slice (some ad) (m.length + 1) lc) by
    rw [hW2]; exact CVar.keep (heap_alloc_new _ _) (below_oneF _ _))
  have HW2 := Box.mk hW2
  clear h hW2
  clear hcv
  have e10 : ((x.toNat : Int) != 10) = true := by
    rw [bne_iff_ne]; intro e; exact hx (UInt8.toNat_inj.1 (by rw [show (10 : UInt8).toNat = 10 from rfl]; omega))
  have HP := Box.mk (byteS_bad (s := ⟨3, l, t, m ++ [13]⟩) (t := (t + 1)) (show crB (m ++ [13]) = true by rw [crB_app]; rfl) hx)
  clear hx
  have hr' := HR2
  rw [HW2.out] at hr'
  have hb' := HB2
  rw [HW2.out] at hb'
  go_enter Tryd.func26, Tryd.ntmps26
  go_wp2_with (refine wpList_store_row rfl 27 _ _ rfl (w.heap.size + 1) #[.int .i64 3, .int .i64 l, .int .i64 (t + 1), .slice (some ad) (m.length + 1) lc] rfl rfl 27 _ hr'.out sizeC rfl (oneC _ _ _ _ _ _) ?_)
  (try simp only [Exit.inBlock, Exit.then])
  refine bodyPost_ret (results_row_tmpF rfl _ _ (w.heap.size + 1) _ _ _ _ rfl (setRow_heap _ _ _ _ _ _ hr'.out) Tryd.underlying27 rfl sizeC) rfl ?_
  exact RetStep.err rfl HP.out (by decide) (below_setRow hb'.out (by omega) _)

set_option maxRecDepth 100000 in
set_option maxHeartbeats 4000000 in
theorem refStep_cr2 (l t : Int) (m : List UInt8) (ad : Addr) (lc : Nat) (w : World) (h : IsBytes w (some ad) (m ++ [13]) lc) (hl : m.length ≤ 1000) :
    Calls Tryd.prog 26 #[.agg #[.int .i64 2, .int .i64 l, .int .i64 t, .slice (some ad) (m.length + 1) lc], .int .u8 10] w (RetStep w (lineS ⟨2, l, t, []⟩ ⟨m.toArray⟩)) := by
  have hcap : m.length + 1 ≤ lc := by
    rcases h with ⟨e, _⟩ | ⟨y, e, h1, _, _⟩
    · cases e
    · simpa using h1
  have hcz : w.cell? (ad.add m.length) = some (.int .u8 13) := by
    rcases h with ⟨e, _⟩ | ⟨y, e, _, _, hc⟩
    · cases e
    · obtain rfl := Option.some.inj e
      have := hc m.length (by simp)
      simpa using this
  have hbl : (ad.add m.length).block < w.heap.size := lt_cell hcz
  have hcv : (convert 23 9 (.slice (some ad) m.length lc)).run Tryd.prog ((w.alloc (.cells #[.int .i64 2, .int .i64 l, .int .i64 t, .slice (some ad) (m.length + 1) lc] 27)).alloc (.cells #[.int .i64 0, .int .i64 0, .int .i64 0, .slice none 0 0] 27)) = .ok (.string ⟨m.toArray⟩) ((w.alloc (.cells #[.int .i64 2, .int .i64 l, .int .i64 t, .slice (some ad) (m.length + 1) lc] 27)).alloc (.cells #[.int .i64 0, .int .i64 0, .int .i64 0, .slice none 0 0] 27)) := conv_bytes (isBytes_front (h.keep (below_twoF (below_oneF w _) _)))
  obtain ⟨W2, hW2⟩ : ∃ W2, W2 = (w.alloc (.cells #[.int .i64 2, .int .i64 l, .int .i64 t, .slice none 0 0] 27)).alloc (.cells #[.int .i64 0, .int .i64 0, .int .i64 0, .slice none 0 0] 27) := ⟨_, rfl⟩
  have HB2 := Box.mk (show Below w.heap.size w W2 by rw [hW2]; exact below_twoF (below_oneF w _) _)
  have HR2 := Box.mk (show CVar W2 (w.heap.size + 1) 0 0 0 (.slice none 0 0) by
    have h := heap_alloc_new (w.alloc (.cells #[.int .i64 2, .int .i64 l, .int .i64 t, .slice none 0 0] 27)) (.cells #[.int .i64 0, .int .i64 0, .int .i64 0, .slice none 0 0] 27)
    rw [World.size_alloc] at h; rw [hW2]; exact h)
  have HC2 := Box.mk (show CVar W2 w.heap.size 2 l t (.slice none 0 0) by
    rw [hW2]; exact CVar.keep (heap_alloc_new _ _) (below_oneF _ _))
  have HW2 := Box.mk hW2
  clear h hW2
  have hye := empty_m m
  have HL0 := Box.mk (fun (hm : m = []) => show lineS ⟨2, l, t, []⟩ ⟨m.toArray⟩ = (0, ⟨0, l, t, []⟩) by rw [hm]; rfl)
  have HL2 := Box.mk (fun (hm : ¬ m = []) => show lineS ⟨2, l, t, []⟩ ⟨m.toArray⟩ = (2, zeroC) by
    cases m with
    | nil => exact absurd rfl hm
    | cons _ _ => rfl)
  generalize (⟨m.toArray⟩ : ByteArray) = y at *
  by_cases hm : m = []
  · have hy : y.toList.isEmpty = true := by rw [hye, hm]; rfl
    have HP := Box.mk (HL0.out hm)
    have HB3 := Box.mk (below_twoF (below_oneF w (.cells #[.int .i64 0, .int .i64 l, .int .i64 t, .slice none 0 0] 27)) (.cells #[.int .i64 0, .int .i64 0, .int .i64 0, .slice none 0 0] 27))
    have HR3 := Box.mk (show CVar ((w.alloc (.cells #[.int .i64 0, .int .i64 l, .int .i64 t, .slice none 0 0] 27)).alloc (.cells #[.int .i64 0, .int .i64 0, .int .i64 0, .slice none 0 0] 27)) (w.heap.size + 1) 0 0 0 (.slice none 0 0) by
      have h := heap_alloc_new (w.alloc (.cells #[.int .i64 0, .int .i64 l, .int .i64 t, .slice none 0 0] 27)) (.cells #[.int .i64 0, .int .i64 0, .int .i64 0, .slice none 0 0] 27)
      rw [World.size_alloc] at h; exact h)
    clear hye hm
    go_enter Tryd.func26, Tryd.ntmps26
    go_wp2_with (refine wpList_store_row rfl 27 _ _ rfl (w.heap.size + 1) #[.int .i64 0, .int .i64 l, .int .i64 t, .slice none 0 0] rfl rfl 27 _ HR3.out sizeC rfl (oneC _ _ _ _ _ _) ?_)
    (try simp only [Exit.inBlock, Exit.then])
    refine bodyPost_ret (results_row_tmpF rfl _ _ (w.heap.size + 1) _ _ _ _ rfl (setRow_heap _ _ _ _ _ _ HR3.out) Tryd.underlying27 rfl sizeC) rfl ?_
    exact RetStep.ok rfl HP.out rfl (.inl ⟨rfl, rfl, rfl⟩) (below_setRow HB3.out (by omega) _)
  · have HP := Box.mk (HL2.out hm)
    have hy : y.toList.isEmpty = false := by
      rw [hye]
      cases m with
      | nil => exact absurd rfl hm
      | cons _ _ => rfl
    clear hye hm
    have hr' := HR2
    rw [HW2.out] at hr'
    have hb' := HB2
    rw [HW2.out] at hb'
    go_enter Tryd.func26, Tryd.ntmps26
    go_wp2_with (refine wpList_store_row rfl 27 _ _ rfl (w.heap.size + 1) #[.int .i64 2, .int .i64 l, .int .i64 t, .slice none 0 0] rfl rfl 27 _ hr'.out sizeC rfl (oneC _ _ _ _ _ _) ?_)
    (try simp only [Exit.inBlock, Exit.then])
    refine bodyPost_ret (results_row_tmpF rfl _ _ (w.heap.size + 1) _ _ _ _ rfl (setRow_heap _ _ _ _ _ _ hr'.out) Tryd.underlying27 rfl sizeC) rfl ?_
    exact RetStep.err rfl HP.out (by decide) (below_setRow hb'.out (by omega) _)

set_option maxRecDepth 100000 in
set_option maxHeartbeats 4000000 in
theorem refStep_crX (p : Int) (l t : Int) (m : List UInt8) (ad : Addr) (lc : Nat) (w : World) (h : IsBytes w (some ad) (m ++ [13]) lc) (hl : m.length ≤ 1000) (hp0 : ¬ p = 0) (hp2 : ¬ p = 2) (hp3 : ¬ p = 3) :
    Calls Tryd.prog 26 #[.agg #[.int .i64 p, .int .i64 l, .int .i64 t, .slice (some ad) (m.length + 1) lc], .int .u8 10] w (RetStep w (lineS ⟨p, l, t, []⟩ ⟨m.toArray⟩)) := by
  have hcap : m.length + 1 ≤ lc := by
    rcases h with ⟨e, _⟩ | ⟨y, e, h1, _, _⟩
    · cases e
    · simpa using h1
  have hcz : w.cell? (ad.add m.length) = some (.int .u8 13) := by
    rcases h with ⟨e, _⟩ | ⟨y, e, _, _, hc⟩
    · cases e
    · obtain rfl := Option.some.inj e
      have := hc m.length (by simp)
      simpa using this
  have hbl : (ad.add m.length).block < w.heap.size := lt_cell hcz
  have hcv : (convert 23 9 (.slice (some ad) m.length lc)).run Tryd.prog ((w.alloc (.cells #[.int .i64 p, .int .i64 l, .int .i64 t, .slice (some ad) (m.length + 1) lc] 27)).alloc (.cells #[.int .i64 0, .int .i64 0, .int .i64 0, .slice none 0 0] 27)) = .ok (.string ⟨m.toArray⟩) ((w.alloc (.cells #[.int .i64 p, .int .i64 l, .int .i64 t, .slice (some ad) (m.length + 1) lc] 27)).alloc (.cells #[.int .i64 0, .int .i64 0, .int .i64 0, .slice none 0 0] 27)) := conv_bytes (isBytes_front (h.keep (below_twoF (below_oneF w _) _)))
  obtain ⟨W2, hW2⟩ : ∃ W2, W2 = (w.alloc (.cells #[.int .i64 p, .int .i64 l, .int .i64 t, .slice none 0 0] 27)).alloc (.cells #[.int .i64 0, .int .i64 0, .int .i64 0, .slice none 0 0] 27) := ⟨_, rfl⟩
  have HB2 := Box.mk (show Below w.heap.size w W2 by rw [hW2]; exact below_twoF (below_oneF w _) _)
  have HR2 := Box.mk (show CVar W2 (w.heap.size + 1) 0 0 0 (.slice none 0 0) by
    have h := heap_alloc_new (w.alloc (.cells #[.int .i64 p, .int .i64 l, .int .i64 t, .slice none 0 0] 27)) (.cells #[.int .i64 0, .int .i64 0, .int .i64 0, .slice none 0 0] 27)
    rw [World.size_alloc] at h; rw [hW2]; exact h)
  have HC2 := Box.mk (show CVar W2 w.heap.size p l t (.slice none 0 0) by
    rw [hW2]; exact CVar.keep (heap_alloc_new _ _) (below_oneF _ _))
  have HW2 := Box.mk hW2
  clear h hW2
  have e0 : (p == 0) = false := by rw [beq_eq_false_iff_ne]; exact hp0
  have e2 : (p == 2) = false := by rw [beq_eq_false_iff_ne]; exact hp2
  have e3 : (p == 3) = false := by rw [beq_eq_false_iff_ne]; exact hp3
  have HP := Box.mk (show lineS ⟨p, l, t, []⟩ ⟨m.toArray⟩ = (0, ⟨p, l, t, []⟩) by unfold lineS; rw [if_neg hp0, if_neg hp2, if_neg hp3])
  have hr' := HR2
  rw [HW2.out] at hr'
  have hb' := HB2
  rw [HW2.out] at hb'
  go_enter Tryd.func26, Tryd.ntmps26
  go_wp2_with (refine wpList_store_row rfl 27 _ _ rfl (w.heap.size + 1) #[.int .i64 p, .int .i64 l, .int .i64 t, .slice none 0 0] rfl rfl 27 _ hr'.out sizeC rfl (oneC _ _ _ _ _ _) ?_)
  (try simp only [Exit.inBlock, Exit.then])
  refine bodyPost_ret (results_row_tmpF rfl _ _ (w.heap.size + 1) _ _ _ _ rfl (setRow_heap _ _ _ _ _ _ hr'.out) Tryd.underlying27 rfl sizeC) rfl ?_
  exact RetStep.ok rfl HP.out rfl (.inl ⟨rfl, rfl, rfl⟩) (below_setRow hb'.out (by omega) _)

set_option maxRecDepth 100000 in
set_option maxHeartbeats 4000000 in
theorem refStep_cr3 (l t : Int) (m : List UInt8) (ad : Addr) (lc : Nat) (w : World) (h : IsBytes w (some ad) (m ++ [13]) lc) (hl : m.length ≤ 1000) (ht0 : 0 ≤ t) (ht : t + 1 ≤ 1024) :
    Calls Tryd.prog 26 #[.agg #[.int .i64 3, .int .i64 l, .int .i64 t, .slice (some ad) (m.length + 1) lc], .int .u8 10] w (RetStep w (lineS ⟨3, l, t + 1, []⟩ ⟨m.toArray⟩)) := by
  have hcap : m.length + 1 ≤ lc := by
    rcases h with ⟨e, _⟩ | ⟨y, e, h1, _, _⟩
    · cases e
    · simpa using h1
  have hcz : w.cell? (ad.add m.length) = some (.int .u8 13) := by
    rcases h with ⟨e, _⟩ | ⟨y, e, _, _, hc⟩
    · cases e
    · obtain rfl := Option.some.inj e
      have := hc m.length (by simp)
      simpa using this
  have hbl : (ad.add m.length).block < w.heap.size := lt_cell hcz
  have hcv : (convert 23 9 (.slice (some ad) m.length lc)).run Tryd.prog ((w.alloc (.cells #[.int .i64 3, .int .i64 l, .int .i64 (t + 1), .slice (some ad) (m.length + 1) lc] 27)).alloc (.cells #[.int .i64 0, .int .i64 0, .int .i64 0, .slice none 0 0] 27)) = .ok (.string ⟨m.toArray⟩) ((w.alloc (.cells #[.int .i64 3, .int .i64 l, .int .i64 (t + 1), .slice (some ad) (m.length + 1) lc] 27)).alloc (.cells #[.int .i64 0, .int .i64 0, .int .i64 0, .slice none 0 0] 27)) := conv_bytes (isBytes_front (h.keep (below_twoF (below_oneF w _) _)))
  obtain ⟨W2, hW2⟩ : ∃ W2, W2 = (w.alloc (.cells #[.int .i64 3, .int .i64 l, .int .i64 (t + 1), .slice none 0 0] 27)).alloc (.cells #[.int .i64 0, .int .i64 0, .int .i64 0, .slice none 0 0] 27) := ⟨_, rfl⟩
  have HB2 := Box.mk (show Below w.heap.size w W2 by rw [hW2]; exact below_twoF (below_oneF w _) _)
  have HR2 := Box.mk (show CVar W2 (w.heap.size + 1) 0 0 0 (.slice none 0 0) by
    have h := heap_alloc_new (w.alloc (.cells #[.int .i64 3, .int .i64 l, .int .i64 (t + 1), .slice none 0 0] 27)) (.cells #[.int .i64 0, .int .i64 0, .int .i64 0, .slice none 0 0] 27)
    rw [World.size_alloc] at h; rw [hW2]; exact h)
  have HC2 := Box.mk (show CVar W2 w.heap.size 3 l (t + 1) (.slice none 0 0) by
    rw [hW2]; exact CVar.keep (heap_alloc_new _ _) (below_oneF _ _))
  have HW2 := Box.mk hW2
  clear h hW2
  have hys : (⟨m.toArray⟩ : ByteArray).size ≤ maxLen := by
    show m.toArray.size ≤ maxLen
    rw [List.size_toArray]; unfold maxLen; omega
  have HLS := Box.mk (show lineS ⟨3, l, t + 1, []⟩ ⟨m.toArray⟩ = if m = [] then (0, ⟨4, l, t + 1, []⟩) else if (parseF ⟨m.toArray⟩).isSome = true then (0, ⟨3, l, t + 1, []⟩) else (2, zeroC) by
    unfold lineS
    rw [if_neg (show ¬ (3 : Int) = 0 by decide), if_neg (show ¬ (3 : Int) = 2 by decide), if_pos (show (3 : Int) = 3 from rfl)]
    have e : ((⟨m.toArray⟩ : ByteArray).size = 0) = (m = []) := by
      show (m.toArray.size = 0) = _
      rw [List.size_toArray]; simp
    simp only [e])
  have hye := empty_m m
  go_enter Tryd.func26, Tryd.ntmps26
  go_wp2_with fail
  rw [← HW2.out]
  refine (refParse_any ⟨m.toArray⟩ W2 hys).mono ?_
  rintro e w3 ⟨he, hb3⟩
  generalize parseF ⟨m.toArray⟩ = pf at *
  have HBP := Box.mk (below_trans HB2.out hb3)
  have HRP := Box.mk (HR2.out.keep hb3)
  have HCP := Box.mk (HC2.out.keep hb3)
  clear hb3 HB2 HR2 HC2 HW2 hcv hcz hcap hys
  generalize (⟨m.toArray⟩ : ByteArray) = y at *
  cases pf with
  | some f =>
    simp only [parseV] at he
    subst he
    have hb4 := below_oneF w3 (.cells #[.string f.1, .string f.2] 67)
    have HB4 := Box.mk (below_trans HBP.out hb4)
    have HR4 := Box.mk (HRP.out.keep hb4)
    have HC4 := Box.mk (HCP.out.keep hb4)
    have hlt := HCP.out.lt
    obtain ⟨hd0, hd1, hd2, hd3⟩ := HCP.out.cells
    by_cases hm : m = []
    · have hyb : y.toList.isEmpty = true := by rw [hye, hm]; rfl
      have HP := Box.mk (show lineS ⟨3, l, t + 1, []⟩ y = (0, ⟨4, l, t + 1, []⟩) by rw [HLS.out, if_pos hm])
      have hf4 := HCP.out.frozen (i := 0)
      have HC5 := Box.mk (HCP.out.setP (z := 4))
      obtain ⟨hf0, hf1, hf2, hf3⟩ := HC5.out.cells
      have hb5 := below_oneF (w3.setCell ⟨w.heap.size, 0, none⟩ (.int .i64 4)) (.cells #[.string f.1, .string f.2] 67)
      have HR5 := Box.mk ((HRP.out.other (x := ⟨w.heap.size, 0, none⟩) (u := .int .i64 4) (by show w.heap.size + 1 ≠ w.heap.size; omega)).keep hb5)
      have HB5 := Box.mk (below_trans (HBP.out.setCell (p := ⟨w.heap.size, 0, none⟩) (Nat.le_refl _) (.int .i64 4)) hb5)
      clear hye hm HLS
      go_wp2_with (refine wpList_store_row rfl 27 _ _ rfl (w.heap.size + 1) #[.int .i64 4, .int .i64 l, .int .i64 (t + 1), .slice none 0 0] rfl rfl 27 _ HR5.out sizeC rfl (oneC _ _ _ _ _ _) ?_)
      (try simp only [Exit.inBlock, Exit.then])
      refine bodyPost_ret (results_row_tmpF rfl _ _ (w.heap.size + 1) _ _ _ _ rfl (setRow_heap _ _ _ _ _ _ HR5.out) Tryd.underlying27 rfl sizeC) rfl ?_
      exact RetStep.ok rfl HP.out rfl (.inl ⟨rfl, rfl, rfl⟩) (below_setRow HB5.out (by omega) _)
    · have hyb : y.toList.isEmpty = false := by
        rw [hye]
        cases m with
        | nil => exact absurd rfl hm
        | cons _ _ => rfl
      have HP := Box.mk (show lineS ⟨3, l, t + 1, []⟩ y = (0, ⟨3, l, t + 1, []⟩) by rw [HLS.out, if_neg hm]; rfl)
      clear hye hm HLS
      go_wp2_with (refine wpList_store_row rfl 27 _ _ rfl (w.heap.size + 1) #[.int .i64 3, .int .i64 l, .int .i64 (t + 1), .slice none 0 0] rfl rfl 27 _ HR4.out sizeC rfl (oneC _ _ _ _ _ _) ?_)
      (try simp only [Exit.inBlock, Exit.then])
      refine bodyPost_ret (results_row_tmpF rfl _ _ (w.heap.size + 1) _ _ _ _ rfl (setRow_heap _ _ _ _ _ _ HR4.out) Tryd.underlying27 rfl sizeC) rfl ?_
      exact RetStep.ok rfl HP.out rfl (.inl ⟨rfl, rfl, rfl⟩) (below_setRow HB4.out (by omega) _)
  | none =>
    simp only [parseV] at he
    subst he
    have hb4 := below_oneF w3 (.cells #[.string ⟨#[]⟩, .string ⟨#[]⟩] 67)
    have HB4 := Box.mk (below_trans HBP.out hb4)
    have HR4 := Box.mk (HRP.out.keep hb4)
    have HC4 := Box.mk (HCP.out.keep hb4)
    have hlt := HCP.out.lt
    obtain ⟨hd0, hd1, hd2, hd3⟩ := HCP.out.cells
    by_cases hm : m = []
    · have hyb : y.toList.isEmpty = true := by rw [hye, hm]; rfl
      have HP := Box.mk (show lineS ⟨3, l, t + 1, []⟩ y = (0, ⟨4, l, t + 1, []⟩) by rw [HLS.out, if_pos hm])
      have hf4 := HCP.out.frozen (i := 0)
      have HC5 := Box.mk (HCP.out.setP (z := 4))
      obtain ⟨hf0, hf1, hf2, hf3⟩ := HC5.out.cells
      have hb5 := below_oneF (w3.setCell ⟨w.heap.size, 0, none⟩ (.int .i64 4)) (.cells #[.string ⟨#[]⟩, .string ⟨#[]⟩] 67)
      have HR5 := Box.mk ((HRP.out.other (x := ⟨w.heap.size, 0, none⟩) (u := .int .i64 4) (by show w.heap.size + 1 ≠ w.heap.size; omega)).keep hb5)
      have HB5 := Box.mk (below_trans (HBP.out.setCell (p := ⟨w.heap.size, 0, none⟩) (Nat.le_refl _) (.int .i64 4)) hb5)
      clear hye hm HLS
      go_wp2_with (refine wpList_store_row rfl 27 _ _ rfl (w.heap.size + 1) #[.int .i64 4, .int .i64 l, .int .i64 (t + 1), .slice none 0 0] rfl rfl 27 _ HR5.out sizeC rfl (oneC _ _ _ _ _ _) ?_)
      (try simp only [Exit.inBlock, Exit.then])
      refine bodyPost_ret (results_row_tmpF rfl _ _ (w.heap.size + 1) _ _ _ _ rfl (setRow_heap _ _ _ _ _ _ HR5.out) Tryd.underlying27 rfl sizeC) rfl ?_
      exact RetStep.ok rfl HP.out rfl (.inl ⟨rfl, rfl, rfl⟩) (below_setRow HB5.out (by omega) _)
    · have hyb : y.toList.isEmpty = false := by
        rw [hye]
        cases m with
        | nil => exact absurd rfl hm
        | cons _ _ => rfl
      have HP := Box.mk (show lineS ⟨3, l, t + 1, []⟩ y = (2, zeroC) by rw [HLS.out, if_neg hm]; rfl)
      clear hye hm HLS
      go_wp2_with (refine wpList_store_row rfl 27 _ _ rfl (w.heap.size + 1) #[.int .i64 3, .int .i64 l, .int .i64 (t + 1), .slice none 0 0] rfl rfl 27 _ HR4.out sizeC rfl (oneC _ _ _ _ _ _) ?_)
      (try simp only [Exit.inBlock, Exit.then])
      refine bodyPost_ret (results_row_tmpF rfl _ _ (w.heap.size + 1) _ _ _ _ rfl (setRow_heap _ _ _ _ _ _ HR4.out) Tryd.underlying27 rfl sizeC) rfl ?_
      exact RetStep.err rfl HP.out (by decide) (below_setRow HB4.out (by omega) _)

set_option maxRecDepth 100000 in
set_option maxHeartbeats 4000000 in
theorem refStep_cr0 (l t : Int) (m : List UInt8) (ad : Addr) (lc : Nat) (w : World) (h : IsBytes w (some ad) (m ++ [13]) lc) (hl : m.length ≤ 1000) :
    Calls Tryd.prog 26 #[.agg #[.int .i64 0, .int .i64 l, .int .i64 t, .slice (some ad) (m.length + 1) lc], .int .u8 10] w (RetStep w (lineS ⟨0, l, t, []⟩ ⟨m.toArray⟩)) := by
  have hcap : m.length + 1 ≤ lc := by
    rcases h with ⟨e, _⟩ | ⟨y, e, h1, _, _⟩
    · cases e
    · simpa using h1
  have hcz : w.cell? (ad.add m.length) = some (.int .u8 13) := by
    rcases h with ⟨e, _⟩ | ⟨y, e, _, _, hc⟩
    · cases e
    · obtain rfl := Option.some.inj e
      have := hc m.length (by simp)
      simpa using this
  have hbl : (ad.add m.length).block < w.heap.size := lt_cell hcz
  have hcv : (convert 23 9 (.slice (some ad) m.length lc)).run Tryd.prog ((w.alloc (.cells #[.int .i64 0, .int .i64 l, .int .i64 t, .slice (some ad) (m.length + 1) lc] 27)).alloc (.cells #[.int .i64 0, .int .i64 0, .int .i64 0, .slice none 0 0] 27)) = .ok (.string ⟨m.toArray⟩) ((w.alloc (.cells #[.int .i64 0, .int .i64 l, .int .i64 t, .slice (some ad) (m.length + 1) lc] 27)).alloc (.cells #[.int .i64 0, .int .i64 0, .int .i64 0, .slice none 0 0] 27)) := conv_bytes (isBytes_front (h.keep (below_twoF (below_oneF w _) _)))
  obtain ⟨W2, hW2⟩ : ∃ W2, W2 = (w.alloc (.cells #[.int .i64 0, .int .i64 l, .int .i64 t, .slice none 0 0] 27)).alloc (.cells #[.int .i64 0, .int .i64 0, .int .i64 0, .slice none 0 0] 27) := ⟨_, rfl⟩
  have HB2 := Box.mk (show Below w.heap.size w W2 by rw [hW2]; exact below_twoF (below_oneF w _) _)
  have HR2 := Box.mk (show CVar W2 (w.heap.size + 1) 0 0 0 (.slice none 0 0) by
    have h := heap_alloc_new (w.alloc (.cells #[.int .i64 0, .int .i64 l, .int .i64 t, .slice none 0 0] 27)) (.cells #[.int .i64 0, .int .i64 0, .int .i64 0, .slice none 0 0] 27)
    rw [World.size_alloc] at h; rw [hW2]; exact h)
  have HC2 := Box.mk (show CVar W2 w.heap.size 0 l t (.slice none 0 0) by
    rw [hW2]; exact CVar.keep (heap_alloc_new _ _) (below_oneF _ _))
  have HW2 := Box.mk hW2
  clear h hW2
  have hys : (⟨m.toArray⟩ : ByteArray).size ≤ 1000 := by
    show m.toArray.size ≤ 1000
    rw [List.size_toArray]; omega
  go_enter Tryd.func26, Tryd.ntmps26
  go_wp2_with fail
  rw [← HW2.out]
  generalize (⟨m.toArray⟩ : ByteArray) = y at *
  refine (refSplit_any y 59 W2 (by omega)).mono ?_
  rintro e w3 ⟨gs, cs, rfl, hg1, hg2, hst, hb3⟩
  have hpos := splitS_pos 59 y
  obtain ⟨b0, o0, e0, hc0⟩ := hst 0 hpos
  rw [← szS_at] at hc0
  injection e0 with e0
  injection e0 with e1 e2
  subst e1 e2
  have hzz := szS_small y
  have HB3 := Box.mk (below_trans HB2.out hb3)
  have HR3 := Box.mk (HR2.out.keep hb3)
  have HC3 := Box.mk (HC2.out.keep hb3)
  have hlt := HC3.out.lt
  have HYS := Box.mk (show y.size ≤ maxLen ∧ (szS y).size ≤ maxLen by unfold maxLen; omega)
  have HSB := Box.mk (fun h => lineS_bad (l := l) (t := t) (y := y) h)
  have HSS := Box.mk (fun h h0 => lineS_size (l := l) (t := t) (y := y) h h0)
  have HSG := Box.mk (fun h h0 => lineS_big (l := l) (t := t) (y := y) h h0)
  clear hb3 HB2 HR2 HC2 HW2 hcv hcz hcap hst hg1 hg2 hzz hys
  generalize (splitS 59 y).length = ns at *
  go_wp2_with fail
  refine (refParseHex_any (szS y) 1000000000 _ HYS.out.2 (by decide) (by decide)).mono ?_
  rintro e w4 ⟨he, rfl⟩
  generalize parseS 16 1000000000 (szS y) = pp at *
  obtain ⟨n, er⟩ := pp
  simp only [] at HSB HSS HSG
  subst he
  obtain ⟨hd0, hd1, hd2, hd3⟩ := HC3.out.cells
  by_cases h2 : er = 2
  · have HP := Box.mk (HSB.out (.inl h2))
    have e2 : (er == 2) = true := by rw [h2]; rfl
    clear HSB HSS HSG h2
    go_wp2_with (refine wpList_store_row rfl 27 _ _ rfl (w.heap.size + 1) #[.int .i64 0, .int .i64 l, .int .i64 t, .slice none 0 0] rfl rfl 27 _ HR3.out sizeC rfl (oneC _ _ _ _ _ _) ?_)
    (try simp only [Exit.inBlock, Exit.then])
    refine bodyPost_ret (results_row_tmpF rfl _ _ (w.heap.size + 1) _ _ _ _ rfl (setRow_heap _ _ _ _ _ _ HR3.out) Tryd.underlying27 rfl sizeC) rfl ?_
    exact RetStep.err rfl HP.out (by decide) (below_setRow HB3.out (by omega) _)
  · have e2 : (er == 2) = false := by rw [beq_eq_false_iff_ne]; exact h2
    go_wp2_with fail
    refine (visible_any y _ HYS.out.1).mono ?_
    rintro e w4 ⟨he, rfl⟩
    cases hv : visS y with
    | false =>
      have HP := Box.mk (HSB.out (.inr hv))
      rw [hv] at he
      subst he
      clear HSB HSS HSG h2 hv
      go_wp2_with (refine wpList_store_row rfl 27 _ _ rfl (w.heap.size + 1) #[.int .i64 0, .int .i64 l, .int .i64 t, .slice none 0 0] rfl rfl 27 _ HR3.out sizeC rfl (oneC _ _ _ _ _ _) ?_)
      (try simp only [Exit.inBlock, Exit.then])
      refine bodyPost_ret (results_row_tmpF rfl _ _ (w.heap.size + 1) _ _ _ _ rfl (setRow_heap _ _ _ _ _ _ HR3.out) Tryd.underlying27 rfl sizeC) rfl ?_
      exact RetStep.err rfl HP.out (by decide) (below_setRow HB3.out (by omega) _)
    | true =>
      rw [hv] at he
      subst he
      have hnot : ¬ (er = 2 ∨ visS y = false) := by
        rintro (h | h)
        · exact h2 h
        · rw [hv] at h; cases h
      by_cases h0 : er = 0
      · have HP0 := Box.mk (HSS.out hnot h0)
        have e0 : (er != 0) = false := by rw [h0]; rfl
        have hf0 := HC3.out.frozen (i := 0)
        have HC4 := Box.mk (HC3.out.setP (z := 1))
        have hf1 := HC4.out.frozen (i := 1)
        obtain ⟨ha0, ha1, ha2, ha3⟩ := HC4.out.cells
        have HC5 := Box.mk (HC4.out.setL (z := n))
        have hf2 := HC5.out.frozen (i := 0)
        obtain ⟨hb0, hb1, hb2, hb3⟩ := HC5.out.cells
        have HR5 := Box.mk ((HR3.out.other (x := ⟨w.heap.size, 0, none⟩) (u := .int .i64 1) (by show w.heap.size + 1 ≠ w.heap.size; omega)).other (x := ⟨w.heap.size, 1, none⟩) (u := .int .i64 n) (by show w.heap.size + 1 ≠ w.heap.size; omega))
        have HB5 := Box.mk ((HB3.out.setCell (p := ⟨w.heap.size, 0, none⟩) (Nat.le_refl _) (.int .i64 1)).setCell (p := ⟨w.heap.size, 1, none⟩) (Nat.le_refl _) (.int .i64 n))
        clear HSB HSS HSG h2 hv hnot h0
        by_cases hn : n = 0
        · have HP := Box.mk (show lineS ⟨0, l, t, []⟩ y = (0, ⟨3, n, t, []⟩) by rw [HP0.out, if_pos hn])
          have en : (n == 0) = true := by rw [hn]; rfl
          have HC6 := Box.mk (HC5.out.setP (z := 3))
          obtain ⟨hg0, hg1, hg2, hg3⟩ := HC6.out.cells
          have HR6 := Box.mk (HR5.out.other (x := ⟨w.heap.size, 0, none⟩) (u := .int .i64 3) (by show w.heap.size + 1 ≠ w.heap.size; omega))
          have HB6 := Box.mk (HB5.out.setCell (p := ⟨w.heap.size, 0, none⟩) (Nat.le_refl _) (.int .i64 3))
          clear HP0 hn
          go_wp2_with (refine wpList_store_row rfl 27 _ _ rfl (w.heap.size + 1) #[.int .i64 3, .int .i64 n, .int .i64 t, .slice none 0 0] rfl rfl 27 _ HR6.out sizeC rfl (oneC _ _ _ _ _ _) ?_)
          (try simp only [Exit.inBlock, Exit.then])
          refine bodyPost_ret (results_row_tmpF rfl _ _ (w.heap.size + 1) _ _ _ _ rfl (setRow_heap _ _ _ _ _ _ HR6.out) Tryd.underlying27 rfl sizeC) rfl ?_
          exact RetStep.ok rfl HP.out rfl (.inl ⟨rfl, rfl, rfl⟩) (below_setRow HB6.out (by omega) _)
        · have HP := Box.mk (show lineS ⟨0, l, t, []⟩ y = (0, ⟨1, n, t, []⟩) by rw [HP0.out, if_neg hn])
          have en : (n == 0) = false := by rw [beq_eq_false_iff_ne]; exact hn
          clear HP0 hn
          go_wp2_with (refine wpList_store_row rfl 27 _ _ rfl (w.heap.size + 1) #[.int .i64 1, .int .i64 n, .int .i64 t, .slice none 0 0] rfl rfl 27 _ HR5.out sizeC rfl (oneC _ _ _ _ _ _) ?_)
          (try simp only [Exit.inBlock, Exit.then])
          refine bodyPost_ret (results_row_tmpF rfl _ _ (w.heap.size + 1) _ _ _ _ rfl (setRow_heap _ _ _ _ _ _ HR5.out) Tryd.underlying27 rfl sizeC) rfl ?_
          exact RetStep.ok rfl HP.out rfl (.inl ⟨rfl, rfl, rfl⟩) (below_setRow HB5.out (by omega) _)
      · have HP := Box.mk (HSG.out hnot h0)
        have HE0 := Box.mk h0
        have e0 : (er != 0) = true := by rw [bne_iff_ne]; exact h0
        clear HSB HSS HSG h2 hv hnot h0
        go_wp2_with (refine wpList_store_row rfl 27 _ _ rfl (w.heap.size + 1) #[.int .i64 0, .int .i64 l, .int .i64 t, .slice none 0 0] rfl rfl 27 _ HR3.out sizeC rfl (oneC _ _ _ _ _ _) ?_)
        (try simp only [Exit.inBlock, Exit.then])
        refine bodyPost_ret (results_row_tmpF rfl _ _ (w.heap.size + 1) _ _ _ _ rfl (setRow_heap _ _ _ _ _ _ HR3.out) Tryd.underlying27 rfl sizeC) rfl ?_
        exact RetStep.err rfl HP.out HE0.out (below_setRow HB3.out (by omega) _)
end Go.Proofs.YtbplpfcgmmflnaaDoor
namespace Go.Proofs.YtbplpfcgmmflnaaDoor
open Go.RowKit

theorem parse_range (s : ByteArray) : 0 ≤ (parseS 16 1000000000 s).1 ∧ (parseS 16 1000000000 s).1 ≤ 1000000000 ∧ ((parseS 16 1000000000 s).2 = 0 ∨ (parseS 16 1000000000 s).2 = 2 ∨ (parseS 16 1000000000 s).2 = 3) := by
  unfold parseS
  split
  · rename_i h
    have hne : s.data.toList ≠ [] := by
      intro e
      unfold numS at h
      rw [e] at h; simp at h
    have h1 := vgo_ge 16 (by decide) s.data.toList 0 (by decide)
    rw [pgo_eq 16 1000000000 (by decide) _ 0 (by decide) (.inr hne)]
    split
    · exact ⟨h1, by assumption, .inl rfl⟩
    · exact ⟨by decide, by decide, .inr (.inr rfl)⟩
  · exact ⟨by decide, by decide, .inr (.inl rfl)⟩

/-- A state that the decoder comes to. -/
structure OkC (s : Chk) : Prop where
  ph : 0 ≤ s.ph ∧ s.ph ≤ 4
  line : s.line.length ≤ 128 ∨ crB s.line = true ∧ s.line.length ≤ 129
  tr : 0 ≤ s.tr ∧ s.tr ≤ 1024
  tr0 : s.ph ≤ 2 → s.tr = 0
  data : s.ph = 1 → 1 ≤ s.left ∧ s.left ≤ 1000000000
  left : ¬ s.ph = 1 → s.left = 0
  empty : s.ph = 1 ∨ s.ph = 4 → s.line = []
theorem okC_mk {p l t : Int} {ln : List UInt8} (h1 : 0 ≤ p ∧ p ≤ 4) (h2 : ln.length ≤ 128 ∨ crB ln = true ∧ ln.length ≤ 129) (h3 : 0 ≤ t ∧ t ≤ 1024) (h4 : p ≤ 2 → t = 0) (h5 : p = 1 → 1 ≤ l ∧ l ≤ 1000000000) (h6 : ¬ p = 1 → l = 0) (h7 : p = 1 ∨ p = 4 → ln = []) : OkC ⟨p, l, t, ln⟩ := ⟨h1, h2, h3, h4, h5, h6, h7⟩
theorem isBytes_some {w : World} {a : Option Addr} {m : List UInt8} {z : UInt8} {c : Nat} (h : IsBytes w a (m ++ [z]) c) : ∃ ad, a = some ad := by
  rcases h with ⟨_, e, _⟩ | ⟨x, e, _⟩
  · simp at e
  · exact ⟨x, e⟩
theorem OkC.len {s : Chk} (h : OkC s) : s.line.length ≤ 129 := by
  rcases h.line with h | ⟨_, h⟩ <;> omega
theorem okC_zero : OkC zeroC := ⟨by decide, .inl (by decide), by decide, fun _ => rfl, fun h => absurd h (by decide), fun _ => rfl, fun _ => rfl⟩
theorem okC_line {s : Chk} {y : ByteArray} (h : OkC s) (hl : s.line = []) (h1 : ¬ s.ph = 1) (h0 : (lineS s y).1 = 0) : OkC (lineS s y).2 := by
  obtain ⟨p, l, t, ln⟩ := s
  simp only [] at hl h1
  subst hl
  have hp := h.ph
  have hlf := h.left h1
  simp only [] at hp hlf
  have hpr := parse_range (szS y)
  unfold lineS at h0 ⊢
  simp only [] at h0 ⊢
  by_cases e0 : p = 0
  · rw [if_pos e0] at h0 ⊢
    have ht := h.tr0 (by show p ≤ 2; omega)
    simp only [] at ht
    split at h0
    · simp at h0
    · rename_i hn
      rw [if_neg hn]
      split at h0
      · rename_i hz
        rw [if_pos hz]
        by_cases hn0 : (parseS 16 1000000000 (szS y)).1 = 0
        · simp only [if_pos hn0]
          exact okC_mk (by decide) (.inl (by decide)) (by omega) (fun h => absurd h (by decide)) (fun h => absurd h (by decide)) (fun _ => hn0) (fun _ => rfl)
        · simp only [if_neg hn0]
          exact okC_mk (by decide) (.inl (by decide)) (by omega) (fun _ => ht) (fun _ => by omega) (fun h => absurd rfl h) (fun _ => rfl)
      · rename_i hz
        exact absurd h0 hz
  · rw [if_neg e0] at h0 ⊢
    by_cases e2 : p = 2
    · rw [if_pos e2] at h0 ⊢
      have ht := h.tr0 (by show p ≤ 2; omega)
      simp only [] at ht
      split at h0
      · rename_i hs
        rw [if_pos hs]
        exact okC_mk (by decide) (.inl (by decide)) (by omega) (fun _ => ht) (fun h => absurd h (by decide)) (fun _ => hlf) (fun _ => rfl)
      · simp at h0
    · rw [if_neg e2] at h0 ⊢
      have htr := h.tr
      simp only [] at htr
      by_cases e3 : p = 3
      · rw [if_pos e3] at h0 ⊢
        split at h0
        · rename_i hs
          rw [if_pos hs]
          exact okC_mk (by decide) (.inl (by decide)) htr (fun h => absurd h (by decide)) (fun h => absurd h (by decide)) (fun _ => hlf) (fun _ => rfl)
        · rename_i hs
          rw [if_neg hs]
          split at h0
          · rename_i hf
            rw [if_pos hf]
            exact okC_mk (by decide) (.inl (by decide)) htr (fun h => absurd h (by decide)) (fun h => absurd h (by decide)) (fun _ => hlf) (fun _ => rfl)
          · simp at h0
      · rw [if_neg e3]
        exact okC_mk hp (.inl (by decide)) htr h.tr0 h.data h.left (fun _ => rfl)
theorem okC_byte {s : Chk} {t : Int} {x : UInt8} (h : OkC s) (h1 : ¬ s.ph = 1) (h4 : ¬ s.ph = 4) (ht : 0 ≤ t ∧ t ≤ 1024) (ht0 : s.ph ≤ 2 → t = 0) (h0 : (byteS s t x).1 = 0) : OkC (byteS s t x).2 := by
  unfold byteS at h0 ⊢
  by_cases hc : crB s.line = false
  · rw [if_pos hc] at h0 ⊢
    have hl : s.line.length ≤ 128 := by
      rcases h.line with h | ⟨h, _⟩
      · exact h
      · rw [hc] at h; cases h
    by_cases hx : x = 10
    · rw [if_pos hx] at h0; simp at h0
    · rw [if_neg hx] at h0 ⊢
      by_cases hb : 128 < s.line.length + 1 ∧ ¬ x = 13
      · rw [if_pos hb] at h0; simp at h0
      · rw [if_neg hb]
        refine ⟨h.ph, ?_, ht, ht0, h.data, h.left, fun e => ?_⟩
        · by_cases h13 : x = 13
          · exact .inr ⟨by show crB (s.line ++ [x]) = true; rw [crB_app, h13]; rfl, by show (s.line ++ [x]).length ≤ 129; simp; omega⟩
          · refine .inl ?_
            show (s.line ++ [x]).length ≤ 128
            simp
            have : ¬ 128 < s.line.length + 1 := fun h => hb ⟨h, h13⟩
            omega
        · rcases e with e | e
          · exact absurd e h1
          · exact absurd e h4
  · rw [if_neg hc] at h0 ⊢
    by_cases hx : x = 10
    · rw [if_pos hx] at h0 ⊢
      exact okC_line ⟨h.ph, .inl (by show ([] : List UInt8).length ≤ 128; simp), ht, ht0, h.data, h.left, fun _ => rfl⟩ rfl h1 h0
    · rw [if_neg hx] at h0; simp at h0
theorem okC_step {s : Chk} {x : UInt8} (h : OkC s) (h1 : ¬ s.ph = 1) (h4 : ¬ s.ph = 4) (h0 : (stepS s x).1 = 0) : OkC (stepS s x).2 := by
  unfold stepS at h0 ⊢
  by_cases h3 : s.ph = 3
  · rw [if_pos h3] at h0 ⊢
    by_cases hm : 1024 < s.tr + 1
    · rw [if_pos hm] at h0; simp at h0
    · rw [if_neg hm] at h0 ⊢
      exact okC_byte h h1 h4 (by have := h.tr; omega) (fun e => by omega) h0
  · rw [if_neg h3] at h0 ⊢
    exact okC_byte h h1 h4 h.tr h.tr0 h0
theorem okC_data {s : Chk} (h : OkC s) (h1 : s.ph = 1) : OkC ⟨if s.left - 1 = 0 then 2 else 1, s.left - 1, s.tr, s.line⟩ := by
  have hd := h.data h1
  by_cases e : s.left - 1 = 0
  · simp only [if_pos e]
    exact okC_mk (by decide) h.line h.tr (fun _ => h.tr0 (by omega)) (fun h => absurd h (by decide)) (fun _ => e) (fun _ => h.empty (.inl h1))
  · simp only [if_neg e]
    exact okC_mk (by decide) h.line h.tr (fun _ => h.tr0 (by omega)) (fun _ => by omega) (fun h => absurd rfl h) (fun _ => h.empty (.inl h1))
set_option maxRecDepth 100000 in
set_option maxHeartbeats 4000000 in
theorem refStep_full (l t : Int) (a : Option Addr) (n c : Nat) (x : UInt8) (w : World) (s : Chk) (hs : s.ph = 3) (hst : s.tr = t) (ht0 : 0 ≤ t ∧ t ≤ 1024) (ht : 1024 < t + 1) :
    Calls Tryd.prog 26 #[.agg #[.int .i64 3, .int .i64 l, .int .i64 t, .slice a n c], .int .u8 x.toNat] w (RetStep w (stepS s x)) := by
  have HP := Box.mk (show stepS s x = (3, zeroC) by unfold stepS; rw [if_pos hs, hst, if_pos ht])
  obtain ⟨W2, hW2⟩ : ∃ W2, W2 = (w.alloc (.cells #[.int .i64 3, .int .i64 l, .int .i64 (t + 1), .slice a n c] 27)).alloc (.cells #[.int .i64 0, .int .i64 0, .int .i64 0, .slice none 0 0] 27) := ⟨_, rfl⟩
  have HB := Box.mk (below_twoF (below_oneF w (.cells #[.int .i64 3, .int .i64 l, .int .i64 (t + 1), .slice a n c] 27)) (.cells #[.int .i64 0, .int .i64 0, .int .i64 0, .slice none 0 0] 27))
  have HR := Box.mk (show CVar ((w.alloc (.cells #[.int .i64 3, .int .i64 l, .int .i64 (t + 1), .slice a n c] 27)).alloc (.cells #[.int .i64 0, .int .i64 0, .int .i64 0, .slice none 0 0] 27)) (w.heap.size + 1) 0 0 0 (.slice none 0 0) by
    have h := heap_alloc_new (w.alloc (.cells #[.int .i64 3, .int .i64 l, .int .i64 (t + 1), .slice a n c] 27)) (.cells #[.int .i64 0, .int .i64 0, .int .i64 0, .slice none 0 0] 27)
    rw [World.size_alloc] at h; exact h)
  clear hs hst hW2
  go_enter Tryd.func26, Tryd.ntmps26
  go_wp2_with (refine wpList_store_row rfl 27 _ _ rfl (w.heap.size + 1) #[.int .i64 3, .int .i64 l, .int .i64 (t + 1), .slice a n c] rfl rfl 27 _ HR.out sizeC rfl (oneC _ _ _ _ _ _) ?_)
  (try simp only [Exit.inBlock, Exit.then])
  refine bodyPost_ret (results_row_tmpF rfl _ _ (w.heap.size + 1) _ _ _ _ rfl (setRow_heap _ _ _ _ _ _ HR.out) Tryd.underlying27 rfl sizeC) rfl ?_
  exact RetStep.err rfl HP.out (by decide) (below_setRow HB.out (by omega) _)

theorem refStep_any (s : Chk) (x : UInt8) (la : Option Addr) (lc : Nat) (w : World) (h : IsBytes w la s.line lc) (hs : OkC s) (h1 : ¬ s.ph = 1) (h4 : ¬ s.ph = 4) :
    Calls Tryd.prog 26 #[.agg #[.int .i64 s.ph, .int .i64 s.left, .int .i64 s.tr, .slice la s.line.length lc], .int .u8 x.toNat] w (RetStep w (stepS s x)) := by
  have hlen := hs.len
  have htr := hs.tr
  have hph := hs.ph
  obtain ⟨p, l, t, ln⟩ := s
  simp only [] at h hlen htr h1 h4 hph ⊢
  clear hs
  by_cases hp : p = 3
  · subst hp
    by_cases hm : 1024 < t + 1
    · exact refStep_full l t la ln.length lc x w ⟨3, l, t, ln⟩ rfl rfl htr hm
    · have e : stepS ⟨3, l, t, ln⟩ x = byteS ⟨3, l, t, ln⟩ (t + 1) x := by unfold stepS; rw [if_pos rfl, if_neg hm]
      rw [e]
      rcases last_cases ln with rfl | ⟨m, z, rfl⟩
      · exact refStep_nil3 l t la x lc w h htr.1 (by omega)
      · have hml : (m ++ [z]).length = m.length + 1 := by simp
        rw [hml] at hlen ⊢
        obtain ⟨ad, rfl⟩ := isBytes_some h
        by_cases hz : z = 13
        · subst hz
          by_cases hx : x = 10
          · subst hx
            rw [byteS_line]
            exact refStep_cr3 l t m ad lc w h (by omega) htr.1 (by omega)
          · exact refStep_crbad3 l t m ad x lc w h (by omega) htr.1 (by omega) hx
        · exact refStep_open3 l t m z ad x lc w h hz (by omega) htr.1 (by omega)
  · have e : stepS ⟨p, l, t, ln⟩ x = byteS ⟨p, l, t, ln⟩ t x := by unfold stepS; rw [if_neg hp]
    rw [e]
    rcases last_cases ln with rfl | ⟨m, z, rfl⟩
    · exact refStep_nil p l t la x lc w h hp
    · have hml : (m ++ [z]).length = m.length + 1 := by simp
      rw [hml] at hlen ⊢
      obtain ⟨ad, rfl⟩ := isBytes_some h
      by_cases hz : z = 13
      · subst hz
        by_cases hx : x = 10
        · subst hx
          rw [byteS_line]
          by_cases h0 : p = 0
          · subst h0; exact refStep_cr0 l t m ad lc w h (by omega)
          · by_cases h2 : p = 2
            · subst h2; exact refStep_cr2 l t m ad lc w h (by omega)
            · exact refStep_crX p l t m ad lc w h (by omega) h0 h2 hp
        · exact refStep_crbad p l t m ad x lc w h (by omega) hx hp
      · exact refStep_open p l t m z ad x lc w h hz (by omega) hp
end Go.Proofs.YtbplpfcgmmflnaaDoor
namespace Go.Proofs.YtbplpfcgmmflnaaDoor
open Go.RowKit

theorem results_row_tmp3C {P : Program} {fn : Func} {q1 q2 q3 p : Tmp} {ty : TypeId} (h : fn.results = #[.cell p ty, .tmp q1, .tmp q2, .tmp q3]) (tmps : Array Value) (w : World) (g : Nat) (t : TypeId) (cs : Array Value) (fr : Nat × Nat) (d : TypeDesc)
    (hp : tmps.getD p undef = .pointer (some ⟨g, 0, none⟩)) (hg : w.heap[g]? = some (.cells cs t fr))
    (hu : P.underlying ty = some d) (hd : (match d with | .struct _ | .array _ _ => true | _ => false) = true) (hi : (P.info? ty).map (·.size) = some cs.size) :
    (results fn tmps).run P w = .ok (.tuple #[.agg cs, tmps.getD q1 undef, tmps.getD q2 undef, tmps.getD q3 undef]) w := by
  have hp' : tmps[p]?.getD undef = .pointer (some ⟨g, 0, none⟩) := by simpa using hp
  simp [results, h, hp', asAddr, run_loadVar_row w g t ty cs fr d hg hu hd hi]

/-- What Feed returns. -/
def RetFeed (w : World) (r : Int × Chk × List UInt8 × Nat) (e : Ending) (w' : World) : Prop :=
  ∃ a c oa oc, e = .returned (.tuple #[.agg #[.int .i64 r.2.1.ph, .int .i64 r.2.1.left, .int .i64 r.2.1.tr, .slice a r.2.1.line.length c], .slice oa r.2.2.1.length oc, .int .i64 r.2.2.2, .int .i64 r.1]) ∧ IsBytes w' a r.2.1.line c ∧ IsBytes w' oa r.2.2.1 oc ∧ Below w.heap.size w w'
theorem feedS_nil (room : Int) (s : Chk) (out : List UInt8) (i : Nat) : feedS room s out i [] = (0, s, out, i) := rfl
theorem feedS_stop {room : Int} {s : Chk} {out : List UInt8} {i : Nat} {x : UInt8} {r : List UInt8} (h : s.ph = 4 ∨ s.ph = 1 ∧ room ≤ out.length) : feedS room s out i (x :: r) = (0, s, out, i) := by rw [feedS, if_pos h]
theorem feedS_data {room : Int} {s : Chk} {out : List UInt8} {i : Nat} {x : UInt8} {r : List UInt8} (h1 : s.ph = 1) (h : ¬ room ≤ out.length) : feedS room s out i (x :: r) = feedS room ⟨if s.left - 1 = 0 then 2 else 1, s.left - 1, s.tr, s.line⟩ (out ++ [x]) (i + 1) r := by
  rw [feedS, if_neg (by rintro (h4 | h4); · omega
                        · exact h h4.2), if_pos h1]
theorem feedS_ok {room : Int} {s : Chk} {out : List UInt8} {i : Nat} {x : UInt8} {r : List UInt8} (h4 : ¬ s.ph = 4) (h1 : ¬ s.ph = 1) (h0 : (stepS s x).1 = 0) : feedS room s out i (x :: r) = feedS room (stepS s x).2 out (i + 1) r := by
  rw [feedS, if_neg (by rintro (h | h); · exact h4 h
                        · exact h1 h.1), if_neg h1, if_pos h0]
theorem feedS_err {room : Int} {s : Chk} {out : List UInt8} {i : Nat} {x : UInt8} {r : List UInt8} (h4 : ¬ s.ph = 4) (h1 : ¬ s.ph = 1) (h0 : ¬ (stepS s x).1 = 0) : feedS room s out i (x :: r) = ((stepS s x).1, zeroC, [], 0) := by
  rw [feedS, if_neg (by rintro (h | h); · exact h4 h
                        · exact h1 h.1), if_neg h1, if_neg h0]
theorem add_blockC (x : Addr) (j : Nat) : (x.add j).block = x.block := by unfold Addr.add; split <;> rfl
theorem bytes_nil (w : World) (a : Option Addr) (c : Nat) {w0 : World} (h : IsBytes w0 a [] c) : IsBytes w a [] c := by
  rcases h with h | ⟨x, e, h1, h2, _⟩
  · exact .inl h
  · exact .inr ⟨x, e, h1, h2, fun j hj => absurd hj (Nat.not_lt_zero _)⟩
theorem isBytes_at {w : World} {a : Option Addr} {l : List UInt8} {c : Nat} (h : IsBytes w a l c) {k : Nat} (hk : k < l.length) : ∃ ad, a = some ad ∧ w.cell? (ad.add k) = some (.int .u8 (l[k].toNat : Int)) := by
  rcases h with ⟨_, e, _⟩ | ⟨x, e, _, _, hc⟩
  · subst e; simp at hk
  · exact ⟨x, e, hc k hk⟩
theorem CVar.away {w : World} {g : Nat} {p lf t : Int} {va : Option Addr} {n vc : Nat} {a : Option Addr} {l : List UInt8} {c : Nat} (h : CVar w g p lf t (.slice va n vc)) (hb : IsBytes w a l c) : ∀ x, a = some x → l ≠ [] → x.block ≠ g := by
  intro x hx hl hg
  rcases hb with ⟨h1, _⟩ | ⟨y, h1, _, _, h4⟩
  · rw [h1] at hx; cases hx
  · rw [h1] at hx
    obtain rfl := Option.some.inj hx
    have h5 := h4 0 (List.length_pos_iff.2 hl)
    have h6 : w.heap[(y.add 0).block]? = some (.cells #[.int .i64 p, .int .i64 lf, .int .i64 t, .slice va n vc] 27 (0, 0)) := by rw [add_blockC, hg]; exact h
    unfold World.cell? at h5
    rw [h6] at h5
    simp only at h5
    split at h5
    · cases h5
    · match hq : (y.add 0).off with
      | 0 => rw [hq] at h5; simp at h5
      | 1 => rw [hq] at h5; simp at h5
      | 2 => rw [hq] at h5; simp at h5
      | 3 => rw [hq] at h5; simp at h5
      | m + 4 => rw [hq] at h5; simp at h5
theorem CVar.setRB {w : World} {g : Nat} {p lf t : Int} {va : Option Addr} {n vc : Nat} {a : Option Addr} {l : List UInt8} {c : Nat} (h : CVar w g p lf t (.slice va n vc)) (hb : IsBytes w a l c) (cs : Array Value) : IsBytes (w.setRow g cs) a l c :=
  hb.same fun x hx hl => setRow_other _ _ _ _ (h.away hb x hx hl)
theorem CVar.setCB {w : World} {g i : Nat} {p lf t : Int} {va : Option Addr} {n vc : Nat} {a : Option Addr} {l : List UInt8} {c : Nat} {u : Value} (h : CVar w g p lf t (.slice va n vc)) (hb : IsBytes w a l c) : IsBytes (w.setCell ⟨g, i, none⟩ u) a l c :=
  hb.same fun x hx hl => heap_setCell_other _ _ _ _ (h.away hb x hx hl)
theorem CVar.row {w : World} {g k : Nat} {p l t : Int} {v : Value} {cs : Array Value} (h : CVar w g p l t v) (hne : g ≠ k) : CVar (w.setRow k cs) g p l t v := by
  unfold CVar; rw [setRow_other _ _ _ _ hne]; exact h
theorem CVar.set4 {w : World} {g : Nat} {p0 l0 t0 p l t : Int} {v0 u : Value} (h : CVar w g p0 l0 t0 v0) : CVar ((((w.setCell ⟨g, 0, none⟩ (.int .i64 p)).setCell ⟨g, 1, none⟩ (.int .i64 l)).setCell ⟨g, 2, none⟩ (.int .i64 t)).setCell ⟨g, 3, none⟩ u) g p l t u := h.setP.setL.setT.setV
theorem CVar.set4B {w : World} {g : Nat} {p0 l0 t0 p l t : Int} {va : Option Addr} {n vc : Nat} {u : Value} {a : Option Addr} {r : List UInt8} {c : Nat} (h : CVar w g p0 l0 t0 (.slice va n vc)) (hb : IsBytes w a r c) :
    IsBytes ((((w.setCell ⟨g, 0, none⟩ (.int .i64 p)).setCell ⟨g, 1, none⟩ (.int .i64 l)).setCell ⟨g, 2, none⟩ (.int .i64 t)).setCell ⟨g, 3, none⟩ u) a r c :=
  h.setP.setL.setT.setCB (h.setP.setL.setCB (h.setP.setCB (h.setCB hb)))
theorem below_set4 {B g : Nat} {w0 w : World} {u0 u1 u2 u3 : Value} (hb : Below B w0 w) (hg : B ≤ g) : Below B w0 ((((w.setCell ⟨g, 0, none⟩ u0).setCell ⟨g, 1, none⟩ u1).setCell ⟨g, 2, none⟩ u2).setCell ⟨g, 3, none⟩ u3) :=
  (((hb.setCell (p := ⟨g, 0, none⟩) hg u0).setCell (p := ⟨g, 1, none⟩) hg u1).setCell (p := ⟨g, 2, none⟩) hg u2).setCell (p := ⟨g, 3, none⟩) hg u3
theorem isBytes_oneC (w : World) (x : UInt8) : IsBytes (w.alloc (.cells #[.int .u8 (x.toNat : Int)] 5)) (some ⟨w.heap.size, 0, none⟩) [x] 1 := by
  refine .inr ⟨_, rfl, Nat.le_refl _, by decide, fun j hj => ?_⟩
  obtain rfl : j = 0 := by simpa using hj
  rw [Addr.add_lit, new_cellF]; rfl
theorem CVar.grownC {w w' : World} {g : Nat} {p l t : Int} {v : Value} {row : Option Nat} (h : CVar w g p l t v) (hg : w.grownBy w' row) (hne : some g ≠ row) : CVar w' g p l t v := by
  unfold CVar at *
  rw [hg.block g (Array.getElem?_eq_some_iff.1 h).1 hne]; exact h
theorem grownBy_afterC {w w1 w2 : World} {row : Option Nat} (h : Below w.heap.size w w1) (k : w1.grownBy w2 row) : w.grownBy w2 row :=
  ⟨k.os.trans h.os, k.tape.trans h.tape, k.output.trans h.output, Nat.le_trans h.size k.size, fun i hi hne => (k.block i (Nat.lt_of_lt_of_le hi h.size) hne).trans (h.block i hi)⟩
theorem run_loadC {w : World} {g : Nat} {p l t : Int} {v : Value} (h : CVar w g p l t v) : (Instr.loadAt 27 (.pointer (some ⟨g, 0, none⟩))).run Tryd.prog w = .ok (.agg #[.int .i64 p, .int .i64 l, .int .i64 t, v]) w := by
  unfold CVar at h
  simp [Instr.loadAt, Instr.sureAddr, run_loadVar_row w g _ 27 _ _ _ h Tryd.underlying27 rfl sizeC]
theorem agg_u8C (w : World) : (isAgg 5).run Tryd.prog w = .ok false w := by
  unfold isAgg; rw [Sem.run_bind, run_underlying Tryd.underlying5 w]; rfl
/-- What the call of step leaves. -/
def StpV (r : Int × Chk) (w : World) (v : Value) : Prop := ∃ p l t a n c, v = .tuple #[.agg #[.int .i64 p, .int .i64 l, .int .i64 t, .slice a n c], .int .i64 r.1] ∧ (r.1 = 0 → p = r.2.ph ∧ l = r.2.left ∧ t = r.2.tr ∧ n = r.2.line.length ∧ IsBytes w a r.2.line c)
def AgcV (r : Int × Chk) (w : World) (v : Value) : Prop := ∃ p l t a n c, v = .agg #[.int .i64 p, .int .i64 l, .int .i64 t, .slice a n c] ∧ (r.1 = 0 → p = r.2.ph ∧ l = r.2.left ∧ t = r.2.tr ∧ n = r.2.line.length ∧ IsBytes w a r.2.line c)
def Spec.stp (r : Int × Chk) : Spec := ⟨fun v w => StpV r w v, fun _ _ _ h hb => by
  obtain ⟨p, l, t, a, n, c, h1, h2⟩ := h
  exact ⟨p, l, t, a, n, c, h1, fun e => ⟨(h2 e).1, (h2 e).2.1, (h2 e).2.2.1, (h2 e).2.2.2.1, (h2 e).2.2.2.2.keep hb⟩⟩⟩
def Spec.agc (r : Int × Chk) : Spec := ⟨fun v w => AgcV r w v, fun _ _ _ h hb => by
  obtain ⟨p, l, t, a, n, c, h1, h2⟩ := h
  exact ⟨p, l, t, a, n, c, h1, fun e => ⟨(h2 e).1, (h2 e).2.1, (h2 e).2.2.1, (h2 e).2.2.2.1, (h2 e).2.2.2.2.keep hb⟩⟩⟩
def Spec.tupE (er : Int) : Spec := ⟨fun v _ => ∃ u, v = .tuple #[u, .int .i64 er], fun _ _ _ h _ => h⟩
def Spec.nopeC : Spec := ⟨fun _ _ => False, fun _ _ _ h _ => h⟩
section
variable {Q : Exit → Act → World → Prop} {act : Act} {w : World} {o : Oper} {s : Spec} {K : Act → World → Prop}
theorem loc_index_b {x y : Operand} (ho : o.op = .indexAddr 23 x y) {ad : Addr} {n c k : Nat} (hx : act.eval x = .slice (some ad) n c) (hy : act.eval y = .int .i64 k) (hk : k < n) (hs : s.p (.pointer (some (ad.add k))) w) :
    o.wp Tryd.prog act w (fun a' w' => ∃ v, a' = act.put o.dst v ∧ Below w.heap.size w w' ∧ s.p v w') Q :=
  loc_run (v := .pointer (some (ad.add k))) (by
    have es : (sizeOf (Tryd.prog.elem 23)).run Tryd.prog w = .ok 1 w := by
      rw [show Tryd.prog.elem 23 = 5 by kernel_rfl]
      have h : (Tryd.prog.info? 5).map (·.size) = some 1 := by kernel_rfl
      cases hq : Tryd.prog.info? 5 with
      | none => rw [hq] at h; cases h
      | some i => rw [hq] at h; simp at h; simp [sizeOf, typeInfo, hq, h]
    have h := run_indexAt_slice (P := Tryd.prog) (w := w) 23 ad n c .i64 (k : Int) (by kernel_rfl)
    rw [if_pos ⟨by omega, by omega⟩, es] at h
    simp only [Result.andThen, Int.toNat_natCast, Nat.mul_one] at h
    unfold execOp
    simp only [ho, hx, hy, Sem.run_bind, h, Result.andThen_ok, Sem.run_pure]) (Below.refl _ _) hs
theorem loc_loadB {x : Operand} {t : TypeId} (ho : o.op = .load t x) {p : Addr} (hx : act.eval x = .pointer (some p)) {v : Value} (hc : w.cell? p = some v) (ht : (isAgg t).run Tryd.prog w = .ok false w) (hs : s.p v w) :
    o.wp Tryd.prog act w (fun a' w' => ∃ v, a' = act.put o.dst v ∧ Below w.heap.size w w' ∧ s.p v w') Q :=
  loc_load ho (v := v) (by
    rw [hx]
    simp [Instr.loadAt, Instr.sureAddr, loadVar, hc, ht]) hs
theorem loc_extractC0 {x : Operand} (ho : o.op = .extract x 0) {u v : Value} (hx : act.eval x = .tuple #[u, v]) (hs : s.p u w) :
    o.wp Tryd.prog act w (fun a' w' => ∃ v, a' = act.put o.dst v ∧ Below w.heap.size w w' ∧ s.p v w') Q :=
  loc_run (v := u) (by unfold execOp; simp [ho, hx, Instr.extract]) (Below.refl _ _) hs
theorem loc_extractC1 {x : Operand} (ho : o.op = .extract x 1) {u v : Value} (hx : act.eval x = .tuple #[u, v]) (hs : s.p v w) :
    o.wp Tryd.prog act w (fun a' w' => ∃ v, a' = act.put o.dst v ∧ Below w.heap.size w w' ∧ s.p v w') Q :=
  loc_run (v := v) (by unfold execOp; simp [ho, hx, Instr.extract]) (Below.refl _ _) hs
end
/-- In the loop: the state's variable, the result's, the bytes so far. -/
structure FeedJ (w : World) (g : Nat) (room : Int) (l : List UInt8) (s : Chk) (na : Option Addr) (nc : Nat) (out : List UInt8) (k : Nat) (v : Value) (W : World) : Prop where
  ok : OkC s
  eq : feedS room s out k (l.drop k) = feedS room s out k (l.drop k)
  var : CVar W g s.ph s.left s.tr (.slice na s.line.length nc)
  line : IsBytes W na s.line nc
  res : CVar W (g + 1) 0 0 0 (.slice none 0 0)
  own : Own (g + 2) W v out
  below : Below w.heap.size w W
  len : out.length ≤ k
section
variable {Q : Exit → Act → World → Prop} {act : Act} {w : World} {o : Oper} {s : Spec} {K : Act → World → Prop}
end
set_option maxRecDepth 100000 in
set_option maxHeartbeats 4000000 in
theorem refFeed_any (s : Chk) (l : List UInt8) (room : Int) (la ba : Option Addr) (lc bc : Nat) (w : World) (h : IsBytes w la s.line lc) (hb : IsBytes w ba l bc) (hs : OkC s) (hl : l.length ≤ 4000000000) :
    Calls Tryd.prog 13 #[.agg #[.int .i64 s.ph, .int .i64 s.left, .int .i64 s.tr, .slice la s.line.length lc], .slice ba l.length bc, .int .i64 room] w (RetFeed w (feedS room s [] 0 l)) := by
  obtain ⟨W2, hW2⟩ : ∃ W2, W2 = (w.alloc (.cells #[.int .i64 s.ph, .int .i64 s.left, .int .i64 s.tr, .slice la s.line.length lc] 27)).alloc (.cells #[.int .i64 0, .int .i64 0, .int .i64 0, .slice none 0 0] 27) := ⟨_, rfl⟩
  have hb0 : Below w.heap.size w W2 := by rw [hW2]; exact below_twoF (below_oneF w _) _
  have HJ := Box.mk (show FeedJ w w.heap.size room l s la lc [] 0 (.slice none 0 0) W2 from
    ⟨hs, rfl, by rw [hW2]; exact CVar.keep (heap_alloc_new _ _) (below_oneF _ _), h.keep hb0, by
      have h := heap_alloc_new (w.alloc (.cells #[.int .i64 s.ph, .int .i64 s.left, .int .i64 s.tr, .slice la s.line.length lc] 27)) (.cells #[.int .i64 0, .int .i64 0, .int .i64 0, .slice none 0 0] 27)
      rw [World.size_alloc] at h; rw [hW2]; exact h, Own.start _ _, hb0, Nat.le_refl _⟩)
  have HBB := Box.mk hb
  obtain ⟨R, hR⟩ : ∃ R, R = feedS room s [] 0 l := ⟨_, rfl⟩
  rw [← hR]
  have HEQ := Box.mk (show R = feedS room s [] 0 (l.drop 0) from hR)
  clear hR
  clear h hb hs hb0
  have HW2 := Box.mk hW2
  clear hW2
  go_enter Tryd.func13, Tryd.ntmps13
  go_wp2_with fail
  go_loopw [10, 11] (fun v iv wr => ∃ k : Nat, k ≤ l.length ∧ iv = .int .i64 k ∧ ∃ s1 na nc out, Box (FeedJ w w.heap.size room l s1 na nc out k v wr ∧ R = feedS room s1 out k (l.drop k))) (fun _ iv _ => l.length - (intOf iv).toNat)
  case atStart => exact ⟨0, Nat.zero_le _, rfl, s, la, lc, [], ⟨by rw [← HW2.out]; exact HJ.out, HEQ.out⟩⟩
  case round =>
    clear HJ HEQ HW2
    obtain ⟨k, hk, rfl, s1, na, nc, out, HM⟩ := hrel
    obtain ⟨oa, oc, rfl, hob⟩ := HM.out.1.own.val
    have HOB := Box.mk hob
    have HRR := Box.mk HM.out.1.res
    have HBE := Box.mk HM.out.1.below
    have HLI := Box.mk HM.out.1.line
    obtain ⟨hd0, hd1, hd2, hd3⟩ := HM.out.1.var.cells
    have hol : out.length ≤ k := HM.out.1.len
    have hszr := HM.out.1.below.size
    have hgl := HM.out.1.var.lt
    have HV := Box.mk HM.out.1.var
    have HOWN := Box.mk HM.out.1.own
    have HOK := Box.mk HM.out.1.ok
    have HEQM := Box.mk HM.out.2
    clear hob HM
    by_cases hlt : k < l.length
    · obtain ⟨bad, rfl, hbc⟩ := isBytes_at (HBB.out.keep HBE.out) hlt
      have HEQ2 := Box.mk (show R = feedS room s1 out k (l[k] :: l.drop (k + 1)) by rw [← List.drop_eq_getElem_cons hlt]; exact HEQM.out)
      generalize l[k] = x at *
      obtain ⟨hr0, hr1, hr2, hr3⟩ := HRR.out.cells
      have hz0 := HRR.out.frozen (i := 0)
      have hz1 := HRR.out.frozen (i := 1)
      have hz2 := HRR.out.frozen (i := 2)
      have hz3 := HRR.out.frozen (i := 3)
      by_cases h4 : s1.ph = 4
      · have e4 : (s1.ph == 4) = true := by rw [h4]; rfl
        have HP := Box.mk (show R = (0, s1, out, k) by rw [HEQ2.out, feedS_stop (.inl h4)])
        clear HEQ2 h4 HEQM
        go_wp2_with fail
        refine bodyPost_ret (results_row_tmp3C rfl _ _ (w.heap.size + 1) _ _ _ _ rfl HRR.out.set4 Tryd.underlying27 rfl sizeC) rfl ?_
        exact ⟨na, nc, oa, oc, by rw [HP.out]; rfl, by rw [HP.out]; exact HRR.out.set4B HLI.out, by rw [HP.out]; exact HRR.out.set4B HOB.out, below_set4 HBE.out (by omega)⟩
      · have e4 : (s1.ph == 4) = false := by rw [beq_eq_false_iff_ne]; exact h4
        by_cases h1 : s1.ph = 1
        · have e1 : (s1.ph == 1) = true := by rw [h1]; rfl
          by_cases hr : room ≤ out.length
          · have HP := Box.mk (show R = (0, s1, out, k) by rw [HEQ2.out, feedS_stop (.inr ⟨h1, hr⟩)])
            clear HEQ2 h4 h1 HEQM
            go_wp2_with fail
            refine bodyPost_ret (results_row_tmp3C rfl _ _ (w.heap.size + 1) _ _ _ _ rfl HRR.out.set4 Tryd.underlying27 rfl sizeC) rfl ?_
            exact ⟨na, nc, oa, oc, by rw [HP.out]; rfl, by rw [HP.out]; exact HRR.out.set4B HLI.out, by rw [HP.out]; exact HRR.out.set4B HOB.out, below_set4 HBE.out (by omega)⟩
          · have HEQ3 := Box.mk (show R = feedS room ⟨if s1.left - 1 = 0 then 2 else 1, s1.left - 1, s1.tr, s1.line⟩ (out ++ [x]) (k + 1) (l.drop (k + 1)) by rw [HEQ2.out, feedS_data h1 hr])
            have HOK2 := Box.mk (okC_data HOK.out h1)
            have hlf := HOK.out.data h1
            have HLN := Box.mk (HOK.out.empty (.inl h1))
            have hph1 := h1
            clear HEQ2 h4 h1 HEQM hr0 hr1 hr2 hr3 hz0 hz1 hz2 hz3
            go_wp2_with (at_builtin; refine wpList_append_ownb _ rfl _ _ rfl rfl (HOWN.out.keep (below_oneF wr (.cells #[.int .u8 (x.toNat : Int)] 5))) rfl (r := [x]) (isBytes_oneC wr x) (by simp; omega) (by simp; omega) ?_)
            intro v5 w5 hown hgrow _
            have hgr := grownBy_afterC (below_oneF wr (.cells #[.int .u8 (x.toNat : Int)] 5)) hgrow
            have HC5 := Box.mk (HV.out.grownC hgr (fun e => by have := (HOWN.out.lt e.symm).1; omega))
            have HR5 := Box.mk (HRR.out.grownC hgr (fun e => by have := (HOWN.out.lt e.symm).1; omega))
            have HB5 := Box.mk (HBE.out.grown hgr HBE.out.size (fun q e => by have := (HOWN.out.lt e).1; omega))
            have HO5 := Box.mk hown
            clear hown hgrow hgr HV HRR HBE HOWN HOB
            obtain ⟨ha0, ha1, ha2, ha3⟩ := HC5.out.cells
            have hf1 := HC5.out.frozen (i := 1)
            have HC6 := Box.mk (HC5.out.setL (z := s1.left - 1))
            obtain ⟨hb0, hb1, hb2, hb3⟩ := HC6.out.cells
            have hf0 := HC6.out.frozen (i := 0)
            by_cases hz : s1.left - 1 = 0
            · have el : (s1.left - 1 == 0) = true := by rw [hz]; rfl
              have HZ := Box.mk hz
              clear hph1 hz
              have HC7 := Box.mk (HC6.out.setP (z := 2))
              have HR7 := Box.mk ((HR5.out.other (x := ⟨w.heap.size, 1, none⟩) (u := .int .i64 (s1.left - 1)) (by show w.heap.size + 1 ≠ w.heap.size; omega)).other (x := ⟨w.heap.size, 0, none⟩) (u := .int .i64 2) (by show w.heap.size + 1 ≠ w.heap.size; omega))
              have HB7 := Box.mk ((HB5.out.setCell (p := ⟨w.heap.size, 1, none⟩) (Nat.le_refl _) (.int .i64 (s1.left - 1))).setCell (p := ⟨w.heap.size, 0, none⟩) (Nat.le_refl _) (.int .i64 2))
              have HO7 := Box.mk ((HO5.out.setC (g := w.heap.size) (i := 1) (u := .int .i64 (s1.left - 1)) (by omega)).setC (g := w.heap.size) (i := 0) (u := .int .i64 2) (by omega))
              go_wp2_with fail
              go_roundw
              case rel =>
                refine ⟨k + 1, by omega, by go_num, ⟨2, s1.left - 1, s1.tr, s1.line⟩, na, nc, out ++ [x], ⟨⟨?_, rfl, HC7.out, ?_, HR7.out, HO7.out, HB7.out, by simp; omega⟩, ?_⟩⟩
                · have h9 := HOK2.out; rw [if_pos HZ.out] at h9; exact h9
                · have h0 := HLI.out; rw [HLN.out] at h0 ⊢; exact bytes_nil _ _ _ h0
                · have h9 := HEQ3.out; rw [if_pos HZ.out] at h9; exact h9
              case measure => simp [intOf]; omega
            · have el : (s1.left - 1 == 0) = false := by rw [beq_eq_false_iff_ne]; exact hz
              have HZ := Box.mk hz
              clear hz
              have HR7 := Box.mk (HR5.out.other (x := ⟨w.heap.size, 1, none⟩) (u := .int .i64 (s1.left - 1)) (by show w.heap.size + 1 ≠ w.heap.size; omega))
              have HB7 := Box.mk (HB5.out.setCell (p := ⟨w.heap.size, 1, none⟩) (Nat.le_refl _) (.int .i64 (s1.left - 1)))
              have HO7 := Box.mk (HO5.out.setC (g := w.heap.size) (i := 1) (u := .int .i64 (s1.left - 1)) (by omega))
              have HPH := Box.mk hph1
              have HC7 := Box.mk (show CVar (w5.setCell ⟨w.heap.size, 1, none⟩ (.int .i64 (s1.left - 1))) w.heap.size 1 (s1.left - 1) s1.tr (.slice na s1.line.length nc) by have h9 := HC6.out; rw [HPH.out] at h9; exact h9)
              clear hph1
              go_wp2_with fail
              go_roundw
              case rel =>
                refine ⟨k + 1, by omega, by go_num, ⟨1, s1.left - 1, s1.tr, s1.line⟩, na, nc, out ++ [x], ⟨⟨?_, rfl, HC7.out, ?_, HR7.out, HO7.out, HB7.out, by simp; omega⟩, ?_⟩⟩
                · have h9 := HOK2.out; rw [if_neg HZ.out] at h9; exact h9
                · have h0 := HLI.out; rw [HLN.out] at h0 ⊢; exact bytes_nil _ _ _ h0
                · have h9 := HEQ3.out; rw [if_neg HZ.out] at h9; exact h9
              case measure => simp [intOf]; omega
        · have e1 : (s1.ph == 1) = false := by rw [beq_eq_false_iff_ne]; exact h1
          have HST := Box.mk (And.intro h4 h1)
          obtain ⟨r, hr⟩ : ∃ r, r = stepS s1 x := ⟨_, rfl⟩
          have HREQ := Box.mk hr
          clear hr HEQM h4 h1 hr0 hr1 hr2 hr3 hz0 hz1 hz2 hz3
          go_wp2_with fail
          rename_i K hK
          refine wp_region_phases [9] (fun p => match p with | 0 => [0, 1, 2, 3, 4, 5, 6, 7, 8] | _ => [8, 10])
            (fun p => match p with
              | 0 => [.val (.agg #[.int .i64 s1.ph, .int .i64 s1.left, .int .i64 s1.tr, .slice na s1.line.length nc]), .val (.slice (some bad) l.length bc), .val (.int .i64 k), .val (.pointer (some (bad.add k))), .val (.int .u8 x.toNat), .stp r, .stp r, .agc r, .val (.int .i64 r.1), .nopeC, .nopeC]
              | _ => [.any, .any, .any, .any, .any, .any, .tupE r.1, .any, .val (.int .i64 r.1), .any, .val (.int .i64 r.1)])
            (fun p => match p with
              | 0 => fun wx => Below wr.heap.size wr wx
              | _ => fun wx => ∃ p1 l1 t1 a1 n1 c1, CVar wx w.heap.size p1 l1 t1 (.slice a1 n1 c1) ∧ (r.1 = 0 → p1 = r.2.ph ∧ l1 = r.2.left ∧ t1 = r.2.tr ∧ n1 = r.2.line.length ∧ IsBytes wx a1 r.2.line c1) ∧ CVar wx (w.heap.size + 1) 0 0 0 (.slice none 0 0) ∧ Own (w.heap.size + 2) wx (.slice oa out.length oc) out ∧ Below w.heap.size w wx)
            (by kernel_rfl) (by kernel_rfl) (by kernel_rfl) (by kernel_rfl) (by kernel_rfl) (by kernel_rfl) ?_ (Below.refl _ _) ?_ ?_ ?_
          · intro p w1 w2 h hb
            match p, h with
            | 0, h => exact below_trans h hb
            | (_ + 1), h =>
              obtain ⟨p1, l1, t1, a1, n1, c1, h1, h2, h3, h4, h5⟩ := h
              exact ⟨p1, l1, t1, a1, n1, c1, h1.keep hb, fun e => ⟨(h2 e).1, (h2 e).2.1, (h2 e).2.2.1, (h2 e).2.2.2.1, (h2 e).2.2.2.2.keep hb⟩, h3.keep hb, h4.keep hb, below_trans h5 hb⟩
          · intro p hp
            match p, hp with
            | 0, _ =>
              refine ⟨?_, ?_, ?_, ?_, ?_, ?_, ?_, ?_, ?_, trivial⟩ <;> intro a1 w1 hv hf hd
              · exact ⟨wanted_none rfl, loc_load rfl (by rw [show a1.eval (.tmp 3) = .pointer (some ⟨w.heap.size, 0, none⟩) from hf.base 3 rfl]; exact run_loadC (HV.out.keep hv)) rfl⟩
              · exact ⟨wanted_none rfl, loc_move rfl (hf.base 1 rfl)⟩
              · exact ⟨wanted_none rfl, loc_move rfl (hf.base 11 rfl)⟩
              · exact ⟨wanted_none rfl, loc_index_b rfl (hd 1 rfl) (hd 2 rfl) hlt rfl⟩
              · exact ⟨wanted_none rfl, loc_loadB rfl (hd 3 rfl) (below_cell hv hbc) (agg_u8C _) rfl⟩
              · refine ⟨wanted_none rfl, loc_call rfl (by kernel_rfl) ?_⟩
                show Calls _ _ #[a1.eval (.tmp 55), a1.eval (.tmp 59)] w1 _
                rw [show a1.eval (.tmp 55) = _ from hd 0 rfl, show a1.eval (.tmp 59) = _ from hd 4 rfl]
                refine (refStep_any s1 x na nc w1 (HLI.out.keep hv) HOK.out HST.out.2 HST.out.1).mono ?_
                rintro e w' ⟨p1, l1, t1, b1, n1, c1, rfl, h2, h3⟩
                rw [← HREQ.out] at h2 ⊢
                exact ⟨_, rfl, h3, p1, l1, t1, b1, n1, c1, rfl, h2⟩
              · exact ⟨wanted_none rfl, loc_move rfl (hd 5 rfl)⟩
              · obtain ⟨p1, l1, t1, b1, n1, c1, h1, h2⟩ := hd 6 rfl
                exact ⟨wanted_none rfl, loc_extractC0 rfl h1 ⟨p1, l1, t1, b1, n1, c1, rfl, h2⟩⟩
              · obtain ⟨p1, l1, t1, b1, n1, c1, h1, h2⟩ := hd 6 rfl
                exact ⟨wanted_none rfl, loc_extractC1 rfl h1 rfl⟩
            | 1, _ =>
              refine ⟨?_, ?_, trivial⟩ <;> intro a1 w1 hv hf hd
              · obtain ⟨u, h1⟩ := hd 6 rfl
                exact ⟨wanted_none rfl, loc_extractC1 rfl h1 rfl⟩
              · exact ⟨wanted_none rfl, loc_assign rfl (hd 8 rfl)⟩
          · intro p hp
            match p, hp with
            | 0, _ =>
              intro a1 w1 hv hf hd
              obtain ⟨p1, l1, t1, b1, n1, c1, h1, h2⟩ := hd 7 rfl
              have hvr := HV.out.keep hv
              refine ⟨wanted_none rfl, wp_store_row 27 _ _ rfl w.heap.size #[.int .i64 p1, .int .i64 l1, .int .i64 t1, .slice b1 n1 c1] (hf.base 3 rfl) h1 27 _ hvr sizeC rfl (oneC _ _ _ _ _ _) ⟨undef, rfl, ?_, trivial, ?_⟩⟩
              · exact ⟨p1, l1, t1, b1, n1, c1, setRow_heap _ _ _ _ _ _ hvr, fun e => ⟨(h2 e).1, (h2 e).2.1, (h2 e).2.2.1, (h2 e).2.2.2.1, hvr.setRB (h2 e).2.2.2.2 _⟩, (HRR.out.keep hv).row (by omega), (HOWN.out.keep hv).setR (by omega), below_setRow (below_trans HBE.out hv) (Nat.le_refl _) _⟩
              · exact ⟨.inr fun _ _ _ => trivial, .inr fun _ _ _ => trivial, .inr fun _ _ _ => trivial, .inr fun _ _ _ => trivial, .inr fun _ _ _ => trivial, .inr fun _ _ _ => trivial, .inr fun _ _ h => by
                  obtain ⟨q1, q2, q3, q4, q5, q6, e, _⟩ := h
                  exact ⟨_, e⟩, .inr fun _ _ _ => trivial, .inr fun _ _ h => h, .inl rfl, .inr fun _ _ h => h.elim, trivial⟩
          · intro a2 w6 hv hf hh
            obtain ⟨p1, l1, t1, b1, n1, c1, hc, hrl, hres, hown, hbel⟩ := hv
            have e12 : a2.eval (.tmp 12) = .int .i64 r.1 := hh 10 (by decide)
            refine hK a2 w6 ?_
            rw [fr_putAll hf]
            clear hf hh
            simp only [putAll, e12]
            generalize a2.eval (.tmp 54) = t54
            generalize a2.eval (.tmp 55) = t55
            generalize a2.eval (.tmp 56) = t56
            generalize a2.eval (.tmp 57) = t57
            generalize a2.eval (.tmp 58) = t58
            generalize a2.eval (.tmp 59) = t59
            generalize a2.eval (.tmp 60) = t60
            generalize a2.eval (.tmp 61) = t61
            generalize a2.eval (.tmp 62) = t62
            clear e12
            clear a2
            simp only [Act.put, List.setIfInBounds_toArray, List.set_cons_succ, List.set_cons_zero]
            have HC7 := Box.mk hc
            have HR7 := Box.mk hres
            have HO7 := Box.mk hown
            have HB7 := Box.mk hbel
            have HRL := Box.mk hrl
            clear hc hres hown hbel hrl HV HRR HBE HOWN HOB HLI hd0 hd1 hd2 hd3
            by_cases hr : r.1 = 0
            · have er : (r.1 != 0) = false := by rw [hr]; rfl
              have HZ := Box.mk hr
              clear hr
              go_wp2_with fail
              go_roundw
              case rel =>
                obtain ⟨rfl, rfl, rfl, rfl, hby⟩ := HRL.out HZ.out
                refine ⟨k + 1, by omega, by go_num, r.2, b1, c1, out, ⟨⟨?_, rfl, HC7.out, hby, HR7.out, HO7.out, HB7.out, by omega⟩, ?_⟩⟩
                · rw [HREQ.out]; exact okC_step HOK.out HST.out.2 HST.out.1 (by rw [← HREQ.out]; exact HZ.out)
                · rw [HEQ2.out, feedS_ok HST.out.1 HST.out.2 (by rw [← HREQ.out]; exact HZ.out), ← HREQ.out]
              case measure => simp [intOf]; omega
            · have er : (r.1 != 0) = true := by rw [bne_iff_ne]; exact hr
              have HP := Box.mk (show R = (r.1, zeroC, [], 0) by rw [HEQ2.out, feedS_err HST.out.1 HST.out.2 (by rw [← HREQ.out]; exact hr), ← HREQ.out])
              obtain ⟨hr0, hr1, hr2, hr3⟩ := HR7.out.cells
              have hz0 := HR7.out.frozen (i := 0)
              have hz1 := HR7.out.frozen (i := 1)
              have hz2 := HR7.out.frozen (i := 2)
              have hz3 := HR7.out.frozen (i := 3)
              clear hr HEQ2 HREQ HRL
              go_wp2_with fail
              refine bodyPost_ret (results_row_tmp3C rfl _ _ (w.heap.size + 1) _ _ _ _ rfl HR7.out.set4 Tryd.underlying27 rfl sizeC) rfl ?_
              exact ⟨none, 0, none, 0, by rw [HP.out]; rfl, by rw [HP.out]; exact .inl ⟨rfl, rfl, rfl⟩, by rw [HP.out]; exact .inl ⟨rfl, rfl, rfl⟩, below_set4 HB7.out (by omega)⟩
    · have HP := Box.mk (show R = (0, s1, out, k) by rw [HEQM.out, List.drop_of_length_le (by omega)]; rfl)
      obtain rfl : k = l.length := by omega
      obtain ⟨hr0, hr1, hr2, hr3⟩ := HRR.out.cells
      have hz0 := HRR.out.frozen (i := 0)
      have hz1 := HRR.out.frozen (i := 1)
      have hz2 := HRR.out.frozen (i := 2)
      have hz3 := HRR.out.frozen (i := 3)
      clear HEQM
      go_wp2_with fail
      refine bodyPost_ret (results_row_tmp3C rfl _ _ (w.heap.size + 1) _ _ _ _ rfl HRR.out.set4 Tryd.underlying27 rfl sizeC) rfl ?_
      exact ⟨na, nc, oa, oc, by rw [HP.out]; rfl, by rw [HP.out]; exact HRR.out.set4B HLI.out, by rw [HP.out]; exact HRR.out.set4B HOB.out, below_set4 HBE.out (by omega)⟩
end Go.Proofs.YtbplpfcgmmflnaaDoor
namespace Go.Proofs.YtbplpfcgmmflnaaDoor
open Go.RowKit

def IntsF (w : World) (a : Option Addr) (n : Nat) : Prop :=
  ∀ j, j < n → ∃ x z, a = some x ∧ w.cell? (x.add j) = some (.int .i64 z) ∧ -9223372036854775808 ≤ z ∧ z ≤ 9223372036854775807
theorem IntsF.keep {w w' : World} {a : Option Addr} {n : Nat} (h : IntsF w a n) (hb : Below w.heap.size w w') : IntsF w' a n := fun j hj => by
  obtain ⟨x, z, e, h1, h2⟩ := h j hj
  exact ⟨x, z, e, below_cell hb h1, h2⟩
/-- Block g is the source's variable: its numbers are the n at a, which lie elsewhere. -/
def Src (w : World) (g : Nat) (a : Option Addr) (n c : Nat) : Prop :=
  (∃ i : Nat, i ≤ n ∧ w.heap[g]? = some (.cells #[.slice a n c, .int .i64 i] 48 (0, 0))) ∧ n ≤ maxLen ∧ IntsF w a n ∧ ∀ x, a = some x → 0 < n → x.block ≠ g
theorem Src.lt {w : World} {g : Nat} {a : Option Addr} {n c : Nat} (h : Src w g a n c) : g < w.heap.size := by
  obtain ⟨⟨i, _, h⟩, _⟩ := h
  exact (Array.getElem?_eq_some_iff.1 h).1
theorem add_blockF (x : Addr) (j : Nat) : (x.add j).block = x.block := by unfold Addr.add; split <;> rfl
theorem IntsF.grown {w w' : World} {a : Option Addr} {n : Nat} {row : Option Nat} (h : IntsF w a n) (hg : w.grownBy w' row) (hne : ∀ x, a = some x → 0 < n → some x.block ≠ row) : IntsF w' a n := fun j hj => by
  obtain ⟨x, z, e, h1, h2⟩ := h j hj
  refine ⟨x, z, e, ?_, h2⟩
  have hlt := lt_cell h1
  rw [World.cell?_of_block (hg.block _ hlt (by rw [add_blockF]; exact hne x e (by omega)))]
  exact h1
theorem Src.grown {w w' : World} {g : Nat} {a : Option Addr} {n c : Nat} {row : Option Nat} (h : Src w g a n c) (hg : w.grownBy w' row) (hne : some g ≠ row) (hne2 : ∀ x, a = some x → 0 < n → some x.block ≠ row) : Src w' g a n c := by
  have hlt := h.lt
  obtain ⟨⟨i, hi, hr⟩, h2, h3, h4⟩ := h
  exact ⟨⟨i, hi, by rw [hg.block g hlt hne]; exact hr⟩, h2, h3.grown hg hne2, h4⟩
theorem Src.keep {w w' : World} {g : Nat} {a : Option Addr} {n c : Nat} (h : Src w g a n c) (hb : Below w.heap.size w w') : Src w' g a n c := by
  have hlt := h.lt
  obtain ⟨⟨i, hi, hr⟩, h2, h3, h4⟩ := h
  exact ⟨⟨i, hi, by rw [hb.block g hlt]; exact hr⟩, h2, h3.keep hb, h4⟩
theorem grownBy_trans {w w1 w2 : World} {row : Option Nat} (h : w.grownBy w1 row) (k : w1.grownBy w2 row) : w.grownBy w2 row :=
  ⟨k.os.trans h.os, k.tape.trans h.tape, k.output.trans h.output, Nat.le_trans h.size k.size, fun i hi hne => (k.block i (Nat.lt_of_lt_of_le hi h.size) hne).trans (h.block i hi hne)⟩
/-- A row that is new is nobody's. -/
theorem grownBy_new {w w1 w2 : World} {row : Option Nat} {q : Option Nat} (h : w.grownBy w1 row) (k : w1.grownBy w2 q) (hq : ∀ i, q = some i → w.heap.size ≤ i) : w.grownBy w2 row :=
  ⟨k.os.trans h.os, k.tape.trans h.tape, k.output.trans h.output, Nat.le_trans h.size k.size, fun i hi hne => (k.block i (Nat.lt_of_lt_of_le hi h.size) (fun e => by have := hq i e.symm; omega)).trans (h.block i hi hne)⟩

def withI (z : Int) (n : Nat) : Int := (wrap64 (z.tmod n + n)).tmod n
theorem withI_range (z : Int) (n : Nat) (h0 : 0 < n) (hn : n ≤ 1000000000) : ∃ k : Nat, k < n ∧ withI z n = (k : Int) := by
  have h1 : z.tmod n < n := Int.tmod_lt_of_pos z (by omega)
  have h2 : -(n : Int) < z.tmod n := Int.lt_tmod_of_pos z (by omega)
  unfold withI
  generalize z.tmod n = y at *
  have e : wrap64 (y + n) = y + n := by simp only [wrap64]; omega
  rw [e, Int.tmod_eq_emod_of_nonneg (by omega)]
  exact ⟨((y + n) % n).toNat, by have := Int.emod_lt_of_pos (y + n) (show (0 : Int) < n by omega); have := Int.emod_nonneg (y + n) (show (n : Int) ≠ 0 by omega); omega, by have := Int.emod_nonneg (y + n) (show (n : Int) ≠ 0 by omega); omega⟩
theorem withinF (z : Int) (n : Nat) (w : World) (h0 : 0 < n) (hn : n ≤ 1000000000) :
    Calls Tryd.prog 11 #[.int .i64 z, .int .i64 n] w fun e w' => e = .returned (.int .i64 (withI z n)) ∧ w' = w := by
  go_enter Tryd.func11, Tryd.ntmps11
  go_wp2
  go_ret
  exact ⟨rfl, rfl⟩

end Go.Proofs.YtbplpfcgmmflnaaDoor
namespace Go.Proofs.YtbplpfcgmmflnaaDoor
open Go.RowKit

/-- What Decode returns: an error, the body, the number of bytes. -/
def decodeS (b : List UInt8) : Int × List UInt8 × Nat :=
  if (feedS b.length zeroC [] 0 b).1 = 0 then
    (if (feedS b.length zeroC [] 0 b).2.1.ph = 4 then (0, (feedS b.length zeroC [] 0 b).2.2.1, (feedS b.length zeroC [] 0 b).2.2.2) else (4, [], 0))
  else ((feedS b.length zeroC [] 0 b).1, [], 0)
def RetDec (w : World) (r : Int × List UInt8 × Nat) (e : Ending) (w' : World) : Prop :=
  ∃ oa oc, e = .returned (.tuple #[.slice oa r.2.1.length oc, .int .i64 r.2.2, .int .i64 r.1]) ∧ IsBytes w' oa r.2.1 oc ∧ Below w.heap.size w w'
set_option maxRecDepth 100000 in
set_option maxHeartbeats 2000000 in
theorem refDecode_any (b : List UInt8) (a : Option Addr) (c : Nat) (w : World) (h : IsBytes w a b c) (hl : b.length ≤ 4000000000) :
    Calls Tryd.prog 17 #[.slice a b.length c] w (RetDec w (decodeS b)) := by
  obtain ⟨R, hR⟩ : ∃ R, R = decodeS b := ⟨_, rfl⟩
  rw [← hR]
  have HD := Box.mk (show R = if (feedS b.length zeroC [] 0 b).1 = 0 then
    (if (feedS b.length zeroC [] 0 b).2.1.ph = 4 then (0, (feedS b.length zeroC [] 0 b).2.2.1, (feedS b.length zeroC [] 0 b).2.2.2) else (4, [], 0))
    else ((feedS b.length zeroC [] 0 b).1, [], 0) from hR)
  have HB := Box.mk h
  clear h hR
  go_enter Tryd.func17, Tryd.ntmps17
  go_wp2_with fail
  refine (refFeed_any zeroC b b.length none a 0 c _ (.inl ⟨rfl, rfl, rfl⟩) HB.out okC_zero hl).mono ?_
  rintro e w1 ⟨na, nc, oa, oc, he, _, hby, hb1⟩
  generalize feedS b.length zeroC [] 0 b = r at *
  obtain ⟨er, s1, out, n⟩ := r
  simp only [] at he hby HD
  subst he
  have hb2 := below_oneF w1 (.cells #[.int .i64 s1.ph, .int .i64 s1.left, .int .i64 s1.tr, .slice na s1.line.length nc] 27)
  have HBY := Box.mk (hby.keep hb2)
  have HB2 := Box.mk (below_trans hb1 hb2)
  clear hby hb1 hb2
  by_cases h0 : er = 0
  · have e0 : (er != 0) = false := by rw [h0]; rfl
    by_cases h4 : s1.ph = 4
    · have HP := Box.mk (show R = (0, out, n) by rw [HD.out, if_pos h0, if_pos h4])
      have e4 : (s1.ph != 4) = false := by rw [h4]; rfl
      clear HD h0 h4
      go_wp2_with fail
      go_ret3
      exact ⟨oa, oc, by rw [HP.out]; rfl, by rw [HP.out]; exact HBY.out, HB2.out⟩
    · have HP := Box.mk (show R = (4, [], 0) by rw [HD.out, if_pos h0, if_neg h4])
      have e4 : (s1.ph != 4) = true := by rw [bne_iff_ne]; exact h4
      clear HD h0 h4
      go_wp2_with fail
      go_ret3
      exact ⟨none, 0, by rw [HP.out]; rfl, by rw [HP.out]; exact .inl ⟨rfl, rfl, rfl⟩, HB2.out⟩
  · have HP := Box.mk (show R = (er, [], 0) by rw [HD.out, if_neg h0])
    have e0 : (er != 0) = true := by rw [bne_iff_ne]; exact h0
    clear HD h0
    go_wp2_with fail
    go_ret3
    exact ⟨none, 0, by rw [HP.out]; rfl, by rw [HP.out]; exact .inl ⟨rfl, rfl, rfl⟩, HB2.out⟩

set_option maxRecDepth 100000 in
set_option maxHeartbeats 2000000 in
theorem sameChunk_any (p l t : Int) (ln : List UInt8) (a b : Option Addr) (c d : Nat) (w : World) (ha : IsBytes w a ln c) (hb : IsBytes w b ln d) :
    Calls Tryd.prog 14 #[.agg #[.int .i64 p, .int .i64 l, .int .i64 t, .slice a ln.length c], .agg #[.int .i64 p, .int .i64 l, .int .i64 t, .slice b ln.length d]] w fun e w' => e = .returned (.bool true) ∧ Below w.heap.size w w' := by
  have hb2 := below_twoF (below_oneF w (.cells #[.int .i64 p, .int .i64 l, .int .i64 t, .slice a ln.length c] 27)) (.cells #[.int .i64 p, .int .i64 l, .int .i64 t, .slice b ln.length d] 27)
  have hc1 := conv_bytes (ha.keep hb2)
  have hc2 := conv_bytes (hb.keep hb2)
  have HB := Box.mk hb2
  clear hb2 ha hb
  go_enter Tryd.func14, Tryd.ntmps14
  go_wp2_with fail
  go_ret
  exact ⟨ret_bool (by simp), HB.out⟩

theorem isBytes_take {w : World} {a : Option Addr} {l : List UInt8} {c : Nat} (h : IsBytes w a l c) (k : Nat) : IsBytes w a (l.take k) c := by
  rcases h with ⟨h1, rfl, h3⟩ | ⟨x, h1, h2, h3, h4⟩
  · exact .inl ⟨h1, by simp, h3⟩
  · refine .inr ⟨x, h1, by rw [List.length_take]; omega, h3, fun j hj => ?_⟩
    rw [List.getElem_take]; exact h4 j (by rw [List.length_take] at hj; omega)
set_option maxRecDepth 100000 in
set_option maxHeartbeats 1000000 in
theorem short_any (l : List UInt8) (a : Option Addr) (c k : Nat) (w : World) (h : IsBytes w a l c) (_hk : k ≤ 1000) :
    Calls Tryd.prog 10 #[.slice a l.length c, .int .i64 k] w fun e w' => ∃ r, r = l.take k ∧ r.length ≤ k ∧ e = .returned (.slice a r.length c) ∧ IsBytes w' a r c ∧ w = w' := by
  have HB := Box.mk h
  have hml := isBytes_len h
  unfold maxLen at hml
  by_cases hlt : k < l.length
  · have hcap : k ≤ c := by
      rcases h with ⟨_, e, _⟩ | ⟨_, _, h1, _, _⟩
      · subst e; exact absurd hlt (Nat.not_lt_zero _)
      · omega
    obtain ⟨ad, rfl⟩ : ∃ ad, a = some ad := by
      rcases h with ⟨_, e, _⟩ | ⟨x, e, _⟩
      · subst e; exact absurd hlt (Nat.not_lt_zero _)
      · exact ⟨x, e⟩
    clear h
    have HT := Box.mk (show (l.take k).length = k by rw [List.length_take]; omega)
    go_enter Tryd.func10, Tryd.ntmps10
    go_wp2_with fail
    go_ret
    exact ⟨l.take k, rfl, by rw [HT.out]; exact Nat.le_refl _, by rw [HT.out]; rfl, isBytes_take HB.out k, rfl⟩
  · clear h
    have HT := Box.mk (show l.take k = l from List.take_of_length_le (by omega))
    go_enter Tryd.func10, Tryd.ntmps10
    go_wp2_with fail
    go_ret
    exact ⟨l, HT.out.symm, by omega, rfl, HB.out, rfl⟩
set_option maxRecDepth 100000 in
set_option maxHeartbeats 1000000 in
theorem cut_any (a : Option Addr) (n c k : Nat) (w : World) (h : IntsF w a n) (hn : n ≤ maxLen) (hc : n ≤ c) (_hk : k ≤ 1000) (ha : 0 < n → ∃ ad, a = some ad) :
    Calls Tryd.prog 20 #[.slice a n c, .int .i64 k] w fun e w' => ∃ m, m ≤ k ∧ m ≤ n ∧ e = .returned (.slice a m c) ∧ IntsF w' a m ∧ w = w' := by
  have HB := Box.mk h
  unfold maxLen at hn
  clear h
  by_cases hlt : k < n
  · obtain ⟨ad, rfl⟩ := ha (by omega)
    clear ha
    go_enter Tryd.func20, Tryd.ntmps20
    go_wp2_with fail
    go_ret
    exact ⟨k, Nat.le_refl _, by omega, rfl, fun j hj => HB.out j (by omega), rfl⟩
  · clear ha
    go_enter Tryd.func20, Tryd.ntmps20
    go_wp2_with fail
    go_ret
    exact ⟨n, by omega, Nat.le_refl _, rfl, HB.out, rfl⟩
end Go.Proofs.YtbplpfcgmmflnaaDoor
namespace Go.Proofs.YtbplpfcgmmflnaaDoor
open Go.RowKit

/-- A slot that an operation other than st writes. -/
def isDstX (ops : Array Oper) (st k : Nat) : Bool := (List.range ops.size).any fun i => !decide (i = st) && ((ops[i]?).bind (·.dst) == some k)
/-- The frame ahead of operation st: but for the others' slots it is the one before. -/
structure FrX (ops : Array Oper) (st : Nat) (a0 a : Act) : Prop where
  defers : a.defers = a0.defers
  size : a.tmps.size = a0.tmps.size
  base : ∀ k, isDstX ops st k = false → a.eval (.tmp k) = a0.eval (.tmp k)
def StepX (P : Program) (Q : Exit → Act → World → Prop) (ops : Array Oper) (S : List Spec) (st : Nat) (a0 : Act) (w0 : World) (o : Oper) (s : Spec) : Prop :=
  ∀ a w, Below w0.heap.size w0 w → FrX ops st a0 a → (∀ j, waitsFor o j = true → Holds ops S a w j) →
    Region.wanted o (yielded ops a.tmps) = true ∧ o.wp P a w (fun a' w' => ∃ v, a' = a.put o.dst v ∧ Below w.heap.size w w' ∧ s.p v w') Q
def StepsX (P : Program) (Q : Exit → Act → World → Prop) (ops : Array Oper) (S : List Spec) (st : Nat) (a0 : Act) (w0 : World) : List Nat → Prop
  | i :: r => (match ops[i]?, S[i]? with | some o, some s => StepX P Q ops S st a0 w0 o s | _, _ => False) ∧ StepsX P Q ops S st a0 w0 r
  | [] => True
def TailX (P : Program) (Q : Exit → Act → World → Prop) (ops : Array Oper) (S : List Spec) (st : Nat) (a0 : Act) (w0 : World) : Prop :=
  match ops[st]? with
  | some o => ∀ a w, Below w0.heap.size w0 w → FrX ops st a0 a → (∀ j, j < ops.size → j ≠ st → Holds ops S a w j) → Region.wanted o (yielded ops a.tmps) = true ∧ o.wp P a w (fun a' w' => Q .normal a' w') Q
  | none => False
section
variable {P : Program} {Q : Exit → Act → World → Prop} {ops : Array Oper} {S : List Spec} {a0 : Act} {w0 : World} {st : Nat}
theorem stepsX_at : ∀ {l : List Nat}, StepsX P Q ops S st a0 w0 l → ∀ i, i ∈ l → ∀ o, ops[i]? = some o → ∃ s, S[i]? = some s ∧ StepX P Q ops S st a0 w0 o s
  | i :: r, h, j, hj, o, ho => by
    rcases List.mem_cons.1 hj with rfl | hj
    · have h1 := h.1
      rw [ho] at h1
      cases hs : S[j]? with
      | none => rw [hs] at h1; exact h1.elim
      | some s => rw [hs] at h1; exact ⟨s, rfl, h1⟩
    · exact stepsX_at h.2 j hj o ho
theorem frX_put {a : Act} {o : Oper} {i : Nat} (ho : ops[i]? = some o) (hi : i ≠ st) (hf : FrX ops st a0 a) (v : Value) : FrX ops st a0 (a.put o.dst v) := by
  refine ⟨?_, ?_, fun k hk => ?_⟩
  · have := hf.defers
    cases o.dst <;> simpa [Act.put] using this
  · have := hf.size
    cases o.dst <;> simpa [Act.put] using this
  · rw [eval_put_other, hf.base k hk]
    intro hk2
    have : isDstX ops st k = true := by
      unfold isDstX
      exact List.any_eq_true.2 ⟨i, List.mem_range.2 (Array.getElem?_eq_some_iff.1 ho).1, by rw [ho]; simp [hi, hk2]⟩
    rw [hk] at this; cases this
theorem wp_region_tail {id : Nat} (S : List Spec) (st : Nat) (others : List Nat) (hm : P.follows .mixedOrders = true)
    (hB : (List.range ops.size).all (fun i => match ops[i]? with | some x => x.after.all (fun e => !Region.binds .any e || decide (e.on < i)) | none => true) = true)
    (hd : dstsOk ops a0.tmps.size = true) (hl : lateB ops st [] = true) (hstlt : decide (st < ops.size) = true) (hoth : (List.range ops.size).all (fun i => decide (i = st) || others.contains i) = true)
    (h : StepsX P Q ops S st a0 w0 others) (hS : TailX P Q ops S st a0 w0) : (Code.region id ops true).wp P Q a0 w0 := by
  have hstlt := of_decide_eq_true hstlt
  have hosto : ops[st]? = some ops[st] := Array.getElem?_eq_getElem hstlt
  unfold TailX at hS
  rw [hosto] at hS
  simp only at hS
  have hwait : ∀ i, i < ops.size → i ≠ st → waitsFor ops[st] i = true := fun i hi hne => by
    have := List.all_eq_true.1 hl i (List.mem_range.2 hi)
    rw [hosto] at this
    simp only [Bool.or_eq_true, decide_eq_true_eq, List.contains_nil, Bool.false_eq_true, or_false] at this
    rcases this with h3 | h3
    · exact absurd h3 hne
    · exact h3
  refine wp_region_inv hm (fun m a w => (m.getD st false = false ∧ FrX ops st a0 a ∧ Below w0.heap.size w0 w ∧ ∀ j, m.getD j false = true → Holds ops S a w j) ∨
    (m.getD st false = true ∧ Q .normal a w ∧ ∀ j, waitsFor ops[st] j = true → m.getD j false = true)) ?_ ?_ ?_
  · rintro m a w hs hh i hi
    obtain ⟨h1, o, ho, hall⟩ := mem_ready.1 hi
    have hil : i < ops.size := (Array.getElem?_eq_some_iff.1 ho).1
    have hmi : m.getD i false = false := by
      have hs' : i < m.size := by rw [hs]; exact hil
      simp [hs'] at h1 ⊢; exact h1
    have hdeps : ∀ j, waitsFor o j = true → m.getD j false = true := fun j hj => by
      obtain ⟨e, he, h2⟩ := List.any_eq_true.1 hj
      simp only [Bool.and_eq_true, beq_iff_eq] at h2
      obtain ⟨h3, rfl⟩ := h2
      exact hall e (Array.mem_toList_iff.1 he) h3
    unfold wpOp
    simp only [ho]
    by_cases hist : i = st
    · subst hist
      have hoe : o = ops[i] := Option.some.inj (ho.symm.trans hosto)
      subst hoe
      rcases hh with ⟨_, hf, hb, hh⟩ | ⟨h2, _⟩
      · obtain ⟨hw, hwp⟩ := hS a w hb hf fun j hj hne => hh j (hdeps j (hwait j hj hne))
        rw [if_pos hw]
        refine .inl (Oper.wp_mono ?_ hwp)
        intro a' w' hq
        have hsz : i < m.size := by rw [hs]; exact hil
        exact .inr ⟨by simp [hsz], hq, fun j hj => getD_set_true (hdeps j hj)⟩
      · rw [hmi] at h2; cases h2
    · have hmem : i ∈ others := by
        have := List.all_eq_true.1 hoth i (List.mem_range.2 hil)
        simp only [Bool.or_eq_true, decide_eq_true_eq, List.contains_iff_mem] at this
        rcases this with h | h
        · exact absurd h hist
        · exact h
      rcases hh with ⟨h2, hf, hb, hh⟩ | ⟨h2, hp, hall2⟩
      · obtain ⟨s, hsi, hstep⟩ := stepsX_at h i hmem o ho
        obtain ⟨hw, hwp⟩ := hstep a w hb hf fun j hj => hh j (hdeps j hj)
        rw [if_pos hw]
        refine .inl (Oper.wp_mono ?_ hwp)
        rintro a' w' ⟨v, rfl, hb', hsp⟩
        refine .inl ⟨by rw [getD_set_ne false hist]; exact h2, frX_put ho hist hf v, hb.trans (hb'.mono hb.size), fun j hj => ?_⟩
        by_cases hji : j = i
        · subst hji
          unfold Holds
          simp only [ho, hsi]
          cases hdo : o.dst with
          | none => trivial
          | some d =>
            show s.p ((a.put (some d) v).eval (.tmp d)) w'
            rw [eval_put_same]
            · exact hsp
            · rw [hf.size]; exact (dsts_lt hd ho hdo).1
        · have hj' : m.getD j false = true := by rw [getD_set_ne false (fun e => hji e.symm)] at hj; exact hj
          exact holds_put hd ho hji (holds_mono (hh j hj') hb')
      · have := hall2 i (hwait i hil hist)
        rw [hmi] at this; cases this
  · rintro m a w hs hh hr
    have hmarked : ∀ j, j < ops.size → m.getD j false = true := fun j => by
      induction j using Nat.strongRecOn with
      | _ j ih =>
        intro hj
        cases hmj : m.getD j false with
        | true => rfl
        | false =>
          exfalso
          have hoj : ops[j]? = some ops[j] := Array.getElem?_eq_getElem hj
          have hbk := List.all_eq_true.1 hB j (List.mem_range.2 hj)
          rw [hoj] at hbk
          simp only [Array.all_eq_true_iff_forall_mem, Bool.or_eq_true, Bool.not_eq_true', decide_eq_true_eq] at hbk
          have hlt : ∀ e ∈ ops[j].after, Region.binds .any e = true → e.on < j := fun e he hbd => by
            rcases hbk e he with h | h
            · rw [hbd] at h; cases h
            · exact h
          have : j ∈ Region.ready .any ops m := mem_ready.2 ⟨by
            have hs' : j < m.size := by rw [hs]; exact hj
            simp [hs'] at hmj ⊢; exact hmj, ops[j], hoj, fun e he hbd => ih _ (hlt e he hbd) (by have := hlt e he hbd; omega)⟩
          rw [hr] at this; cases this
    rcases hh with ⟨h2, _⟩ | ⟨_, hp, _⟩
    · rw [hmarked st hstlt] at h2; cases h2
    · exact hp
  · refine .inl ⟨?_, ⟨rfl, rfl, fun _ _ => rfl⟩, (Below.refl _ _).drew, fun j hj => ?_⟩
    · simp only [Array.getD_eq_getD_getElem?, Array.getElem?_replicate]; split <;> rfl
    · exfalso
      simp only [Array.getD_eq_getD_getElem?, Array.getElem?_replicate] at hj
      split at hj <;> simp at hj
/-- The frame ahead of operation st, out of the frame before the region: l has the other operations. -/
theorem frX_putAll {a : Act} (l : List Oper) (hl : ∀ k, isDstX ops st k = true → (l.any fun o => o.dst == some k) = true) (h : FrX ops st a0 a) : a = putAll a l a0 := by
  have h1 := putAll_size a l a0
  have h2 := putAll_defers a l a0
  have h3 : ∀ k, (putAll a l a0).eval (.tmp k) = a.eval (.tmp k) := fun k => putAll_eval a k _ _ h.size.symm (by
    cases hk : isDstX ops st k with
    | true => exact .inr (hl k hk)
    | false => exact .inl (h.base k hk).symm)
  generalize putAll a l a0 = p at *
  rw [act_eq (a := a) (a0 := a0) h.size h.defers, act_eq (a := p) (a0 := a0) h1 h2]
  congr 2
  exact List.map_congr_left fun k _ => (h3 k).symm
theorem isDstX_take {n : Nat} (hst : st = n) (hsz : ops.size = n + 1) : ∀ k, isDstX ops st k = true → ((ops.toList.take n).any fun o => o.dst == some k) = true := fun k hk => by
  unfold isDstX at hk
  obtain ⟨i, hi, h⟩ := List.any_eq_true.1 hk
  simp only [Bool.and_eq_true, Bool.not_eq_true', decide_eq_false_iff_not, beq_iff_eq] at h
  have hil := List.mem_range.1 hi
  have hin : i < n := by omega
  have ho : ops[i]? = some ops[i] := Array.getElem?_eq_getElem hil
  rw [ho] at h
  refine List.any_eq_true.2 ⟨ops[i], ?_, by simpa using h.2⟩
  have : (ops.toList.take n)[i]? = some ops[i] := by rw [List.getElem?_take_of_lt hin]; simp
  exact List.mem_of_getElem? this
theorem tail_assign {a : Act} {w : World} {o : Oper} {x : Operand} (hg : o.guard = none) (ho : o.op = .assign x) (h : Q .normal (a.put o.dst (a.eval x)) w) :
    Region.wanted o (yielded ops a.tmps) = true ∧ o.wp P a w (fun a' w' => Q .normal a' w') Q := by
  refine ⟨wanted_none hg, ?_⟩
  unfold Oper.wp
  rw [show (execOp a.eval o).run P w = .ok (.value (a.eval x)) w by unfold execOp; rw [ho]; rfl]
  exact h
end
end Go.Proofs.YtbplpfcgmmflnaaDoor
namespace Go.Proofs.YtbplpfcgmmflnaaDoor
open Go.ChangeShapes Go.WideShapes Go.ChangeAt Go.RowKit

/-- The slice at a holds slices of bytes, which hold ls. -/
def SlcIn (w : World) (a : Option Addr) (ls : List (List UInt8)) : Prop :=
  ∀ j (hj : j < ls.length), ∃ x ba bc, a = some x ∧ w.cell? (x.add j) = some (.slice ba ls[j].length bc) ∧ IsBytes w ba ls[j] bc
theorem SlcIn.keep {w w' : World} {a : Option Addr} {ls : List (List UInt8)} (h : SlcIn w a ls) (hb : Below w.heap.size w w') : SlcIn w' a ls := fun j hj => by
  obtain ⟨x, ba, bc, h1, h2, h3⟩ := h j hj
  exact ⟨x, ba, bc, h1, below_cell hb h2, h3.keep hb⟩
theorem slcIn_nil (w : World) (a : Option Addr) : SlcIn w a [] := fun _ hj => absurd hj (Nat.not_lt_zero _)

theorem alloc_cell_new (w : World) (cs : Array Value) (t : TypeId) (fr : Nat × Nat) (j : Nat) : (w.alloc (.cells cs t fr)).cell? ⟨w.heap.size, j, none⟩ = cs[j]? :=
  cell_of_row _ _ _ _ _ _ (heap_alloc_new w (.cells cs t fr))
theorem below_one (w : World) (o : Obj) : Below w.heap.size w (w.alloc o) := (Below.refl _ _).alloc (Nat.le_refl _) _
theorem slcIn_build1 {w : World} {a : Option Addr} {l : List UInt8} {c : Nat} (h : IsBytes w a l c) (t : TypeId) (fr : Nat × Nat) :
    SlcIn (w.alloc (.cells #[.slice a l.length c] t fr)) (some ⟨w.heap.size, 0, none⟩) [l] := fun j hj => by
  obtain rfl : j = 0 := by simpa using hj
  refine ⟨_, a, c, rfl, ?_, h.keep (below_one _ _)⟩
  rw [Addr.add_lit, Nat.zero_add, alloc_cell_new]; rfl
section
variable {Q : Exit → Act → World → Prop} {a : Act} {w : World} {o : Oper} {s : Spec}
theorem Tryd.info23 : (Tryd.prog.info? 23).map (fun i => (i.zero, i.size, i.bytes)) = some (some (.slice none 0 0), 1, 24) := by kernel_rfl
end

theorem open_byteses {H : Type} {enc : TypeId × Value → H} {W : World} {a : Option Addr} {len cap : Nat} {d : DataW H} {ps : List MemPlace} {base : Nat}
    (h : DataW.Trod enc Tryd.prog W base (fun _ => true) true 39 (.slice a len cap) d ps) :
    ∃ ls : List (List UInt8), len = ls.length ∧ SlcIn W a ls ∧ ls.length ≤ cap ∧ cap ≤ maxLen := by
  obtain ⟨fuel, hf⟩ := h
  rcases Go.Deep.open_int_rows Tryd.underlying39 Tryd.underlying23 Tryd.underlying5 (by kernel_rfl) (by kernel_rfl) hf with ⟨hcs, _⟩ | ⟨x, n, c, A, L, C, Z, hcs, _, hl, hm, _, hr⟩
  · simp [Value.cells] at hcs
    obtain ⟨rfl, rfl, rfl⟩ := hcs
    exact ⟨[], rfl, slcIn_nil _ _, Nat.le_refl _, Nat.zero_le _⟩
  · simp [Value.cells] at hcs
    obtain ⟨rfl, rfl, rfl⟩ := hcs
    have hlen : ((List.range len).map fun r => ((Z r).take (L r)).map fun z => z.toNat.toUInt8).length = len := by simp
    refine ⟨(List.range len).map fun r => ((Z r).take (L r)).map fun z => z.toNat.toUInt8, hlen.symm, fun j hj => ?_, by rw [hlen]; exact hl, hm⟩
    rw [hlen] at hj
    obtain ⟨h1, h2, h3, h4, h5, h6, h7⟩ := hr j (by omega)
    have hjl : (((Z j).take (L j)).map fun z => z.toNat.toUInt8).length = L j := by rw [List.length_map, List.length_take]; omega
    have e : ((List.range len).map fun r => ((Z r).take (L r)).map fun z => z.toNat.toUInt8)[j]'(by rw [hlen]; exact hj) = ((Z j).take (L j)).map fun z => z.toNat.toUInt8 := by simp
    refine ⟨x, A j, C j, rfl, by rw [e, hjl]; exact h1, ?_⟩
    rw [e]
    cases hA : A j with
    | none =>
      have h0 := h6 hA
      refine .inl ⟨rfl, List.eq_nil_of_length_eq_zero (by rw [hjl]; omega), h0⟩
    | some a' =>
      refine .inr ⟨a', rfl, by rw [hjl]; exact h2, h3, fun i hi => ?_⟩
      rw [hjl] at hi
      obtain ⟨_, hc⟩ := h7 a' hA
      have hz : i < (Z j).length := by omega
      rw [hc i (by omega)]
      have e2 : (Z j).getD i 0 = (Z j)[i] := by rw [List.getD_eq_getElem?_getD, List.getElem?_eq_getElem hz]; rfl
      obtain ⟨b, hb⟩ := byte_of (h5 _ (List.getElem_mem hz))
      rw [e2, hb]
      have e3 : (((Z j).take (L j)).map fun z => z.toNat.toUInt8)[i]'(by rw [hjl]; exact hi) = (Z j)[i].toNat.toUInt8 := by simp
      rw [e3, hb]
      simp
end Go.Proofs.YtbplpfcgmmflnaaDoor
namespace Go.Proofs.YtbplpfcgmmflnaaDoor
open Go.RowKit

theorem strsIn_newF (w : World) (l : List ByteArray) (t : TypeId) : StrsIn (w.alloc (.cells (l.map Value.string).toArray t)) (some ⟨w.heap.size, 0, none⟩) l := fun j hj =>
  ⟨_, rfl, by rw [Addr.add_lit, Nat.zero_add, new_cellF]; simp [hj]⟩
theorem Src.low {w : World} {g : Nat} {a : Option Addr} {n c : Nat} (h : Src w g a n c) : ∀ x, a = some x → 0 < n → x.block < w.heap.size := fun x e h0 => by
  obtain ⟨y, z, e2, hc, _⟩ := h.2.2.1 0 h0
  rw [e] at e2
  obtain rfl := Option.some.inj e2
  have := lt_cell hc
  rw [add_blockF] at this; exact this
theorem Src.other {w w' : World} {g q : Nat} {a : Option Addr} {n c : Nat} (h : Src w g a n c) (hg : w.grownBy w' (some q)) (hq : g ≠ q) (hx : ∀ x, a = some x → 0 < n → x.block ≠ q) : Src w' g a n c :=
  h.grown hg (fun e => hq (Option.some.inj e)) (fun x e h0 e2 => hx x e h0 (Option.some.inj e2))
theorem FVar.grown {w w' : World} {g : Nat} {n v : ByteArray} {row : Option Nat} (h : FVar w g n v) (hg : w.grownBy w' row) (hne : some g ≠ row) : FVar w' g n v := by
  have hlt := h.lt
  unfold FVar at *
  rw [hg.block g hlt hne]; exact h
end Go.Proofs.YtbplpfcgmmflnaaDoor
namespace Go.Proofs.YtbplpfcgmmflnaaDoor
open Go.RowKit

def hexS : ByteArray := ⟨#[48, 49, 50, 51, 52, 53, 54, 55, 56, 57, 97, 98, 99, 100, 101, 102]⟩
theorem hexS_piece_fin : ∀ d : Fin 16, (hexS.extract d.val (d.val + 1)).data.toList = [dgc d.val] := by decide +kernel
theorem hexS_piece {d : Nat} (h : d < 16) : (⟨#[48, 49, 50, 51, 52, 53, 54, 55, 56, 57, 97, 98, 99, 100, 101, 102]⟩ : ByteArray).extract d (d + 1) = ⟨#[dgc d]⟩ := by
  have := hexS_piece_fin ⟨d, h⟩
  apply ByteArray.ext
  apply Array.toList_inj.1
  exact this
theorem one_cat (c : UInt8) (t : List UInt8) : (⟨#[c]⟩ : ByteArray) ++ ⟨t.toArray⟩ = ⟨(c :: t).toArray⟩ := by
  apply ByteArray.ext; simp

set_option maxHeartbeats 1000000 in
theorem refBase16 (n : Nat) (w : World) (hn : (n : Int) ≤ 9223372036854775807) :
    Calls Tryd.prog 37 #[.int .i64 n, .int .i64 16] w fun e w' => e = .returned (.string (numeral 16 n)) ∧ ∃ j, w' = w.drewN j := by
  go_enter Tryd.func37, Tryd.ntmps37
  go_wp2
  go_loopw [5, 0] (fun s m wr => ∃ (k : Nat) (t : List UInt8) (j : Nat), (t.length : Int) + k ≤ n ∧ (t = [] ∨ 0 < k) ∧ m = .int .i64 k ∧ s = .string ⟨t.toArray⟩ ∧ wr = w.drewN j ∧ Hid (digs 16 n = digs 16 k ++ t)) (fun _ m _ => (intOf m).toNat)
  case atStart => exact ⟨n, [], 0, by simp, .inl rfl, rfl, rfl, by simp [World.drewN_zero], Lib.hid (by simp)⟩
  case round =>
    obtain ⟨k, t, j, hk, hne, rfl, rfl, rfl, HD⟩ := hrel
    have HNE := Lib.hid hne
    have hlen : t.length + 1 ≤ 9223372036854775807 := by
      rcases hne with rfl | h
      · simp
      · omega
    clear hne
    obtain ⟨d, hd⟩ : ∃ d : Nat, k % 16 = d := ⟨_, rfl⟩
    have hd9 : d < 16 := by omega
    have HDD := Lib.hid hd
    have hr : ((k : Int).tmod 16) = (d : Int) := by rw [Int.tmod_eq_emod_of_nonneg (by omega)]; omega
    clear hd
    have hw1 : IntKind.i64.wrap (d : Int) = (d : Int) := IntWalk.i64_in _ (by omega)
    have hw2 : IntKind.i64.wrap ((d : Int) + 1) = (d : Int) + 1 := IntWalk.i64_in _ (by omega)
    have hn1 : ((d : Int) + 1).toNat = d + 1 := by omega
    have hi1 : (0 : Int) ≤ d := by omega
    have hi2 : (0 : Int) ≤ d + 1 := by omega
    have hi3 : (d : Int) + 1 ≤ 16 := by omega
    have hi4 : d + 1 ≤ 16 := by omega
    have hi5 : (d : Int) ≤ d + 1 := by omega
    have hp := hexS_piece (d := d) (by omega)
    have hadd : ∀ W, (Op.stringOp .add ⟨#[dgc d]⟩ ⟨t.toArray⟩).run Tryd.prog W = .ok (.string ⟨(dgc d :: t).toArray⟩) W := fun W => by
      have h := run_string_add_sum (P := Tryd.prog) (w := W) ⟨#[dgc d]⟩ ⟨t.toArray⟩ (by show 1 + (t.toArray).size ≤ _; simp; omega)
      rw [one_cat] at h; exact h
    go_wp2_with fail
    go_quiet (fail)
    clear hr hw1 hw2 hn1 hp hadd hi4
    have hq : (k : Int) / 16 = ((k / 16 : Nat) : Int) := by omega
    by_cases hz : k / 16 = 0
    · have hz1 : (k : Int) / 16 = 0 := by omega
      have HZ := Lib.hid hz
      clear hz hq
      go_wp2
      go_ret
      refine ⟨ret_str ?_, _, rfl⟩
      have hs : k < 16 := by have := HZ.out; omega
      unfold numeral
      rw [HD.out, digs_small hs]
      have : k % 16 = k := Nat.mod_eq_of_lt hs
      rw [← HDD.out, this]; rfl
    · have HZ := Lib.hid hz
      have hz2 : ¬ (k : Int) / 16 = 0 := by omega
      clear hz hq
      go_wp2
      go_roundw
      case rel =>
        have hz := HZ.out
        refine ⟨k / 16, dgc d :: t, _, by simp; omega, .inr (by omega), by first | rfl | simp, rfl, rfl, Lib.hid ?_⟩
        rw [HD.out, digs_big (by omega) (show ¬ k < 16 by omega), ← HDD.out]; simp
      case measure => have hz := HZ.out; simp [intOf]; omega

def fmtS (b : Nat) (n : Int) : ByteArray := if n < 0 then ⟨#[]⟩ else numeral b n.toNat
theorem below_drewN0 (w : World) (j : Nat) : Below w.heap.size w (w.drewN j) := ⟨rfl, rfl, rfl, Nat.le_refl _, fun _ _ => rfl⟩
theorem refBase_neg (n b : Int) (w : World) (hn : n < 0) :
    Calls Tryd.prog 37 #[.int .i64 n, .int .i64 b] w fun e w' => e = .returned (.string ⟨#[]⟩) ∧ w = w' := by
  go_enter Tryd.func37, Tryd.ntmps37
  go_wp2
  go_ret
  exact ⟨rfl, rfl⟩

theorem refHex_any (n : Int) (w : World) (h0 : -9223372036854775808 ≤ n) (h1 : n ≤ 9223372036854775807) :
    Calls Tryd.prog 29 #[.int .i64 n] w fun e w' => e = .returned (.string (fmtS 16 n)) ∧ Below w.heap.size w w' := by
  by_cases hn : n < 0
  · go_enter Tryd.func29, Tryd.ntmps29
    go_wp2_with (go_at_call 37; refine (refBase_neg _ _ _ hn).mono ?_; rintro e w' ⟨rfl, rfl⟩)
    go_ret
    exact ⟨ret_str (by unfold fmtS; rw [if_pos hn]), Below.refl _ _⟩
  · obtain ⟨k, rfl⟩ : ∃ k : Nat, n = k := ⟨n.toNat, by omega⟩
    go_enter Tryd.func29, Tryd.ntmps29
    go_wp2_with (go_at_call 37; refine (refBase16 _ _ (by omega)).mono ?_; rintro e w' ⟨rfl, j, rfl⟩)
    go_ret
    exact ⟨ret_str (by unfold fmtS; rw [if_neg (by omega)]; rfl), below_drewN0 _ _⟩
end Go.Proofs.YtbplpfcgmmflnaaDoor
namespace Go.Proofs.YtbplpfcgmmflnaaDoor
open Go.RowKit

def idxI (c : UInt8) (s : ByteArray) : Int := Lib.indexByte s.data.toList c
theorem idxI_ge (c : UInt8) (s : ByteArray) : -1 ≤ idxI c s := Lib.indexByte_ge _ _
theorem idxI_lt (c : UInt8) (s : ByteArray) {k : Nat} (h : idxI c s = k) : k < s.size := by
  have := (Lib.indexByte_some h).1
  have := (List.getElem?_eq_some_iff.1 this).1
  simpa using this
theorem idxI_at (c : UInt8) (s : ByteArray) (k : Nat) (hk : k < s.size) (h : s[k] = c) (hp : ∀ j, j < k → s.data.toList[j]? ≠ some c) : idxI c s = k := by
  have hge := idxI_ge c s
  have hkk : s.data.toList[k]? = some c := by
    rw [List.getElem?_eq_getElem (by simpa using hk)]
    exact congrArg some h
  by_cases h1 : idxI c s = -1
  · exact absurd hkk (Lib.indexByte_none h1 k)
  · obtain ⟨o, ho⟩ : ∃ o : Nat, idxI c s = o := ⟨(idxI c s).toNat, by omega⟩
    have h2 := Lib.indexByte_some ho
    rw [ho]
    congr 1
    rcases Nat.lt_trichotomy o k with h3 | h3 | h3
    · exact absurd h2.1 (hp o h3)
    · exact h3
    · exact absurd hkk (h2.2 k h3)
def v10 : ByteArray := ⟨#[72, 84, 84, 80, 47, 49, 46, 48]⟩
def v11 : ByteArray := ⟨#[72, 84, 84, 80, 47, 49, 46, 49]⟩
end Go.Proofs.YtbplpfcgmmflnaaDoor
namespace Go.Proofs.YtbplpfcgmmflnaaDoor
open Go.RowKit

section
variable {Q : Exit → Act → World → Prop} {a : Act} {w : World} {o : Oper} {s : Spec}
theorem loc_addS {x y : Operand} {t : TypeId} (ho : o.op = .binOp .add 9 x y t) {b c : ByteArray} (hx : a.eval x = .string b) (hy : a.eval y = .string c) (hn : b.size + c.size ≤ 4000000000) (hs : s.p (.string (b ++ c)) w) :
    o.wp Tryd.prog a w (fun a' w' => ∃ v, a' = a.put o.dst v ∧ Below w.heap.size w w' ∧ s.p v w') Q :=
  loc_run (v := .string (b ++ c)) (by
    have h := run_string_add_sum (P := Tryd.prog) (w := w) b c (by omega)
    unfold execOp
    simp [ho, hx, hy, eqGuard, binOp, h, Result.andThen]) (Below.refl _ _) hs
end

end Go.Proofs.YtbplpfcgmmflnaaDoor
