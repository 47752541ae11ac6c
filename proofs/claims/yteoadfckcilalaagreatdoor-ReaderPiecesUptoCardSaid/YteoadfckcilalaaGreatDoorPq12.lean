/- Reading a message in pieces: heads, and all rounds. The names of fields that were read are not empty. Regions of the laws that call Next. awake of the laws on readers. The state in the reference; the small functions of the laws. begin of the laws on readers. -/
import Derived.Test.YteoadfckcilalaaGreatDoorPq1
import Derived.Test.YteoadfckcilalaaGreatDoorPq2
import Derived.Test.YteoadfckcilalaaGreatDoorPq3
import Derived.Test.YteoadfckcilalaaGreatDoorPq4
import Derived.Test.YteoadfckcilalaaGreatDoorPq5
import Derived.Test.YteoadfckcilalaaGreatDoorPq6
import Derived.Test.YteoadfckcilalaaGreatDoorPq7
import Derived.Test.YteoadfckcilalaaGreatDoorPq8
import Derived.Test.YteoadfckcilalaaGreatDoorPq9
import Derived.Test.YteoadfckcilalaaGreatDoorPq10
import Derived.Test.YteoadfckcilalaaGreatDoorPq11
import Derived.Test.YteoadfckcilalaaGreatDoorRows
import Derived.WalkKit
import Derived.WalkSpells
import Derived.WalkLawsBesides
import Derived.BigQuiet
import Derived.Deep.QuietTactic
import Derived.Lib.Bytealg
import Derived.Lib.IndexLaws
import Derived.Lib.Hide
import Derived.Laws.IdiomStrings
import Derived.Lib.SlTrimSet
import Derived.Lib.IndexBytes
import Derived.Lib.Split
import Derived.Deep.AppendLies
import Derived.Shelf.Strings.SlTrimAscii
import Derived.Shelf.Strings.SplitShaped
import Derived.Shelf.LaysM
import Derived.Shelf.Strings.BuilderK
import Derived.Shelf.Strconv.Itoa4
import Derived.Shelf.Strings.Prefix
import Derived.Shelf.Bytes.SlIndexWhole
import Derived.Test.YteoadfckcilalaaGreatDoorProg
import Derived.Lib.SplitLaws
import Derived.WalkSmall
import Derived.ProofKit
import Derived.OpenShut
import Derived.Lib.Strings
import Derived.SliceStrings
import Derived.Deep.Quiet
import Derived.Tactics
import Derived.KernelRfl
import Derived.Below
import Derived.Laws.Bits64
import Derived.Lib.SlBytesConst
import Derived.Maps.AppendAt
import Derived.Laws.AppendOwnNone
import Derived.Great.BuildSlice
import Derived.Laws.Rows
import Derived.Laws.BitsAllLaws
import Derived.Laws.Shifts
import Derived.Maps.OwnOps
import Derived.Maps.OwnSet
import Derived.Deep.SlicePairs
import Derived.Lib.AppendZerosOnto
import Derived.Lib.AppendStr
import Derived.Laws.CopyOwn
import Derived.OwnWalk
import Derived.Laws.Strings3
import Derived.Laws.Concat
import Derived.Lib.ItoaMem
import Derived.Deep.RegionHeld3
import Derived.IntWalk
import Derived.Laws.RangeAny
import Derived.LoopTactic
import Derived.Sort.Grow
import Derived.Lib.ConvBytes
import Derived.Deep.Matrix
import Derived.Lib.LaidTab
import Derived.LaidSub
import Derived.Laws.Bits64b
import Derived.Deep.DeepCutAuto
import Derived.Deep.CutBlock
import Derived.Lib.FrozenHead2
import Derived.Deep.MidRow
import Derived.Laws.Tables
import Derived.Deep.WholeRow
import Derived.StillTailTactics
import Derived.Lib.LazyBuf
import Derived.ArgAppend
namespace Go.Proofs.YteoadfckcilalaaGreatDoor
open Go.RowKit

theorem linesGo_two : ∀ (l cur : List UInt8) (G : List ByteArray), linesGo cur l = some G → ∀ s ∈ G, s.size + 2 ≤ cur.length + l.length
 | [], cur, G, h, s, hs => by
  unfold linesGo at h
  obtain rfl := Option.some.inj h
  exact absurd hs (by simp)
 | x :: r, cur, G, h, s, hs => by
  unfold linesGo at h
  split at h
  · cases h
  · rename_i hc
    split at h
    · rename_i hx
      cases hq : linesGo [] r with
      | none => rw [hq] at h; cases h
      | some G' =>
       rw [hq] at h
       simp only [Option.map_some, Option.some.injEq] at h
       subst h
       rcases List.mem_cons.1 hs with rfl | hs
       · have h1 : cur.getLast? = some 13 := by
          refine Classical.byContradiction fun h2 => hc (.inr ⟨hx, h2⟩)
         have h2 : cur ≠ [] := fun e => by rw [e] at h1; cases h1
         have h3 : 0 < cur.length := List.length_pos_iff.2 h2
         show cur.dropLast.toArray.size + 2 ≤ _
         rw [List.size_toArray, List.length_dropLast, List.length_cons]
         omega
       · have := linesGo_two r [] G' hq s hs
         simp only [List.length_nil, List.length_cons] at *
         omega
    · have := linesGo_two r (cur ++ [x]) G h s hs
      simp only [List.length_append, List.length_cons, List.length_nil] at *
      omega
theorem linesS_two {b : List UInt8} {L : List ByteArray} (h : linesS b = some L) : ∀ s ∈ L, s.size + 2 ≤ b.length := fun s hs => by
 unfold linesS at h
 split at h
 · cases hq : linesGo [] b with
   | none => rw [hq] at h; cases h
   | some G =>
    rw [hq] at h
    simp only [Option.map_some, Option.some.injEq] at h
    subst h
    have := linesGo_two b [] G hq s (List.dropLast_subset _ hs)
    simpa using this
 · cases h
theorem fieldsGo_from : ∀ (l : List ByteArray) (x : List Fld), fieldsGo l = some x → ∀ f ∈ x, ∃ s ∈ l, parseF s = some f
 | [], x, h, f, hf => by
  cases h
  exact absurd hf (by simp)
 | t :: l, x, h, f, hf => by
  unfold fieldsGo at h
  cases ht : parseF t with
  | none => rw [ht] at h; cases h
  | some g =>
   rw [ht] at h
   simp only at h
   cases hx : fieldsGo l with
   | none => rw [hx] at h; cases h
   | some y =>
    rw [hx] at h
    simp only [Option.map_some, Option.some.injEq] at h
    subst h
    rcases List.mem_cons.1 hf with rfl | hf
    · exact ⟨t, List.mem_cons_self .., ht⟩
    · obtain ⟨s, h1, h2⟩ := fieldsGo_from l y hx f hf
      exact ⟨s, List.mem_cons_of_mem _ h1, h2⟩
theorem fieldsS_from {l : List ByteArray} {f : Fld} (hf : f ∈ (fieldsS l).2) : ∃ s ∈ l, parseF s = some f := by
 unfold fieldsS at hf
 split at hf
 · exact absurd hf (by simp)
 · cases hx : fieldsGo l with
   | none => rw [hx] at hf; exact absurd hf (by simp)
   | some y => rw [hx] at hf; exact fieldsGo_from l y hx f hf
theorem parseF_sum {s : ByteArray} {f : Fld} (h : parseF s = some f) : f.1.size + 1 + f.2.size ≤ s.size := by
 unfold parseF at h
 split at h
 · rename_i h0
   split at h
   · have e := Option.some.inj h
     subst e
     have h1 : (colonI s).toNat < s.size := colonI_lt s (k := (colonI s).toNat) (by omega)
     have h2 := trimBA_size (s.extract ((colonI s).toNat + 1) s.size)
     rw [ByteArray.size_extract] at h2
     show (s.extract 0 (colonI s).toNat).size + 1 + (trimBA (s.extract ((colonI s).toNat + 1) s.size)).size ≤ s.size
     rw [ByteArray.size_extract]
     omega
   · cases h
 · cases h
theorem foldS_size {a b : ByteArray} (h : foldS a b = true) : a.size = b.size := by
 have h1 := eq_of_beq h
 have h2 := congrArg List.length h1
 rw [ByteArray.toList_eq, ByteArray.toList_eq] at h2
 have h3 := lowS_sizeF a
 have h4 := lowS_sizeF b
 simp only [Array.length_toList] at h2
 rw [← h3, ← h4]
 exact h2
theorem frame3_long {v : Int} {ls : List ByteArray} {k0 : Int} {h : List UInt8} (hL : ∀ s ∈ ls, s.size + 2 ≤ h.length) (hk : ¬ k0 = 3) (hf : (frameS v (fieldsS ls).2 k0).1 = 3) : 26 ≤ h.length := by
 have key : chunkedB (listL (valuesL (fieldsS ls).2 teN)) = true := by
  unfold frameS at hf
  split at hf
  · split at hf
    · exact absurd hf (by show ¬ (0 : Int) = 3; decide)
    · rename_i hc
      cases hb : chunkedB (listL (valuesL (fieldsS ls).2 teN)) with
      | true => rfl
      | false => exact absurd (.inr (.inr hb)) hc
  · split at hf
    · exact absurd hf hk
    · split at hf
      · exact absurd hf (by show ¬ (0 : Int) = 3; decide)
      · split at hf
        · exact absurd hf (by show ¬ (2 : Int) = 3; decide)
        · exact absurd hf (by show ¬ (0 : Int) = 3; decide)
 unfold chunkedB at key
 split at key
 · rename_i y hy
   have h1 := foldS_size key
   have hmem : y ∈ listL (valuesL (fieldsS ls).2 teN) := by rw [hy]; exact List.mem_singleton.2 rfl
   unfold listL at hmem
   obtain ⟨v0, hv0, hy0⟩ := List.mem_flatMap.1 hmem
   have h2 := total_mem hy0
   have h3 := total_elemL v0
   unfold valuesL at hv0
   obtain ⟨f, hf0, rfl⟩ := List.mem_map.1 hv0
   obtain ⟨hf1, hf2⟩ := List.mem_filter.1 hf0
   have h4 := foldS_size hf2
   obtain ⟨s, hs, hp⟩ := fieldsS_from hf1
   have h5 := parseF_sum hp
   have h6 := hL s hs
   have h7 : chunkedN.size = 7 := rfl
   have h8 : teN.size = 17 := rfl
   omega
 · cases key
theorem headX_size {s : RS} {h : List UInt8} {body : Int} (h0 : (headX s h body).er = 0) (h1 : (headX s h body).kind = 1) : (headX s h body).r.size = 0 := by
 have hf : ∀ (x : RS) (f : Int × Int × Int) (n : Nat), (finX x f n body).er = 0 → (finX x f n body).r.size = 0 := fun x f n h0 => by
  unfold finX at h0 ⊢
  split
  · rfl
  · split
    · rfl
    · rfl
 unfold headX at h0 h1 ⊢
 split
 · rename_i hr
   rw [if_pos hr] at h0 h1
   split
   · rfl
   · rename_i hc
     rw [if_neg hc] at h0 h1
     split
     · rfl
     · rename_i hc2
       rw [if_neg hc2] at h0 h1
       split
       · rename_i hc3
         rw [if_pos hc3] at h1
         exact absurd h1 (by show ¬ (4 : Int) = 1; decide)
       · rename_i hc3
         rw [if_neg hc3] at h0
         exact hf _ _ _ h0
 · rename_i hr
   rw [if_neg hr] at h0 h1
   split
   · rfl
   · rename_i hc
     rw [if_neg hc] at h0
     exact hf _ _ _ h0
theorem headX_chunk {s : RS} {h : List UInt8} {body : Int} (h0 : (headX s h body).er = 0) (h1 : (headX s h body).kind = 1) (h3 : (headX s h body).r.fk = 3) : 26 ≤ h.length := by
 have hf : ∀ (x : RS) (f : Int × Int × Int) (n : Nat), (finX x f n body).er = 0 → (finX x f n body).r.fk = 3 → f.1 = 3 := fun x f n h0 h3 => by
  unfold finX at h0 h3
  split at h0
  · rename_i hc
    exfalso
    unfold errX at h0
    dsimp only at h0
    split at h0
    · cases h0
    · exact hc h0
  · rename_i hc
    rw [if_neg hc] at h3
    split at h0
    · exact absurd h0 (by decide)
    · rename_i hc2
      rw [if_neg hc2] at h3
      exact h3
 unfold headX at h0 h1 h3
 split at h0
 · rename_i hr
   rw [if_pos hr] at h1 h3
   split at h0
   · rename_i hc; exact absurd h0 hc
   · rename_i hc
     rw [if_neg hc] at h1 h3
     split at h0
     · exact absurd h0 (by decide)
     · rename_i hc2
       rw [if_neg hc2] at h1 h3
       split at h0
       · rename_i hc3
         rw [if_pos hc3] at h1
         exact absurd h1 (by show ¬ (4 : Int) = 1; decide)
       · rename_i hc3
         rw [if_neg hc3] at h3
         have hk := hf _ _ _ h0 h3
         unfold replyS at hk
         split at hk
         · exact absurd hk (by show ¬ (1 : Int) = 3; decide)
         · unfold headA at hk
           split at hk
           · rename_i l0 ls hL
             have hL2 := linesS_two hL
             split at hk
             · split at hk
               · exact frame3_long (fun s hs => hL2 s (List.mem_cons_of_mem _ hs)) (by decide) hk
               · exact absurd hk (by show ¬ (frameS 0 [] 4).1 = 3; decide +kernel)
             · exact absurd hk (by show ¬ (frameS 0 [] 4).1 = 3; decide +kernel)
           · exact absurd hk (by show ¬ (frameS 0 [] 4).1 = 3; decide +kernel)
 · rename_i hr
   rw [if_neg hr] at h1 h3
   split at h0
   · rename_i hc; exact absurd h0 hc
   · rename_i hc
     rw [if_neg hc] at h3
     have hk := hf _ _ _ h0 h3
     unfold headR at hk
     split at hk
     · rename_i l0 ls hL
       have hL2 := linesS_two hL
       split at hk
       · split at hk
         · split at hk
           · exact absurd hk (by show ¬ (frameS 0 [] 1).1 = 3; decide +kernel)
           · exact frame3_long (fun s hs => hL2 s (List.mem_cons_of_mem _ hs)) (by decide) hk
         · exact absurd hk (by show ¬ (frameS 0 [] 1).1 = 3; decide +kernel)
       · exact absurd hk (by show ¬ (frameS 0 [] 1).1 = 3; decide +kernel)
     · exact absurd hk (by show ¬ (frameS 0 [] 1).1 = 3; decide +kernel)
theorem allC_more : ∀ (N f : Nat) (s : RS) (b : List UInt8), b.length ≤ N → b.length < f → allC f s b = allC (b.length + 1) s b
 | N, 0, s, b, _, h => absurd h (Nat.not_lt_zero _)
 | N, f + 1, s, b, hN, h => by
  unfold allC
  split
  · split
    · rfl
    · split
      · rfl
      · rename_i h0
        split
        · rfl
        · have h0' : (endS b 400).2 = 0 := Decidable.not_not.1 h0
          obtain ⟨n, hn, h1, h2⟩ := endS_ok h0'
          rw [hn]
          show (allC f _ (b.drop (Int.toNat (n : Int)))).add _ _ = (allC b.length _ (b.drop (Int.toNat (n : Int)))).add _ _
          rw [Int.toNat_natCast]
          have hd : (b.drop n).length = b.length - n := List.length_drop
          match N, hN with
          | 0, hN => omega
          | N + 1, hN => rw [allC_more N f _ (b.drop n) (by omega) (by omega), allC_more N b.length _ (b.drop n) (by omega) (by omega)]
  · rfl
def CW (s : RS) (b : List UInt8) : RW := allC (b.length + 1) s b
theorem CW_body {s : RS} {b : List UInt8} (h : ¬ s.ph = 0) : CW s b = bodyC s b := by unfold CW allC; rw [if_neg h]
theorem CW_more {s : RS} {b : List UInt8} (h : s.ph = 0) (h4 : endS b 400 = (0, 4)) : CW s b = .got 4 s [] 0 := by
 unfold CW allC; rw [if_pos h, if_pos (by rw [h4])]
theorem CW_lim {s : RS} {b : List UInt8} (h : s.ph = 0) (h4 : endS b 400 = (0, 3)) : CW s b = .err 3 := by
 unfold CW allC
 rw [if_pos h, if_neg (by rw [h4]; show ¬ (3 : Int) = 4; decide), if_pos (by rw [h4]; show (3 : Int) ≠ 0; decide), h4]
theorem CW_head {s : RS} {b : List UInt8} {n : Nat} (h : s.ph = 0) (hE : endS b 400 = ((n : Int), 0)) : CW s b = if (headX s (b.take n) 100).er ≠ 0 then .err (headX s (b.take n) 100).er else (CW (headX s (b.take n) 100).r (b.drop n)).add [] n := by
 have h1 := endS_end hE
 have hd : (b.drop n).length = b.length - n := List.length_drop
 unfold CW
 rw [← allC_more b.length b.length _ (b.drop n) (by omega) (by omega)]
 conv => lhs; unfold allC
 rw [if_pos h, if_neg (by rw [hE]; show ¬ (0 : Int) = 4; decide), if_neg (by rw [hE]; exact fun h => h rfl), hE]
 show (if (headX s (b.take (Int.toNat (n : Int))) 100).er ≠ 0 then RW.err (headX s (b.take (Int.toNat (n : Int))) 100).er else (allC b.length (headX s (b.take (Int.toNat (n : Int))) 100).r (b.drop (Int.toNat (n : Int)))).add [] (Int.toNat (n : Int))) = _
 rw [Int.toNat_natCast]
theorem head_round {s : RS} {b : List UInt8} (hg : GoodS s b) (hp : s.ph = 0) (q : Nat) (hq : q ≤ b.length) (room : Int) (hl : b.length ≤ 1000000) {x : NX} (hx : x = nextX s (b.take q) 400 100 room) :
  (¬ x.er = 0 → CW s b = .err x.er) ∧
  (x.er = 0 → ¬ x.kind = 3) ∧
  (x.er = 0 → x.kind = 0 ∧ x.n = 0 → x.data = [] ∧ x.r = s ∧ (q = b.length → CW s b = .got 4 s [] 0)) ∧
  (x.er = 0 → ¬ (x.kind = 0 ∧ x.n = 0) → 1 ≤ x.n ∧ x.n ≤ q ∧ GoodS x.r (b.drop x.n) ∧ CW s b = (CW x.r (b.drop x.n)).add x.data x.n) := by
 have hnx : nextX s (b.take q) 400 100 room = firstX s (b.take q) 400 100 := by unfold nextX; rw [if_pos hp]
 rw [hnx] at hx
 rcases endS_cases (b.take q) 400 with h | h | ⟨n, hE, h4, hn⟩
 · have e : x = ⟨0, s, 0, [], 0⟩ := by rw [hx]; unfold firstX; rw [if_pos (by rw [h])]
   rw [e]
   refine ⟨fun h => absurd rfl h, fun _ => by show ¬ (0 : Int) = 3; decide, fun _ _ => ⟨rfl, rfl, fun hqb => ?_⟩, fun _ h => absurd ⟨rfl, rfl⟩ h⟩
   rw [hqb, List.take_length] at h
   exact CW_more hp h
 · have e : x = errX 3 := by
    rw [hx]; unfold firstX
    rw [if_neg (by rw [h]; show ¬ (3 : Int) = 4; decide), if_pos (by rw [h]; show (3 : Int) ≠ 0; decide), h]
   rw [e]
   refine ⟨fun _ => CW_lim hp (endS_take_lim h), fun h => absurd h (by decide), fun h => absurd h (by decide), fun h => absurd h (by decide)⟩
 · obtain ⟨hE2, hnq⟩ := endS_take_ok hE
   have htt : (b.take q).take n = b.take n := by rw [List.take_take, Nat.min_eq_left hnq]
   have hln : (b.take n).length = n := by rw [List.length_take]; omega
   have e : x = headX s (b.take n) 100 := by
    rw [hx]; unfold firstX
    rw [if_neg (by rw [hE]; show ¬ (0 : Int) = 4; decide), if_neg (by rw [hE]; exact fun h => h rfl), hE]
    show headX s ((b.take q).take (Int.toNat (n : Int))) 100 = _
    rw [Int.toNat_natCast, htt]
   have hc := CW_head hp hE2
   rw [← e] at hc
   refine ⟨fun h0 => by rw [hc, if_pos h0], fun h0 => ?_, fun h0 hk => ?_, fun h0 _ => ?_⟩
   · have hk := headX_ok (s := s) (h := b.take n) (body := 100) (by decide) (by omega) hg.ok hp (by rw [← e]; exact h0)
     rw [← e] at hk
     omega
   · have hk2 := headX_ok (s := s) (h := b.take n) (body := 100) (by decide) (by omega) hg.ok hp (by rw [← e]; exact h0)
     rw [← e] at hk2
     omega
   · have hk := headX_ok (s := s) (h := b.take n) (body := 100) (by decide) (by omega) hg.ok hp (by rw [← e]; exact h0)
     rw [← e, hln] at hk
     obtain ⟨k1, k2, k3, k4⟩ := hk
     have hgb := hg.hd hp
     rw [k2]
     refine ⟨by omega, hnq, ⟨k1, ?_, fun _ => hgb.drop n, fun hp1 h3 => ?_⟩, by rw [hc, if_neg (fun h => h h0), k3]⟩
     · rcases k4 with ⟨_, h⟩ | ⟨_, h⟩
       · exact .inr h
       · rw [h]; exact .inl hp
     · rcases k4 with ⟨hk1, _⟩ | ⟨_, h⟩
       · have hlong := headX_chunk (s := s) (h := b.take n) (body := 100) (by rw [← e]; exact h0) (by rw [← e]; exact hk1) (by rw [← e]; exact h3)
         rw [hln] at hlong
         have hw := endS_end hE2
         have := hgb n hw.2.2.1 hw.2.2.2.1 hw.2.2.2.2
         have hsz : x.r.size = 0 := by
          rw [e]
          exact headX_size (by rw [← e]; exact h0) (by rw [← e]; exact hk1)
         rw [hsz, List.length_drop]
         omega
       · rw [h] at hp1; omega
end Go.Proofs.YteoadfckcilalaaGreatDoor
namespace Go.Proofs.YteoadfckcilalaaGreatDoor
open Go.RowKit

def NmS (s : RS) : Prop := (∀ f ∈ s.xs, ¬ f.1.size = 0) ∧ ∀ f ∈ s.ys, ¬ f.1.size = 0
theorem nmS_zero : NmS zeroR := ⟨fun f hf => absurd hf (by simp [zeroR]), fun f hf => absurd hf (by simp [zeroR])⟩
theorem parseF_name {s : ByteArray} {f : Fld} (h : parseF s = some f) : ¬ f.1.size = 0 := by
 unfold parseF at h
 split at h
 · split at h
   · rename_i hb
     have e := Option.some.inj h
     rw [← e]
     intro hz
     have hb2 : tokS (s.extract 0 (colonI s).toNat) = true := by
      cases ht : tokS (s.extract 0 (colonI s).toNat) with
      | true => rfl
      | false => rw [fldB_tok ht] at hb; cases hb
     have hz2 : (s.extract 0 (colonI s).toNat).data.toList = [] := List.eq_nil_of_length_eq_zero (by simpa using hz)
     unfold tokS at hb2
     rw [hz2] at hb2
     exact absurd hb2 (by decide)
   · cases h
 · cases h
theorem fieldsS_names {l : List ByteArray} : ∀ f ∈ (fieldsS l).2, ¬ f.1.size = 0 := fun f hf => by
 obtain ⟨s, _, hp⟩ := fieldsS_from hf
 exact parseF_name hp
theorem headA_names (h : List UInt8) : ∀ f ∈ (headA h).2.2.2.2, ¬ f.1.size = 0 := by
 unfold headA
 split
 · split
   · split
     · exact fieldsS_names
     · exact fun f hf => absurd hf (by simp)
   · exact fun f hf => absurd hf (by simp)
 · exact fun f hf => absurd hf (by simp)
theorem headR_names (h : List UInt8) : ∀ f ∈ (headR h).2.2.2.2, ¬ f.1.size = 0 := by
 unfold headR
 split
 · split
   · split
     · split
       · exact fun f hf => absurd hf (by simp)
       · exact fieldsS_names
     · exact fun f hf => absurd hf (by simp)
   · exact fun f hf => absurd hf (by simp)
 · exact fun f hf => absurd hf (by simp)
theorem finX_names {x : RS} (h : NmS x) (f : Int × Int × Int) (n : Nat) (body : Int) : NmS (finX x f n body).r := by
 unfold finX
 split
 · exact nmS_zero
 · split
   · exact nmS_zero
   · exact h
theorem moreX_names {s : RS} (hs : NmS s) (b : List UInt8) (body room : Int) : NmS (moreX s b body room).r := by
 unfold moreX
 split
 · split
   · exact hs
   · split <;> exact hs
 · split
   · split
     · exact nmS_zero
     · split
       · exact nmS_zero
       · split
         · exact hs
         · split <;> exact hs
   · split
     · exact hs
     · split
       · exact nmS_zero
       · exact hs
theorem nextX_names {s : RS} (hs : NmS s) (b : List UInt8) (most body room : Int) : NmS (nextX s b most body room).r := by
 unfold nextX
 split
 · unfold firstX
   split
   · exact hs
   · split
     · exact nmS_zero
     · unfold headX
       split
       · split
         · exact nmS_zero
         · split
           · exact nmS_zero
           · split
             · exact hs
             · refine finX_names ?_ _ _ _
               exact ⟨hs.1, headA_names _⟩
       · split
         · exact nmS_zero
         · refine finX_names ?_ _ _ _
           exact ⟨headR_names _, hs.2⟩
 · split
   · exact moreX_names hs b body _
   · exact hs
end Go.Proofs.YteoadfckcilalaaGreatDoor
namespace Go.Proofs.YteoadfckcilalaaGreatDoor
open Go.RowKit

set_option linter.unusedVariables false
structure RMemQ (L : (Nat → Prop) × (Nat → Prop)) (w : World) (s : RS) (fa ga la : Option Addr) (lc : Nat) : Prop where
 m : RMem L.1 w s fa ga la lc
 l : ∀ y, la = some y → s.ck.line ≠ [] → L.2 y.block
theorem RMemQ.keep {L : (Nat → Prop) × (Nat → Prop)} {w w' : World} {s : RS} {fa ga la : Option Addr} {lc : Nat} (h : RMemQ L w s fa ga la lc) (hb : Below w.heap.size w w') : RMemQ L w' s fa ga la lc := ⟨h.m.keep hb, h.l⟩
def StV (L : (Nat → Prop) × (Nat → Prop)) (s : RS) (w : World) (g : Nat) : Prop := ∃ fa fc ga gc la lc, RVr w g #[.bool s.rep, .string s.meth, .int .i64 s.ph, .string s.m, .string s.t, .int .i64 s.z, .slice fa (List.length s.xs) fc, .bool s.fr, .slice none 0 0, .int .i64 s.st, .string s.rs, .int .i64 s.z2, .slice ga (List.length s.ys) gc, .slice none 0 0, .int .i64 s.fk, .int .i64 s.fl, .int .i64 s.left, .int .i64 s.size, .int .i64 s.ck.ph, .int .i64 s.ck.left, .int .i64 s.ck.tr, .slice la (List.length s.ck.line) lc] ∧ RMemQ L w s fa ga la lc
def AgS (L : (Nat → Prop) × (Nat → Prop)) (s : RS) (w : World) (v : Value) : Prop := ∃ fa fc ga gc la lc, v = .agg #[.bool s.rep, .string s.meth, .int .i64 s.ph, .string s.m, .string s.t, .int .i64 s.z, .slice fa (List.length s.xs) fc, .bool s.fr, .slice none 0 0, .int .i64 s.st, .string s.rs, .int .i64 s.z2, .slice ga (List.length s.ys) gc, .slice none 0 0, .int .i64 s.fk, .int .i64 s.fl, .int .i64 s.left, .int .i64 s.size, .int .i64 s.ck.ph, .int .i64 s.ck.left, .int .i64 s.ck.tr, .slice la (List.length s.ck.line) lc] ∧ RMemQ L w s fa ga la lc
def PtV (x : NX) (w : World) (g : Nat) : Prop := ∃ pa pc, PVr w g #[.int .i64 x.kind, .slice pa (List.length x.data) pc] ∧ IsBytes w pa x.data pc
def AgP (x : NX) (w : World) (v : Value) : Prop := ∃ pa pc, v = .agg #[.int .i64 x.kind, .slice pa (List.length x.data) pc] ∧ IsBytes w pa x.data pc
def NxV (L : (Nat → Prop) × (Nat → Prop)) (x : NX) (w : World) (v : Value) : Prop := ∃ fa fc ga gc la lc pa pc, v = .tuple #[.agg #[.bool x.r.rep, .string x.r.meth, .int .i64 x.r.ph, .string x.r.m, .string x.r.t, .int .i64 x.r.z, .slice fa (List.length x.r.xs) fc, .bool x.r.fr, .slice none 0 0, .int .i64 x.r.st, .string x.r.rs, .int .i64 x.r.z2, .slice ga (List.length x.r.ys) gc, .slice none 0 0, .int .i64 x.r.fk, .int .i64 x.r.fl, .int .i64 x.r.left, .int .i64 x.r.size, .int .i64 x.r.ck.ph, .int .i64 x.r.ck.left, .int .i64 x.r.ck.tr, .slice la (List.length x.r.ck.line) lc], .agg #[.int .i64 x.kind, .slice pa (List.length x.data) pc], .int .i64 x.n, .int .i64 x.er] ∧ RMemQ L w x.r fa ga la lc ∧ IsBytes w pa x.data pc
def RNew (N : Nat) (w : World) (v : Value) : Prop := ∃ g, v = .pointer (some ⟨g, 0, none⟩) ∧ N ≤ g ∧ RVr w g #[.bool false, .string ⟨#[]⟩, .int .i64 0, .string ⟨#[]⟩, .string ⟨#[]⟩, .int .i64 0, .slice none 0 0, .bool false, .slice none 0 0, .int .i64 0, .string ⟨#[]⟩, .int .i64 0, .slice none 0 0, .slice none 0 0, .int .i64 0, .int .i64 0, .int .i64 0, .int .i64 0, .int .i64 0, .int .i64 0, .int .i64 0, .slice none 0 0]
def PNew (N : Nat) (w : World) (v : Value) : Prop := ∃ g, v = .pointer (some ⟨g, 0, none⟩) ∧ N ≤ g ∧ PVr w g #[.int .i64 0, .slice none 0 0]
def RSt (N : Nat) (L : (Nat → Prop) × (Nat → Prop)) (s : RS) (w : World) (v : Value) : Prop := ∃ g, v = .pointer (some ⟨g, 0, none⟩) ∧ N ≤ g ∧ StV L s w g
def PSt (N : Nat) (x : NX) (w : World) (v : Value) : Prop := ∃ g, v = .pointer (some ⟨g, 0, none⟩) ∧ N ≤ g ∧ PtV x w g
theorem StV.keep {L : (Nat → Prop) × (Nat → Prop)} {s : RS} {w w' : World} {g : Nat} (h : StV L s w g) (hb : Below w.heap.size w w') : StV L s w' g := by
 obtain ⟨fa, fc, ga, gc, la, lc, h1, h2⟩ := h
 exact ⟨fa, fc, ga, gc, la, lc, h1.keep hb, h2.keep hb⟩
theorem AgS.keep {L : (Nat → Prop) × (Nat → Prop)} {s : RS} {w w' : World} {v : Value} (h : AgS L s w v) (hb : Below w.heap.size w w') : AgS L s w' v := by
 obtain ⟨fa, fc, ga, gc, la, lc, h1, h2⟩ := h
 exact ⟨fa, fc, ga, gc, la, lc, h1, h2.keep hb⟩
theorem PtV.keep {x : NX} {w w' : World} {g : Nat} (h : PtV x w g) (hb : Below w.heap.size w w') : PtV x w' g := by
 obtain ⟨pa, pc, h1, h2⟩ := h
 exact ⟨pa, pc, h1.keep hb, h2.keep hb⟩
theorem AgP.keep {x : NX} {w w' : World} {v : Value} (h : AgP x w v) (hb : Below w.heap.size w w') : AgP x w' v := by
 obtain ⟨pa, pc, h1, h2⟩ := h
 exact ⟨pa, pc, h1, h2.keep hb⟩
theorem NxV.keep {L : (Nat → Prop) × (Nat → Prop)} {x : NX} {w w' : World} {v : Value} (h : NxV L x w v) (hb : Below w.heap.size w w') : NxV L x w' v := by
 obtain ⟨fa, fc, ga, gc, la, lc, pa, pc, h1, h2, h3⟩ := h
 exact ⟨fa, fc, ga, gc, la, lc, pa, pc, h1, h2.keep hb, h3.keep hb⟩
def Spec.srow (L : (Nat → Prop) × (Nat → Prop)) (s : RS) : Spec := ⟨fun v w => AgS L s w v, fun _ _ _ h hb => h.keep hb⟩
def Spec.prow (x : NX) : Spec := ⟨fun v w => AgP x w v, fun _ _ _ h hb => h.keep hb⟩
def Spec.nxt (L : (Nat → Prop) × (Nat → Prop)) (x : NX) : Spec := ⟨fun v w => NxV L x w v, fun _ _ _ h hb => h.keep hb⟩
def Spec.rnew (N : Nat) : Spec := ⟨fun v w => RNew N w v, fun _ _ _ h hb => by
 obtain ⟨g, h1, h2, h3⟩ := h
 exact ⟨g, h1, h2, h3.keep hb⟩⟩
def Spec.pnew (N : Nat) : Spec := ⟨fun v w => PNew N w v, fun _ _ _ h hb => by
 obtain ⟨g, h1, h2, h3⟩ := h
 exact ⟨g, h1, h2, h3.keep hb⟩⟩
def Spec.rst (N : Nat) (L : (Nat → Prop) × (Nat → Prop)) (s : RS) : Spec := ⟨fun v w => RSt N L s w v, fun _ _ _ h hb => by
 obtain ⟨g, h1, h2, h3⟩ := h
 exact ⟨g, h1, h2, h3.keep hb⟩⟩
def Spec.pst (N : Nat) (x : NX) : Spec := ⟨fun v w => PSt N x w v, fun _ _ _ h hb => by
 obtain ⟨g, h1, h2, h3⟩ := h
 exact ⟨g, h1, h2, h3.keep hb⟩⟩
def NoStr (cs : Array Value) : Prop := ∀ (i : Nat) (b : ByteArray), cs[i]? = some (.string b) → b.size = 0
theorem noStr_of {cs : Array Value} (h : cs.toList.all (fun v => match v with | .string b => b.size == 0 | _ => true) = true) : NoStr cs := fun i b e => by
 have h1 := List.all_eq_true.1 h (.string b) (by
  have : cs.toList[i]? = some (.string b) := by rw [Array.getElem?_toList]; exact e
  exact List.mem_of_getElem? this)
 exact eq_of_beq h1
theorem flds_away {w : World} {g : Nat} {cs : Array Value} {T : TypeId} {fz : Nat × Nat} (h : w.heap[g]? = some (.cells cs T fz)) (hn : NoStr cs) {a : Option Addr} {l : List Fld} (hb : FldsIn w a l) (hl : ∀ f ∈ l, ¬ f.1.size = 0) : ∀ y, a = some y → l ≠ [] → y.block ≠ g := by
 intro y hy hne hg
 have h0 := List.length_pos_iff.2 hne
 obtain ⟨x, hx, h5, _⟩ := hb 0 h0
 rw [hy] at hx
 obtain rfl := Option.some.inj hx
 have h6 : w.heap[(y.add (0 * 2)).block]? = some (.cells cs T fz) := by rw [add_blockC, hg]; exact h
 unfold World.cell? at h5
 rw [h6] at h5
 simp only at h5
 split at h5
 · cases h5
 · exact hl l[0] (List.getElem_mem h0) (hn _ _ h5)
theorem RMem.rowZ {P : Nat → Prop} {w : World} {s : RS} {fa ga la : Option Addr} {lc q : Nat} {cs ds : Array Value} {T : TypeId} {fz : Nat × Nat} (h : RMem P w s fa ga la lc) (hm : NmS s) (hr : w.heap[q]? = some (.cells cs T fz)) (hs : NoStr cs) (hu : NoU8 cs) : RMem P (w.setRow q ds) s fa ga la lc :=
 ⟨sameNe h.f1 fun y e hx => setRow_other _ _ _ _ (flds_away hr hs h.f1 hm.1 y e hx), sameNe h.f2 fun y e hx => setRow_other _ _ _ _ (flds_away hr hs h.f2 hm.2 y e hx), isBytes_rowR hr hu h.ln, h.n1, h.n2⟩
theorem RMemQ.rowL {L : (Nat → Prop) × (Nat → Prop)} {q : Nat} {w : World} {s : RS} {fa ga la : Option Addr} {lc : Nat} {cs ds : Array Value} {T : TypeId} {fz : Nat × Nat} (h : RMemQ L w s fa ga la lc) (hq : ¬ L.1 q) (hr : w.heap[q]? = some (.cells cs T fz)) (hu : NoU8 cs) : RMemQ L (w.setRow q ds) s fa ga la lc :=
 ⟨⟨sameNe h.m.f1 fun y e hx => setRow_other _ _ _ _ (fun e2 => hq (e2 ▸ h.m.n1 y e hx)), sameNe h.m.f2 fun y e hx => setRow_other _ _ _ _ (fun e2 => hq (e2 ▸ h.m.n2 y e hx)), isBytes_rowR hr hu h.m.ln, h.m.n1, h.m.n2⟩, h.l⟩
theorem RMemQ.rowZ {L : (Nat → Prop) × (Nat → Prop)} {w : World} {s : RS} {fa ga la : Option Addr} {lc q : Nat} {cs ds : Array Value} {T : TypeId} {fz : Nat × Nat} (h : RMemQ L w s fa ga la lc) (hm : NmS s) (hr : w.heap[q]? = some (.cells cs T fz)) (hs : NoStr cs) (hu : NoU8 cs) : RMemQ L (w.setRow q ds) s fa ga la lc := ⟨h.m.rowZ hm hr hs hu, h.l⟩
theorem rv_ne_pv {w : World} {g q : Nat} {cs ds : Array Value} (h1 : RVr w g cs) (h2 : PVr w q ds) : g ≠ q := fun e => by
 subst e
 unfold RVr at h1
 unfold PVr at h2
 rw [h1] at h2
 injection h2 with h2
 injection h2 with a b c
 exact absurd b (by decide)
theorem zero_noStr : NoStr #[.bool false, .string ⟨#[]⟩, .int .i64 0, .string ⟨#[]⟩, .string ⟨#[]⟩, .int .i64 0, .slice none 0 0, .bool false, .slice none 0 0, .int .i64 0, .string ⟨#[]⟩, .int .i64 0, .slice none 0 0, .slice none 0 0, .int .i64 0, .int .i64 0, .int .i64 0, .int .i64 0, .int .i64 0, .int .i64 0, .int .i64 0, .slice none 0 0] := noStr_of rfl
theorem zp_noStr : NoStr #[.int .i64 0, .slice none 0 0] := noStr_of rfl
theorem zero_noU8 : NoU8 #[.bool false, .string ⟨#[]⟩, .int .i64 0, .string ⟨#[]⟩, .string ⟨#[]⟩, .int .i64 0, .slice none 0 0, .bool false, .slice none 0 0, .int .i64 0, .string ⟨#[]⟩, .int .i64 0, .slice none 0 0, .slice none 0 0, .int .i64 0, .int .i64 0, .int .i64 0, .int .i64 0, .int .i64 0, .int .i64 0, .int .i64 0, .slice none 0 0] := noU8_22 rfl
theorem zp_noU8 : NoU8 #[.int .i64 0, .slice none 0 0] := noU8_22 rfl
section
variable {L : (Nat → Prop) × (Nat → Prop)} {N q : Nat} {s : RS} {x : NX} {w : World} {v : Value} {cs ds : Array Value} {T : TypeId} {fz : Nat × Nat}
theorem NxV.rowZ (h : NxV L x w v) (hm : NmS x.r) (hr : w.heap[q]? = some (.cells cs T fz)) (hs : NoStr cs) (hu : NoU8 cs) : NxV L x (w.setRow q ds) v := by
 obtain ⟨fa, fc, ga, gc, la, lc, pa, pc, h1, h2, h3⟩ := h
 exact ⟨fa, fc, ga, gc, la, lc, pa, pc, h1, h2.rowZ hm hr hs hu, isBytes_rowR hr hu h3⟩
theorem AgP.rowZ (h : AgP x w v) (hr : w.heap[q]? = some (.cells cs T fz)) (hu : NoU8 cs) : AgP x (w.setRow q ds) v := by
 obtain ⟨pa, pc, h1, h2⟩ := h
 exact ⟨pa, pc, h1, isBytes_rowR hr hu h2⟩
theorem AgS.rowZ (h : AgS L s w v) (hm : NmS s) (hr : w.heap[q]? = some (.cells cs T fz)) (hs : NoStr cs) (hu : NoU8 cs) : AgS L s (w.setRow q ds) v := by
 obtain ⟨fa, fc, ga, gc, la, lc, h1, h2⟩ := h
 exact ⟨fa, fc, ga, gc, la, lc, h1, h2.rowZ hm hr hs hu⟩
theorem StV.rowZ {g : Nat} (h : StV L s w g) (hm : NmS s) (hg : g ≠ q) (hr : w.heap[q]? = some (.cells cs T fz)) (hs : NoStr cs) (hu : NoU8 cs) : StV L s (w.setRow q ds) g := by
 obtain ⟨fa, fc, ga, gc, la, lc, h1, h2⟩ := h
 exact ⟨fa, fc, ga, gc, la, lc, (setRow_other _ _ _ _ hg).trans h1, h2.rowZ hm hr hs hu⟩
theorem PtV.rowZ {g : Nat} (h : PtV x w g) (hg : g ≠ q) (hr : w.heap[q]? = some (.cells cs T fz)) (hu : NoU8 cs) : PtV x (w.setRow q ds) g := by
 obtain ⟨pa, pc, h1, h2⟩ := h
 exact ⟨pa, pc, (setRow_other _ _ _ _ hg).trans h1, isBytes_rowR hr hu h2⟩
end
section
variable {Q : Exit → Act → World → Prop} {a : Act} {w : World} {o : Oper} {s : Spec}
theorem loc_loadS {y : Operand} (ho : o.op = .load 37 y) {L : (Nat → Prop) × (Nat → Prop)} {g : Nat} {r : RS} (hy : a.eval y = .pointer (some ⟨g, 0, none⟩)) (h : StV L r w g) (hs : ∀ v, AgS L r w v → s.p v w) :
  o.wp Tryz.prog a w (fun a' w' => ∃ v, a' = a.put o.dst v ∧ Below w.heap.size w w' ∧ s.p v w') Q := by
 obtain ⟨fa, fc, ga, gc, la, lc, h1, h2⟩ := h
 exact loc_load ho (by rw [hy]; exact run_loadRR _ _ _ h1 rfl) (hs _ ⟨fa, fc, ga, gc, la, lc, rfl, h2⟩)
theorem loc_nx0 {y : Operand} (ho : o.op = .extract y 0) {L : (Nat → Prop) × (Nat → Prop)} {x : NX} (h : NxV L x w (a.eval y)) (hs : ∀ v, AgS L x.r w v → s.p v w) :
  o.wp Tryz.prog a w (fun a' w' => ∃ v, a' = a.put o.dst v ∧ Below w.heap.size w w' ∧ s.p v w') Q := by
 obtain ⟨fa, fc, ga, gc, la, lc, pa, pc, h1, h2, h3⟩ := h
 exact loc_extractR0 ho h1 (hs _ ⟨fa, fc, ga, gc, la, lc, rfl, h2⟩)
theorem loc_nx1 {y : Operand} (ho : o.op = .extract y 1) {L : (Nat → Prop) × (Nat → Prop)} {x : NX} (h : NxV L x w (a.eval y)) (hs : ∀ v, AgP x w v → s.p v w) :
  o.wp Tryz.prog a w (fun a' w' => ∃ v, a' = a.put o.dst v ∧ Below w.heap.size w w' ∧ s.p v w') Q := by
 obtain ⟨fa, fc, ga, gc, la, lc, pa, pc, h1, h2, h3⟩ := h
 exact loc_extractR1 ho h1 (hs _ ⟨pa, pc, rfl, h3⟩)
theorem loc_nx2 {y : Operand} (ho : o.op = .extract y 2) {L : (Nat → Prop) × (Nat → Prop)} {x : NX} (h : NxV L x w (a.eval y)) (hs : s.p (.int .i64 x.n) w) :
  o.wp Tryz.prog a w (fun a' w' => ∃ v, a' = a.put o.dst v ∧ Below w.heap.size w w' ∧ s.p v w') Q := by
 obtain ⟨fa, fc, ga, gc, la, lc, pa, pc, h1, h2, h3⟩ := h
 exact loc_extractR2 ho h1 hs
theorem loc_nx3 {y : Operand} (ho : o.op = .extract y 3) {L : (Nat → Prop) × (Nat → Prop)} {x : NX} (h : NxV L x w (a.eval y)) (hs : s.p (.int .i64 x.er) w) :
  o.wp Tryz.prog a w (fun a' w' => ∃ v, a' = a.put o.dst v ∧ Below w.heap.size w w' ∧ s.p v w') Q := by
 obtain ⟨fa, fc, ga, gc, la, lc, pa, pc, h1, h2, h3⟩ := h
 exact loc_extractR3 ho h1 hs
theorem loc_allocRn (ho : o.op = .alloc 37) {N : Nat} (hB : N ≤ w.heap.size) (hs : ∀ v w', RNew N w' v → s.p v w') :
  o.wp Tryz.prog a w (fun a' w' => ∃ v, a' = a.put o.dst v ∧ Below w.heap.size w w' ∧ s.p v w') Q := by
 have hz : (Tryz.prog.info? 37).bind (·.zero) = some (.agg #[.bool false, .string ⟨#[]⟩, .int .i64 0, .string ⟨#[]⟩, .string ⟨#[]⟩, .int .i64 0, .slice none 0 0, .bool false, .slice none 0 0, .int .i64 0, .string ⟨#[]⟩, .int .i64 0, .slice none 0 0, .slice none 0 0, .int .i64 0, .int .i64 0, .int .i64 0, .int .i64 0, .int .i64 0, .int .i64 0, .int .i64 0, .slice none 0 0]) := by kernel_rfl
 refine loc_run (v := .pointer (some ⟨w.heap.size, 0, none⟩)) (w' := w.alloc (.cells #[.bool false, .string ⟨#[]⟩, .int .i64 0, .string ⟨#[]⟩, .string ⟨#[]⟩, .int .i64 0, .slice none 0 0, .bool false, .slice none 0 0, .int .i64 0, .string ⟨#[]⟩, .int .i64 0, .slice none 0 0, .slice none 0 0, .int .i64 0, .int .i64 0, .int .i64 0, .int .i64 0, .int .i64 0, .int .i64 0, .int .i64 0, .slice none 0 0] 37)) ?_ (below_oneF _ _) (hs _ _ ⟨_, rfl, hB, heap_alloc_new _ _⟩)
 cases hq : Tryz.prog.info? 37 with
 | none => rw [hq] at hz; cases hz
 | some i =>
  rw [hq] at hz
  simp only [Option.bind_some] at hz
  unfold execOp
  simp [ho, Instr.alloc, zeroValue, typeInfo, hq, hz, newRow, newVar, Value.cells]
theorem loc_allocPn (ho : o.op = .alloc 41) {N : Nat} (hB : N ≤ w.heap.size) (hs : ∀ v w', PNew N w' v → s.p v w') :
  o.wp Tryz.prog a w (fun a' w' => ∃ v, a' = a.put o.dst v ∧ Below w.heap.size w w' ∧ s.p v w') Q := by
 have hz : (Tryz.prog.info? 41).bind (·.zero) = some (.agg #[.int .i64 0, .slice none 0 0]) := by kernel_rfl
 refine loc_run (v := .pointer (some ⟨w.heap.size, 0, none⟩)) (w' := w.alloc (.cells #[.int .i64 0, .slice none 0 0] 41)) ?_ (below_oneF _ _) (hs _ _ ⟨_, rfl, hB, heap_alloc_new _ _⟩)
 cases hq : Tryz.prog.info? 41 with
 | none => rw [hq] at hz; cases hz
 | some i =>
  rw [hq] at hz
  simp only [Option.bind_some] at hz
  unfold execOp
  simp [ho, Instr.alloc, zeroValue, typeInfo, hq, hz, newRow, newVar, Value.cells]
theorem loc_part {x y z : Operand} (ho : o.op = .slice 23 x (some y) (some z) none) {l : List UInt8} {k u : Nat} (hx : BytesV w (a.eval x) l) (hy : a.eval y = .int .i64 (k : Int)) (hz : a.eval z = .int .i64 (u : Int)) (hku : k ≤ u) (hu : u ≤ l.length) (hs : ∀ v, BytesV w v ((l.take u).drop k) → s.p v w) :
  o.wp Tryz.prog a w (fun a' w' => ∃ v, a' = a.put o.dst v ∧ Below w.heap.size w w' ∧ s.p v w') Q := by
 obtain ⟨ad, c, h1, h2⟩ := hx
 have hc : l.length ≤ c := isBytes_cap h2
 have key : ∃ a' c', (Instr.sliceAt 23 (.slice ad l.length c) (some (.int .i64 (k : Int))) (some (.int .i64 (u : Int))) none).run Tryz.prog w = .ok (.slice a' (u - k) c') w ∧ IsBytes w a' ((l.take u).drop k) c' := by
  have es : (sizeOf (Tryz.prog.elem 23)).run Tryz.prog w = .ok 1 w := by rw [show Tryz.prog.elem 23 = 5 by kernel_rfl]; exact sizeOf_u8H w
  have hrun : (Instr.sliceAt 23 (.slice ad l.length c) (some (.int .i64 (k : Int))) (some (.int .i64 (u : Int))) none).run Tryz.prog w = .ok (.slice (if c = k then ad else ad.map (·.add k)) (u - k) (c - k)) w := by
   rw [run_sliceAt_slice w 23 _ _ _ _ (by kernel_rfl), run_slice_lh w 23 _ _ _ (by kernel_rfl) .i64 .i64 (k : Int) (u : Int) (by omega) (by omega) (by omega), es]
   simp only [Result.andThen, sliced, Int.toNat_natCast, Nat.mul_one]
  refine ⟨_, _, hrun, ?_⟩
  rw [List.drop_take]
  refine isBytes_takeR ?_ (u - k)
  cases ad with
  | some x =>
   have := part_bytes_q h2 (show k ≤ l.length by omega)
   split
   · rename_i e; rw [if_pos e] at this; exact this
   · rename_i e; rw [if_neg e] at this; exact this
  | none =>
   rcases h2 with ⟨_, rfl, rfl⟩ | ⟨x, h, _⟩
   · refine .inl ⟨by split <;> rfl, by simp, by omega⟩
   · cases h
 obtain ⟨a', c', h3, h4⟩ := key
 refine loc_run (v := .slice a' (u - k) c') ?_ (Below.refl _ _) (hs _ ⟨a', c', by rw [List.length_drop, List.length_take, Nat.min_eq_left hu], h4⟩)
 unfold execOp
 simp only [ho, h1, hy, hz, Option.map_some, Option.map_none, Sem.run_bind, h3, Result.andThen_ok, Sem.run_pure]
theorem loc_callPx {y1 y2 y3 y4 y5 : Operand} {ts : Array TypeId} (ho : o.op = .call { callee := .value (.func 12), args := #[y1, y2, y3, y4, y5], argTypes := ts }) {L : (Nat → Prop) × (Nat → Prop)} {r : RS} {l : List UInt8} {most body room : Int} {mm : Int} (hok : HdOk w mm) (h1 : AgS L r w (a.eval y1)) (h2 : BytesV w (a.eval y2) l) (h3 : a.eval y3 = .int .i64 most) (h4 : a.eval y4 = .int .i64 body) (h5 : a.eval y5 = .int .i64 room)
  (hl : l.length ≤ 1000000) (hr : OkN body r) (hb0 : 0 ≤ body ∧ body ≤ 1000000000) (hr0 : -1000000000 ≤ room ∧ room ≤ 1000000000) (hL : ∀ k, w.heap.size ≤ k → L.1 k ∧ L.2 k) (hs : ∀ v w', NxV L (nextX r l most body room) w' v → s.p v w') :
  o.wp Tryz.prog a w (fun a' w' => ∃ v, a' = a.put o.dst v ∧ Below w.heap.size w w' ∧ s.p v w') Q := by
 obtain ⟨fa, fc, ga, gc, la, lc, e1, hm⟩ := h1
 obtain ⟨ba, bc, e2, hb⟩ := h2
 refine loc_call (args := [y1, y2, y3, y4, y5]) ho (by kernel_rfl) ?_
 show Calls _ _ #[a.eval y1, a.eval y2, a.eval y3, a.eval y4, a.eval y5] _ _
 rw [e1, e2, h3, h4, h5]
 refine (projNextF_any L.1 r l most body room ba bc fa ga la fc gc lc w mm hb hl hm.m hok hr hb0 hr0 (fun k hk => (hL k hk).1)).mono ?_
 rintro e w' ⟨fa', fc', ga', gc', la', lc', pa, pc, he, hm', hlf, hd, hbb⟩
 exact ⟨_, he, hbb, hs _ _ ⟨fa', fc', ga', gc', la', lc', pa, pc, rfl, ⟨hm', fun y e hx => (hL _ (hlf y e hx)).2⟩, hd⟩⟩
theorem wp_storeRn {K : Act → World → Prop} {y z : Operand} (ho : o.op = .store 37 y z) {N : Nat} {L : (Nat → Prop) × (Nat → Prop)} {r : RS} (h1 : RNew N w (a.eval y)) (h2 : AgS L r w (a.eval z)) (hm : NmS r) (hK : ∀ g cs, a.eval y = .pointer (some ⟨g, 0, none⟩) → N ≤ g → RVr w g #[.bool false, .string ⟨#[]⟩, .int .i64 0, .string ⟨#[]⟩, .string ⟨#[]⟩, .int .i64 0, .slice none 0 0, .bool false, .slice none 0 0, .int .i64 0, .string ⟨#[]⟩, .int .i64 0, .slice none 0 0, .slice none 0 0, .int .i64 0, .int .i64 0, .int .i64 0, .int .i64 0, .int .i64 0, .int .i64 0, .int .i64 0, .slice none 0 0] → RSt N L r (w.setRow g cs) (a.eval y) → K (a.put o.dst undef) (w.setRow g cs)) : o.wp Tryz.prog a w K Q := by
 obtain ⟨g, e1, hN, hg⟩ := h1
 obtain ⟨fa, fc, ga, gc, la, lc, e2, h3⟩ := h2
 refine wp_store_row 37 _ _ ho g #[.bool r.rep, .string r.meth, .int .i64 r.ph, .string r.m, .string r.t, .int .i64 r.z, .slice fa (List.length r.xs) fc, .bool r.fr, .slice none 0 0, .int .i64 r.st, .string r.rs, .int .i64 r.z2, .slice ga (List.length r.ys) gc, .slice none 0 0, .int .i64 r.fk, .int .i64 r.fl, .int .i64 r.left, .int .i64 r.size, .int .i64 r.ck.ph, .int .i64 r.ck.left, .int .i64 r.ck.tr, .slice la (List.length r.ck.line) lc] e1 e2 37 _ hg sizeRd rfl (oneRd ..) ?_
 refine hK g _ e1 hN hg ?_
 rw [e1]
 exact ⟨g, rfl, hN, fa, fc, ga, gc, la, lc, setRow_heap _ _ _ _ _ _ hg, h3.rowZ hm hg zero_noStr zero_noU8⟩
theorem wp_storePn {K : Act → World → Prop} {y z : Operand} (ho : o.op = .store 41 y z) {N : Nat} {x : NX} (h1 : PNew N w (a.eval y)) (h2 : AgP x w (a.eval z)) (hK : ∀ g cs, a.eval y = .pointer (some ⟨g, 0, none⟩) → N ≤ g → PVr w g #[.int .i64 0, .slice none 0 0] → PSt N x (w.setRow g cs) (a.eval y) → K (a.put o.dst undef) (w.setRow g cs)) : o.wp Tryz.prog a w K Q := by
 obtain ⟨g, e1, hN, hg⟩ := h1
 obtain ⟨pa, pc, e2, h3⟩ := h2
 refine wp_store_row 41 _ _ ho g #[.int .i64 x.kind, .slice pa (List.length x.data) pc] e1 e2 41 _ hg sizePt rfl (onePt ..) ?_
 refine hK g _ e1 hN hg ?_
 rw [e1]
 exact ⟨g, rfl, hN, pa, pc, setRow_heap _ _ _ _ _ _ hg, isBytes_rowR hg zp_noU8 h3⟩
theorem wp_storeRo {K : Act → World → Prop} {y z : Operand} (ho : o.op = .store 37 y z) {L : (Nat → Prop) × (Nat → Prop)} {g : Nat} {r r0 : RS} (h1 : a.eval y = .pointer (some ⟨g, 0, none⟩)) (h0 : StV L r0 w g) (hg : ¬ L.1 g) (h2 : AgS L r w (a.eval z)) (hK : ∀ cs ds, RVr w g ds → NoU8 ds → StV L r (w.setRow g cs) g → K (a.put o.dst undef) (w.setRow g cs)) : o.wp Tryz.prog a w K Q := by
 obtain ⟨fa0, fc0, ga0, gc0, la0, lc0, hr0, _⟩ := h0
 obtain ⟨fa, fc, ga, gc, la, lc, e2, h3⟩ := h2
 refine wp_store_row 37 _ _ ho g #[.bool r.rep, .string r.meth, .int .i64 r.ph, .string r.m, .string r.t, .int .i64 r.z, .slice fa (List.length r.xs) fc, .bool r.fr, .slice none 0 0, .int .i64 r.st, .string r.rs, .int .i64 r.z2, .slice ga (List.length r.ys) gc, .slice none 0 0, .int .i64 r.fk, .int .i64 r.fl, .int .i64 r.left, .int .i64 r.size, .int .i64 r.ck.ph, .int .i64 r.ck.left, .int .i64 r.ck.tr, .slice la (List.length r.ck.line) lc] h1 e2 37 _ hr0 sizeRd rfl (oneRd ..) ?_
 exact hK _ _ hr0 (noU8_22 rfl) ⟨fa, fc, ga, gc, la, lc, setRow_heap _ _ _ _ _ _ hr0, h3.rowL hg hr0 (noU8_22 rfl)⟩
end
end Go.Proofs.YteoadfckcilalaaGreatDoor
namespace Go.Proofs.YteoadfckcilalaaGreatDoor
open Go.RowKit

set_option linter.unusedVariables false
def akR : List UInt8 := [80, 79, 83, 84, 32, 47, 32, 72, 84, 84, 80, 47, 49, 46, 49, 13, 10, 72, 111, 115, 116, 58, 32, 97, 13, 10, 67, 111, 110, 116, 101, 110, 116, 45, 76, 101, 110, 103, 116, 104, 58, 32, 51, 13, 10, 13, 10, 97, 98, 99, 71, 69, 84]
def ak1 : NX := nextX zeroR akR 100 10 10
def ak2 : NX := nextX ak1.r (akR.drop 47) 100 10 10
def ak3 : NX := nextX ak2.r (akR.drop 50) 100 10 10
theorem ak1_f : ak1.er = 0 ∧ ak1.kind = 1 ∧ ak1.n = 47 ∧ ak1.r.fr = true := by decide +kernel
theorem ak2_f : ak2.er = 0 ∧ ak2.kind = 2 ∧ ak2.n = 3 ∧ ak2.data = [97, 98, 99] := by decide +kernel
theorem ak3_f : ak3.er = 0 ∧ ak3.kind = 3 ∧ ak3.n = 0 := by decide +kernel
theorem okN_zero : OkN 10 zeroR := ⟨okC_zeroR, .inl rfl, fun h => absurd h (by decide), fun h => absurd h (by decide), fun h => absurd h (by decide), fun h => absurd h (by decide)⟩
theorem ak1_ok : OkN 10 ak1.r := (nextX_ok (by decide) (by decide) okN_zero ak1_f.1).1
theorem ak2_ok : OkN 10 ak2.r := (nextX_ok (by decide) (by decide) ak1_ok ak2_f.1).1
theorem ak1_nm : NmS ak1.r := nextX_names nmS_zero _ _ _ _
theorem ak2_nm : NmS ak2.r := nextX_names ak1_nm _ _ _ _
theorem ak3_nm : NmS ak3.r := nextX_names ak2_nm _ _ _ _
section
variable {L : (Nat → Prop) × (Nat → Prop)} {N q : Nat} {s : RS} {x : NX} {w : World} {v : Value} {cs ds : Array Value} {T : TypeId} {fz : Nat × Nat}
theorem NxV.rowL (h : NxV L x w v) (hq : ¬ L.1 q) (hr : w.heap[q]? = some (.cells cs T fz)) (hu : NoU8 cs) : NxV L x (w.setRow q ds) v := by
 obtain ⟨fa, fc, ga, gc, la, lc, pa, pc, h1, h2, h3⟩ := h
 exact ⟨fa, fc, ga, gc, la, lc, pa, pc, h1, h2.rowL hq hr hu, isBytes_rowR hr hu h3⟩
theorem prow_noStr (k : Int) (a : Option Addr) (n c : Nat) : NoStr #[.int .i64 k, .slice a n c] := noStr_of rfl
theorem prow_noU8 (k : Int) (a : Option Addr) (n c : Nat) : NoU8 #[.int .i64 k, .slice a n c] := noU8_22 rfl
end
theorem wp_storePo {a : Act} {w : World} {o : Oper} {Q : Exit → Act → World → Prop} {K : Act → World → Prop} {y z : Operand} (ho : o.op = .store 41 y z) {g : Nat} {x x0 : NX} (h1 : a.eval y = .pointer (some ⟨g, 0, none⟩)) (h0 : PtV x0 w g) (h2 : AgP x w (a.eval z)) (hK : ∀ cs ds, PVr w g ds → NoU8 ds → NoStr ds → PtV x (w.setRow g cs) g → K (a.put o.dst undef) (w.setRow g cs)) : o.wp Tryz.prog a w K Q := by
 obtain ⟨pa0, pc0, hr0, _⟩ := h0
 obtain ⟨pa, pc, e2, h3⟩ := h2
 refine wp_store_row 41 _ _ ho g #[.int .i64 x.kind, .slice pa (List.length x.data) pc] h1 e2 41 _ hr0 sizePt rfl (onePt ..) ?_
 exact hK _ _ hr0 (prow_noU8 _ _ _ _) (prow_noStr _ _ _ _) ⟨pa, pc, setRow_heap _ _ _ _ _ _ hr0, isBytes_rowR hr0 (prow_noU8 _ _ _ _) h3⟩
structure AwJ (w : World) (g2 g3 : Nat) (s : RS) (y : NX) (W : World) : Prop where
 st : StV (fun k => k ≠ g2, fun _ => True) s W g2
 pt : PtV y W g3
 bt : IsBytes W (some ⟨w.heap.size, 0, none⟩) akR 53
 bl : Below w.heap.size w W
 ne : g3 ≠ g2 ∧ w.heap.size ≤ g2 ∧ w.heap.size ≤ g3 ∧ g2 < W.heap.size ∧ g3 < W.heap.size
theorem AwJ.keep {w : World} {g2 g3 : Nat} {s : RS} {y : NX} {W W' : World} (h : AwJ w g2 g3 s y W) (hb : Below W.heap.size W W') : AwJ w g2 g3 s y W' :=
 ⟨h.st.keep hb, h.pt.keep hb, h.bt.keep hb, below_trans h.bl hb, h.ne.1, h.ne.2.1, h.ne.2.2.1, Nat.lt_of_lt_of_le h.ne.2.2.2.1 hb.size, Nat.lt_of_lt_of_le h.ne.2.2.2.2 hb.size⟩
set_option maxRecDepth 100000 in
set_option maxHeartbeats 2000000 in
theorem awakeN_any (mm : Int) (w : World) (hm : HdOk w mm) : Calls Tryz.prog 17 #[] w fun e w' => e = .returned (.bool true) ∧ Below w.heap.size w w' := by
 have kc := fun (w : World) (C : Array Value) (n c : Nat) => Lib.run_convert_bytes_const (P := Tryz.prog) w 23 5 C n c Tryz.underlying23 Tryz.underlying5
 have HM := Box.mk hm
 clear hm
 go_enter Tryz.func17, Tryz.ntmps17
 go_wp2_with fail
 clear kc
 obtain ⟨W1, hW1⟩ : ∃ W1, W1 = w.alloc (.cells (bytesV akR).toArray 5 (53, 54)) := ⟨_, rfl⟩
 have HB1 := Box.mk (show Below w.heap.size w W1 by rw [hW1]; exact below_oneF w _)
 have HBY := Box.mk (show IsBytes W1 (some ⟨w.heap.size, 0, none⟩) akR 53 by rw [hW1]; exact row_bytesH (heap_alloc_new w (.cells (bytesV akR).toArray 5 (53, 54))) (by decide))
 change Calls _ _ _ (w.alloc (.cells (bytesV akR).toArray 5 (53, 54))) _
 rw [← hW1]
 clear hW1
 refine (forRequest_any W1).mono ?_
 rintro e w2 ⟨rfl, hb2⟩
 have HBY2 := Box.mk (HBY.out.keep hb2)
 have HB2 := Box.mk (below_trans HB1.out hb2)
 clear hb2 HBY HB1
 have HC := Box.mk (show Calls Tryz.prog 12 #[.agg #[.bool false, .string ⟨#[]⟩, .int .i64 0, .string ⟨#[]⟩, .string ⟨#[]⟩, .int .i64 0, .slice none 0 0, .bool false, .slice none 0 0, .int .i64 0, .string ⟨#[]⟩, .int .i64 0, .slice none 0 0, .slice none 0 0, .int .i64 0, .int .i64 0, .int .i64 0, .int .i64 0, .int .i64 0, .int .i64 0, .int .i64 0, .slice none 0 0], .slice (some ⟨w.heap.size, 0, none⟩) 53 53, .int .i64 100, .int .i64 10, .int .i64 10] w2 (RetX (fun _ => True) w2 ak1) from projNext_any (fun _ => True) zeroR akR 100 10 10 (some ⟨w.heap.size, 0, none⟩) 53 none none none 0 0 0 w2 mm HBY2.out (by decide) ⟨FldsIn.nil _ _, FldsIn.nil _ _, .inl ⟨rfl, rfl, rfl⟩, (fun y e => by cases e), (fun y e => by cases e)⟩ (HM.out.keep HB2.out) okN_zero (by decide) (by decide) (fun _ _ => trivial))
 go_wp2_with fail
 refine HC.out.mono ?_
 rintro e w3 ⟨f4, c4, g4, d4, l4, e4, pa, pc, he, hm3, hd3, hb3⟩
 obtain ⟨cr, hcr⟩ : ∃ cr : Array Value, cr = #[.bool ak1.r.rep, .string ak1.r.meth, .int .i64 ak1.r.ph, .string ak1.r.m, .string ak1.r.t, .int .i64 ak1.r.z, .slice f4 (List.length ak1.r.xs) c4, .bool ak1.r.fr, .slice none 0 0, .int .i64 ak1.r.st, .string ak1.r.rs, .int .i64 ak1.r.z2, .slice g4 (List.length ak1.r.ys) d4, .slice none 0 0, .int .i64 ak1.r.fk, .int .i64 ak1.r.fl, .int .i64 ak1.r.left, .int .i64 ak1.r.size, .int .i64 ak1.r.ck.ph, .int .i64 ak1.r.ck.left, .int .i64 ak1.r.ck.tr, .slice l4 (List.length ak1.r.ck.line) e4] := ⟨_, rfl⟩
 obtain ⟨pr, hpr⟩ : ∃ pr : Array Value, pr = #[.int .i64 ak1.kind, .slice pa (List.length ak1.data) pc] := ⟨_, rfl⟩
 rw [← hcr, ← hpr, ak1_f.1, ak1_f.2.2.1] at he
 subst he
 have HCR := Box.mk hcr
 have HPR := Box.mk hpr
 have hcr22 : cr.size = 22 := by rw [hcr]; rfl
 have hcr1 : cr.all (·.oneCell') = true := by rw [hcr]; exact oneRd ..
 have hpr2 : pr.size = 2 := by rw [hpr]; rfl
 have hpr1 : pr.all (·.oneCell') = true := by rw [hpr]; exact onePt ..
 have HSR := Box.mk (show (Tryz.prog.info? 37).map (·.size) = some cr.size by rw [hcr22]; exact sizeRd)
 have HSP := Box.mk (show (Tryz.prog.info? 41).map (·.size) = some pr.size by rw [hpr2]; exact sizePt)
 have HB3 := Box.mk (below_trans HB2.out hb3)
 have HBY3 := Box.mk (HBY2.out.keep hb3)
 have HR3 := Box.mk hm3
 have HD3 := Box.mk hd3
 have hw3 := HB3.out.size
 clear hcr hpr hm3 hd3 hb3 HC HB2 HBY2
 obtain ⟨W4, hW4⟩ : ∃ W4, W4 = (w3.alloc (.cells #[.bool false, .string ⟨#[]⟩, .int .i64 0, .string ⟨#[]⟩, .string ⟨#[]⟩, .int .i64 0, .slice none 0 0, .bool false, .slice none 0 0, .int .i64 0, .string ⟨#[]⟩, .int .i64 0, .slice none 0 0, .slice none 0 0, .int .i64 0, .int .i64 0, .int .i64 0, .int .i64 0, .int .i64 0, .int .i64 0, .int .i64 0, .slice none 0 0] 37)).alloc (.cells #[.int .i64 0, .slice none 0 0] 41) := ⟨_, rfl⟩
 have HV2 := Box.mk (show RVr W4 w3.heap.size #[.bool false, .string ⟨#[]⟩, .int .i64 0, .string ⟨#[]⟩, .string ⟨#[]⟩, .int .i64 0, .slice none 0 0, .bool false, .slice none 0 0, .int .i64 0, .string ⟨#[]⟩, .int .i64 0, .slice none 0 0, .slice none 0 0, .int .i64 0, .int .i64 0, .int .i64 0, .int .i64 0, .int .i64 0, .int .i64 0, .int .i64 0, .slice none 0 0] by rw [hW4]; exact RVr.keep (heap_alloc_new w3 (.cells #[.bool false, .string ⟨#[]⟩, .int .i64 0, .string ⟨#[]⟩, .string ⟨#[]⟩, .int .i64 0, .slice none 0 0, .bool false, .slice none 0 0, .int .i64 0, .string ⟨#[]⟩, .int .i64 0, .slice none 0 0, .slice none 0 0, .int .i64 0, .int .i64 0, .int .i64 0, .int .i64 0, .int .i64 0, .int .i64 0, .int .i64 0, .slice none 0 0] 37)) (below_oneF _ _))
 have HV3 := Box.mk (show PVr W4 (w3.heap.size + 1) #[.int .i64 0, .slice none 0 0] by
  have h := heap_alloc_new (w3.alloc (.cells #[.bool false, .string ⟨#[]⟩, .int .i64 0, .string ⟨#[]⟩, .string ⟨#[]⟩, .int .i64 0, .slice none 0 0, .bool false, .slice none 0 0, .int .i64 0, .string ⟨#[]⟩, .int .i64 0, .slice none 0 0, .slice none 0 0, .int .i64 0, .int .i64 0, .int .i64 0, .int .i64 0, .int .i64 0, .int .i64 0, .int .i64 0, .slice none 0 0] 37)) (.cells #[.int .i64 0, .slice none 0 0] 41)
  rw [World.size_alloc] at h
  rw [hW4]; exact h)
 have HB4 := Box.mk (show Below w3.heap.size w3 W4 by rw [hW4]; exact below_twoF (below_oneF _ _) _)
 have HV3b := Box.mk (show PVr (W4.setRow w3.heap.size cr) (w3.heap.size + 1) #[.int .i64 0, .slice none 0 0] from (setRow_other _ _ _ _ (by omega)).trans HV3.out)
 rw [hW4] at HV2 HV3b
 go_upto_region 3 with (first | refine wpList_store_row rfl 37 _ _ rfl w3.heap.size cr rfl rfl 37 _ HV2.out HSR.out (by rw [hcr22]; rfl) hcr1 ?_ | refine wpList_store_row rfl 41 _ _ rfl (w3.heap.size + 1) pr rfl rfl 41 _ HV3b.out HSP.out (by rw [hpr2]; rfl) hpr1 ?_)
 rw [← hW4] at HV2 HV3b
 rw [← hW4]
 clear hW4
 obtain ⟨g2, hg2⟩ : ∃ g2, g2 = w3.heap.size := ⟨_, rfl⟩
 obtain ⟨g3, hg3⟩ : ∃ g3, g3 = w3.heap.size + 1 := ⟨_, rfl⟩
 obtain ⟨W5, hW5⟩ : ∃ W5, W5 = (W4.setRow w3.heap.size cr).setRow (w3.heap.size + 1) pr := ⟨_, rfl⟩
 have hR5 : RVr W5 g2 #[.bool ak1.r.rep, .string ak1.r.meth, .int .i64 ak1.r.ph, .string ak1.r.m, .string ak1.r.t, .int .i64 ak1.r.z, .slice f4 (List.length ak1.r.xs) c4, .bool ak1.r.fr, .slice none 0 0, .int .i64 ak1.r.st, .string ak1.r.rs, .int .i64 ak1.r.z2, .slice g4 (List.length ak1.r.ys) d4, .slice none 0 0, .int .i64 ak1.r.fk, .int .i64 ak1.r.fl, .int .i64 ak1.r.left, .int .i64 ak1.r.size, .int .i64 ak1.r.ck.ph, .int .i64 ak1.r.ck.left, .int .i64 ak1.r.ck.tr, .slice l4 (List.length ak1.r.ck.line) e4] := by rw [hW5, hg2, ← HCR.out]; exact (setRow_other _ _ _ _ (by omega)).trans (setRow_heap _ _ _ _ _ _ HV2.out)
 have hP5 : PVr W5 g3 #[.int .i64 ak1.kind, .slice pa (List.length ak1.data) pc] := by rw [hW5, hg3, ← HPR.out]; exact setRow_heap _ _ _ _ _ _ HV3b.out
 have hb35 : Below w3.heap.size w3 W5 := by rw [hW5]; exact below_setRow (below_setRow HB4.out (Nat.le_refl _) _) (by omega) _
 have hm5 := HR3.out.keep hb35
 have HJ := Box.mk (show AwJ w g2 g3 ak1.r ak1 W5 from ⟨⟨f4, c4, g4, d4, l4, e4, hR5, ⟨hm5.f1, hm5.f2, hm5.ln, fun y e hx => by have := HR3.out.f1.old e hx; show y.block ≠ g2; omega, fun y e hx => by have := HR3.out.f2.old e hx; show y.block ≠ g2; omega⟩, fun _ _ _ => trivial⟩, ⟨pa, pc, hP5, HD3.out.keep hb35⟩, HBY3.out.keep hb35, below_trans HB3.out hb35, by omega, by omega, by omega, hR5.lt, (Array.getElem?_eq_some_iff.1 hP5).1⟩)
 have hk0 : W5.cell? ⟨g3, 0, none⟩ = some (.int .i64 1) := by rw [cell_of_row _ _ _ _ _ _ hP5]; show some (Value.int .i64 ak1.kind) = _; rw [ak1_f.2.1]
 have hk7 : W5.cell? ⟨g2, 7, none⟩ = some (.bool true) := by rw [RVr.cell hR5]; show some (Value.bool ak1.r.fr) = _; rw [ak1_f.2.2.2]
 rw [← hg3]
 rw [← hg3] at hW5
 rw [← hg2]
 rw [← hg2] at hW5
 rw [← hW5]
 clear hW5 hR5 hP5 hb35 hm5 HV2 HV3 HV3b HB4 HCR HPR HSR HSP hcr1 hpr1 hcr22 hpr2 HB3 HBY3 HR3 HD3 hg2 hg3 hw3
 go_wp2_with fail
 rename_i K hK
 clear hk0 hk7
 refine wp_region_phases [9, 10] (fun p => match p with | 0 => [0, 1, 2, 3, 4, 5, 6, 7, 8] | 1 => [6, 7, 8] | _ => [7, 8, 11, 12])
  (fun p => match p with | 0 => [.srow (fun k => k ≠ g2, fun _ => True) ak1.r, .val (.slice (some ⟨w.heap.size, 0, none⟩) 53 53), .bytes (akR.drop 47), .nxt (fun k => k ≠ g2, fun _ => True) ak2, .nxt (fun k => k ≠ g2, fun _ => True) ak2, .srow (fun k => k ≠ g2, fun _ => True) ak2.r, .prow ak2, .val (.int .i64 (ak2.n : Int)), .val (.int .i64 ak2.er), .any, .any, .nope, .nope] | 1 => [.any, .any, .any, .any, .nxt (fun k => k ≠ g2, fun _ => True) ak2, .any, .prow ak2, .val (.int .i64 (ak2.n : Int)), .val (.int .i64 ak2.er), .any, .any, .nope, .nope] | _ => [.any, .any, .any, .any, .nxt (fun k => k ≠ g2, fun _ => True) ak2, .any, .any, .val (.int .i64 (ak2.n : Int)), .val (.int .i64 ak2.er), .any, .any, .val (.int .i64 (ak2.n : Int)), .val (.int .i64 ak2.er)])
  (fun p => match p with | 0 => AwJ w g2 g3 ak1.r ak1 | 1 => AwJ w g2 g3 ak2.r ak1 | _ => AwJ w g2 g3 ak2.r ak2)
  (by kernel_rfl) (by kernel_rfl) (by kernel_rfl) (by kernel_rfl) (by kernel_rfl) (by kernel_rfl) ?_ HJ.out ?_ ?_ ?_
 · intro p wa wb h hb
   match p, h with
   | 0, h => exact AwJ.keep h hb
   | 1, h => exact AwJ.keep h hb
   | (_ + 2), h => exact AwJ.keep h hb
 · intro p hp
   match p, hp with
   | 0, _ =>
    refine ⟨?_, ?_, ?_, ?_, ?_, ?_, ?_, ?_, ?_, trivial⟩ <;> intro a1 wx hv hf hd
    · exact ⟨wanted_none rfl, loc_loadS rfl (hf.base 2 rfl) hv.st fun v h => h⟩
    · exact ⟨wanted_none rfl, loc_move rfl (hf.base 1 rfl)⟩
    · exact ⟨wanted_none rfl, loc_from rfl (l := akR) (i := 47) ⟨_, _, hd 1 rfl, hv.bt⟩ rfl (by decide) fun v h => h⟩
    · exact ⟨wanted_none rfl, loc_callPx rfl (HM.out.keep hv.bl) (hd 0 rfl) (hd 2 rfl) rfl rfl rfl (by decide) ak1_ok (by decide) (by decide) (fun k hk => ⟨by have := hv.ne.2.2.2.1; show k ≠ g2; omega, trivial⟩) fun v w' h => h⟩
    · exact ⟨wanted_none rfl, loc_move rfl (hd 3 rfl)⟩
    · exact ⟨wanted_none rfl, loc_nx0 rfl (hd 4 rfl) fun v h => h⟩
    · exact ⟨wanted_none rfl, loc_nx1 rfl (hd 4 rfl) fun v h => h⟩
    · exact ⟨wanted_none rfl, loc_nx2 rfl (hd 4 rfl) rfl⟩
    · exact ⟨wanted_none rfl, loc_nx3 rfl (hd 4 rfl) rfl⟩
   | 1, _ =>
    refine ⟨?_, ?_, ?_, trivial⟩ <;> intro a1 wx hv hf hd
    · exact ⟨wanted_none rfl, loc_nx1 rfl (hd 4 rfl) fun v h => h⟩
    · exact ⟨wanted_none rfl, loc_nx2 rfl (hd 4 rfl) rfl⟩
    · exact ⟨wanted_none rfl, loc_nx3 rfl (hd 4 rfl) rfl⟩
   | 2, _ =>
    refine ⟨?_, ?_, ?_, ?_, trivial⟩ <;> intro a1 wx hv hf hd
    · exact ⟨wanted_none rfl, loc_nx2 rfl (hd 4 rfl) rfl⟩
    · exact ⟨wanted_none rfl, loc_nx3 rfl (hd 4 rfl) rfl⟩
    · exact ⟨wanted_none rfl, loc_assign rfl (hd 7 rfl)⟩
    · exact ⟨wanted_none rfl, loc_assign rfl (hd 8 rfl)⟩
 · intro p hp
   match p, hp with
   | 0, _ =>
    intro a2 wx hv hf hd
    refine ⟨wanted_none rfl, wp_storeRo rfl (hf.base 2 rfl) hv.st (fun e => e rfl) (hd 5 rfl) fun cs ds hr hu hst => ?_⟩
    have hsz : (wx.setRow g2 cs).heap.size = wx.heap.size := by simp [World.setRow]
    exact ⟨undef, rfl, ⟨hst, hv.pt.rowZ hv.ne.1 hr hu, isBytes_rowR hr hu hv.bt, below_setRow hv.bl hv.ne.2.1 _, hv.ne.1, hv.ne.2.1, hv.ne.2.2.1, by rw [hsz]; exact hv.ne.2.2.2.1, by rw [hsz]; exact hv.ne.2.2.2.2⟩, trivial, ⟨.inr fun _ _ _ => trivial, .inr fun _ _ _ => trivial, .inr fun _ _ _ => trivial, .inr fun _ _ _ => trivial, .inr fun _ _ h => NxV.rowL h (fun e => e rfl) hr hu, .inr fun _ _ _ => trivial, .inr fun _ _ h => AgP.rowZ h hr hu, .inr fun _ _ h => h, .inr fun _ _ h => h, .inl rfl, .inr fun _ _ _ => trivial, .inr fun _ _ h => h.elim, .inr fun _ _ h => h.elim, trivial⟩⟩
   | 1, _ =>
    intro a2 wx hv hf hd
    refine ⟨wanted_none rfl, wp_storePo rfl (hf.base 3 rfl) hv.pt (hd 6 rfl) fun cs ds hr hu hs hpt => ?_⟩
    have hsz : (wx.setRow g3 cs).heap.size = wx.heap.size := by simp [World.setRow]
    exact ⟨undef, rfl, ⟨hv.st.rowZ ak2_nm (fun e => hv.ne.1 e.symm) hr hs hu, hpt, isBytes_rowR hr hu hv.bt, below_setRow hv.bl hv.ne.2.2.1 _, hv.ne.1, hv.ne.2.1, hv.ne.2.2.1, by rw [hsz]; exact hv.ne.2.2.2.1, by rw [hsz]; exact hv.ne.2.2.2.2⟩, trivial, ⟨.inr fun _ _ _ => trivial, .inr fun _ _ _ => trivial, .inr fun _ _ _ => trivial, .inr fun _ _ _ => trivial, .inr fun _ _ h => NxV.rowZ h ak2_nm hr hs hu, .inr fun _ _ _ => trivial, .inr fun _ _ _ => trivial, .inr fun _ _ h => h, .inr fun _ _ h => h, .inr fun _ _ _ => trivial, .inl rfl, .inr fun _ _ h => h.elim, .inr fun _ _ h => h.elim, trivial⟩⟩
 · intro a2 w9 hv hf hh
   have e4 : a2.eval (.tmp 4) = .int .i64 (ak2.n : Int) := hh 11 (by decide)
   have e5 : a2.eval (.tmp 5) = .int .i64 ak2.er := hh 12 (by decide)
   clear hh
   rw [fr_putAll hf]
   clear hf
   simp only [putAll, e4, e5]
   generalize a2.eval (.tmp 34) = u34
   generalize a2.eval (.tmp 35) = u35
   generalize a2.eval (.tmp 36) = u36
   generalize a2.eval (.tmp 37) = u37
   generalize a2.eval (.tmp 33) = u33
   generalize a2.eval (.tmp 38) = u38
   generalize a2.eval (.tmp 39) = u39
   generalize a2.eval (.tmp 40) = u40
   generalize a2.eval (.tmp 41) = u41
   clear e4 e5 a2
   simp only [Act.put, List.setIfInBounds_toArray, List.set_cons_succ, List.set_cons_zero]
   rw [ak2_f.1, ak2_f.2.2.1]
   refine hK _ _ ?_
   clear hK
   obtain ⟨pa, pc, hp, hd⟩ := hv.pt
   have hk0 : w9.cell? ⟨g3, 0, none⟩ = some (.int .i64 2) := by rw [cell_of_row _ _ _ _ _ _ hp]; show some (Value.int .i64 ak2.kind) = _; rw [ak2_f.2.1]
   have hk1 : w9.cell? ⟨g3, 1, none⟩ = some (.slice pa (List.length ak2.data) pc) := by rw [cell_of_row _ _ _ _ _ _ hp]; rfl
   have hcv := conv_bytes hd
   rw [show (⟨ak2.data.toArray⟩ : ByteArray) = ⟨#[97, 98, 99]⟩ by rw [ak2_f.2.2.2]] at hcv
   have HV := Box.mk hv
   clear hv hp hd
   go_wp2_with fail
   rename_i K hK
   clear hk0 hk1 hcv
   refine wp_region_phases [9] (fun p => match p with | 0 => [0, 1, 2, 3, 4, 5, 6, 7, 8] | _ => [5, 7, 8, 10, 11])
    (fun p => match p with | 0 => [.srow (fun k => k ≠ g2, fun _ => True) ak2.r, .val (.slice (some ⟨w.heap.size, 0, none⟩) 53 53), .bytes (akR.drop 50), .nxt (fun k => k ≠ g2, fun _ => True) ak3, .nxt (fun k => k ≠ g2, fun _ => True) ak3, .srow (fun k => k ≠ g2, fun _ => True) ak3.r, .prow ak3, .val (.int .i64 (ak3.n : Int)), .val (.int .i64 ak3.er), .any, .nope, .nope] | _ => [.any, .any, .any, .any, .nxt (fun k => k ≠ g2, fun _ => True) ak3, .srow (fun k => k ≠ g2, fun _ => True) ak3.r, .any, .val (.int .i64 (ak3.n : Int)), .val (.int .i64 ak3.er), .any, .val (.int .i64 (ak3.n : Int)), .val (.int .i64 ak3.er)])
    (fun p => match p with | 0 => AwJ w g2 g3 ak2.r ak2 | _ => AwJ w g2 g3 ak2.r ak3)
    (by kernel_rfl) (by kernel_rfl) (by kernel_rfl) (by kernel_rfl) (by kernel_rfl) (by kernel_rfl) ?_ HV.out ?_ ?_ ?_
   · intro p wa wb h hb
     match p, h with
     | 0, h => exact AwJ.keep h hb
     | (_ + 1), h => exact AwJ.keep h hb
   · intro p hp
     match p, hp with
     | 0, _ =>
      refine ⟨?_, ?_, ?_, ?_, ?_, ?_, ?_, ?_, ?_, trivial⟩ <;> intro a1 wx hv hf hd
      · exact ⟨wanted_none rfl, loc_loadS rfl (hf.base 2 rfl) hv.st fun v h => h⟩
      · exact ⟨wanted_none rfl, loc_move rfl (hf.base 1 rfl)⟩
      · exact ⟨wanted_none rfl, loc_from rfl (l := akR) (i := 50) ⟨_, _, hd 1 rfl, hv.bt⟩ rfl (by decide) fun v h => h⟩
      · exact ⟨wanted_none rfl, loc_callPx rfl (HM.out.keep hv.bl) (hd 0 rfl) (hd 2 rfl) rfl rfl rfl (by decide) ak2_ok (by decide) (by decide) (fun k hk => ⟨by have := hv.ne.2.2.2.1; show k ≠ g2; omega, trivial⟩) fun v w' h => h⟩
      · exact ⟨wanted_none rfl, loc_move rfl (hd 3 rfl)⟩
      · exact ⟨wanted_none rfl, loc_nx0 rfl (hd 4 rfl) fun v h => h⟩
      · exact ⟨wanted_none rfl, loc_nx1 rfl (hd 4 rfl) fun v h => h⟩
      · exact ⟨wanted_none rfl, loc_nx2 rfl (hd 4 rfl) rfl⟩
      · exact ⟨wanted_none rfl, loc_nx3 rfl (hd 4 rfl) rfl⟩
     | 1, _ =>
      refine ⟨?_, ?_, ?_, ?_, ?_, trivial⟩ <;> intro a1 wx hv hf hd
      · exact ⟨wanted_none rfl, loc_nx0 rfl (hd 4 rfl) fun v h => h⟩
      · exact ⟨wanted_none rfl, loc_nx2 rfl (hd 4 rfl) rfl⟩
      · exact ⟨wanted_none rfl, loc_nx3 rfl (hd 4 rfl) rfl⟩
      · exact ⟨wanted_none rfl, loc_assign rfl (hd 7 rfl)⟩
      · exact ⟨wanted_none rfl, loc_assign rfl (hd 8 rfl)⟩
   · intro p hp
     match p, hp with
     | 0, _ =>
      intro a2 wx hv hf hd
      refine ⟨wanted_none rfl, wp_storePo rfl (hf.base 3 rfl) hv.pt (hd 6 rfl) fun cs ds hr hu hs hpt => ?_⟩
      have hsz : (wx.setRow g3 cs).heap.size = wx.heap.size := by simp [World.setRow]
      exact ⟨undef, rfl, ⟨hv.st.rowZ ak2_nm (fun e => hv.ne.1 e.symm) hr hs hu, hpt, isBytes_rowR hr hu hv.bt, below_setRow hv.bl hv.ne.2.2.1 _, hv.ne.1, hv.ne.2.1, hv.ne.2.2.1, by rw [hsz]; exact hv.ne.2.2.2.1, by rw [hsz]; exact hv.ne.2.2.2.2⟩, trivial, ⟨.inr fun _ _ _ => trivial, .inr fun _ _ _ => trivial, .inr fun _ _ _ => trivial, .inr fun _ _ _ => trivial, .inr fun _ _ h => NxV.rowZ h ak3_nm hr hs hu, .inr fun _ _ h => AgS.rowZ h ak3_nm hr hs hu, .inr fun _ _ _ => trivial, .inr fun _ _ h => h, .inr fun _ _ h => h, .inl rfl, .inr fun _ _ h => h.elim, .inr fun _ _ h => h.elim, trivial⟩⟩
   · intro a2 w9 hv hf hh
     have e4 : a2.eval (.tmp 4) = .int .i64 (ak3.n : Int) := hh 10 (by decide)
     have e5 : a2.eval (.tmp 5) = .int .i64 ak3.er := hh 11 (by decide)
     clear hh
     rw [fr_putAll hf]
     clear hf
     simp only [putAll, e4, e5]
     generalize a2.eval (.tmp 60) = u60
     generalize a2.eval (.tmp 61) = u61
     generalize a2.eval (.tmp 62) = u62
     generalize a2.eval (.tmp 63) = u63
     generalize a2.eval (.tmp 59) = u59
     generalize a2.eval (.tmp 64) = u64
     generalize a2.eval (.tmp 65) = u65
     generalize a2.eval (.tmp 66) = u66
     generalize a2.eval (.tmp 67) = u67
     clear e4 e5 a2
     simp only [Act.put, List.setIfInBounds_toArray, List.set_cons_succ, List.set_cons_zero]
     rw [ak3_f.1, ak3_f.2.2]
     refine hK _ _ ?_
     clear hK
     obtain ⟨pa, pc, hp, hd⟩ := hv.pt
     have hk0 : w9.cell? ⟨g3, 0, none⟩ = some (.int .i64 3) := by rw [cell_of_row _ _ _ _ _ _ hp]; show some (Value.int .i64 ak3.kind) = _; rw [ak3_f.2.1]
     have HB := Box.mk hv.bl
     clear hv hp hd
     go_wp2_with fail
     go_ret
     exact ⟨rfl, HB.out⟩
end Go.Proofs.YteoadfckcilalaaGreatDoor
namespace Go.Proofs.YteoadfckcilalaaGreatDoor
open Go.RowKit

theorem within_val (z : Int) (n : Nat) (h0 : 0 < n) (hn : n ≤ 1000) : ∃ k : Nat, k < n ∧ (wrap64 (z.tmod n + n)).tmod n = (k : Int) := by
 have h1 : z.tmod n < n := Int.tmod_lt_of_pos z (by omega)
 have h2 : -(n : Int) < z.tmod n := Int.lt_tmod_of_pos z (by omega)
 generalize z.tmod n = y at *
 have e : wrap64 (y + n) = y + n := by simp only [wrap64]; omega
 rw [e, Int.tmod_eq_emod_of_nonneg (by omega)]
 exact ⟨((y + n) % n).toNat, by have := Int.emod_lt_of_pos (y + n) (show (0 : Int) < n by omega); have := Int.emod_nonneg (y + n) (show (n : Int) ≠ 0 by omega); omega, by have := Int.emod_nonneg (y + n) (show (n : Int) ≠ 0 by omega); omega⟩
set_option maxHeartbeats 400000 in
theorem within_any (z : Int) (n : Nat) (w : World) (h0 : 0 < n) (hn : n ≤ 1000) :
  Calls Tryz.prog 10 #[.int .i64 z, .int .i64 n] w fun e w' => ∃ k : Nat, k < n ∧ e = .returned (.int .i64 k) ∧ w = w' := by
 obtain ⟨k, hk, he⟩ := within_val z n h0 hn
 go_enter Tryz.func10, Tryz.ntmps10
 go_wp2
 go_ret
 exact ⟨k, hk, rfl, rfl⟩

end Go.Proofs.YteoadfckcilalaaGreatDoor
namespace Go.Proofs.YteoadfckcilalaaGreatDoor
open Go.RowKit

set_option linter.unusedVariables false
theorem results_rr {P : Program} {fn : Func} {p1 p2 : Tmp} {ty1 ty2 : TypeId} (h : fn.results = #[.cell p1 ty1, .cell p2 ty2]) (tmps : Array Value) (w : World) (g1 g2 : Nat) (t1 t2 : TypeId) (c1 c2 : Array Value) (f1 f2 : Nat × Nat) (d1 d2 : TypeDesc)
  (hp1 : tmps.getD p1 undef = .pointer (some ⟨g1, 0, none⟩)) (hp2 : tmps.getD p2 undef = .pointer (some ⟨g2, 0, none⟩)) (hg1 : w.heap[g1]? = some (.cells c1 t1 f1)) (hg2 : w.heap[g2]? = some (.cells c2 t2 f2))
  (hu1 : P.underlying ty1 = some d1) (hd1 : (match d1 with | .struct _ | .array _ _ => true | _ => false) = true) (hi1 : (P.info? ty1).map (·.size) = some c1.size)
  (hu2 : P.underlying ty2 = some d2) (hd2 : (match d2 with | .struct _ | .array _ _ => true | _ => false) = true) (hi2 : (P.info? ty2).map (·.size) = some c2.size) :
  (results fn tmps).run P w = .ok (.tuple #[.agg c1, .agg c2]) w := by
 have hp1' : tmps[p1]?.getD undef = .pointer (some ⟨g1, 0, none⟩) := by simpa using hp1
 have hp2' : tmps[p2]?.getD undef = .pointer (some ⟨g2, 0, none⟩) := by simpa using hp2
 simp [results, h, hp1', hp2', asAddr, run_loadVar_row w g1 t1 ty1 c1 f1 d1 hg1 hu1 hd1 hi1, run_loadVar_row w g2 t2 ty2 c2 f2 d2 hg2 hu2 hd2 hi2]
set_option maxRecDepth 100000 in
set_option maxHeartbeats 1000000 in
theorem beginN_no (z : Int) (w : World) : Calls Tryz.prog 11 #[.bool false, .int .i64 z] w fun e w' => e = .returned (.tuple #[.agg #[.bool false, .string ⟨#[]⟩, .int .i64 0, .string ⟨#[]⟩, .string ⟨#[]⟩, .int .i64 0, .slice none 0 0, .bool false, .slice none 0 0, .int .i64 0, .string ⟨#[]⟩, .int .i64 0, .slice none 0 0, .slice none 0 0, .int .i64 0, .int .i64 0, .int .i64 0, .int .i64 0, .int .i64 0, .int .i64 0, .int .i64 0, .slice none 0 0], .agg #[.bool false, .string ⟨#[]⟩, .int .i64 0, .string ⟨#[]⟩, .string ⟨#[]⟩, .int .i64 0, .slice none 0 0, .bool false, .slice none 0 0, .int .i64 0, .string ⟨#[]⟩, .int .i64 0, .slice none 0 0, .slice none 0 0, .int .i64 0, .int .i64 0, .int .i64 0, .int .i64 0, .int .i64 0, .int .i64 0, .int .i64 0, .slice none 0 0]]) ∧ Below w.heap.size w w' := by
 obtain ⟨W1, hW1⟩ : ∃ W1, W1 = (w.alloc (.cells #[.bool false, .string ⟨#[]⟩, .int .i64 0, .string ⟨#[]⟩, .string ⟨#[]⟩, .int .i64 0, .slice none 0 0, .bool false, .slice none 0 0, .int .i64 0, .string ⟨#[]⟩, .int .i64 0, .slice none 0 0, .slice none 0 0, .int .i64 0, .int .i64 0, .int .i64 0, .int .i64 0, .int .i64 0, .int .i64 0, .int .i64 0, .slice none 0 0] 37)).alloc (.cells #[.bool false, .string ⟨#[]⟩, .int .i64 0, .string ⟨#[]⟩, .string ⟨#[]⟩, .int .i64 0, .slice none 0 0, .bool false, .slice none 0 0, .int .i64 0, .string ⟨#[]⟩, .int .i64 0, .slice none 0 0, .slice none 0 0, .int .i64 0, .int .i64 0, .int .i64 0, .int .i64 0, .int .i64 0, .int .i64 0, .int .i64 0, .slice none 0 0] 37) := ⟨_, rfl⟩
 have HB1 := Box.mk (show Below w.heap.size w W1 by rw [hW1]; exact below_twoF (below_oneF _ _) _)
 have HX1 := Box.mk (show RVr W1 w.heap.size #[.bool false, .string ⟨#[]⟩, .int .i64 0, .string ⟨#[]⟩, .string ⟨#[]⟩, .int .i64 0, .slice none 0 0, .bool false, .slice none 0 0, .int .i64 0, .string ⟨#[]⟩, .int .i64 0, .slice none 0 0, .slice none 0 0, .int .i64 0, .int .i64 0, .int .i64 0, .int .i64 0, .int .i64 0, .int .i64 0, .int .i64 0, .slice none 0 0] by rw [hW1]; exact RVr.keep (heap_alloc_new w (.cells #[.bool false, .string ⟨#[]⟩, .int .i64 0, .string ⟨#[]⟩, .string ⟨#[]⟩, .int .i64 0, .slice none 0 0, .bool false, .slice none 0 0, .int .i64 0, .string ⟨#[]⟩, .int .i64 0, .slice none 0 0, .slice none 0 0, .int .i64 0, .int .i64 0, .int .i64 0, .int .i64 0, .int .i64 0, .int .i64 0, .int .i64 0, .slice none 0 0] 37)) (below_oneF _ _))
 have HY1 := Box.mk (show RVr W1 (w.heap.size + 1) #[.bool false, .string ⟨#[]⟩, .int .i64 0, .string ⟨#[]⟩, .string ⟨#[]⟩, .int .i64 0, .slice none 0 0, .bool false, .slice none 0 0, .int .i64 0, .string ⟨#[]⟩, .int .i64 0, .slice none 0 0, .slice none 0 0, .int .i64 0, .int .i64 0, .int .i64 0, .int .i64 0, .int .i64 0, .int .i64 0, .int .i64 0, .slice none 0 0] by
  have h := heap_alloc_new (w.alloc (.cells #[.bool false, .string ⟨#[]⟩, .int .i64 0, .string ⟨#[]⟩, .string ⟨#[]⟩, .int .i64 0, .slice none 0 0, .bool false, .slice none 0 0, .int .i64 0, .string ⟨#[]⟩, .int .i64 0, .slice none 0 0, .slice none 0 0, .int .i64 0, .int .i64 0, .int .i64 0, .int .i64 0, .int .i64 0, .int .i64 0, .int .i64 0, .slice none 0 0] 37)) (.cells #[.bool false, .string ⟨#[]⟩, .int .i64 0, .string ⟨#[]⟩, .string ⟨#[]⟩, .int .i64 0, .slice none 0 0, .bool false, .slice none 0 0, .int .i64 0, .string ⟨#[]⟩, .int .i64 0, .slice none 0 0, .slice none 0 0, .int .i64 0, .int .i64 0, .int .i64 0, .int .i64 0, .int .i64 0, .int .i64 0, .int .i64 0, .slice none 0 0] 37)
  rw [World.size_alloc] at h
  rw [hW1]; exact h)
 have HW1 := Box.mk hW1
 have hlw : w.heap.size + 1 < W1.heap.size := HY1.out.lt
 clear hW1
 go_enter Tryz.func11, Tryz.ntmps11
 go_upto_region 1 with fail
 rw [← HW1.out]
 clear HW1
 go_wp2_with fail
 refine (forRequest_any W1).mono ?_
 rintro e w2 ⟨rfl, hb2⟩
 have HX2 := Box.mk (HX1.out.keep hb2)
 have HY2 := Box.mk (HY1.out.keep hb2)
 have HB2 := Box.mk (below_trans HB1.out hb2)
 clear hb2 HX1 HY1 HB1
 have HYN := Box.mk (show RVr (w2.setRow w.heap.size #[.bool false, .string ⟨#[]⟩, .int .i64 0, .string ⟨#[]⟩, .string ⟨#[]⟩, .int .i64 0, .slice none 0 0, .bool false, .slice none 0 0, .int .i64 0, .string ⟨#[]⟩, .int .i64 0, .slice none 0 0, .slice none 0 0, .int .i64 0, .int .i64 0, .int .i64 0, .int .i64 0, .int .i64 0, .int .i64 0, .int .i64 0, .slice none 0 0]) (w.heap.size + 1) #[.bool false, .string ⟨#[]⟩, .int .i64 0, .string ⟨#[]⟩, .string ⟨#[]⟩, .int .i64 0, .slice none 0 0, .bool false, .slice none 0 0, .int .i64 0, .string ⟨#[]⟩, .int .i64 0, .slice none 0 0, .slice none 0 0, .int .i64 0, .int .i64 0, .int .i64 0, .int .i64 0, .int .i64 0, .int .i64 0, .int .i64 0, .slice none 0 0] from (setRow_other _ _ _ _ (by omega)).trans HY2.out)
 go_wp2_with (first | refine wpList_store_row rfl 37 _ _ rfl w.heap.size #[.bool false, .string ⟨#[]⟩, .int .i64 0, .string ⟨#[]⟩, .string ⟨#[]⟩, .int .i64 0, .slice none 0 0, .bool false, .slice none 0 0, .int .i64 0, .string ⟨#[]⟩, .int .i64 0, .slice none 0 0, .slice none 0 0, .int .i64 0, .int .i64 0, .int .i64 0, .int .i64 0, .int .i64 0, .int .i64 0, .int .i64 0, .slice none 0 0] rfl rfl 37 _ HX2.out sizeRd rfl (oneRd ..) ?_ | refine wpList_store_row rfl 37 _ _ rfl (w.heap.size + 1) #[.bool false, .string ⟨#[]⟩, .int .i64 0, .string ⟨#[]⟩, .string ⟨#[]⟩, .int .i64 0, .slice none 0 0, .bool false, .slice none 0 0, .int .i64 0, .string ⟨#[]⟩, .int .i64 0, .slice none 0 0, .slice none 0 0, .int .i64 0, .int .i64 0, .int .i64 0, .int .i64 0, .int .i64 0, .int .i64 0, .int .i64 0, .slice none 0 0] rfl rfl 37 _ HYN.out sizeRd rfl (oneRd ..) ?_)
 (try simp only [Exit.inBlock, Exit.then])
 refine bodyPost_ret (results_rr rfl _ _ w.heap.size (w.heap.size + 1) 37 37 #[.bool false, .string ⟨#[]⟩, .int .i64 0, .string ⟨#[]⟩, .string ⟨#[]⟩, .int .i64 0, .slice none 0 0, .bool false, .slice none 0 0, .int .i64 0, .string ⟨#[]⟩, .int .i64 0, .slice none 0 0, .slice none 0 0, .int .i64 0, .int .i64 0, .int .i64 0, .int .i64 0, .int .i64 0, .int .i64 0, .int .i64 0, .slice none 0 0] #[.bool false, .string ⟨#[]⟩, .int .i64 0, .string ⟨#[]⟩, .string ⟨#[]⟩, .int .i64 0, .slice none 0 0, .bool false, .slice none 0 0, .int .i64 0, .string ⟨#[]⟩, .int .i64 0, .slice none 0 0, .slice none 0 0, .int .i64 0, .int .i64 0, .int .i64 0, .int .i64 0, .int .i64 0, .int .i64 0, .int .i64 0, .slice none 0 0] (0, 0) (0, 0) _ _ rfl rfl ((setRow_other _ _ _ _ (by omega)).trans (setRow_heap _ _ _ _ _ _ HX2.out)) (setRow_heap _ _ _ _ _ _ HYN.out) Tryz.underlying37 rfl sizeRd Tryz.underlying37 rfl sizeRd) rfl ?_
 exact ⟨rfl, below_setRow (below_setRow HB2.out (Nat.le_refl _) _) (by omega) _⟩
set_option maxRecDepth 100000 in
set_option maxHeartbeats 1000000 in
theorem beginN_yes (z : Int) (w : World) : Calls Tryz.prog 11 #[.bool true, .int .i64 z] w fun e w' => ∃ p, e = .returned (.tuple #[.agg #[.bool true, .string p, .int .i64 0, .string ⟨#[]⟩, .string ⟨#[]⟩, .int .i64 0, .slice none 0 0, .bool false, .slice none 0 0, .int .i64 0, .string ⟨#[]⟩, .int .i64 0, .slice none 0 0, .slice none 0 0, .int .i64 0, .int .i64 0, .int .i64 0, .int .i64 0, .int .i64 0, .int .i64 0, .int .i64 0, .slice none 0 0], .agg #[.bool true, .string p, .int .i64 0, .string ⟨#[]⟩, .string ⟨#[]⟩, .int .i64 0, .slice none 0 0, .bool false, .slice none 0 0, .int .i64 0, .string ⟨#[]⟩, .int .i64 0, .slice none 0 0, .slice none 0 0, .int .i64 0, .int .i64 0, .int .i64 0, .int .i64 0, .int .i64 0, .int .i64 0, .int .i64 0, .slice none 0 0]]) ∧ Below w.heap.size w w' := by
 obtain ⟨W1, hW1⟩ : ∃ W1, W1 = (w.alloc (.cells #[.bool false, .string ⟨#[]⟩, .int .i64 0, .string ⟨#[]⟩, .string ⟨#[]⟩, .int .i64 0, .slice none 0 0, .bool false, .slice none 0 0, .int .i64 0, .string ⟨#[]⟩, .int .i64 0, .slice none 0 0, .slice none 0 0, .int .i64 0, .int .i64 0, .int .i64 0, .int .i64 0, .int .i64 0, .int .i64 0, .int .i64 0, .slice none 0 0] 37)).alloc (.cells #[.bool false, .string ⟨#[]⟩, .int .i64 0, .string ⟨#[]⟩, .string ⟨#[]⟩, .int .i64 0, .slice none 0 0, .bool false, .slice none 0 0, .int .i64 0, .string ⟨#[]⟩, .int .i64 0, .slice none 0 0, .slice none 0 0, .int .i64 0, .int .i64 0, .int .i64 0, .int .i64 0, .int .i64 0, .int .i64 0, .int .i64 0, .slice none 0 0] 37) := ⟨_, rfl⟩
 have HB1 := Box.mk (show Below w.heap.size w W1 by rw [hW1]; exact below_twoF (below_oneF _ _) _)
 have HX1 := Box.mk (show RVr W1 w.heap.size #[.bool false, .string ⟨#[]⟩, .int .i64 0, .string ⟨#[]⟩, .string ⟨#[]⟩, .int .i64 0, .slice none 0 0, .bool false, .slice none 0 0, .int .i64 0, .string ⟨#[]⟩, .int .i64 0, .slice none 0 0, .slice none 0 0, .int .i64 0, .int .i64 0, .int .i64 0, .int .i64 0, .int .i64 0, .int .i64 0, .int .i64 0, .slice none 0 0] by rw [hW1]; exact RVr.keep (heap_alloc_new w (.cells #[.bool false, .string ⟨#[]⟩, .int .i64 0, .string ⟨#[]⟩, .string ⟨#[]⟩, .int .i64 0, .slice none 0 0, .bool false, .slice none 0 0, .int .i64 0, .string ⟨#[]⟩, .int .i64 0, .slice none 0 0, .slice none 0 0, .int .i64 0, .int .i64 0, .int .i64 0, .int .i64 0, .int .i64 0, .int .i64 0, .int .i64 0, .slice none 0 0] 37)) (below_oneF _ _))
 have HY1 := Box.mk (show RVr W1 (w.heap.size + 1) #[.bool false, .string ⟨#[]⟩, .int .i64 0, .string ⟨#[]⟩, .string ⟨#[]⟩, .int .i64 0, .slice none 0 0, .bool false, .slice none 0 0, .int .i64 0, .string ⟨#[]⟩, .int .i64 0, .slice none 0 0, .slice none 0 0, .int .i64 0, .int .i64 0, .int .i64 0, .int .i64 0, .int .i64 0, .int .i64 0, .int .i64 0, .slice none 0 0] by
  have h := heap_alloc_new (w.alloc (.cells #[.bool false, .string ⟨#[]⟩, .int .i64 0, .string ⟨#[]⟩, .string ⟨#[]⟩, .int .i64 0, .slice none 0 0, .bool false, .slice none 0 0, .int .i64 0, .string ⟨#[]⟩, .int .i64 0, .slice none 0 0, .slice none 0 0, .int .i64 0, .int .i64 0, .int .i64 0, .int .i64 0, .int .i64 0, .int .i64 0, .int .i64 0, .slice none 0 0] 37)) (.cells #[.bool false, .string ⟨#[]⟩, .int .i64 0, .string ⟨#[]⟩, .string ⟨#[]⟩, .int .i64 0, .slice none 0 0, .bool false, .slice none 0 0, .int .i64 0, .string ⟨#[]⟩, .int .i64 0, .slice none 0 0, .slice none 0 0, .int .i64 0, .int .i64 0, .int .i64 0, .int .i64 0, .int .i64 0, .int .i64 0, .int .i64 0, .slice none 0 0] 37)
  rw [World.size_alloc] at h
  rw [hW1]; exact h)
 have HW1 := Box.mk hW1
 have hlw : w.heap.size + 1 < W1.heap.size := HY1.out.lt
 clear hW1
 go_enter Tryz.func11, Tryz.ntmps11
 go_upto_region 1 with fail
 rw [← HW1.out]
 clear HW1
 go_wp2_with fail
 refine (within_any z 3 _ (by decide) (by decide)).mono ?_
 rintro e w2 ⟨k, hk, rfl, hww⟩
 obtain ⟨p, hp⟩ : ∃ p, w2.cell? ⟨W1.heap.size, k, none⟩ = some (.string p) := by
  rw [← hww]
  match k, hk with
  | 0, _ => exact ⟨_, (cell_of_row _ _ _ _ _ _ (heap_alloc_new W1 _)).trans rfl⟩
  | 1, _ => exact ⟨_, (cell_of_row _ _ _ _ _ _ (heap_alloc_new W1 _)).trans rfl⟩
  | 2, _ => exact ⟨_, (cell_of_row _ _ _ _ _ _ (heap_alloc_new W1 _)).trans rfl⟩
 have hb2 : Below W1.heap.size W1 w2 := by rw [← hww]; exact below_oneF _ _
 have HX2 := Box.mk (HX1.out.keep hb2)
 have HY2 := Box.mk (HY1.out.keep hb2)
 have HB2 := Box.mk (below_trans HB1.out hb2)
 clear hb2 HX1 HY1 HB1 hww
 go_wp2_with fail
 refine (forReply_any p w2).mono ?_
 rintro e w3 ⟨rfl, hb3⟩
 go_wp2_with fail
 refine (refForReply_any p w3).mono ?_
 rintro e w4 ⟨rfl, hb4⟩
 have hb24 := below_trans hb3 hb4
 have HX4 := Box.mk (HX2.out.keep hb24)
 have HY4 := Box.mk (HY2.out.keep hb24)
 have HB4 := Box.mk (below_trans HB2.out hb24)
 clear hb24 hb3 hb4 HX2 HY2 HB2 hp
 have HYN := Box.mk (show RVr (w4.setRow w.heap.size #[.bool true, .string p, .int .i64 0, .string ⟨#[]⟩, .string ⟨#[]⟩, .int .i64 0, .slice none 0 0, .bool false, .slice none 0 0, .int .i64 0, .string ⟨#[]⟩, .int .i64 0, .slice none 0 0, .slice none 0 0, .int .i64 0, .int .i64 0, .int .i64 0, .int .i64 0, .int .i64 0, .int .i64 0, .int .i64 0, .slice none 0 0]) (w.heap.size + 1) #[.bool false, .string ⟨#[]⟩, .int .i64 0, .string ⟨#[]⟩, .string ⟨#[]⟩, .int .i64 0, .slice none 0 0, .bool false, .slice none 0 0, .int .i64 0, .string ⟨#[]⟩, .int .i64 0, .slice none 0 0, .slice none 0 0, .int .i64 0, .int .i64 0, .int .i64 0, .int .i64 0, .int .i64 0, .int .i64 0, .int .i64 0, .slice none 0 0] from (setRow_other _ _ _ _ (by omega)).trans HY4.out)
 go_wp2_with (first | refine wpList_store_row rfl 37 _ _ rfl w.heap.size #[.bool true, .string p, .int .i64 0, .string ⟨#[]⟩, .string ⟨#[]⟩, .int .i64 0, .slice none 0 0, .bool false, .slice none 0 0, .int .i64 0, .string ⟨#[]⟩, .int .i64 0, .slice none 0 0, .slice none 0 0, .int .i64 0, .int .i64 0, .int .i64 0, .int .i64 0, .int .i64 0, .int .i64 0, .int .i64 0, .slice none 0 0] rfl rfl 37 _ HX4.out sizeRd rfl (oneRd ..) ?_ | refine wpList_store_row rfl 37 _ _ rfl (w.heap.size + 1) #[.bool true, .string p, .int .i64 0, .string ⟨#[]⟩, .string ⟨#[]⟩, .int .i64 0, .slice none 0 0, .bool false, .slice none 0 0, .int .i64 0, .string ⟨#[]⟩, .int .i64 0, .slice none 0 0, .slice none 0 0, .int .i64 0, .int .i64 0, .int .i64 0, .int .i64 0, .int .i64 0, .int .i64 0, .int .i64 0, .slice none 0 0] rfl rfl 37 _ HYN.out sizeRd rfl (oneRd ..) ?_)
 (try simp only [Exit.inBlock, Exit.then])
 refine bodyPost_ret (results_rr rfl _ _ w.heap.size (w.heap.size + 1) 37 37 #[.bool true, .string p, .int .i64 0, .string ⟨#[]⟩, .string ⟨#[]⟩, .int .i64 0, .slice none 0 0, .bool false, .slice none 0 0, .int .i64 0, .string ⟨#[]⟩, .int .i64 0, .slice none 0 0, .slice none 0 0, .int .i64 0, .int .i64 0, .int .i64 0, .int .i64 0, .int .i64 0, .int .i64 0, .int .i64 0, .slice none 0 0] #[.bool true, .string p, .int .i64 0, .string ⟨#[]⟩, .string ⟨#[]⟩, .int .i64 0, .slice none 0 0, .bool false, .slice none 0 0, .int .i64 0, .string ⟨#[]⟩, .int .i64 0, .slice none 0 0, .slice none 0 0, .int .i64 0, .int .i64 0, .int .i64 0, .int .i64 0, .int .i64 0, .int .i64 0, .int .i64 0, .slice none 0 0] (0, 0) (0, 0) _ _ rfl rfl ((setRow_other _ _ _ _ (by omega)).trans (setRow_heap _ _ _ _ _ _ HX4.out)) (setRow_heap _ _ _ _ _ _ HYN.out) Tryz.underlying37 rfl sizeRd Tryz.underlying37 rfl sizeRd) rfl ?_
 exact ⟨p, rfl, below_setRow (below_setRow HB4.out (Nat.le_refl _) _) (by omega) _⟩
end Go.Proofs.YteoadfckcilalaaGreatDoor
