/- Normalized fields: the reference's With and Names. Joined strings, by the library and in the reference. Single operations of a region that draws its order, for structs of any type: load, index, field, store. A region that draws its order, in phases, where an operation may read a slot that a later one writes. Normalized fields: the reference's Fields. Normalized fields by a map: mathematics. The landed normal: the values of each name in a map of slices. The landed normal: which fields are compared; the step of a range over the groups; an own slice of fields or strings that the library sorts. What the library's sort does with the call's own slice of fields, in words of Go's document. The landed normal.Fields. The landed normal.Names. Normalized fields by a map and the library's sort: mathematics. -/
import Derived.Test.YtgmbfiikkogenaaGreatDoorPk1
import Derived.Test.YtgmbfiikkogenaaGreatDoorPk2
import Derived.Test.YtgmbfiikkogenaaGreatDoorPk3
import Derived.Test.YtgmbfiikkogenaaGreatDoorRows
import Derived.WalkKit
import Derived.WalkSpells
import Derived.WalkLawsBesides
import Derived.BigQuiet
import Derived.Deep.QuietTactic
import Derived.Lib.Bytealg
import Derived.Lib.IndexLaws
import Derived.Lib.Hide
import Derived.Laws.IdiomStrings
import Derived.Lib.SlTrimSet
import Derived.Lib.IndexBytes
import Derived.Lib.Split
import Derived.Deep.AppendLies
import Derived.Shelf.SlGeneric
import Derived.Shelf.Strings.SlTrimAscii
import Derived.Shelf.Strings.SplitShaped
import Derived.Shelf.LaysM
import Derived.Shelf.Strings.BuilderK
import Derived.Shelf.Strconv.Itoa4
import Derived.Shelf.Strings.Builder2
import Derived.Shelf.SlLaysF0
import Derived.Shelf.SlLaysM
import Derived.Shelf.SlLaysN
import Derived.Ground.SlsfProg
import Derived.Ground.SlgmProg
import Derived.Ground.SlgnProg
import Derived.Test.YtgmbfiikkogenaaGreatDoorProg
import Derived.Lib.SplitLaws
import Derived.WalkSmall
import Derived.ProofKit
import Derived.OpenShut
import Derived.Lib.Strings
import Derived.SliceStrings
import Derived.Deep.Quiet
import Derived.Tactics
import Derived.KernelRfl
import Derived.Below
import Derived.Laws.Bits64
import Derived.Lib.SlBytesConst
import Derived.Maps.AppendAt
import Derived.Laws.AppendOwnNone
import Derived.Great.BuildSlice
import Derived.Laws.Rows
import Derived.Laws.BitsAllLaws
import Derived.Laws.Shifts
import Derived.Maps.OwnOps
import Derived.Maps.OwnSet
import Derived.Deep.SlicePairs
import Derived.Lib.AppendZerosOnto
import Derived.Lib.AppendStr
import Derived.Laws.CopyOwn
import Derived.OwnWalk
import Derived.Laws.Strings3
import Derived.Laws.Concat
import Derived.Lib.ItoaMem
import Derived.Deep.RegionHeld3
import Derived.IntWalk
import Derived.Sort.Grow
import Derived.Lib.LaidTab
import Derived.LaidSub
import Derived.Sort.Walk0
import Derived.Laws.OwnMore
import Derived.ArgAppend
import Derived.Shelf.Strings.OnBuilder
import Derived.Laws.Tables
import Derived.Maps.RangeWalk
import Derived.Lib.SlicesCompact
import Derived.Shelf.SlSortCmp.Insertion
import Derived.Sort.Statements
namespace Go.Proofs.YtgmbfiikkogenaaGreatDoor
open Go.RowKit
set_option linter.unusedSimpArgs false
set_option linter.unusedVariables false

/-- The call returns a slice that reads as the strings l. -/
def RetStrC (w : World) (l : List ByteArray) (e : Ending) (w' : World) : Prop := ∃ a c, e = .returned (.slice a l.length c) ∧ StrsC w' a l c ∧ Below w.heap.size w w'
theorem retStrC_eq {w w' : World} {l l' : List ByteArray} {e : Ending} (h : RetStrC w l e w') (hl : l = l') : RetStrC w l' e w' := hl ▸ h
section
variable {Q : Exit → Act → World → Prop} {act : Act} {w : World} {o : Oper} {s : Spec}
theorem loc_fromV {x y : Operand} (ho : o.op = .slice 27 x (some y) none none) {a a' : Option Addr} {n c c' i : Nat} (hx : act.eval x = .slice a n c) (h3 : ∀ W, (Instr.sliceAt 27 (.slice a n c) (some (.int .i64 (i : Int))) none none).run Tryz.prog W = .ok (.slice a' (n - i) c') W) (hy : act.eval y = .int .i64 i) (hs : s.p (.slice a' (n - i) c') w) :
    o.wp Tryz.prog act w (fun a' w' => ∃ v, a' = act.put o.dst v ∧ Below w.heap.size w w' ∧ s.p v w') Q := by
  refine loc_run (v := .slice a' (n - i) c') ?_ (Below.refl _ _) hs
  unfold execOp
  simp only [ho, hx, hy, Option.map_some, Option.map_none, Sem.run_bind, h3, Result.andThen_ok, Sem.run_pure]
end
theorem bless_t {a b : ByteArray} (h : ltS a b = true) : Op.bytesLess a.toList b.toList = true := h
theorem bless_f {a b : ByteArray} (h : ltS a b = false) : Op.bytesLess a.toList b.toList = false := h
theorem beqS_t {a b : ByteArray} (h : a = b) : (a.toList == b.toList) = true := by rw [h]; exact beq_self_eq_true _
theorem beqS_f {a b : ByteArray} (h : ¬ a = b) : (a.toList == b.toList) = false := by
  rw [beq_eq_false_iff_ne]
  exact fun e => h (ba_eq.2 e)

set_option maxRecDepth 100000 in
set_option maxHeartbeats 4000000 in
theorem refWithS_any (l : List ByteArray) (s : ByteArray) (a : Option Addr) (cap : Nat) (w : World) (h : StrsC w a l cap) (hl : l.length ≤ 1000000) :
    Calls Tryz.prog 44 #[.slice a l.length cap, .string s] w (RetStrC w (insS s l)) := by
  have HI := Box.mk h
  have hlc : l.length ≤ cap := h.2.1
  clear h
  obtain ⟨r, hr⟩ : ∃ r, insS s l = r := ⟨_, rfl⟩
  have HR := Box.mk hr
  rw [hr]
  clear hr
  go_enter Tryz.func44, Tryz.ntmps44
  go_wp2_with fail
  go_loopw [5] (fun iv wr => ∃ k : Nat, k ≤ l.length ∧ iv = .int .i64 k ∧ Box (∀ j (h : j < l.length), j < k → ltS l[j] s = true) ∧ wr = w) (fun iv _ => l.length - (intOf iv).toNat)
  case atStart => exact ⟨0, Nat.zero_le _, rfl, ⟨fun j _ h => absurd h (Nat.not_lt_zero _)⟩, rfl⟩
  case round =>
    obtain ⟨k, hk, rfl, HL, rfl⟩ := hrel
    by_cases hlt : k < l.length
    · obtain ⟨x, rfl, hc⟩ := HI.out.1 k hlt
      have HC := Box.mk hc
      by_cases hs : ltS l[k] s = true
      · have hs' := bless_t hs
        have HL2 := Box.mk (show ∀ j (h : j < l.length), j < k + 1 → ltS l[j] s = true from fun j h1 h2 => by
          rcases Nat.lt_or_ge j k with h3 | h3
          · exact HL.out j h1 h3
          · obtain rfl : j = k := by omega
            exact hs)
        clear HL hs
        go_wp2_with fail
        go_roundw
        case rel => exact ⟨k + 1, by omega, by go_num, HL2, trivial⟩
        case measure => simp [intOf]; omega
      · have hs1 : ltS l[k] s = false := by simpa using hs
        have hs' := bless_f hs1
        have HAT := Box.mk (insS_at s l k hk HL.out (fun _ => hs1))
        clear hs hs1
        by_cases he : l[k] = s
        · have he' := beqS_t he
          have HRR := Box.mk (show l = r by rw [← HR.out, HAT.out, if_pos ⟨hlt, by rw [List.getElem?_eq_getElem hlt, he]⟩])
          clear HAT he HL
          go_wp2_with fail
          go_ret
          refine retStrC_eq ⟨_, _, rfl, HI.out, Below.refl _ _⟩ HRR.out
        · have he' := beqS_f he
          have HRR := Box.mk (show l.take k ++ [s] ++ l.drop k = r by rw [← HR.out, HAT.out, if_neg (by rintro ⟨_, h⟩; rw [List.getElem?_eq_getElem hlt] at h; exact he (Option.some.inj h))])
          clear HAT he
          obtain ⟨a', c', hrun, hdrop⟩ := part_s HI.out hk
          have HRUN := Box.mk hrun
          have HDR := Box.mk hdrop
          clear hrun hdrop HL
          go_upto_region 6 with fail
          rename_i K hK
          refine wp_region_phases [7, 11] (fun ph => match ph with | 0 => [0, 1, 2, 3, 4, 5, 6, 8, 9, 10] | 1 => [8, 9, 10] | _ => [12])
            (fun ph => match ph with
              | 0 => [.own0 wr.heap.size, .val (.slice (some x) l.length cap), .val (.int .i64 k), .val (.slice (some x) k cap), .ownS wr.heap.size (l.take k), .val (.string s), .strOne s, .any, .val (.slice (some x) l.length cap), .val (.int .i64 k), .val (.slice a' (l.length - k) c'), .nopeS, .nopeS]
              | 1 => [.any, .any, .any, .any, .any, .any, .any, .ownS wr.heap.size (l.take k ++ [s]), .val (.slice (some x) l.length cap), .val (.int .i64 k), .val (.slice a' (l.length - k) c'), .any, .nopeS]
              | _ => [.any, .any, .any, .any, .any, .any, .any, .any, .any, .any, .any, .ownS wr.heap.size r, .ownS wr.heap.size r])
            (fun ph => fun wx => Below wr.heap.size wr wx)
            (by kernel_rfl) (by kernel_rfl) (by kernel_rfl) (by kernel_rfl) (by kernel_rfl) (by kernel_rfl) ?_ (Below.refl _ _) ?_ ?_ ?_
          · intro ph w1 w2 h hb
            exact below_trans h hb
          · intro ph hp
            match ph, hp with
            | 0, _ =>
              refine ⟨?_, ?_, ?_, ?_, ?_, ?_, ?_, ?_, ?_, ?_, trivial⟩ <;> intro a1 w1 hv hf hd
              · exact ⟨wanted_none rfl, loc_build0S rfl hv.size fun v w' h => h⟩
              · exact ⟨wanted_none rfl, loc_move rfl (hf.base 0 rfl)⟩
              · exact ⟨wanted_none rfl, loc_move rfl (hf.base 5 rfl)⟩
              · exact ⟨wanted_none rfl, loc_uptoS rfl (hd 1 rfl) (hd 2 rfl) hk hlc rfl⟩
              · obtain ⟨⟨g, e1⟩, e2⟩ := hd 0 rfl
                exact ⟨wanted_none rfl, loc_append0S rfl e1 e2 ((hd 3 rfl).trans (by rw [List.length_take, Nat.min_eq_left hk])) ((HI.out.keep hv).take k) (by rw [List.length_take]; omega) hv.size fun v w' h => h⟩
              · exact ⟨wanted_none rfl, loc_move rfl (hf.base 1 rfl)⟩
              · exact ⟨wanted_none rfl, loc_build1S rfl (hd 5 rfl) fun v w' h => h⟩
              · exact ⟨wanted_none rfl, loc_move rfl (hf.base 0 rfl)⟩
              · exact ⟨wanted_none rfl, loc_move rfl (hf.base 5 rfl)⟩
              · exact ⟨wanted_none rfl, loc_fromV rfl (hd 8 rfl) HRUN.out (hd 9 rfl) rfl⟩
            | 1, _ =>
              refine ⟨?_, ?_, ?_, trivial⟩ <;> intro a1 w1 hv hf hd
              · exact ⟨wanted_none rfl, loc_move rfl (hf.base 0 rfl)⟩
              · exact ⟨wanted_none rfl, loc_move rfl (hf.base 5 rfl)⟩
              · exact ⟨wanted_none rfl, loc_fromV rfl (hd 8 rfl) HRUN.out (hd 9 rfl) rfl⟩
            | 2, _ =>
              refine ⟨?_, trivial⟩
              intro a1 w1 hv hf hd
              exact ⟨wanted_none rfl, loc_assign rfl (hd 11 rfl)⟩
          · intro ph hp
            match ph, hp with
            | 0, _ =>
              intro a2 w2 hv hf hd
              obtain ⟨b, cb, e1, e2⟩ := hd 6 rfl
              have hown : OwnS wr.heap.size w2 (a2.eval (.tmp 37)) (l.take k) := hd 4 rfl
              refine ⟨wanted_none rfl, wp_append_oneS rfl hown e1 e2 (by rw [List.length_take]; omega) hv.size fun v' w3 h1 hgrow => ?_⟩
              exact ⟨v', rfl, hv.grown hgrow hv.size (fun j hj => (hown.lt hj).1), h1,
                ⟨.inr fun _ _ _ => trivial, .inr fun _ _ _ => trivial, .inr fun _ _ _ => trivial, .inr fun _ _ _ => trivial, .inr fun _ _ _ => trivial, .inr fun _ _ _ => trivial, .inr fun _ _ _ => trivial, .inl rfl, .inr fun _ _ h => h, .inr fun _ _ h => h, .inr fun _ _ h => h, .inr fun _ _ h => h.elim, .inr fun _ _ h => h, trivial⟩⟩
            | 1, _ =>
              intro a2 w2 hv hf hd
              have hown : OwnS wr.heap.size w2 (a2.eval (.tmp 40)) (l.take k ++ [s]) := hd 7 rfl
              have e43 : a2.eval (.tmp 43) = .slice a' (l.drop k).length c' := (hd 10 rfl).trans (by rw [List.length_drop])
              refine ⟨wanted_none rfl, wp_append_ownSs rfl hown e43 (HDR.out.keep hv) (by rw [List.length_append, List.length_take, List.length_drop]; simp; omega) hv.size fun v' w3 h1 hgrow => ?_⟩
              exact ⟨v', rfl, hv.grown hgrow hv.size (fun j hj => (hown.lt hj).1), (by show OwnS wr.heap.size w3 v' r; rw [← HRR.out]; exact h1),
                ⟨.inr fun _ _ _ => trivial, .inr fun _ _ _ => trivial, .inr fun _ _ _ => trivial, .inr fun _ _ _ => trivial, .inr fun _ _ _ => trivial, .inr fun _ _ _ => trivial, .inr fun _ _ _ => trivial, .inr fun _ _ _ => trivial, .inr fun _ _ _ => trivial, .inr fun _ _ _ => trivial, .inr fun _ _ _ => trivial, .inl rfl, .inr fun _ _ h => h.elim, trivial⟩⟩
          · intro a2 w2 hv hf hh
            obtain ⟨ra, rc, e4, hrs⟩ := (show OwnS wr.heap.size w2 (a2.eval (.tmp 4)) r from hh 12 (by decide)).shape
            refine hK _ _ ?_
            go_wp2_with fail
            exact local_ret rfl hf.defers e4 ⟨ra, rc, rfl, hrs, hv⟩
    · have HAT := Box.mk (insS_at s l k hk HL.out (fun h => absurd h hlt))
      have HRR := Box.mk (show l.take k ++ [s] ++ l.drop k = r by rw [← HR.out, HAT.out, if_neg (by rintro ⟨h, _⟩; exact hlt h)])
      clear HAT
      obtain ⟨a', c', hrun, hdrop⟩ := part_s HI.out hk
      have HRUN := Box.mk hrun
      have HDR := Box.mk hdrop
      clear hrun hdrop HL
      go_upto_region 6 with fail
      rename_i K hK
      refine wp_region_phases [7, 11] (fun ph => match ph with | 0 => [0, 1, 2, 3, 4, 5, 6, 8, 9, 10] | 1 => [8, 9, 10] | _ => [12])
        (fun ph => match ph with
          | 0 => [.own0 wr.heap.size, .val (.slice a l.length cap), .val (.int .i64 k), .val (.slice a k cap), .ownS wr.heap.size (l.take k), .val (.string s), .strOne s, .any, .val (.slice a l.length cap), .val (.int .i64 k), .val (.slice a' (l.length - k) c'), .nopeS, .nopeS]
          | 1 => [.any, .any, .any, .any, .any, .any, .any, .ownS wr.heap.size (l.take k ++ [s]), .val (.slice a l.length cap), .val (.int .i64 k), .val (.slice a' (l.length - k) c'), .any, .nopeS]
          | _ => [.any, .any, .any, .any, .any, .any, .any, .any, .any, .any, .any, .ownS wr.heap.size r, .ownS wr.heap.size r])
        (fun ph => fun wx => Below wr.heap.size wr wx)
        (by kernel_rfl) (by kernel_rfl) (by kernel_rfl) (by kernel_rfl) (by kernel_rfl) (by kernel_rfl) ?_ (Below.refl _ _) ?_ ?_ ?_
      · intro ph w1 w2 h hb
        exact below_trans h hb
      · intro ph hp
        match ph, hp with
        | 0, _ =>
          refine ⟨?_, ?_, ?_, ?_, ?_, ?_, ?_, ?_, ?_, ?_, trivial⟩ <;> intro a1 w1 hv hf hd
          · exact ⟨wanted_none rfl, loc_build0S rfl hv.size fun v w' h => h⟩
          · exact ⟨wanted_none rfl, loc_move rfl (hf.base 0 rfl)⟩
          · exact ⟨wanted_none rfl, loc_move rfl (hf.base 5 rfl)⟩
          · exact ⟨wanted_none rfl, loc_uptoS rfl (hd 1 rfl) (hd 2 rfl) hk hlc rfl⟩
          · obtain ⟨⟨g, e1⟩, e2⟩ := hd 0 rfl
            exact ⟨wanted_none rfl, loc_append0S rfl e1 e2 ((hd 3 rfl).trans (by rw [List.length_take, Nat.min_eq_left hk])) ((HI.out.keep hv).take k) (by rw [List.length_take]; omega) hv.size fun v w' h => h⟩
          · exact ⟨wanted_none rfl, loc_move rfl (hf.base 1 rfl)⟩
          · exact ⟨wanted_none rfl, loc_build1S rfl (hd 5 rfl) fun v w' h => h⟩
          · exact ⟨wanted_none rfl, loc_move rfl (hf.base 0 rfl)⟩
          · exact ⟨wanted_none rfl, loc_move rfl (hf.base 5 rfl)⟩
          · exact ⟨wanted_none rfl, loc_fromV rfl (hd 8 rfl) HRUN.out (hd 9 rfl) rfl⟩
        | 1, _ =>
          refine ⟨?_, ?_, ?_, trivial⟩ <;> intro a1 w1 hv hf hd
          · exact ⟨wanted_none rfl, loc_move rfl (hf.base 0 rfl)⟩
          · exact ⟨wanted_none rfl, loc_move rfl (hf.base 5 rfl)⟩
          · exact ⟨wanted_none rfl, loc_fromV rfl (hd 8 rfl) HRUN.out (hd 9 rfl) rfl⟩
        | 2, _ =>
          refine ⟨?_, trivial⟩
          intro a1 w1 hv hf hd
          exact ⟨wanted_none rfl, loc_assign rfl (hd 11 rfl)⟩
      · intro ph hp
        match ph, hp with
        | 0, _ =>
          intro a2 w2 hv hf hd
          obtain ⟨b, cb, e1, e2⟩ := hd 6 rfl
          have hown : OwnS wr.heap.size w2 (a2.eval (.tmp 37)) (l.take k) := hd 4 rfl
          refine ⟨wanted_none rfl, wp_append_oneS rfl hown e1 e2 (by rw [List.length_take]; omega) hv.size fun v' w3 h1 hgrow => ?_⟩
          exact ⟨v', rfl, hv.grown hgrow hv.size (fun j hj => (hown.lt hj).1), h1,
            ⟨.inr fun _ _ _ => trivial, .inr fun _ _ _ => trivial, .inr fun _ _ _ => trivial, .inr fun _ _ _ => trivial, .inr fun _ _ _ => trivial, .inr fun _ _ _ => trivial, .inr fun _ _ _ => trivial, .inl rfl, .inr fun _ _ h => h, .inr fun _ _ h => h, .inr fun _ _ h => h, .inr fun _ _ h => h.elim, .inr fun _ _ h => h, trivial⟩⟩
        | 1, _ =>
          intro a2 w2 hv hf hd
          have hown : OwnS wr.heap.size w2 (a2.eval (.tmp 40)) (l.take k ++ [s]) := hd 7 rfl
          have e43 : a2.eval (.tmp 43) = .slice a' (l.drop k).length c' := (hd 10 rfl).trans (by rw [List.length_drop])
          refine ⟨wanted_none rfl, wp_append_ownSs rfl hown e43 (HDR.out.keep hv) (by rw [List.length_append, List.length_take, List.length_drop]; simp; omega) hv.size fun v' w3 h1 hgrow => ?_⟩
          exact ⟨v', rfl, hv.grown hgrow hv.size (fun j hj => (hown.lt hj).1), (by show OwnS wr.heap.size w3 v' r; rw [← HRR.out]; exact h1),
            ⟨.inr fun _ _ _ => trivial, .inr fun _ _ _ => trivial, .inr fun _ _ _ => trivial, .inr fun _ _ _ => trivial, .inr fun _ _ _ => trivial, .inr fun _ _ _ => trivial, .inr fun _ _ _ => trivial, .inr fun _ _ _ => trivial, .inr fun _ _ _ => trivial, .inr fun _ _ _ => trivial, .inr fun _ _ _ => trivial, .inl rfl, .inr fun _ _ h => h.elim, trivial⟩⟩
      · intro a2 w2 hv hf hh
        obtain ⟨ra, rc, e4, hrs⟩ := (show OwnS wr.heap.size w2 (a2.eval (.tmp 4)) r from hh 12 (by decide)).shape
        refine hK _ _ ?_
        go_wp2_with fail
        exact local_ret rfl hf.defers e4 ⟨ra, rc, rfl, hrs, hv⟩
theorem refWithS_eq {l r : List ByteArray} {s : ByteArray} {a : Option Addr} {cap : Nat} (w : World) (h : StrsC w a l cap) (hl : l.length ≤ 1000000) (hr : insS s l = r) :
    Calls Tryz.prog 44 #[.slice a l.length cap, .string s] w (RetStrC w r) := by subst hr; exact refWithS_any l s a cap w h hl

set_option maxRecDepth 10000 in
set_option maxHeartbeats 2000000 in
theorem refNames_any (l : List Fld) (a : Option Addr) (cap : Nat) (w : World) (h : FldsIn w a l) (hl : l.length ≤ 1000000) :
    Calls Tryz.prog 30 #[.slice a l.length cap] w (RetStrC w (namesS (l.map (·.1)))) := by
  have HI := Box.mk h
  clear h
  go_enter Tryz.func30, Tryz.ntmps30
  go_wp2_with fail
  go_loopw [3, 4] (fun ov iv wr => ∃ (k : Nat) (g : List ByteArray) (ga : Option Addr) (gc : Nat), k ≤ l.length ∧ ov = .slice ga g.length gc ∧ iv = .int .i64 k ∧ g.length ≤ k ∧ Box (g = namesS ((l.map (·.1)).take k)) ∧ Box (StrsC wr ga g gc) ∧ Box (Below w.heap.size w wr)) (fun _ iv _ => l.length - (intOf iv).toNat)
  case atStart => exact ⟨0, [], none, 0, Nat.zero_le _, rfl, rfl, Nat.le_refl _, ⟨rfl⟩, ⟨StrsIn.nil _ _, Nat.le_refl _, fun _ => rfl⟩, ⟨Below.refl _ _⟩⟩
  case round =>
    obtain ⟨k, g, ga, gc, hk, rfl, rfl, hgl, HG, HS, HB⟩ := hrel
    by_cases hlt : k < l.length
    · obtain ⟨x, rfl, hc1, hc2⟩ := (HI.out.keep HB.out) k hlt
      have HN := Box.mk (namesS_snoc (l.map (·.1)) k (by simpa using hlt))
      have HE := Box.mk (show (l.map (·.1))[k]'(by simpa using hlt) = l[k].1 by simp)
      obtain ⟨r, hr⟩ : ∃ r, insS l[k].1 g = r := ⟨_, rfl⟩
      have HR := Box.mk hr
      have HLN := Box.mk (show r.length ≤ k + 1 by rw [← hr]; have := insS_len l[k].1 g; omega)
      have HNX := Box.mk (show r = namesS ((l.map (·.1)).take (k + 1)) by rw [HN.out, HE.out, ← HG.out, hr])
      clear hr HN HE HG hc2
      generalize l[k].1 = nm at *
      go_wp2_with fail
      refine (refWithS_eq (l := g) (s := nm) wr HS.out (by omega) HR.out).mono ?_
      rintro e w2 ⟨ra, rc, rfl, hrs, hb⟩
      have HS2 := Box.mk hrs
      have HB2 := Box.mk (below_trans HB.out hb)
      clear hrs hb hc1
      go_wp2_with fail
      go_roundw
      case rel => exact ⟨k + 1, r, ra, rc, by omega, rfl, by go_num, HLN.out, HNX, HS2, HB2⟩
      case measure => simp [intOf]; omega
    · have HX := Box.mk (show g = namesS (l.map (·.1)) by rw [HG.out, List.take_of_length_le (by simp; omega)])
      clear HG
      go_wp2_with fail
      go_ret
      exact retStrC_eq ⟨_, _, rfl, HS.out, HB.out⟩ HX.out
end Go.Proofs.YtgmbfiikkogenaaGreatDoor
namespace Go.Proofs.YtgmbfiikkogenaaGreatDoor
open Go.RowKit

theorem joinX : Builder.Extra Tryz.prog Tryz.lays156_ren where -- 36
  sizeBuilder := by kernel_rfl
  liesBuilder := by kernel_rfl
  t5 := Tryz.underlying5
  a5 := Tryz.isAgg5
  z5 := Tryz.sizeOf5
  v5 := Tryz.zeroValue5
  infoByte := Tryz.info5
  cellsByte := by kernel_rfl
  sizeByte := by kernel_rfl
  neB5 := by decide
theorem tailB_lib : ∀ l : List ByteArray, Lib.joinTail [44, 32] (l.map (·.data.toList)) = tailB l
  | [] => rfl
  | x :: r => by
    have ih := tailB_lib r
    unfold Lib.joinTail tailB at *
    rw [List.map_cons, List.map_cons, List.flatten_cons, List.flatMap_cons, ih]
theorem joinB_lib (l : List ByteArray) : Lib.join (l.map (·.data.toList)) [44, 32] = joinB l := by
  cases l with
  | nil => rfl
  | cons x r => rw [List.map_cons, Lib.join_cons, tailB_lib]; rfl
theorem sJoin_any (l : List ByteArray) (g cap : Nat) (w : World) (h : StrsAt w (some ⟨g, 0, none⟩) l) (hg : g < w.heap.size) (hc : l.length ≤ cap) (ht : total l ≤ 70000000000000) :
    Calls Tryz.prog 36 #[.slice (some ⟨g, 0, none⟩) l.length cap, .string sepP] w fun e w' => e = .returned (.string (joinS l)) ∧ Below w.heap.size w w' := by
  have hl := total_len l
  have hj := joinB_len l
  refine (Any.strings_Join Tryz.lays156 joinX g 0 cap l sepP w ?_ hg (by omega) hc ?_).mono ?_
  · intro j x hx
    obtain ⟨hj, rfl⟩ := List.getElem?_eq_some_iff.1 hx
    obtain ⟨b, off, e, hc⟩ := h j hj
    have e2 := Option.some.inj e
    injection e2 with e3 e4
    subst e3 e4
    exact hc
  · show (Lib.join (l.map (·.data.toList)) [44, 32]).length ≤ _
    rw [joinB_lib]; omega
  · rintro e w' ⟨he, hb⟩
    refine ⟨he.trans ?_, hb⟩
    show Ending.returned (.string ⟨(Lib.join (l.map (·.data.toList)) [44, 32]).toArray⟩) = _
    rw [joinB_lib]; rfl
theorem join_first (l : List ByteArray) (h : 0 < l.length) : joinS (l.take 1) = l[0] := by
  cases l with
  | nil => exact absurd h (by decide)
  | cons x r => exact joinS_one x
theorem join_step (l : List ByteArray) (k : Nat) (h : k < l.length) (h0 : 0 < k) : joinS (l.take (k + 1)) = joinS (l.take k) ++ sepP ++ l[k] := by
  rw [List.take_succ_eq_append_getElem h]
  refine joinS_snoc (fun e => ?_) _
  have := congrArg List.length e
  rw [List.length_take] at this
  simp only [List.length_nil] at this
  omega

set_option maxRecDepth 100000 in
set_option maxHeartbeats 2000000 in
theorem refJoin_any (l : List ByteArray) (a : Option Addr) (cap : Nat) (w : World) (h : StrsAt w a l) (ht : total l ≤ 70000000000000) :
    Calls Tryz.prog 46 #[.slice a l.length cap, .string sepP] w fun e w' => e = .returned (.string (joinS l)) ∧ Below w.heap.size w w' := by
  have H0 := Box.mk h
  have HT := Box.mk ht
  have hl := total_len l
  clear h
  go_enter Tryz.func46, Tryz.ntmps46
  go_wp2_with fail
  go_loopw [5, 6] (fun v iv wr => ∃ k : Nat, k ≤ l.length ∧ iv = .int .i64 k ∧ ∃ s : ByteArray, v = .string s ∧ s.size ≤ 140000000000000 ∧ Box (s = joinS (l.take k) ∧ Below w.heap.size w wr)) (fun _ iv _ => l.length - (intOf iv).toNat)
  case atStart => exact ⟨0, Nat.zero_le _, rfl, ⟨#[]⟩, rfl, Nat.zero_le _, ⟨rfl, Below.refl _ _⟩⟩
  case round =>
    obtain ⟨k, hk, rfl, s, rfl, hs, HM⟩ := hrel
    by_cases hlt : k < l.length
    · obtain ⟨b, off, rfl, hc⟩ := (H0.out.keep HM.out.2) k hlt
      have HSZ := Box.mk (show (joinS (l.take (k + 1))).size ≤ 140000000000000 by
        have h1 := joinS_size (l.take (k + 1)); have h2 := total_take l (k + 1); have h3 := HT.out; omega)
      have hx : l[k].size ≤ 70000000000000 := by have h1 := total_mem (List.getElem_mem hlt); have h3 := HT.out; omega
      by_cases h0 : 0 < k
      · have HNEW := Box.mk (show s ++ sepP ++ l[k] = joinS (l.take (k + 1)) by rw [join_step l k hlt h0, HM.out.1])
        have HB := Box.mk HM.out.2
        clear HM
        generalize l[k] = f at *
        have g1 : (s ++ sepP).size = s.size + 2 := by rw [ByteArray.size_append]; rfl
        have gp : sepP.size = 2 := rfl
        have HN2 := Box.mk (show (s ++ sepP ++ f).size ≤ 140000000000000 by rw [HNEW.out]; exact HSZ.out)
        go_wp2_with fail
        go_roundw
        case rel => exact ⟨k + 1, by omega, by go_num, _, rfl, HN2.out, ⟨HNEW.out, HB.out⟩⟩
        case measure => simp [intOf]; omega
      · obtain rfl : k = 0 := by omega
        rw [Nat.add_zero] at hc
        have HNEW := Box.mk (show (⟨#[]⟩ : ByteArray) ++ l[0] = joinS (l.take (0 + 1)) by rw [Nat.zero_add, join_first l hlt]; exact ba_ext (by rw [ba_app_list]; rfl))
        have HB := Box.mk HM.out.2
        have hse : s = ⟨#[]⟩ := HM.out.1
        subst hse
        clear HM h0
        generalize l[0] = f at *
        have HN2 := Box.mk (show ((⟨#[]⟩ : ByteArray) ++ f).size ≤ 140000000000000 by rw [HNEW.out]; exact HSZ.out)
        go_wp2_with fail
        go_roundw
        case rel => exact ⟨0 + 1, by omega, by go_num, _, rfl, HN2.out, ⟨HNEW.out, HB.out⟩⟩
        case measure => simp [intOf]; omega
    · have HE := Box.mk (show s = joinS l by have := HM.out.1; rw [List.take_of_length_le (by omega)] at this; exact this)
      go_wp2_with fail
      go_ret
      exact ⟨ret_str HE.out, HM.out.2⟩
end Go.Proofs.YtgmbfiikkogenaaGreatDoor
namespace Go.Proofs.YtgmbfiikkogenaaGreatDoor
open Go.RowKit

section
variable {P : Program} {Q : Exit → Act → World → Prop} {act : Act} {w : World} {o : Oper} {s : Spec}
theorem run_loadVar_rowG (w : World) (p : Addr) (ty : TypeId) (cs : Array Value) (d : TypeDesc) (hc : ∀ (j : Nat) (v : Value), cs[j]? = some v → w.cell? (p.add j) = some v)
    (hu : P.underlying ty = some d) (hd : (match d with | .struct _ | .array _ _ => true | _ => false) = true) (hi : (P.info? ty).map (·.size) = some cs.size) :
    (loadVar ty p).run P w = .ok (.agg cs) w := by
  have hl : (loadCells p cs.toList.length).run P w = .ok cs.toList.toArray w :=
    run_loadCells_list (P := P) w p cs.toList (fun j v hv => hc j v (by simpa using hv))
  cases hq : P.info? ty with
  | none => simp [hq] at hi
  | some i =>
    have hs : i.size = cs.size := by simpa [hq] using hi
    have hagg : (isAgg ty).run P w = .ok true w := by
      unfold isAgg
      rw [Sem.run_bind, run_underlying hu w]
      cases d <;> simp_all
    simp only [Array.length_toList, Array.toArray_toList] at hl
    simp [loadVar, Sem.run_bind, hagg, sizeOf, typeInfo, hq, hs, hl]
/-- A struct, loaded from where its cells are. -/
theorem loc_load_rowG {x : Operand} {ty : TypeId} (ho : o.op = .load ty x) {p : Addr} {cs : Array Value} {d : TypeDesc} (hx : act.eval x = .pointer (some p)) (hc : ∀ (j : Nat) (v : Value), cs[j]? = some v → w.cell? (p.add j) = some v)
    (hu : P.underlying ty = some d) (hd : (match d with | .struct _ | .array _ _ => true | _ => false) = true) (hi : (P.info? ty).map (·.size) = some cs.size) (hs : s.p (.agg cs) w) :
    o.wp P act w (fun a' w' => ∃ v, a' = act.put o.dst v ∧ Below w.heap.size w w' ∧ s.p v w') Q :=
  loc_load ho (v := .agg cs) (by rw [hx]; simp only [Instr.loadAt, Instr.sureAddr, Sem.run_bind, Sem.run_pure, Result.andThen_ok, run_loadVar_rowG w p ty cs d hc hu hd hi]) hs
/-- The address of an element. -/
theorem loc_index_G {x y : Operand} {ty : TypeId} (n : Nat) (ho : o.op = .indexAddr ty x y) {ad : Addr} {len c k : Nat} (hx : act.eval x = .slice (some ad) len c) (hy : act.eval y = .int .i64 k) (hk : k < len)
    (hsl : P.underlying ty = some (.slice (P.elem ty))) (es : (P.info? (P.elem ty)).map (·.size) = some n) (hs : s.p (.pointer (some (ad.add (k * n)))) w) :
    o.wp P act w (fun a' w' => ∃ v, a' = act.put o.dst v ∧ Below w.heap.size w w' ∧ s.p v w') Q :=
  loc_run (v := .pointer (some (ad.add (k * n)))) (by
    have es' : (sizeOf (P.elem ty)).run P w = .ok n w := by
      cases hq : P.info? (P.elem ty) with
      | none => rw [hq] at es; cases es
      | some i => rw [hq] at es; simp at es; simp [sizeOf, typeInfo, hq, es]
    have h := run_indexAt_slice (P := P) (w := w) ty ad len c .i64 (k : Int) hsl
    rw [if_pos ⟨by omega, by omega⟩, es'] at h
    simp only [Result.andThen_ok, Int.toNat_natCast] at h
    unfold execOp
    simp only [ho, hx, hy, Sem.run_bind, h, Result.andThen_ok, Sem.run_pure]) (Below.refl _ _) hs
/-- The address of a field. -/
theorem loc_field_G {x : Operand} {ty : TypeId} {i : Nat} (ho : o.op = .fieldAddr ty x i) {v u : Value} (hx : act.eval x = v) (h : (Instr.fieldAt ty v i).run P w = .ok u w) (hs : s.p u w) :
    o.wp P act w (fun a' w' => ∃ v, a' = act.put o.dst v ∧ Below w.heap.size w w' ∧ s.p v w') Q :=
  loc_run (v := u) (by unfold execOp; rw [ho]; simp only [hx, Sem.run_bind, h, Result.andThen_ok, Sem.run_pure]) (Below.refl _ _) hs
/-- One cell, loaded. -/
theorem loc_load_cellG {x : Operand} {ty : TypeId} (ho : o.op = .load ty x) {p : Addr} {v : Value} (hx : act.eval x = .pointer (some p)) (hc : w.cell? p = some v) (ht : ∀ w, (isAgg ty).run P w = .ok false w) (hs : s.p v w) :
    o.wp P act w (fun a' w' => ∃ v, a' = act.put o.dst v ∧ Below w.heap.size w w' ∧ s.p v w') Q :=
  loc_load ho (v := v) (by rw [hx]; simp [Instr.loadAt, Instr.sureAddr, loadVar, hc, ht]) hs
end
end Go.Proofs.YtgmbfiikkogenaaGreatDoor
namespace Go.Proofs.YtgmbfiikkogenaaGreatDoor
open Go.RowKit

/-- Slot k is written by an operation that need not wait for operation i. -/
def isDstI (ops : Array Oper) (i k : Nat) : Bool := (List.range ops.size).any fun j => ((ops[j]?).bind (·.dst) == some k) && (!decide (j = i) && !(match ops[j]? with | some o => waitsFor o i | none => false))
/-- The frame when operation i comes up. -/
structure FrW (ops : Array Oper) (i : Nat) (a0 a : Act) : Prop where
  defers : a.defers = a0.defers
  size : a.tmps.size = a0.tmps.size
  base : ∀ k, isDstI ops i k = false → a.eval (.tmp k) = a0.eval (.tmp k)
/-- The frame after the operations that m marks. -/
structure FrM (ops : Array Oper) (m : Array Bool) (a0 a : Act) : Prop where
  defers : a.defers = a0.defers
  size : a.tmps.size = a0.tmps.size
  base : ∀ k, (∀ j o, ops[j]? = some o → o.dst = some k → m.getD j false = false) → a.eval (.tmp k) = a0.eval (.tmp k)
theorem FrM.plain {ops : Array Oper} {m : Array Bool} {a0 a : Act} (h : FrM ops m a0 a) : Fr ops a0 a := ⟨h.defers, h.size, fun k hk => h.base k fun j o ho hd => by
  have : isDst ops k = true := by
    unfold isDst
    exact List.any_eq_true.2 ⟨o, Array.mem_toList_iff.2 (Array.mem_of_getElem? ho), by rw [hd]; simp⟩
  rw [hk] at this; cases this⟩
theorem FrM.at {ops : Array Oper} {m : Array Bool} {a0 a : Act} {i : Nat} (h : FrM ops m a0 a) (hmi : m.getD i false = false) (hcl : ∀ j o, ops[j]? = some o → m.getD j false = true → ∀ i, waitsFor o i = true → m.getD i false = true) : FrW ops i a0 a :=
  ⟨h.defers, h.size, fun k hk => h.base k fun j o ho hd => by
    by_cases hji : j = i
    · subst hji; exact hmi
    · by_cases hw : waitsFor o i = true
      · cases hm : m.getD j false with
        | false => rfl
        | true => rw [hcl j o ho hm i hw] at hmi; cases hmi
      · exfalso
        have : isDstI ops i k = true := by
          unfold isDstI
          exact List.any_eq_true.2 ⟨j, List.mem_range.2 (Array.getElem?_eq_some_iff.1 ho).1, by simp only [ho, Option.bind_some, hd]; simp [hji, hw]⟩
        rw [hk] at this; cases this⟩
theorem frM_put {ops : Array Oper} {m : Array Bool} {a0 a : Act} {o : Oper} {i : Nat} (ho : ops[i]? = some o) (him : i < m.size) (h : FrM ops m a0 a) (v : Value) : FrM ops (m.setIfInBounds i true) a0 (a.put o.dst v) := by
  refine ⟨?_, ?_, fun k hk => ?_⟩
  · have := h.defers
    cases o.dst <;> simpa [Act.put] using this
  · have := h.size
    cases o.dst <;> simpa [Act.put] using this
  · have hne : o.dst ≠ some k := fun e => by
      have := hk i o ho e
      simp [him] at this
    rw [eval_put_other hne, h.base k fun j oj hoj hd => by
      have h2 := hk j oj hoj hd
      by_cases hji : j = i
      · subst hji
        obtain rfl := Option.some.inj (ho.symm.trans hoj)
        exact absurd hd hne
      · rwa [getD_set_ne false (fun e => hji e.symm)] at h2]
def StepIW (P : Program) (Q : Exit → Act → World → Prop) (ops : Array Oper) (S : List Spec) (Inv : World → Prop) (a0 : Act) (i : Nat) (o : Oper) (s : Spec) : Prop :=
  ∀ a w, Inv w → FrW ops i a0 a → (∀ j, waitsFor o j = true → Holds ops S a w j) →
    Region.wanted o (yielded ops a.tmps) = true ∧ o.wp P a w (fun a' w' => ∃ v, a' = a.put o.dst v ∧ Below w.heap.size w w' ∧ s.p v w') Q
def SidesIW (P : Program) (Q : Exit → Act → World → Prop) (ops : Array Oper) (S : List Spec) (Inv : World → Prop) (a0 : Act) : List Nat → Prop
  | i :: r => (match ops[i]?, S[i]? with | some o, some s => StepIW P Q ops S Inv a0 i o s | _, _ => False) ∧ SidesIW P Q ops S Inv a0 r
  | [] => True
def ChainIW (P : Program) (Q : Exit → Act → World → Prop) (ops : Array Oper) (S S' : List Spec) (Inv Inv' : World → Prop) (a0 : Act) (c : Nat) : Prop :=
  match ops[c]?, S'[c]? with
  | some o, some s => ∀ a w, Inv w → FrW ops c a0 a → (∀ j, waitsFor o j = true → Holds ops S a w j) →
      Region.wanted o (yielded ops a.tmps) = true ∧ o.wp P a w (fun a' w' => ∃ v, a' = a.put o.dst v ∧ Inv' w' ∧ s.p v w' ∧ Over ops a w w' c 0 S S') Q
  | _, _ => False
section
variable {P : Program} {Q : Exit → Act → World → Prop} {ops : Array Oper} {a0 : Act} {w0 : World}
theorem sidesIW_at {S : List Spec} {Inv : World → Prop} : ∀ {l : List Nat}, SidesIW P Q ops S Inv a0 l → ∀ i, i ∈ l → ∀ o, ops[i]? = some o → ∃ s, S[i]? = some s ∧ StepIW P Q ops S Inv a0 i o s
  | k :: r, h, i, hi, o, ho => by
    rcases List.mem_cons.1 hi with rfl | hi
    · have := h.1
      rw [ho] at this
      cases hs : S[i]? with
      | none => rw [hs] at this; exact this.elim
      | some s => rw [hs] at this; exact ⟨s, rfl, this⟩
    · exact sidesIW_at h.2 i hi o ho
theorem wp_region_phasesW {id : Nat} (chain : List Nat) (sides : Nat → List Nat) (S : Nat → List Spec) (Inv : Nat → World → Prop) (hm : P.follows .mixedOrders = true)
    (hB : (List.range ops.size).all (fun i => match ops[i]? with | some x => x.after.all (fun e => !Region.binds .any e || decide (e.on < i)) | none => true) = true)
    (hd : dstsOk ops a0.tmps.size = true) (hc : chainB ops chain = true) (hlt : chain.all (fun c => decide (c < ops.size)) = true) (hsB : (List.range (chain.length + 1)).all (fun p => sidesB ops chain chain.length (sides p) p) = true)
    (hI : ∀ p w w', Inv p w → Below w.heap.size w w' → Inv p w') (h0 : Inv 0 w0) (hS : ∀ p, p ≤ chain.length → SidesIW P Q ops (S p) (Inv p) a0 (sides p))
    (hC : ∀ p (hp : p < chain.length), ChainIW P Q ops (S p) (S (p + 1)) (Inv p) (Inv (p + 1)) a0 chain[p])
    (hQ : ∀ a w, Inv chain.length w → Fr ops a0 a → (∀ j, j < ops.size → Holds ops (S chain.length) a w j) → Q .normal a w) : (Code.region id ops true).wp P Q a0 w0 := by
  have hchain : ∀ p q (hp : p < chain.length) (hq : q < chain.length), p < q → beforeB ops ops.size chain[q] chain[p] = true ∧ chain[p] ≠ chain[q] := fun p q hp hq hpq => by
    have h1 := List.all_eq_true.1 (List.all_eq_true.1 hc p (List.mem_range.2 hp)) q (List.mem_range.2 hq)
    simp only [List.getElem?_eq_getElem hp, List.getElem?_eq_getElem hq, Bool.or_eq_true, Bool.and_eq_true, decide_eq_true_eq] at h1
    rcases h1 with h1 | h1
    · omega
    · exact ⟨h1.1.1.1, h1.1.1.2⟩
  refine wp_region_inv hm (fun m a w => FrM ops m a0 a ∧ (∀ j o, ops[j]? = some o → m.getD j false = true → ∀ i, waitsFor o i = true → m.getD i false = true) ∧
    ∃ p, p ≤ chain.length ∧ (∀ q (hq : q < chain.length), m.getD chain[q] false = decide (q < p)) ∧ Inv p w ∧ ∀ j, m.getD j false = true → Holds ops (S p) a w j) ?_ ?_ ?_
  · rintro m a w hs ⟨hf, hcl, p, hp, hph, hinv, hh⟩ i hi
    obtain ⟨h1, o, ho, hall⟩ := mem_ready.1 hi
    have hil : i < ops.size := (Array.getElem?_eq_some_iff.1 ho).1
    have him : i < m.size := by rw [hs]; exact hil
    have hmi : m.getD i false = false := by simp [him] at h1 ⊢; exact h1
    have hdeps : ∀ j, waitsFor o j = true → m.getD j false = true := fun j hj => by
      obtain ⟨e, he, h2⟩ := List.any_eq_true.1 hj
      simp only [Bool.and_eq_true, beq_iff_eq] at h2
      obtain ⟨h3, rfl⟩ := h2
      exact hall e (Array.mem_toList_iff.1 he) h3
    have hcl' : ∀ j o, ops[j]? = some o → (m.setIfInBounds i true).getD j false = true → ∀ k, waitsFor o k = true → (m.setIfInBounds i true).getD k false = true := fun j oj hoj hj k hk => by
      by_cases hji : j = i
      · subst hji
        obtain rfl : o = oj := Option.some.inj (ho.symm.trans hoj)
        exact getD_set_true (hdeps k hk)
      · rw [getD_set_ne false (fun e => hji e.symm)] at hj
        exact getD_set_true (hcl j oj hoj hj k hk)
    unfold wpOp
    simp only [ho]
    by_cases hic : i ∈ chain
    · obtain ⟨q, hq, rfl⟩ := List.getElem_of_mem hic
      have hqp : p ≤ q := by
        have := hph q hq
        rw [hmi] at this
        have := of_decide_eq_false this.symm
        omega
      have hqe : q = p := by
        rcases Nat.lt_or_ge p q with h2 | h2
        · exfalso
          have h3 := before_ready hcl ho hdeps (hchain p q (by omega) hq h2).1
          rw [hph p (by omega)] at h3
          simp at h3
        · omega
      subst hqe
      have hCp := hC q hq
      unfold ChainIW at hCp
      rw [ho] at hCp
      cases hsc : (S (q + 1))[chain[q]]? with
      | none => rw [hsc] at hCp; exact hCp.elim
      | some s =>
        rw [hsc] at hCp
        simp only at hCp
        obtain ⟨hw, hwp⟩ := hCp a w hinv (hf.at hmi hcl) fun j hj => hh j (hdeps j hj)
        rw [if_pos hw]
        refine .inl (Oper.wp_mono ?_ hwp)
        rintro a' w' ⟨v, rfl, hinv', hsp, hov⟩
        refine ⟨frM_put ho him hf v, hcl', q + 1, hq, fun r hr => ?_, hinv', fun j hj => ?_⟩
        · by_cases hrq : r = q
          · subst hrq
            simp [him]
          · have hne : chain[q] ≠ chain[r] := by
              rcases Nat.lt_or_ge q r with h2 | h2
              · exact (hchain q r hq hr h2).2
              · exact fun e => (hchain r q hr hq (by omega)).2 e.symm
            rw [getD_set_ne false hne, hph r hr]
            by_cases hrl : r < q
            · simp [hrl, show r < q + 1 by omega]
            · simp [hrl, show ¬ r < q + 1 by omega]
        · by_cases hji : j = chain[q]
          · subst hji
            unfold Holds
            simp only [ho, hsc]
            cases hdo : o.dst with
            | none => trivial
            | some d =>
              show s.p ((a.put (some d) v).eval (.tmp d)) w'
              rw [eval_put_same]
              · exact hsp
              · rw [hf.size]; exact (dsts_lt hd ho hdo).1
          · have hj' : m.getD j false = true := by rw [getD_set_ne false (fun e => hji e.symm)] at hj; exact hj
            have h5 := holds_put (a := a) (v := v) hd ho hji (hh j hj')
            unfold Holds at *
            cases hoj : ops[j]? with
            | none => simp
            | some o' =>
              cases hsj : (S (q + 1))[j]? with
              | none => simp
              | some s' =>
                obtain ⟨s0, hs0, himp⟩ := over_at hov j s' hsj (by omega)
                simp only [hoj, hs0] at h5
                simp only
                cases hdo : o'.dst with
                | none => trivial
                | some d =>
                  simp only [hdo] at h5
                  refine himp _ (fun o2 d2 ho2 hd2 => ?_) h5
                  rw [Nat.zero_add, hoj] at ho2
                  obtain rfl := Option.some.inj ho2
                  rw [hdo] at hd2
                  obtain rfl := Option.some.inj hd2
                  exact eval_put_other fun e => (dsts_lt hd ho e).2 j o' hoj hji hdo
    · have hside : i ∈ sides p := by
        have := List.all_eq_true.1 (List.all_eq_true.1 hsB p (List.mem_range.2 (by omega))) i (List.mem_range.2 hil)
        simp only [Bool.or_eq_true, List.contains_iff_mem, List.any_eq_true] at this
        rcases this with (h2 | h2) | ⟨q, hq, h2⟩
        · exact absurd h2 hic
        · exact h2
        · exfalso
          have hql := List.mem_range.1 hq
          rw [List.getElem?_eq_getElem hql] at h2
          simp only at h2
          by_cases hqp : q < p
          · rw [if_pos hqp] at h2
            have h3 := before_marked hcl _ _ _ h2 (by rw [hph q hql]; simp [hqp])
            rw [hmi] at h3; cases h3
          · rw [if_neg hqp] at h2
            have h3 := before_ready hcl ho hdeps h2
            rw [hph q hql] at h3
            simp [hqp] at h3
      obtain ⟨s, hsi, hstep⟩ := sidesIW_at (hS p hp) i hside o ho
      obtain ⟨hw, hwp⟩ := hstep a w hinv (hf.at hmi hcl) fun j hj => hh j (hdeps j hj)
      rw [if_pos hw]
      refine .inl (Oper.wp_mono ?_ hwp)
      rintro a' w' ⟨v, rfl, hb', hsp⟩
      refine ⟨frM_put ho him hf v, hcl', p, hp, fun r hr => ?_, hI p w w' hinv hb', fun j hj => ?_⟩
      · rw [getD_set_ne false (fun e => hic (by rw [e]; exact List.getElem_mem hr)), hph r hr]
      · by_cases hji : j = i
        · subst hji
          unfold Holds
          simp only [ho, hsi]
          cases hdo : o.dst with
          | none => trivial
          | some d =>
            show s.p ((a.put (some d) v).eval (.tmp d)) w'
            rw [eval_put_same]
            · exact hsp
            · rw [hf.size]; exact (dsts_lt hd ho hdo).1
        · have hj' : m.getD j false = true := by rw [getD_set_ne false (fun e => hji e.symm)] at hj; exact hj
          exact holds_put hd ho hji (holds_mono (hh j hj') hb')
  · rintro m a w hs ⟨hf, hcl, p, hp, hph, hinv, hh⟩ hr
    have hmarked : ∀ j, j < ops.size → m.getD j false = true := fun j => by
      induction j using Nat.strongRecOn with
      | _ j ih =>
        intro hj
        cases hmj : m.getD j false with
        | true => rfl
        | false =>
          exfalso
          have hoj : ops[j]? = some ops[j] := Array.getElem?_eq_getElem hj
          have hbk := List.all_eq_true.1 hB j (List.mem_range.2 hj)
          rw [hoj] at hbk
          simp only [Array.all_eq_true_iff_forall_mem, Bool.or_eq_true, Bool.not_eq_true', decide_eq_true_eq] at hbk
          have hlt : ∀ e ∈ ops[j].after, Region.binds .any e = true → e.on < j := fun e he hbd => by
            rcases hbk e he with h | h
            · rw [hbd] at h; cases h
            · exact h
          have : j ∈ Region.ready .any ops m := mem_ready.2 ⟨by
            have hs' : j < m.size := by rw [hs]; exact hj
            simp [hs'] at hmj ⊢; exact hmj, ops[j], hoj, fun e he hbd => ih _ (hlt e he hbd) (by have := hlt e he hbd; omega)⟩
          rw [hr] at this; cases this
    have hpe : p = chain.length := by
      rcases Nat.lt_or_ge p chain.length with h2 | h2
      · exfalso
        have h3 := hph p h2
        have h4 := hmarked chain[p] (of_decide_eq_true (List.all_eq_true.1 hlt _ (List.getElem_mem h2)))
        rw [h4] at h3
        simp at h3
      · omega
    subst hpe
    exact hQ a w hinv hf.plain fun j hj => hh j (hmarked j hj)
  · have hz : ∀ j, (Array.replicate ops.size false).getD j false = false := fun j => by
      simp only [Array.getD_eq_getD_getElem?, Array.getElem?_replicate]; split <;> rfl
    refine ⟨⟨rfl, rfl, fun _ _ => rfl⟩, fun j o _ hj => (by rw [hz] at hj; cases hj), 0, Nat.zero_le _, fun q _ => by rw [hz]; rfl, hI 0 w0 _ h0 (Below.refl _ _).drew, fun j hj => (by rw [hz] at hj; cases hj)⟩

end
end Go.Proofs.YtgmbfiikkogenaaGreatDoor
namespace Go.Proofs.YtgmbfiikkogenaaGreatDoor
open Go.RowKit
set_option linter.unusedSimpArgs false
set_option linter.unusedVariables false

/-- The call returns a slice that reads as the fields l. -/
def RetFldC (w : World) (l : List Fld) (e : Ending) (w' : World) : Prop := ∃ a c, e = .returned (.slice a l.length c) ∧ FldsC w' a l c ∧ l.length ≤ c ∧ Below w.heap.size w w'
def Spec.fslN (f : Fld) : Spec := ⟨fun v w => ∃ b c, v = .slice (some ⟨b, 0, none⟩) 1 c ∧ w.cell? ⟨b, 0, none⟩ = some (.string f.1) ∧ w.cell? ⟨b, 1, none⟩ = some (.string f.2), fun _ _ _ h hb => by
  obtain ⟨b, c, h1, h2, h3⟩ := h
  exact ⟨b, c, h1, below_cell hb h2, below_cell hb h3⟩⟩
def Spec.ownFN (B : Nat) (l : List Fld) : Spec := ⟨fun v w => OwnF B w v l, fun _ _ _ h hb => h.keep hb⟩
section
variable {Q : Exit → Act → World → Prop} {act : Act} {w : World} {o : Oper} {s : Spec} {K : Act → World → Prop}
theorem loc_slice1N {x : Operand} (ho : o.op = .buildSlice 23 1 #[(0, x)]) {f : Fld} (hx : act.eval x = .agg #[.string f.1, .string f.2]) (hs : ∀ v w', (∃ b c, v = .slice (some ⟨b, 0, none⟩) 1 c ∧ w'.cell? ⟨b, 0, none⟩ = some (.string f.1) ∧ w'.cell? ⟨b, 1, none⟩ = some (.string f.2)) → s.p v w') :
    o.wp Tryz.prog act w (fun a' w' => ∃ v, a' = act.put o.dst v ∧ Below w.heap.size w w' ∧ s.p v w') Q := by
  obtain ⟨i0, hi, hz0, hz1, hz2⟩ := info_parts Tryz.info46
  have hrun := run_buildSlice (P := Tryz.prog) w 23 46 1 #[(0, .agg #[.string f.1, .string f.2])] #[.string f.1, .string f.2] i0 _ Tryz.underlying23 hi hz0 (by rw [hz1]; decide) (by rw [hz1]; decide) (by rw [hz1]; simp [Instr.fill, Value.cells, Array.range_succ, show Array.range 0 = #[] from rfl])
  refine loc_run (v := .slice (some ⟨w.heap.size, 0, none⟩) 1 1) (w' := w.alloc (.cells #[.string f.1, .string f.2] 46)) ?_ (below_oneF _ _) (hs _ _ ⟨_, _, rfl, by rw [new_cellF]; rfl, by rw [new_cellF]; rfl⟩)
  unfold execOp
  simp only [ho, List.map_toArray, List.map_cons, List.map_nil, hx]
  rw [Sem.run_bind, hrun]; rfl
theorem loc_buildN {x y : Operand} (ho : o.op = .build 46 #[(0, x), (1, y)]) {b c : ByteArray} (hx : act.eval x = .string b) (hy : act.eval y = .string c) (hs : s.p (.agg #[.string b, .string c]) w) :
    o.wp Tryz.prog act w (fun a' w' => ∃ v, a' = act.put o.dst v ∧ Below w.heap.size w w' ∧ s.p v w') Q := by
  refine loc_run (v := .agg #[.string b, .string c]) ?_ (Below.refl _ _) hs
  have hb := run_build (P := Tryz.prog) w 46 #[(0, .string b), (1, .string c)] #[.string b, .string c] (by kernel_rfl)
  unfold execOp
  simp only [ho, List.map_toArray, List.map_cons, List.map_nil, hx, hy, Sem.run_bind, hb, Result.andThen_ok, Sem.run_pure]
theorem wp_append_oneN {x y : Operand} (ho : o.op = .call { callee := .builtin .append, args := #[x, y], argTypes := #[23, 23] }) {B : Nat} {l : List Fld} (hx : OwnF B w (act.eval x) l) {b c : Nat} {f : Fld} (hy : act.eval y = .slice (some ⟨b, 0, none⟩) 1 c)
    (h0 : w.cell? ⟨b, 0, none⟩ = some (.string f.1)) (h1 : w.cell? ⟨b, 1, none⟩ = some (.string f.2)) (hn : l.length + 1 ≤ 4398046511104) (hB : B ≤ w.heap.size)
    (h : ∀ v' w', OwnF B w' v' (l ++ [f]) → w.grownBy w' (act.eval x).ownBlock → K (act.put o.dst v') w') : o.wp Tryz.prog act w K Q := by
  obtain ⟨i0, hi, hz0, hz1, hz2⟩ := info_parts Tryz.info46
  refine wp_append_lies w x y 23 ho B 46 i0 _ 2 32 Tryz.underlying23 hi hz0 hz1 hz2 rfl (by decide) (act.eval x) l.length (cellsF l) rfl hx ⟨b, 0, none⟩ 1 c [.string f.1, .string f.2] hy rfl ?_ ?_ (by decide) (by unfold maxLen; omega) (by omega) hB w.heap.size rfl ?_
  · intro j u hj
    match j, hj with
    | 0, hj => simp at hj; subst hj; rw [Addr.add_lit]; exact h0
    | 1, hj => simp at hj; subst hj; rw [Addr.add_lit]; exact h1
    | j + 2, hj => simp at hj
  · intro u hu; simp at hu; rcases hu with rfl | rfl <;> rfl
  · intro g cap w' hown hgrow hg hlt
    refine h _ w' ?_ hgrow
    unfold OwnF
    rw [List.length_append, cellsF_app]; exact hown
theorem agg_strN (w : World) : (isAgg 9).run Tryz.prog w = .ok false w := by
  simp [isAgg, run_underlying Tryz.underlying9]
theorem strsIn_viaDate (w : World) (t : TypeId) : StrsIn (w.alloc (.cells #[.string ⟨#[118, 105, 97]⟩, .string ⟨#[100, 97, 116, 101]⟩] t)) (some ⟨w.heap.size, 0, none⟩) viaDate := fun j hj => by
  match j, hj with
  | 0, _ => exact ⟨_, rfl, by rw [Addr.add_lit, new_cellF]; rfl⟩
  | 1, _ => exact ⟨_, rfl, by rw [Addr.add_lit, new_cellF]; rfl⟩
  | j + 2, hj => exact absurd hj (by unfold viaDate; simp)
end
theorem total_without (l : List Fld) (ns : List ByteArray) (n : ByteArray) : total (valuesL (withoutL l ns) n) ≤ total (valuesL l n) := by
  cases h : inFoldL ns n
  · rw [valuesL_kept l ns n h]; exact Nat.le_refl _
  · rw [valuesL_gone l ns n h]; exact Nat.zero_le _
theorem total_kept (l : List Fld) (ig : List ByteArray) (n : ByteArray) : total (valuesL (keptN l ig) n) ≤ total (valuesL l n) :=
  Nat.le_trans (total_without _ _ _) (Nat.le_trans (total_without _ _ _) (total_without _ _ _))
theorem outN_len (k : List Fld) : (outN k).length ≤ k.length := by
  unfold outN
  rw [List.length_map]
  have := namesS_len (k.map fun f => lowS f.1)
  rwa [List.length_map] at this
theorem refValues_eqN {l : List Fld} {n : ByteArray} {r : List ByteArray} {a : Option Addr} {cap : Nat} {v u : Value} (w : World) (hv : v = .slice a l.length cap) (hu : u = .string n) (h : FldsIn w a l) (hz : ShortF l) (hn : n.size ≤ maxLen) (hl : l.length ≤ 1000000) (hr : valuesL l n = r) :
    Calls Tryz.prog 47 #[v, u] w fun e w' => ∃ v', e = .returned v' ∧ Below w.heap.size w w' ∧ ∃ a c, v' = .slice a r.length c ∧ StrsAt w' a r := by
  subst hv hu hr
  refine (refValues_any l n a cap w h hz hn hl).mono ?_
  rintro e w' ⟨b, c, rfl, h1, h2⟩
  exact ⟨_, rfl, h2, b, c, rfl, h1⟩
theorem refJoin_eqN {l : List ByteArray} {r : ByteArray} {a : Option Addr} {cap : Nat} {v u : Value} (w : World) (hv : v = .slice a l.length cap) (hu : u = .string sepP) (h : StrsAt w a l) (ht : total l ≤ 70000000000000) (hr : joinS l = r) :
    Calls Tryz.prog 46 #[v, u] w fun e w' => ∃ v', e = .returned v' ∧ Below w.heap.size w w' ∧ v' = .string r := by
  subst hv hu hr
  refine (refJoin_any l a cap w h ht).mono ?_
  rintro e w' ⟨rfl, h2⟩
  exact ⟨_, rfl, h2, rfl⟩
def Spec.strsAtN (l : List ByteArray) : Spec := ⟨fun v w => ∃ a c, v = .slice a l.length c ∧ StrsAt w a l, fun _ _ _ h hb => by
  obtain ⟨a, c, h1, h2⟩ := h
  exact ⟨a, c, h1, h2.keep hb⟩⟩

set_option maxRecDepth 100000 in
set_option maxHeartbeats 8000000 in
theorem refFields_any (l : List Fld) (ig : List ByteArray) (a b : Option Addr) (cap cb : Nat) (w : World) (h : FldsIn w a l) (hz : ShortF l) (hl : l.length ≤ 1000000) (ht : total (valuesL l cnN) ≤ 3000000000) (htv : ∀ n, total (valuesL l n) ≤ 70000000000000)
    (hi : StrsIn w b ig) (hiz : ∀ x ∈ ig, x.size ≤ maxLen) (hil : ig.length ≤ 4000000000) :
    Calls Tryz.prog 25 #[.slice a l.length cap, .slice b ig.length cb] w (RetFldC w (fieldsN l ig)) := by
  have HI := Box.mk (And.intro h (And.intro hz (And.intro hi hiz)))
  have HT := Box.mk (And.intro ht htv)
  clear h hz hi hiz ht htv
  obtain ⟨r, hr⟩ : ∃ r, fieldsN l ig = r := ⟨_, rfl⟩
  have HR := Box.mk hr
  rw [hr]
  clear hr
  go_enter Tryz.func25, Tryz.ntmps25
  go_wp2_with fail
  refine (refStrip_any l a cap w HI.out.1 HI.out.2.1 hl HT.out.1).mono ?_
  rintro e w1 ⟨v, rfl, hacc⟩
  obtain ⟨sa, sc, rfl, hsf⟩ := hacc.shapeC
  have HB1 := Box.mk hacc.2
  obtain ⟨W1, hW1⟩ : ∃ W1, W1 = w1.alloc (.cells #[.string ⟨#[118, 105, 97]⟩, .string ⟨#[100, 97, 116, 101]⟩] 9) := ⟨_, rfl⟩
  have HV1 := Box.mk (show StrsIn W1 (some ⟨w1.heap.size, 0, none⟩) viaDate by rw [hW1]; exact strsIn_viaDate w1 _)
  have HBW := Box.mk (show Below w1.heap.size w1 W1 by rw [hW1]; exact below_oneF w1 _)
  have HS1 := Box.mk (hsf.1.keep HBW.out)
  have HBB := Box.mk (below_trans HB1.out HBW.out)
  clear hacc hsf HB1
  have hl1 : (stripL l).length ≤ 1000000 := Nat.le_trans (stripL_len l) hl
  obtain ⟨m1, hm1⟩ : ∃ x, stripL l = x := ⟨_, rfl⟩
  have HM1 := Box.mk hm1
  have HZ1 := Box.mk (show ShortF m1 by rw [← hm1]; exact stripL_short HI.out.2.1)
  rw [hm1] at HS1 hl1 ⊢
  clear hm1
  go_wp2_with fail
  change Calls _ _ #[.slice sa m1.length sc, .slice (some ⟨w1.heap.size, 0, none⟩) viaDate.length 2] (w1.alloc (.cells #[.string ⟨#[118, 105, 97]⟩, .string ⟨#[100, 97, 116, 101]⟩] 9)) _
  rw [← hW1]
  clear hW1
  refine (refWithout_acc m1 viaDate sa (some ⟨w1.heap.size, 0, none⟩) sc 2 W1 HS1.out HZ1.out HV1.out (by unfold viaDate maxLen; decide) hl1 (by decide)).mono ?_
  rintro e w2 ⟨v, rfl, hacc⟩
  obtain ⟨ta, tc, rfl, htf⟩ := hacc.shapeC
  have HB2 := Box.mk (below_trans HBB.out hacc.2)
  have hl2 : (withoutL m1 viaDate).length ≤ 1000000 := Nat.le_trans (withoutL_len _ _) hl1
  obtain ⟨m2, hm2⟩ : ∃ x, withoutL m1 viaDate = x := ⟨_, rfl⟩
  have HM2 := Box.mk hm2
  have HZ2 := Box.mk (show ShortF m2 by rw [← hm2]; exact withoutL_short HZ1.out _)
  rw [hm2] at htf hl2 ⊢
  have HS2 := Box.mk htf.1
  clear hm2 hacc htf HBB HBW HV1 HS1
  go_wp2_with fail
  refine (refWithout_acc m2 ig ta b tc cb w2 HS2.out HZ2.out (HI.out.2.2.1.keep HB2.out) HI.out.2.2.2 hl2 hil).mono ?_
  rintro e w3 ⟨v, rfl, hacc⟩
  obtain ⟨ka, kc, rfl, hkf⟩ := hacc.shapeC
  have HB3 := Box.mk (below_trans HB2.out hacc.2)
  have hl3 : (withoutL m2 ig).length ≤ 1000000 := Nat.le_trans (withoutL_len _ _) hl2
  obtain ⟨kp, hkp⟩ : ∃ x, withoutL m2 ig = x := ⟨_, rfl⟩
  have HKP := Box.mk (show keptN l ig = kp by unfold keptN; rw [HM1.out, HM2.out, hkp])
  have HZ3 := Box.mk (show ShortF kp by rw [← hkp]; exact withoutL_short HZ2.out _)
  rw [hkp] at hkf hl3 ⊢
  have HS3 := Box.mk hkf.1
  have HTK := Box.mk (show ∀ n, total (valuesL kp n) ≤ 70000000000000 from fun n => by rw [← HKP.out]; exact Nat.le_trans (total_kept l ig n) (HT.out.2 n))
  have HRK := Box.mk (show outN kp = r by rw [← HR.out, ← HKP.out]; rfl)
  clear hkp hacc hkf HM1 HM2 HZ1 HZ2 HS2 HB2 HT HI HR HKP hl1 hl2
  go_wp2_with fail
  go_loopw [6, 7] (fun ov iv wr => ∃ (k : Nat) (g : List ByteArray) (ga : Option Addr) (gc : Nat), k ≤ kp.length ∧ ov = .slice ga g.length gc ∧ iv = .int .i64 k ∧ g.length ≤ k ∧ Box (g = namesS ((kp.map fun f => lowS f.1).take k)) ∧ Box (StrsC wr ga g gc) ∧ Box (Below w3.heap.size w3 wr)) (fun _ iv _ => kp.length - (intOf iv).toNat)
  case atStart => exact ⟨0, [], none, 0, Nat.zero_le _, rfl, rfl, Nat.le_refl _, ⟨rfl⟩, ⟨StrsIn.nil _ _, Nat.le_refl _, fun _ => rfl⟩, ⟨Below.refl _ _⟩⟩
  case round =>
    obtain ⟨k, g, ga, gc, hk, rfl, rfl, hgl, HG, HS, HB⟩ := hrel
    by_cases hlt : k < kp.length
    · obtain ⟨x, rfl, hc1, hc2⟩ := (HS3.out.keep HB.out) k hlt
      have HN := Box.mk (namesS_snoc (kp.map fun f => lowS f.1) k (by simpa using hlt))
      have HE := Box.mk (show (kp.map fun f => lowS f.1)[k]'(by simpa using hlt) = lowS kp[k].1 by simp)
      have HSZ := Box.mk (HZ3.out kp[k] (List.getElem_mem _)).1
      obtain ⟨r1, hr1⟩ : ∃ r, insS (lowS kp[k].1) g = r := ⟨_, rfl⟩
      have HR1 := Box.mk hr1
      have HLN := Box.mk (show r1.length ≤ k + 1 by rw [← hr1]; have := insS_len (lowS kp[k].1) g; omega)
      have HNX := Box.mk (show r1 = namesS ((kp.map fun f => lowS f.1).take (k + 1)) by rw [HN.out, HE.out, ← HG.out, hr1])
      clear hr1 HN HE HG hc2
      generalize kp[k].1 = nm at *
      go_wp2_with fail
      refine (refLower_any nm wr HSZ.out).mono ?_
      rintro e w4 ⟨rfl, hb⟩
      have HS4 := Box.mk (HS.out.keep hb)
      have HB4 := Box.mk (below_trans HB.out hb)
      clear hb HS HB HSZ hc1
      generalize lowS nm = lnm at *
      go_wp2_with fail
      refine (refWithS_eq (l := g) (s := lnm) w4 HS4.out (by omega) HR1.out).mono ?_
      rintro e w5 ⟨ra, rc, rfl, hrs, hb⟩
      have HS5 := Box.mk hrs
      have HB5 := Box.mk (below_trans HB4.out hb)
      clear hrs hb HS4 HB4
      go_wp2_with fail
      go_roundw
      case rel => exact ⟨k + 1, r1, ra, rc, by omega, rfl, by go_num, HLN.out, HNX, HS5, HB5⟩
      case measure => simp [intOf]; omega
    · have HGN := Box.mk (show namesS (kp.map fun f => lowS f.1) = g by rw [HG.out, List.take_of_length_le (by simp; omega)])
      have hg1 : g.length ≤ 1000000 := by omega
      have HGS := Box.mk (show ∀ x ∈ g, x.size ≤ maxLen from fun x hx => by
        rw [← HGN.out, namesS_mem, List.mem_map] at hx
        obtain ⟨f, hf, rfl⟩ := hx
        rw [lowS_size]
        exact (HZ3.out f hf).1)
      have HRG := Box.mk (show g.map (fun n => (n, joinS (valuesL kp n))) = r by rw [← HRK.out]; unfold outN; rw [HGN.out])
      have HSW := Box.mk (HS3.out.keep HB.out)
      have HBW := Box.mk (below_trans HB3.out HB.out)
      clear HG HGN HS3 HB3 HB HRK hgl
      go_wp2_with fail
      obtain ⟨wo, hwo⟩ : ∃ x, x = wr := ⟨_, rfl⟩
      subst hwo
      go_loopw [8, 9] (fun ov iv WS => ∃ (j : Nat) (v : Value), j ≤ g.length ∧ v = ov ∧ iv = .int .i64 j ∧ Box (OwnF wo.heap.size WS v (r.take j)) ∧ Box (Below wo.heap.size wo WS)) (fun _ iv _ => g.length - (intOf iv).toNat)
      case atStart => exact ⟨0, _, Nat.zero_le _, rfl, rfl, ⟨OwnF.start _ _⟩, ⟨Below.refl _ _⟩⟩
      case round =>
        clear hk hlt
        obtain ⟨j, ov, hj, rfl, rfl, HO, HBJ⟩ := hrel
        by_cases hlt : j < g.length
        · obtain ⟨x, rfl, hcx⟩ := HS.out.1 j hlt
          have HCX := Box.mk hcx
          have HNS := Box.mk (HGS.out g[j] (List.getElem_mem _))
          obtain ⟨vs, hvs⟩ : ∃ y, valuesL kp g[j] = y := ⟨_, rfl⟩
          obtain ⟨jn, hjn⟩ : ∃ y, joinS vs = y := ⟨_, rfl⟩
          have HVS := Box.mk hvs
          have HJN := Box.mk hjn
          have HTV := Box.mk (show total vs ≤ 70000000000000 by rw [← hvs]; exact HTK.out _)
          have HRX := Box.mk (show r.take j ++ [(g[j], jn)] = r.take (j + 1) by
            have hjr : j < r.length := by rw [← HRG.out, List.length_map]; exact hlt
            rw [List.take_succ_eq_append_getElem hjr]
            congr 2
            have : r[j] = (g[j], joinS (valuesL kp g[j])) := by
              have h1 : r[j]? = some (g[j], joinS (valuesL kp g[j])) := by rw [← HRG.out, List.getElem?_map, List.getElem?_eq_getElem hlt]; rfl
              rw [List.getElem?_eq_getElem hjr] at h1
              exact Option.some.inj h1
            rw [this, hvs, hjn])
          have hrl : (r.take j).length ≤ j := by rw [List.length_take]; omega
          clear hvs hjn hcx
          generalize g[j] = nm at *
          go_upto_region 11 with fail
          rename_i K hK
          refine wp_region_phasesW [14] (fun ph => match ph with | 0 => [0, 1, 2, 3, 4, 5, 6, 7, 8, 9, 10, 11, 12, 13] | _ => [15])
            (fun ph => match ph with
              | 0 => [.ownFN wo.heap.size (r.take j), .val (.slice (some x) g.length gc), .val (.int .i64 j), .val (.pointer (some (x.add (j * 1)))), .val (.string nm), .val (.slice ka kp.length kc), .val (.slice (some x) g.length gc), .val (.int .i64 j), .val (.pointer (some (x.add (j * 1)))), .val (.string nm), .strsAtN vs, .val (.string jn), .val (.agg #[.string nm, .string jn]), .fslN (nm, jn), .any, .nopeS]
              | _ => [.any, .any, .any, .any, .any, .any, .any, .any, .any, .any, .any, .any, .any, .any, .ownFN wo.heap.size (r.take (j + 1)), .ownFN wo.heap.size (r.take (j + 1))])
            (fun ph => match ph with | 0 => fun wx => Below wo.heap.size wo wx ∧ OwnF wo.heap.size wx ov (r.take j) | _ => fun wx => Below wo.heap.size wo wx)
            (by kernel_rfl) (by kernel_rfl) (by kernel_rfl) (by kernel_rfl) (by kernel_rfl) (by kernel_rfl) ?_ ⟨HBJ.out, HO.out⟩ ?_ ?_ ?_
          · intro ph w6 w7 h hb
            match ph, h with
            | 0, h => exact ⟨below_trans h.1 hb, h.2.keep hb⟩
            | (_ + 1), h => exact below_trans h hb
          · intro ph hp
            match ph, hp with
            | 0, _ =>
              refine ⟨?_, ?_, ?_, ?_, ?_, ?_, ?_, ?_, ?_, ?_, ?_, ?_, ?_, ?_, trivial⟩ <;> intro a1 w6 hv hf hd
              · exact ⟨wanted_none rfl, loc_move rfl (by show OwnF wo.heap.size w6 (a1.eval (.tmp 8)) (r.take j); rw [show a1.eval (.tmp 8) = ov from hf.base 8 rfl]; exact hv.2)⟩
              · exact ⟨wanted_none rfl, loc_move rfl (hf.base 6 rfl)⟩
              · exact ⟨wanted_none rfl, loc_move rfl (hf.base 9 rfl)⟩
              · exact ⟨wanted_none rfl, loc_index_G 1 rfl (hd 1 rfl) (hd 2 rfl) hlt (by kernel_rfl) (by kernel_rfl) rfl⟩
              · exact ⟨wanted_none rfl, loc_load_cellG rfl (hd 3 rfl) (by rw [Nat.mul_one]; exact below_cell hv.1 HCX.out) agg_strN rfl⟩
              · exact ⟨wanted_none rfl, loc_move rfl (hf.base 5 rfl)⟩
              · exact ⟨wanted_none rfl, loc_move rfl (hf.base 6 rfl)⟩
              · exact ⟨wanted_none rfl, loc_move rfl (hf.base 9 rfl)⟩
              · exact ⟨wanted_none rfl, loc_index_G 1 rfl (hd 6 rfl) (hd 7 rfl) hlt (by kernel_rfl) (by kernel_rfl) rfl⟩
              · exact ⟨wanted_none rfl, loc_load_cellG rfl (hd 8 rfl) (by rw [Nat.mul_one]; exact below_cell hv.1 HCX.out) agg_strN rfl⟩
              · exact ⟨wanted_none rfl, loc_call rfl (by kernel_rfl) (refValues_eqN w6 (hd 5 rfl) (hd 9 rfl) (HSW.out.keep hv.1) HZ3.out HNS.out hl3 HVS.out)⟩
              · obtain ⟨va, vc, e1, e2⟩ := hd 10 rfl
                exact ⟨wanted_none rfl, loc_call rfl (by kernel_rfl) (refJoin_eqN w6 e1 rfl e2 HTV.out HJN.out)⟩
              · exact ⟨wanted_none rfl, loc_buildN rfl (hd 4 rfl) (hd 11 rfl) rfl⟩
              · exact ⟨wanted_none rfl, loc_slice1N (f := (nm, jn)) rfl (hd 12 rfl) fun v w' h => h⟩
            | 1, _ =>
              refine ⟨?_, trivial⟩
              intro a1 w6 hv hf hd
              exact ⟨wanted_none rfl, loc_assign rfl (hd 14 rfl)⟩
          · intro ph hp
            match ph, hp with
            | 0, _ =>
              intro a2 w6 hv hf hd
              obtain ⟨b1, c1, e1, e2, e3⟩ := hd 13 rfl
              have hown : OwnF wo.heap.size w6 (a2.eval (.tmp 36)) (r.take j) := hd 0 rfl
              refine ⟨wanted_none rfl, wp_append_oneN (f := (nm, jn)) rfl hown e1 e2 e3 (by omega) hv.1.size fun v' w7 h1 hgrow => ?_⟩
              exact ⟨v', rfl, hv.1.grown hgrow hv.1.size (fun m hm => (hown.lt hm).1), (by show OwnF wo.heap.size w7 v' (r.take (j + 1)); rw [← HRX.out]; exact h1), ⟨.inr fun _ _ _ => trivial, .inr fun _ _ _ => trivial, .inr fun _ _ _ => trivial, .inr fun _ _ _ => trivial, .inr fun _ _ _ => trivial, .inr fun _ _ _ => trivial, .inr fun _ _ _ => trivial, .inr fun _ _ _ => trivial, .inr fun _ _ _ => trivial, .inr fun _ _ _ => trivial, .inr fun _ _ _ => trivial, .inr fun _ _ _ => trivial, .inr fun _ _ _ => trivial, .inr fun _ _ _ => trivial, .inl rfl, .inr fun _ _ h => h.elim, trivial⟩⟩
          · intro a2 w6 hv hf hh
            have HOX := Box.mk (show OwnF wo.heap.size w6 (a2.eval (.tmp 8)) (r.take (j + 1)) from hh 15 (by decide))
            have HBX := Box.mk hv
            refine hK _ _ ?_
            rw [fr_putAll hf]
            clear hf hK hv hh
            simp only [putAll]
            generalize a2.eval (.tmp 36) = u36
            generalize a2.eval (.tmp 37) = u37
            generalize a2.eval (.tmp 38) = u38
            generalize a2.eval (.tmp 39) = u39
            generalize a2.eval (.tmp 40) = u40
            generalize a2.eval (.tmp 41) = u41
            generalize a2.eval (.tmp 42) = u42
            generalize a2.eval (.tmp 43) = u43
            generalize a2.eval (.tmp 44) = u44
            generalize a2.eval (.tmp 45) = u45
            generalize a2.eval (.tmp 46) = u46
            generalize a2.eval (.tmp 47) = u47
            generalize a2.eval (.tmp 48) = u48
            generalize a2.eval (.tmp 49) = u49
            generalize a2.eval (.tmp 50) = u50
            generalize a2.eval (.tmp 8) = ov2 at *
            clear a2
            simp only [Act.put, List.setIfInBounds_toArray, List.set_cons_succ, List.set_cons_zero]
            go_wp2_with fail
            go_roundw
            case rel => exact ⟨j + 1, ov2, by omega, rfl, by go_num, HOX, HBX⟩
            case measure => simp [intOf]; omega
        · have HRL := Box.mk (show r.take j = r by
            rw [List.take_of_length_le]
            rw [← HRG.out, List.length_map]; omega)
          rw [HRL.out] at HO
          obtain ⟨oa, oc, rfl, hfc, hle⟩ := HO.out.shape
          have HFC := Box.mk hfc
          have HBF := Box.mk (below_trans HBW.out HBJ.out)
          clear hfc HO HRL HRG
          go_wp2_with fail
          go_ret
          exact ⟨_, _, rfl, HFC.out, hle, HBF.out⟩
end Go.Proofs.YtgmbfiikkogenaaGreatDoor
namespace Go.Proofs.YtgmbfiikkogenaaGreatDoor
open Go.RowKit
set_option linter.unusedSimpArgs false
set_option linter.unusedVariables false

/-- The values of a name, in lower case, as the landed code groups them. -/
def valsN (l : List Fld) (s : ByteArray) : List ByteArray := (l.filter fun f => (lowS f.1).toList == s.toList).map (·.2)
theorem valsN_low (l : List Fld) (g : Fld) : valsN l (lowS g.1) = valuesL l (lowS g.1) := by
  unfold valsN valuesL foldS
  congr 1
  refine List.filter_congr fun f _ => ?_
  rw [lowS_idem]
theorem valsN_app (l : List Fld) (f : Fld) (s : ByteArray) : valsN (l ++ [f]) s = if lowS f.1 = s then valsN l s ++ [f.2] else valsN l s := by
  unfold valsN
  rw [List.filter_append, List.map_append]
  by_cases e : lowS f.1 = s
  · have h : ((lowS f.1).toList == s.toList) = true := by rw [e]; simp
    rw [if_pos e]; simp [h]
  · rw [if_neg e]
    have : ((lowS f.1).toList == s.toList) = false := by
      rw [beq_eq_false_iff_ne]
      exact fun h => e (ba_eq.2 h)
    simp [this]
theorem valsN_len (l : List Fld) (s : ByteArray) : (valsN l s).length ≤ l.length := by
  unfold valsN
  rw [List.length_map]
  exact List.length_filter_le _ _
theorem withoutVD (x : List Fld) (ig : List ByteArray) : withoutL x ([⟨#[86, 105, 97]⟩, ⟨#[68, 97, 116, 101]⟩] ++ ig) = withoutL (withoutL x viaDate) ig := by
  unfold withoutL
  rw [List.filter_filter]
  refine List.filter_congr fun f _ => ?_
  rw [inFoldL_app]
  have : inFoldL [⟨#[86, 105, 97]⟩, ⟨#[68, 97, 116, 101]⟩] f.1 = inFoldL viaDate f.1 := by
    unfold inFoldL viaDate
    have e1 : ∀ s, foldS s ⟨#[86, 105, 97]⟩ = foldS s ⟨#[118, 105, 97]⟩ := fun s => by
      unfold foldS; rw [show lowS ⟨#[86, 105, 97]⟩ = lowS ⟨#[118, 105, 97]⟩ from by decide]
    have e2 : ∀ s, foldS s ⟨#[68, 97, 116, 101]⟩ = foldS s ⟨#[100, 97, 116, 101]⟩ := fun s => by
      unfold foldS; rw [show lowS ⟨#[68, 97, 116, 101]⟩ = lowS ⟨#[100, 97, 116, 101]⟩ from by decide]
    have e3 : ∀ s, foldS ⟨#[86, 105, 97]⟩ s = foldS ⟨#[118, 105, 97]⟩ s := fun s => by
      unfold foldS; rw [show lowS ⟨#[86, 105, 97]⟩ = lowS ⟨#[118, 105, 97]⟩ from by decide]
    have e4 : ∀ s, foldS ⟨#[68, 97, 116, 101]⟩ s = foldS ⟨#[100, 97, 116, 101]⟩ s := fun s => by
      unfold foldS; rw [show lowS ⟨#[68, 97, 116, 101]⟩ = lowS ⟨#[100, 97, 116, 101]⟩ from by decide]
    simp only [List.any_cons, List.any_nil, e1, e2, e3, e4]
  rw [this]
  cases inFoldL viaDate f.1 <;> cases inFoldL ig f.1 <;> rfl
end Go.Proofs.YtgmbfiikkogenaaGreatDoor
namespace Go.Proofs.YtgmbfiikkogenaaGreatDoor
open Go.RowKit
open Go.Maps (Keyed string_keyed)
set_option linter.unusedSimpArgs false
set_option linter.unusedVariables false

theorem keyedG : Keyed Tryz.prog 9 := string_keyed Tryz.underlying9
theorem zeroG (w : World) : (zeroValue 27).run Tryz.prog w = .ok (.slice none 0 0) w := by kernel_rfl
/-- How a value of the map reads: as itself. -/
def heldG (v : Value) : Option (DataW Value × List MemPlace) := some (.held v, [])
def keyG (s : ByteArray) : Lit := .string s.data.toList
theorem keyG_inj {s z : ByteArray} (h : keyG s = keyG z) : s = z := ba_ext (by unfold keyG at h; injection h)
def nilG : Value := .slice none 0 0
/-- Block b is a map which has the values of each name in lower case, each in a slice of its own. -/
structure GrpS (w : World) (b n : Nat) (l : List Fld) (D : DataW Value) (V : ByteArray → Value) : Prop where
  map : w.ownsMap Tryz.prog 9 heldG b n D
  at_ : ∀ s, D.atKey (keyG s) (.held nilG) = .held (V s)
  own : ∀ s, OwnS (b + 1) w (V s) (valsN l s)
  apart : ∀ s z g, (V s).ownBlock = some g → (V z).ownBlock = some g → s = z
  has : ∀ s, Go.Maps.has D (keyG s) = l.any fun f => (lowS f.1).toList == s.toList
theorem GrpS.lt {w : World} {b n : Nat} {l : List Fld} {D : DataW Value} {V : ByteArray → Value} (h : GrpS w b n l D V) : b < w.heap.size := h.map.lt
theorem GrpS.keep {w w' : World} {b n : Nat} {l : List Fld} {D : DataW Value} {V : ByteArray → Value} (h : GrpS w b n l D V) (hb : Below w.heap.size w w') : GrpS w' b n l D V :=
  ⟨h.map.kept (grownBy_below (row := none) hb) (by simp), h.at_, fun s => (h.own s).keep hb, h.apart, h.has⟩
theorem GrpS.made (w : World) : GrpS (w.alloc (.map #[] 0)) w.heap.size 0 [] (.map []) (fun _ => nilG) :=
  ⟨World.ownsMap_made _ _ _ _, fun s => rfl, fun s => OwnS.start _ _, fun s z g h => (by cases h), fun s => rfl⟩
theorem GrpS.step {w w4 w5 : World} {b n : Nat} {l : List Fld} {D : DataW Value} {V : ByteArray → Value} (h : GrpS w b n l D V) {f : Fld} {s : ByteArray} (hs : lowS f.1 = s) {v : Value} {g : Nat}
    (ho : OwnS (b + 1) w4 v (valsN l s ++ [f.2])) (hg : w.grownBy w4 (V s).ownBlock) (hv : v.ownBlock = some g) (hl : (V s).ownBlock = some g ∨ g = w.heap.size)
    (hm : w5.ownsMap Tryz.prog 9 heldG b (n + 1) (D.put (keyG s) (.held v))) (hg5 : w4.grownBy w5 (some b)) : GrpS w5 b (n + 1) (l ++ [f]) (D.put (keyG s) (.held v)) (fun z => if z = s then v else V z) := by
  have hD := h.map.isMap
  have hk : WideAt.IsKeyLit (keyG s) := trivial
  refine ⟨hm, fun z => ?_, fun z => ?_, fun y z q h1 h2 => ?_, fun z => ?_⟩
  · by_cases e : z = s
    · subst e
      rw [Maps.atKey_put_same hD hk, if_pos rfl]
    · rw [Maps.atKey_put_other (fun e2 => e (keyG_inj e2)), if_neg e, h.at_]
  · rw [valsN_app]
    by_cases e : z = s
    · subst e
      rw [if_pos rfl, if_pos hs]
      exact ho.grown hg5 fun k hk e2 => by have := (ho.lt hk).1; injection e2 with e2; omega
    · rw [if_neg e, if_neg (fun e2 => e (by rw [← e2, hs]))]
      have h1 := (h.own z).grown hg fun k hk e2 => e (h.apart z s k hk (e2.symm))
      exact h1.grown hg5 fun k hk e2 => by have := (h1.lt hk).1; injection e2 with e2; omega
  · by_cases ey : y = s
    · by_cases ez : z = s
      · rw [ey, ez]
      · rw [if_pos ey] at h1
        rw [if_neg ez] at h2
        rw [hv] at h1
        injection h1 with h1
        subst h1
        rcases hl with hl | hl
        · rw [ey]; exact h.apart s z _ hl h2
        · have := ((h.own z).lt h2).2; omega
    · rw [if_neg ey] at h1
      by_cases ez : z = s
      · rw [if_pos ez, hv] at h2
        injection h2 with h2
        subst h2
        rcases hl with hl | hl
        · rw [ez]; exact h.apart y s _ h1 hl
        · have := ((h.own y).lt h1).2; omega
      · rw [if_neg ez] at h2
        exact h.apart y z q h1 h2
  · rw [List.any_append]
    by_cases e : z = s
    · subst e
      rw [Maps.has_put_same hD hk]
      simp [hs]
    · rw [Maps.has_put_other (fun e2 => e (keyG_inj e2)), h.has]
      have : ((lowS f.1).toList == z.toList) = false := by
        rw [beq_eq_false_iff_ne]
        exact fun e2 => e (by rw [← hs]; exact (ba_eq.2 e2).symm)
      simp [this]
def GrpIn (w : World) (b n : Nat) (l : List Fld) : Prop := ∃ D V, GrpS w b n l D V
theorem GrpIn.keep {w w' : World} {b n : Nat} {l : List Fld} (h : GrpIn w b n l) (hb : Below w.heap.size w w') : GrpIn w' b n l := by
  obtain ⟨D, V, h⟩ := h; exact ⟨D, V, h.keep hb⟩

section
variable {ops : Array Oper} {rest : List Oper} {o : Oper} {act : Act} {Q : Exit → Act → World → Prop}
theorem wpList_lookup_grp (w : World) (hg : o.guard = none) (m x : Operand) (hop : o.op = Op.lookup 67 m x false) {b n : Nat} {l : List Fld} {D : DataW Value} {V : ByteArray → Value} {s : ByteArray}
    (hm : act.eval m = .map (some b)) (h : GrpS w b n l D V) (hx : act.eval x = .string s) (hs : s.size ≤ maxLen) (hK : wpList Tryz.prog ops Q rest (act.put o.dst (V s)) w) : wpList Tryz.prog ops Q (o :: rest) act w := by
  refine wpList_plain hg fun K' hK' => ?_
  obtain ⟨v, ps, hrun, hv⟩ := h.map.lookup (t := 67) (e := 27) keyedG Tryz.underlying67 (zeroG w) (zd := .held nilG) (zp := []) rfl (key := .string s) (kl := keyG s) (WideMaps.keyOf_string_mk Tryz.underlying9 hs)
  rw [h.at_] at hv
  have e : v = V s := by
    unfold heldG at hv
    simp only [Option.some.injEq, Prod.mk.injEq, DataW.held.injEq] at hv
    exact hv.1
  subst e
  unfold Oper.wp
  simp [execOp, hop, hm, hx, hrun, Result.andThen]
  exact hK' _ _ hK
theorem wpList_append_grp (w : World) (hgd : o.guard = none) (y x : Operand) (ho : o.op = .call { callee := .builtin .append, args := #[y, x], argTypes := #[27, 27] }) {B : Nat} {v : Value} {l : List ByteArray} (hy : act.eval y = v) (h : OwnS B w v l) {b c : Nat}
    (hx : act.eval x = .slice (some ⟨b, 0, none⟩) 1 c) {f : ByteArray} (h0 : w.cell? ⟨b, 0, none⟩ = some (.string f)) (hn : l.length + 1 ≤ 8000000) (hB : B ≤ w.heap.size)
    (hK : ∀ v' w' g, OwnS B w' v' (l ++ [f]) → w.grownBy w' v.ownBlock → v'.ownBlock = some g → (v.ownBlock = some g ∨ g = w.heap.size) → wpList Tryz.prog ops Q rest (act.put o.dst v') w') : wpList Tryz.prog ops Q (o :: rest) act w := by
  obtain ⟨i0, hi, hz0, hz1, hz2⟩ := info_parts Tryz.info9
  refine wpList_append_lies w hgd y x 27 ho B 9 i0 _ 1 16 Tryz.underlying27 hi hz0 hz1 hz2 rfl (by decide) v l.length (strV l) hy h ⟨b, 0, none⟩ 1 c [.string f] hx rfl ?_ ?_ (by decide) (by unfold maxLen; omega) (by omega) hB w.heap.size rfl ?_
  · intro j u hj
    match j, hj with
    | 0, hj => simp at hj; subst hj; rw [Addr.add_lit]; exact h0
    | j + 1, hj => simp at hj
  · intro u hu; simp at hu; rcases hu with rfl; rfl
  · intro g cap w' hown hgrow hg hlt
    refine hK _ w' g ?_ hgrow rfl hg
    unfold OwnS
    rw [List.length_append, strV_app]; exact hown
theorem wpList_update_grp (w : World) (hg : o.guard = none) (m x y : Operand) (hop : o.op = Op.mapUpdate 67 m x y) {w0 : World} {b n : Nat} {l : List Fld} {D : DataW Value} {V : ByteArray → Value} {s : ByteArray} {f : Fld} {v : Value} {g : Nat}
    (hm : act.eval m = .map (some b)) (h : GrpS w0 b n l D V) (hn : n < maxLen) (hx : act.eval x = .string s) (hs : s.size ≤ maxLen) (hsf : lowS f.1 = s) (hy : act.eval y = v)
    (ho : OwnS (b + 1) w v (valsN l s ++ [f.2])) (hg0 : w0.grownBy w (V s).ownBlock) (hv : v.ownBlock = some g) (hl : (V s).ownBlock = some g ∨ g = w0.heap.size)
    (hK : ∀ w', GrpIn w' b (n + 1) (l ++ [f]) → w.grownBy w' (some b) → wpList Tryz.prog ops Q rest (act.put o.dst undef) w') : wpList Tryz.prog ops Q (o :: rest) act w := by
  have hmap := h.map.kept hg0 (fun e => by have := ((h.own s).lt e.symm).1; omega)
  refine wpList_mapUpdate_own w hg m x y 67 hop 9 27 keyedG Tryz.underlying67 heldG b n D hm hmap hn (.string s) v (keyG s) hx hy (WideMaps.keyOf_string_mk Tryz.underlying9 hs) (.held v) [] rfl ?_
  intro w' h1 h2
  exact hK w' ⟨_, _, h.step hsf ho hg0 hv hl h1 h2⟩ h2
end

def RetGrp (w : World) (l : List Fld) (e : Ending) (w' : World) : Prop :=
  ∃ b n, e = .returned (.map (some b)) ∧ n ≤ l.length ∧ GrpIn w' b n l ∧ Below w.heap.size w w'
set_option maxRecDepth 100000 in
set_option maxHeartbeats 2000000 in
theorem nmValues_any (l : List Fld) (a : Option Addr) (cap : Nat) (w : World) (h : FldsIn w a l) (hz : ShortF l) (hl : l.length ≤ 1000000) :
    Calls Tryz.prog 34 #[.slice a l.length cap] w (RetGrp w l) := by
  have H0 := Box.mk h
  have HZ := Box.mk hz
  clear h hz
  have hmm := @run_makeMap Tryz.prog
  go_enter Tryz.func34, Tryz.ntmps34
  go_wp2_with fail
  obtain ⟨W, hW⟩ : ∃ W, W = w.alloc (.map #[] 0) := ⟨_, rfl⟩
  have HS := Box.mk (show GrpIn W w.heap.size 0 (l.take 0) by rw [hW]; exact ⟨_, _, GrpS.made w⟩)
  have HB := Box.mk (show Below w.heap.size w W by rw [hW]; exact below_oneF w (.map #[] 0))
  rw [← hW]
  clear hW
  generalize hb : w.heap.size = b at HS ⊢
  have HBS := Box.mk hb
  clear hb
  go_loopw [10] (fun iv wr => ∃ k : Nat, k ≤ l.length ∧ iv = .int .i64 k ∧ Box (GrpIn wr b k (l.take k) ∧ Below w.heap.size w wr)) (fun iv _ => l.length - (intOf iv).toNat)
  case atStart => exact ⟨0, Nat.zero_le _, rfl, ⟨HS.out, HB.out⟩⟩
  case round =>
    clear HS HB
    obtain ⟨k, hk, rfl, HM⟩ := hrel
    by_cases hlt : k < l.length
    · obtain ⟨x, rfl, hx1, hx2⟩ := (H0.out.keep HM.out.2) k hlt
      have hx2 := cell_next hx2
      have HSZ := Box.mk (HZ.out _ (List.getElem_mem hlt))
      have HT := Box.mk (List.take_succ_eq_append_getElem hlt)
      generalize l[k] = f at *
      have HSZL := Box.mk (show (lowS f.1).size ≤ maxLen by rw [lowS_sizeF]; exact HSZ.out.1)
      go_wp2_with fail
      refine (lower_any f.1 _ HSZ.out.1).mono ?_
      rintro e w2 ⟨rfl, hb1⟩
      have hc2 : w2.cell? ⟨wr.heap.size, 1, none⟩ = some (.string f.2) := below_cell hb1 (by rw [new_cellF]; rfl)
      have HB2 := Box.mk (below_trans (below_oneF wr (.cells #[.string f.1, .string f.2] 46)) hb1)
      obtain ⟨D, V, hG2⟩ := HM.out.1.keep HB2.out
      have HG2 := Box.mk hG2
      have HVL := Box.mk (show (valsN (l.take k) (lowS f.1)).length + 1 ≤ 8000000 by have h1 := valsN_len (l.take k) (lowS f.1); have h2 := List.length_take_le k l; omega)
      have HBB := Box.mk (show b + 1 ≤ w2.heap.size from hG2.lt)
      clear hb1 hG2
      generalize hs : lowS f.1 = s at *
      have HSE := Box.mk hs
      clear hs
      go_wp2_with (first | (at_lookup; refine wpList_lookup_grp _ rfl _ _ rfl rfl HG2.out rfl HSZL.out ?_) | (at_builtin; refine wpList_append_grp _ rfl _ _ rfl rfl (((HG2.out.keep (below_oneF w2 _)).own s)) rfl (f := f.2) ?c1 HVL.out ?c2 ?c3))
      case c1 => simp
      case c2 => simp; have := HBB.out; omega
      case c3 =>
        intro v' w4 g ho hg hv hl
        have HO := Box.mk ho
        have HG := Box.mk hg
        have HV := Box.mk hv
        have HL := Box.mk hl
        clear ho hg hv hl
        go_wp2_with (at_mapUpdate; refine wpList_update_grp _ rfl _ _ _ rfl rfl (HG2.out.keep (below_oneF w2 _)) (by unfold maxLen; omega) rfl HSZL.out HSE.out rfl HO.out HG.out HV.out (by simpa using HL.out) ?c4)
        case c4 =>
          intro w5 hs5 hg5
          have HM5 := Box.mk (show GrpIn w5 b (k + 1) (l.take (k + 1)) ∧ Below w.heap.size w w5 by
            refine ⟨by rw [HT.out]; exact hs5, ?_⟩
            have e1 := below_trans (below_trans HM.out.2 HB2.out) (below_oneF w2 (.cells #[.string f.2] 9))
            have e2 := e1.grown HG.out e1.size (fun j hj => by have := (((HG2.out.keep (below_oneF w2 (.cells #[.string f.2] 9))).own s).lt hj).1; have := HBS.out; omega)
            exact e2.grown hg5 e2.size (fun j hj => by injection hj with hj; have := HBS.out; omega))
          clear hs5 hg5 HO HG HV HL HG2 HB2
          go_wp2_with fail
          go_roundw
          case rel => exact ⟨k + 1, by omega, by go_num, HM5⟩
          case measure => simp [intOf]; omega
    · have HE := Box.mk (show GrpIn wr b k l by have := HM.out.1; rw [List.take_of_length_le (by omega)] at this; exact this)
      go_wp2_with fail
      go_ret
      exact ⟨b, k, rfl, hk, HE.out, HM.out.2⟩
end Go.Proofs.YtgmbfiikkogenaaGreatDoor
namespace Go.Proofs.YtgmbfiikkogenaaGreatDoor
open Go.RowKit
open Go.Maps (Keyed string_keyed)
set_option linter.unusedSimpArgs false
set_option linter.unusedVariables false

section
variable {ops : Array Oper} {rest : List Oper} {o : Oper} {act : Act} {Q : Exit → Act → World → Prop}
theorem wpList_append_strs (w : World) (hgd : o.guard = none) (y x : Operand) (ho : o.op = .call { callee := .builtin .append, args := #[y, x], argTypes := #[27, 27] }) {B : Nat} {l r : List ByteArray} {a : Option Addr} {c : Nat} {v : Value} (hv : act.eval y = v) (hy : OwnS B w v l)
    (hx : act.eval x = .slice a r.length c) (hr : StrsC w a r c) (hn : l.length + r.length ≤ 8000000) (hB : B ≤ w.heap.size)
    (hK : ∀ v' w', OwnS B w' v' (l ++ r) → w.grownBy w' v.ownBlock → wpList Tryz.prog ops Q rest (act.put o.dst v') w') : wpList Tryz.prog ops Q (o :: rest) act w := by
  subst hv
  exact wpList_plain hgd fun K' hK' => wp_append_ownSs ho hy hx hr hn hB fun v' w' h1 h2 => hK' _ _ (hK v' w' h1 h2)
end
def vdN : List ByteArray := [⟨#[86, 105, 97]⟩, ⟨#[68, 97, 116, 101]⟩]
theorem ownVD (w : World) : OwnS w.heap.size (w.alloc (.cells #[.string ⟨#[86, 105, 97]⟩, .string ⟨#[68, 97, 116, 101]⟩] 9)) (.slice (some ⟨w.heap.size, 0, none⟩) 2 2) vdN :=
  ⟨rfl, .inr ⟨w.heap.size, 2, _, rfl, Nat.le_refl _, heap_alloc_new _ _, Nat.le_refl _, by decide, rfl, rfl⟩⟩

set_option maxRecDepth 100000 in
set_option maxHeartbeats 2000000 in
theorem nmCompared_any (l : List Fld) (ig : List ByteArray) (a b : Option Addr) (cap cb : Nat) (w : World) (mm : Int) (h : FldsIn w a l) (hz : ShortF l) (hl : l.length ≤ 1000000) (hm : MaxOk w mm) (ht : total (valuesL l cnN) ≤ 3000000000) (hi : StrsC w b ig cb) (hiz : ∀ x ∈ ig, x.size ≤ maxLen) (hil : ig.length ≤ 1000000) :
    Calls Tryz.prog 35 #[.slice a l.length cap, .slice b ig.length cb] w (RetAccF w (keptN l ig)) := by
  obtain ⟨W, hW⟩ : ∃ W, W = w.alloc (.cells #[.string ⟨#[86, 105, 97]⟩, .string ⟨#[68, 97, 116, 101]⟩] 9) := ⟨_, rfl⟩
  have HO := Box.mk (show OwnS w.heap.size W (.slice (some ⟨w.heap.size, 0, none⟩) 2 2) vdN by rw [hW]; exact ownVD w)
  have HB := Box.mk (show Below w.heap.size w W by rw [hW]; exact below_oneF w _)
  have HI := Box.mk (hi.keep HB.out)
  have HM := Box.mk hm
  have H0 := Box.mk h
  have HX := Box.mk (show withoutL (stripL l) (vdN ++ ig) = keptN l ig from withoutVD (stripL l) ig)
  have HNZ := Box.mk (show ∀ x ∈ vdN ++ ig, x.size ≤ maxLen by
    intro x hx
    rcases List.mem_append.1 hx with hx | hx
    · unfold vdN at hx
      simp only [List.mem_cons, List.not_mem_nil, or_false] at hx
      rcases hx with rfl | rfl <;> decide
    · exact hiz x hx)
  have HNL := Box.mk (show (vdN ++ ig).length ≤ 4000000000 by rw [List.length_append]; have : vdN.length = 2 := rfl; omega)
  have HL2 := Box.mk (show vdN.length + ig.length ≤ 8000000 by have : vdN.length = 2 := rfl; omega)
  clear hm h hi hiz
  generalize hJ : vdN ++ ig = J at *
  have HJ := Box.mk hJ
  clear hJ
  go_enter Tryz.func35, Tryz.ntmps35
  go_wp2_with (at_builtin; rw [← hW]; refine wpList_append_strs _ rfl _ _ rfl rfl HO.out rfl HI.out HL2.out HB.out.size ?c1)
  case c1 =>
    intro v w1 ho hg
    rw [HJ.out] at ho
    rw [← hW] at hg
    have HV := Box.mk ho
    have HB1 := Box.mk (show Below w.heap.size w w1 from HB.out.grown hg HB.out.size (fun j hj => by have e : w.heap.size = j := Option.some.inj hj; omega))
    clear ho hg HO HB HI
    obtain ⟨ja, jc, rfl, HJS⟩ := HV.out.shape
    go_wp2_with fail
    refine (hStrip_any l a cap w1 mm (H0.out.keep HB1.out) hz hl (HM.out.keep HB1.out) ht).mono ?_
    rintro e w2 ⟨v2, rfl, hv2⟩
    have HV2 := Box.mk hv2
    clear hv2
    obtain ⟨sa, sc, rfl, hs⟩ := HV2.out.shape
    have HS := Box.mk hs
    have HJ2 := Box.mk (HJS.1.keep HV2.out.2)
    have hsl : (stripL l).length ≤ 1000000 := Nat.le_trans (stripL_len l) hl
    have HZ2 := Box.mk (show ShortF (stripL l) from fun f hf => by unfold stripL withoutL at hf; exact hz f (List.mem_filter.1 hf).1)
    clear hs
    generalize hS : stripL l = S at *
    go_wp2_with fail
    refine (fWithout_acc S J sa ja sc jc w2 HS.out HZ2.out HJ2.out HNZ.out hsl HNL.out).mono ?_
    rintro e w3 ⟨v3, rfl, hv3⟩
    have HV3 := Box.mk (AccF.lift (below_trans HB1.out HV2.out.2) hv3)
    clear hv3
    go_wp2_with fail
    go_ret
    exact ⟨v3, rfl, by rw [← HX.out]; exact HV3.out⟩
end Go.Proofs.YtgmbfiikkogenaaGreatDoor
namespace Go.Proofs.YtgmbfiikkogenaaGreatDoor
open Go.RowKit
def SortFOk : Prop := ∀ (F : List Fld) (v : Value) (B : Nat) (w : World), OwnF B w v F → F.length ≤ 1000000 →
    Calls Tryz.prog 37 #[v, .func (.func 38) #[] #[]] w fun e w' => e = .returned (.tuple #[]) ∧ Below B w w' ∧ ∃ (d : List Fld) (a : Option Addr) (cap : Nat), v = .slice a F.length cap ∧ F.length ≤ cap ∧ FldsC w' a d cap ∧ d.length = F.length ∧
      (∀ X : List Fld, (F.map (·.1)).Nodup → (∀ s, s ∈ F.map (·.1) ↔ s ∈ X.map (fun f => lowS f.1)) → (∀ f ∈ F, f.2 = joinS (valuesL X f.1)) → d = outN X)
end Go.Proofs.YtgmbfiikkogenaaGreatDoor
namespace Go.Proofs.YtgmbfiikkogenaaGreatDoor
open Go.RowKit
set_option linter.unusedSimpArgs false
set_option linter.unusedVariables false

theorem keyG_of {x : ByteArray} {kl : Lit} (h : keyOf Tryz.prog 9 (.string x) = some kl) : kl = keyG x ∧ x.size ≤ maxLen := by
  simp [keyOf, Tryz.underlying9, mapKey] at h
  exact ⟨h.2.symm, h.1⟩
theorem keyG_string {key : Value} {kl : Lit} (h : keyOf Tryz.prog 9 key = some kl) : ∃ x, key = .string x := by
  cases key <;> simp [keyOf, Tryz.underlying9, mapKey] at h
  exact ⟨_, rfl⟩
section
variable {ops : Array Oper} {rest : List Oper} {o : Oper} {act : Act} {Q : Exit → Act → World → Prop}
theorem wpList_next_grp (w : World) (hg : o.guard = none) (it : Operand) (hop : o.op = Op.next it false) {b r n : Nat} {D : DataW Value} {V : ByteArray → Value} {left : Lit → Bool} {cnt : Nat}
    (hit : act.eval it = .pointer (some ⟨r, 0, none⟩)) (h : w.ranges Tryz.prog 9 heldG b r n D left cnt) (hat : ∀ s, D.atKey (keyG s) (.held nilG) = .held (V s))
    (hDone : cnt = 0 → (∀ kl, left kl = false) → wpList Tryz.prog ops Q rest (act.put o.dst (.tuple #[.bool false])) w)
    (hMore : ∀ (x : ByteArray) (w' : World) (cnt' : Nat), x.size ≤ maxLen → left (keyG x) = true → Go.Maps.has D (keyG x) = true → w'.ranges Tryz.prog 9 heldG b r n D (fun z => left z && !z.sameKey (keyG x)) cnt' → cnt' < cnt → w.grownBy w' (some r) → w'.heap.size = w.heap.size →
      (Instr.entry (.pointer (some ⟨r, 0, none⟩))).run Tryz.prog w' = .ok (.tuple #[.string x, V x]) w' → wpList Tryz.prog ops Q rest (act.put o.dst (.tuple #[.bool true, .string x, V x])) w') : wpList Tryz.prog ops Q (o :: rest) act w :=
  wpList_next_ranges w hg it hop 9 keyedG heldG Value.string (fun v : Value => v) (fun key kl hk => keyG_string hk) (fun v y _ => ⟨v, rfl⟩) b r n D left cnt hit h hDone (fun x c kl y w' cnt' hk hlk hv hy hrg hlt hgr hsz hen => by
    obtain ⟨rfl, hx⟩ := keyG_of hk
    have h1 := hy (.held nilG)
    rw [hat] at h1
    have e : c = V x := by
      unfold heldG at hv
      simp only [Option.some.injEq] at hv
      subst hv
      simp only [DataW.held.injEq] at h1
      exact h1.symm
    subst e
    exact hMore x w' cnt' hx hlk (Maps.has_true_of_atKey hy) hrg hlt hgr hsz hen)
end
theorem OwnS.block {B : Nat} {w : World} {v : Value} {l : List ByteArray} (h : OwnS B w v l) (hl : 0 < l.length) : ∃ g cap, v = .slice (some ⟨g, 0, none⟩) l.length cap ∧ g < w.heap.size ∧ l.length ≤ cap ∧ StrsAt w (some ⟨g, 0, none⟩) l := by
  obtain ⟨h1, h2⟩ := h
  rcases h2 with ⟨rfl, h2⟩ | ⟨g, cap, cur, rfl, hg, hc, hcap, hm, hsz, ht⟩
  · omega
  · refine ⟨g, cap, rfl, (Array.getElem?_eq_some_iff.1 hc).1, hcap, fun j hj => ?_⟩
    have hu : (strV l)[j]? = some (.string l[j]) := by unfold strV; simp [hj]
    have e := congrArg (fun x => x[j]?) ht
    have hlt : j < l.length * 1 := by omega
    rw [hu, List.getElem?_take_of_lt hlt] at e
    refine ⟨g, 0, rfl, ?_⟩
    simp only [World.cell?, hc, Nat.zero_add]
    simpa using e
theorem GrpS.size {w : World} {b n : Nat} {l : List Fld} {D : DataW Value} {V : ByteArray → Value} (h : GrpS w b n l D V) : Go.Maps.size D ≤ n := by
  obtain ⟨es, clock, _, _, hs, hD⟩ := h.map
  rw [hD]
  show List.length _ ≤ n
  rw [length_sorted]
  simpa using hs
theorem any_low {X : List Fld} {s : ByteArray} : (X.any fun f => (lowS f.1).toList == s.toList) = true ↔ s ∈ X.map (fun f => lowS f.1) := by
  rw [List.any_eq_true, List.mem_map]
  constructor
  · rintro ⟨f, h1, h2⟩
    exact ⟨f, h1, ba_eq.2 (beq_iff_eq.1 h2)⟩
  · rintro ⟨f, h1, h2⟩
    exact ⟨f, h1, by rw [h2]; simp⟩
theorem valsN_pos {X : List Fld} {s : ByteArray} (h : s ∈ X.map (fun f => lowS f.1)) : 0 < (valsN X s).length ∧ valsN X s = valuesL X s := by
  rw [List.mem_map] at h
  obtain ⟨f, h1, rfl⟩ := h
  refine ⟨?_, valsN_low X f⟩
  unfold valsN
  rw [List.length_map]
  refine List.length_pos_of_mem (a := f) (List.mem_filter.2 ⟨h1, by simp⟩)

theorem below_le {A B : Nat} {a b c : World} (h : Below A a b) (k : Below B b c) (hab : A ≤ B) : Below A a c :=
  ⟨k.os.trans h.os, k.tape.trans h.tape, k.output.trans h.output, Nat.le_trans h.size k.size, fun i hi => (k.block i (by omega)).trans (h.block i hi)⟩
/-- The range over the groups has come so far: v holds the fields F. -/
structure RngS (w2 wr : World) (b r n : Nat) (X : List Fld) (D : DataW Value) (left : Lit → Bool) (cnt : Nat) (v : Value) (F : List Fld) : Prop where
  rg : wr.ranges Tryz.prog 9 heldG b r n D left cnt
  own : OwnF (r + 1) wr v F
  nd : (F.map (·.1)).Nodup
  mem : ∀ s, s ∈ F.map (·.1) ↔ (Go.Maps.has D (keyG s) = true ∧ left (keyG s) = false)
  val : ∀ f ∈ F, f.2 = joinS (valuesL X f.1)
  low : Below r w2 wr
  len : F.length + cnt ≤ 1000000
theorem RngS.step {w2 wr w4 : World} {b r n : Nat} {X F : List Fld} {D : DataW Value} {left : Lit → Bool} {cnt cnt' : Nat} {v v' : Value} (h : RngS w2 wr b r n X D left cnt v F) {x : ByteArray} (hx : left (keyG x) = true) (hD : Go.Maps.has D (keyG x) = true)
    (hrg : w4.ranges Tryz.prog 9 heldG b r n D (fun z => left z && !z.sameKey (keyG x)) cnt') (hc : cnt' < cnt) (ho : OwnF (r + 1) w4 v' (F ++ [(x, joinS (valuesL X x))])) (hl : Below r w2 w4) : RngS w2 w4 b r n X D (fun z => left z && !z.sameKey (keyG x)) cnt' v' (F ++ [(x, joinS (valuesL X x))]) := by
  have hself : (keyG x).sameKey (keyG x) = true := WideAt.sameKey_self trivial
  have hnot : x ∉ F.map (·.1) := fun hm => by
    have := ((h.mem x).1 hm).2
    rw [hx] at this; cases this
  refine ⟨hrg, ho, ?_, fun s => ?_, fun f hf => ?_, hl, by have := h.len; rw [List.length_append]; simp only [List.length_cons, List.length_nil]; omega⟩
  · rw [List.map_append, List.nodup_append]
    refine ⟨h.nd, by simp, fun a ha b hb => ?_⟩
    simp at hb
    subst hb
    intro e
    subst e
    exact hnot ha
  · rw [List.map_append, List.mem_append, h.mem s]
    by_cases e : s = x
    · subst e
      simp [hD, hself]
    · have h1 : (keyG s).sameKey (keyG x) = false := Maps.sameKey_ne fun e2 => e (keyG_inj e2)
      simp [h1, e]
  · rcases List.mem_append.1 hf with hf | hf
    · exact h.val f hf
    · simp at hf
      rw [hf]

set_option maxRecDepth 100000 in
set_option maxHeartbeats 4000000 in
theorem nmFields_any (hsort : SortFOk) (l : List Fld) (ig : List ByteArray) (a b : Option Addr) (cap cb : Nat) (w : World) (mm : Int) (h : FldsIn w a l) (hz : ShortF l) (hl : l.length ≤ 1000000) (hm : MaxOk w mm) (ht : total (valuesL l cnN) ≤ 3000000000) (hts : ∀ n, total (valuesL l n) ≤ 70000000000000)
    (hi : StrsC w b ig cb) (hiz : ∀ x ∈ ig, x.size ≤ maxLen) (hil : ig.length ≤ 1000000) :
    Calls Tryz.prog 23 #[.slice a l.length cap, .slice b ig.length cb] w (RetFldC w (fieldsN l ig)) := by
  have HSORT := Box.mk hsort
  have H0 := Box.mk (nmCompared_any l ig a b cap cb w mm h hz hl hm ht hi hiz hil)
  have hkl : (keptN l ig).length ≤ l.length := Nat.le_trans (withoutL_len _ _) (Nat.le_trans (withoutL_len _ _) (stripL_len _))
  have HXZ := Box.mk (show ShortF (keptN l ig) from fun f hf => hz f (keptN_mem hf).1)
  have HXT := Box.mk (show ∀ n, total (valuesL (keptN l ig) n) ≤ 70000000000000 from fun n => Nat.le_trans (total_kept l ig n) (hts n))
  have HRES := Box.mk (show fieldsN l ig = outN (keptN l ig) from rfl)
  clear h hz hm hi hiz ht hts hsort
  generalize hX : keptN l ig = X at *
  clear hX
  go_enter Tryz.func23, Tryz.ntmps23
  go_wp2_with fail
  refine H0.out.mono ?_
  rintro e w1 ⟨v1, rfl, hv1⟩
  have HV1 := Box.mk hv1.2
  obtain ⟨xa, xc, rfl, hx⟩ := hv1.shape
  have HX1 := Box.mk hx
  clear hv1 hx H0
  go_wp2_with fail
  refine (nmValues_any X xa xc w1 HX1.out HXZ.out (by omega)).mono ?_
  rintro e w2 ⟨q, n, rfl, hn, ⟨D, V, hG⟩, hb⟩
  have HG := Box.mk hG
  have HB2 := Box.mk (below_trans HV1.out hb)
  have HSZ := Box.mk hG.size
  clear hG hb HV1
  go_wp2_with (at_range; refine wpList_range_own _ rfl _ 67 rfl 9 27 keyedG Tryz.underlying67 heldG _ _ D rfl HG.out.map ?c1)
  case c1 =>
    intro w3 hrg hg3 hs3
    have HR0 := Box.mk (show RngS w2 w3 q w2.heap.size n X D (Go.Maps.has D) (Go.Maps.size D) (.slice none 0 0) [] from
      ⟨hrg, OwnF.start _ _, List.nodup_nil, fun s => by simp, fun f hf => (by cases hf), (Below.refl _ _).grown hg3 (Nat.le_refl _) (fun j hj => by cases hj), by have := HSZ.out; simp only [List.length_nil]; omega⟩)
    clear hrg hg3 hs3
    generalize hr : w2.heap.size = r at *
    have HRE := Box.mk hr
    clear hr
    go_wp2_with fail
    go_loopw [5] (fun v wr => ∃ left cnt F, Box (RngS w2 wr q r n X D left cnt v F)) (fun _ wr => wr.rangeLeft q r)
    case atStart => exact ⟨_, _, _, HR0⟩
    case round =>
      obtain ⟨left, cnt, F, HM⟩ := hrel
      go_wp2_with (at_next; refine wpList_next_grp _ rfl _ rfl rfl HM.out.rg HG.out.at_ ?d1 ?d2)
      case d1 =>
        intro h0 hdone
        have HDONE := Box.mk hdone
        clear hdone h0
        go_wp2_with fail
        refine (HSORT.out F _ (r + 1) wr HM.out.own (by have := HM.out.len; omega)).mono ?_
        rintro e w4 ⟨rfl, hb, d, da, dc, rfl, hdc, hd, hdl, heq⟩
        have HD := Box.mk hd
        have HE := Box.mk (heq X HM.out.nd (fun s => by
          rw [HM.out.mem, HG.out.has, any_low]
          exact ⟨fun h => h.1, fun h => ⟨h, HDONE.out _⟩⟩) HM.out.val)
        have HB4 := Box.mk (show Below w.heap.size w w4 by
          have h1 := HRE.out
          have h2 := HB2.out.size
          exact ⟨hb.os.trans (HM.out.low.os.trans HB2.out.os), hb.tape.trans (HM.out.low.tape.trans HB2.out.tape), hb.output.trans (HM.out.low.output.trans HB2.out.output), Nat.le_trans h2 (Nat.le_trans HM.out.low.size hb.size),
            fun k hk => (hb.block k (by omega)).trans ((HM.out.low.block k (by omega)).trans (HB2.out.block k hk))⟩)
        clear hb hd heq HM
        go_wp2_with fail
        go_ret
        rw [HRES.out, ← HE.out]
        exact ⟨da, dc, by rw [hdl]; rfl, HD.out, by omega, HB4.out⟩
      case d2 =>
        intro x w4 cnt' hxs hlx hDx hrg hlt hg4 hsz4 hen
        have HIN := valsN_pos (any_low.1 (by rw [← HG.out.has]; exact hDx))
        have HL4 := Box.mk (show Below r w2 w4 from HM.out.low.grown hg4 (by have h1 := HM.out.low.size; have h2 := HRE.out; omega) (fun j hj => by have := Option.some.inj hj; omega))
        have HG4 := HG.out.keep (by rw [HRE.out]; exact HL4.out)
        obtain ⟨g, vc, hV, hgl, hvc, hst⟩ := OwnS.block (HG4.own x) HIN.1
        rw [hV] at hen ⊢
        have HXN := Box.mk (And.intro hxs (And.intro hlx hDx))
        have HST := Box.mk (And.intro hst hgl)
        have HEQ := Box.mk (show joinS (valsN X x) = joinS (valuesL X x) by rw [HIN.2])
        have HRG := Box.mk hrg
        have HCN := Box.mk hlt
        have HTT := Box.mk (show total (valsN X x) ≤ 70000000000000 by rw [HIN.2]; exact HXT.out x)
        have HO4 := Box.mk (show OwnF (r + 1) w4 _ F from HM.out.own.grown hg4 (fun k hk e => by have := (HM.out.own.lt hk).1; have := Option.some.inj e; omega))
        have HR4 := Box.mk (show r + 1 ≤ w4.heap.size from hrg.lt)
        clear hst hgl HIN hrg hg4 hxs hlx hDx hsz4 HG4 hlt
        generalize hvs : valsN X x = vs at *
        clear hvs
        go_wp2_with fail
        refine (sJoin_any vs g vc w4 HST.out.1 HST.out.2 hvc HTT.out).mono ?_
        rintro e w5 ⟨rfl, hb5⟩
        rw [HEQ.out]
        have HO5 := Box.mk (HO4.out.keep hb5)
        have HB5 := Box.mk hb5
        clear hb5 hen
        go_wp2_with (at_builtin; refine wpList_append_ownf _ rfl _ _ rfl rfl (HO5.out.keep (below_oneF w5 _)) rfl (y := (x, joinS (valuesL X x))) ?c1 ?c2 ?c3 ?c4 ?c5)
        case c3 => have := HM.out.len; omega
        case c4 => have := HR4.out; have := HB5.out.size; simp; omega
        case c5 =>
          intro v6 w6 ho6 hg6
          have hlo : ∀ k, Value.ownBlock _ = some k → r + 1 ≤ k := fun k hk => (HO5.out.lt hk).1
          have HL5 := below_le (below_le HL4.out HB5.out (by have := HR4.out; omega)) (below_oneF w5 (.cells #[.string x, .string (joinS (valuesL X x))] 46)) (by have := HR4.out; have := HB5.out.size; omega)
          have HL6 := Box.mk (show Below r w2 w6 from HL5.grown hg6 (by have := HR4.out; have := HB5.out.size; simp; omega) (fun j hj => by have := hlo j hj; omega))
          have HRG6 := Box.mk (((HRG.out.kept (grownBy_below (row := none) HB5.out) (by simp) (by simp)).alloc (.cells #[.string x, .string (joinS (valuesL X x))] 46)).kept hg6
            (fun e => by have h1 := hlo q e.symm; have h2 := HG.out.lt; have h3 := HRE.out; omega) (fun e => by have h1 := hlo r e.symm; omega))
          have HM6 := Box.mk (HM.out.step HXN.out.2.1 HXN.out.2.2 HRG6.out HCN.out ho6 HL6.out)
          have HME := Box.mk (show w6.rangeLeft q r < wr.rangeLeft q r by rw [HRG6.out.left_eq, HM.out.rg.left_eq]; exact HCN.out)
          clear ho6 hg6 HRG6 HM HRG HO5 HB5
          go_wp2_with fail
          go_roundw
          case rel => exact ⟨_, _, _, HM6⟩
          case measure => exact HME.out
end Go.Proofs.YtgmbfiikkogenaaGreatDoor
namespace Go.Proofs.YtgmbfiikkogenaaGreatDoor
open Go.RowKit
set_option linter.unusedSimpArgs false
set_option linter.unusedVariables false

/-- What the library's Sort, and its Compact behind it, do with the call's own slice of strings. -/
def SortSOk : Prop := ∀ (l : List ByteArray) (g cap B : Nat) (w : World), OwnS B w (.slice (some ⟨g, 0, none⟩) l.length cap) l → l.length ≤ 1000000 →
    Calls Tryz.prog 73 #[.slice (some ⟨g, 0, none⟩) l.length cap] w fun e w' => e = .returned (.tuple #[]) ∧ Below B w w' ∧
      Calls Tryz.prog 74 #[.slice (some ⟨g, 0, none⟩) l.length cap] w' fun e w2 => e = .returned (.slice (some ⟨g, 0, none⟩) (namesS l).length cap) ∧ Below B w' w2 ∧ StrsC w2 (some ⟨g, 0, none⟩) (namesS l) cap
theorem OwnS.block' {B : Nat} {w : World} {v : Value} {l : List ByteArray} (h : OwnS B w v l) (hl : v.ownBlock ≠ none) : ∃ g cap, v = .slice (some ⟨g, 0, none⟩) l.length cap := by
  obtain ⟨h1, h2⟩ := h
  rcases h2 with ⟨rfl, h2⟩ | ⟨g, cap, cur, rfl, _⟩
  · exact absurd rfl hl
  · exact ⟨g, cap, rfl⟩
section
variable {ops : Array Oper} {rest : List Oper} {o : Oper} {act : Act} {Q : Exit → Act → World → Prop}
theorem wpList_make_strs (w : World) (hg : o.guard = none) (x y : Operand) (hop : o.op = Op.makeSlice 27 x y) {n : Nat} (hx : act.eval x = .int .i64 0) (hy : act.eval y = .int .i64 (n : Int)) (hn : n ≤ 1000000)
    (hK : ∀ w', OwnS w.heap.size w' (.slice (some ⟨w.heap.size, 0, none⟩) 0 n) [] → Below w.heap.size w w' → wpList Tryz.prog ops Q rest (act.put o.dst (.slice (some ⟨w.heap.size, 0, none⟩) 0 n)) w') : wpList Tryz.prog ops Q (o :: rest) act w := by
  obtain ⟨i0, hi, hz0, hz1, hz2⟩ := info_parts Tryz.info9
  obtain ⟨w', h1, h2, h3⟩ := run_make_own (P := Tryz.prog) w w.heap.size 27 9 i0 _ 1 Tryz.underlying27 hi hz0 hz1 .i64 .i64 n (by rw [hz2]; omega) (by unfold maxLen; omega) (Nat.le_refl _)
  refine wpList_plain hg fun K' hK' => ?_
  unfold Oper.wp
  simp only [execOp, hop, hx, hy, h1, Sem.run_bind, Sem.run_pure, Result.andThen_ok]
  exact hK' _ _ (hK w' h2 ((Below.refl _ _).grown h3 (Nat.le_refl _) (fun k hk => by cases hk)))
end

set_option maxRecDepth 100000 in
set_option maxHeartbeats 4000000 in
theorem nmNames_any (hsort : SortSOk) (l : List Fld) (a : Option Addr) (cap : Nat) (w : World) (h : FldsIn w a l) (hl : l.length ≤ 1000000) :
    Calls Tryz.prog 52 #[.slice a l.length cap] w (RetStrC w (namesS (l.map (·.1)))) := by
  have HSORT := Box.mk hsort
  have H0 := Box.mk h
  clear h hsort
  obtain ⟨L, hL⟩ : ∃ L, L = l.map (·.1) := ⟨_, rfl⟩
  rw [← hL]
  have HL := Box.mk hL
  clear hL
  go_enter Tryz.func52, Tryz.ntmps52
  go_wp2_with (at_make; refine wpList_make_strs _ rfl _ _ rfl (n := l.length) rfl rfl hl ?c1)
  case c1 =>
    intro w1 ho hb
    have HS1 := Box.mk (show OwnS w.heap.size w1 _ ((l.take 0).map (·.1)) from ho)
    have HB1 := Box.mk hb
    clear ho hb
    go_wp2_with fail
    go_loopw [3, 11] (fun v iv wr => ∃ k : Nat, k ≤ l.length ∧ iv = .int .i64 k ∧ Box (OwnS w.heap.size wr v ((l.take k).map (·.1)) ∧ v.ownBlock ≠ none ∧ Below w.heap.size w wr)) (fun _ iv _ => l.length - (intOf iv).toNat)
    case atStart => exact ⟨0, Nat.zero_le _, rfl, ⟨HS1.out, by simp [Value.ownBlock], HB1.out⟩⟩
    case round =>
      clear HS1 HB1
      obtain ⟨k, hk, rfl, HM⟩ := hrel
      by_cases hlt : k < l.length
      · obtain ⟨x, rfl, hx1, hx2⟩ := (H0.out.keep HM.out.2.2) k hlt
        have hx2 := cell_next hx2
        have HT := Box.mk (show (l.take (k + 1)).map (·.1) = (l.take k).map (·.1) ++ [l[k].1] by rw [List.take_succ_eq_append_getElem hlt, List.map_append]; rfl)
        have HLEN := Box.mk (show ((l.take k).map (·.1)).length + 1 ≤ 8000000 by rw [List.length_map]; have := List.length_take_le k l; omega)
        generalize l[k] = f at *
        have HO2 := Box.mk (show OwnS w.heap.size ((wr.alloc (.cells #[.string f.1, .string f.2] 46)).alloc (.cells #[.string f.1] 9)) _ _ from (HM.out.1.keep (below_oneF wr _)).keep (below_oneF _ _))
        go_wp2_with (at_builtin; refine wpList_append_grp _ rfl _ _ rfl rfl HO2.out rfl (f := f.1) ?c2 HLEN.out ?c3 ?c4)
        case c3 => have := HM.out.2.2.size; simp; omega
        case c4 =>
          intro v' w' g ho hg hv hl'
          have HM1 := Box.mk (show OwnS w.heap.size w' v' ((l.take (k + 1)).map (·.1)) ∧ v'.ownBlock ≠ none ∧ Below w.heap.size w w' by
            refine ⟨by rw [HT.out, List.map_take]; exact ho, by rw [hv]; simp, ?_⟩
            have h1 := below_twoF HM.out.2.2 (.cells #[.string f.1, .string f.2] 46)
            have h2 := below_twoF h1 (.cells #[.string f.1] 9)
            exact h2.grown hg h2.size (fun j hj => (HO2.out.lt hj).1))
          clear ho hg hv hl' HM HO2 HT HLEN
          go_wp2_with fail
          go_roundw
          case rel => exact ⟨k + 1, by omega, by go_num, HM1⟩
          case measure => simp [intOf]; omega
      · obtain ⟨g, c, rfl⟩ := HM.out.1.block' HM.out.2.1
        have HTK := Box.mk (show (l.take k).map (·.1) = L by rw [HL.out, List.take_of_length_le (by omega)])
        have HE := Box.mk HM.out.1
        have HBW := Box.mk HM.out.2.2
        have HNL := Box.mk (show L.length ≤ 1000000 by rw [HL.out, List.length_map]; exact hl)
        clear HM
        rw [HTK.out] at HE ⊢
        clear HTK
        go_wp2_with fail
        refine (HSORT.out L g c w.heap.size wr HE.out HNL.out).mono ?_
        rintro e w2 ⟨rfl, hb2, hc2⟩
        have HC2 := Box.mk hc2
        have HB2 := Box.mk (below_le HBW.out hb2 (Nat.le_refl _))
        clear hb2 hc2
        go_wp2_with fail
        refine HC2.out.mono ?_
        rintro e w3 ⟨rfl, hb3, hs3⟩
        have HS3 := Box.mk hs3
        have HB3 := Box.mk (below_le HB2.out hb3 (Nat.le_refl _))
        clear hb3 hs3
        go_wp2_with fail
        go_ret
        exact ⟨_, _, rfl, HS3.out, HB3.out⟩
end Go.Proofs.YtgmbfiikkogenaaGreatDoor
namespace Go.Proofs.YtgmbfiikkogenaaGreatDoor
open Go.RowKit
open Go.Sort (SWO PermIn SortedIn)
set_option linter.unusedSimpArgs false
set_option linter.unusedVariables false

theorem cmpB_lt : ∀ a b : List UInt8, decide (Lib.compareBytes a b < 0) = Op.bytesLess a b
  | [], [] => by simp [Lib.compareBytes, Op.bytesLess]
  | [], _ :: _ => by simp [Lib.compareBytes, Op.bytesLess]
  | _ :: _, [] => by simp [Lib.compareBytes, Op.bytesLess]
  | x :: a, y :: b => by
    unfold Lib.compareBytes Op.bytesLess
    rw [← cmpB_lt a b]
    by_cases h1 : x < y
    · simp [h1]
    · by_cases h2 : y < x
      · have h3 : ¬ x = y := by intro e; subst e; exact h1 h2
        simp [h1, h2, h3]
      · have h3 : x = y := by
          rw [UInt8.lt_iff_toNat_lt] at h1 h2
          exact UInt8.toNat_inj.1 (by omega)
        subst h3
        simp [h1]
/-- What two fields are compared by: their names. -/
def cfF (x y : Fld) : Int := Lib.compareBytes x.1.data.toList y.1.data.toList
theorem ltF (x y : Fld) : ltOf cfF x y = ltS x.1 y.1 := by
  unfold ltOf cfF ltS
  rw [cmpB_lt, ba_toList, ba_toList]
theorem swoF : SWO (ltOf cfF) where
  irrefl x := by rw [ltF, ltS_irr]
  trans x y z h k := by rw [ltF] at *; exact ltS_trans h k
  ntrans x y z h k := by
    rw [ltF] at *
    cases hz : ltS x.1 z.1 with
    | false => rfl
    | true =>
      rcases ltS_tri x.1 y.1 with e | e | e
      · rw [h] at e; cases e
      · rw [e, k] at hz; cases hz
      · have := ltS_trans e hz
        rw [k] at this; cases this
theorem sortedS_of : ∀ {l : List ByteArray}, l.Pairwise (fun a b => ltS a b = true) → SortedS l
  | [], _ => trivial
  | x :: r, h => by
    obtain ⟨h1, h2⟩ := List.pairwise_cons.1 h
    exact ⟨h1, sortedS_of h2⟩
theorem sorted_arr (d : Array Fld) (h : SortedIn (ltOf cfF) 0 d.size d) (hn : (d.toList.map (·.1)).Nodup) : SortedS (d.toList.map (·.1)) := by
  refine sortedS_of ?_
  rw [List.pairwise_iff_getElem]
  intro i j hi hj hij
  have hi' : i < d.size := by simpa using hi
  have hj' : j < d.size := by simpa using hj
  have h1 := h i j (Nat.zero_le _) hij hj'
  rw [ltF, getElem!_pos d j hj', getElem!_pos d i hi'] at h1
  have hne : d[i].1 ≠ d[j].1 := by
    intro e
    have := (List.pairwise_iff_getElem.1 hn) i j hi hj hij
    simp only [List.getElem_map, Array.getElem_toList] at this
    exact this e
  simp only [List.getElem_map, Array.getElem_toList]
  rcases ltS_tri d[i].1 d[j].1 with e | e | e
  · exact e
  · exact absurd e hne
  · rw [h1] at e; cases e
theorem sorted_outN (X : List Fld) (F : List Fld) (d' : Array Fld) (hp : PermIn 0 F.toArray.size F.toArray d') (hs : SortedIn (ltOf cfF) 0 F.toArray.size d') (hn : (F.map (·.1)).Nodup)
    (hm : ∀ s, s ∈ F.map (·.1) ↔ s ∈ X.map (fun f => lowS f.1)) (hv : ∀ f ∈ F, f.2 = joinS (valuesL X f.1)) : d'.toList = outN X := by
  obtain ⟨h1, _, h3⟩ := hp
  rw [← h1] at hs h3
  have hperm : d'.toList.Perm F := by simpa using h3.trans (by rw [h1]; simp)
  have hnd : (d'.toList.map (·.1)).Nodup := (hperm.map (·.1)).nodup_iff.2 hn
  have hso := sorted_arr d' hs hnd
  have hnm : d'.toList.map (·.1) = namesS (X.map fun f => lowS f.1) := sorted_ext hso (namesS_sorted _) fun x => by
    rw [namesS_mem, ← hm, (hperm.map (·.1)).mem_iff]
  unfold outN
  rw [← hnm, List.map_map]
  refine ((List.map_congr_left fun f hf => ?_).trans (List.map_id' _)).symm
  have := hv f (hperm.mem_iff.1 hf)
  simp only [Function.comp_apply]
  rw [← this]

/-- The names that the library's sort and Compact leave. -/
def lsB (l : List ByteArray) : List (List UInt8) := l.map fun s => s.data.toList
def byB (l : List (List UInt8)) : List ByteArray := l.map fun s => ⟨s.toArray⟩
theorem ltS_mk (a b : List UInt8) : ltS ⟨a.toArray⟩ ⟨b.toArray⟩ = decide (a < b) := by
  unfold ltS
  rw [ba_toList, ba_toList, bytesLess_eq]
theorem ss_sorted (ss : List (List UInt8)) : (ss.mergeSort fun x y => decide (x ≤ y)).Pairwise (fun a b => ¬ b < a) := by
  have h := List.pairwise_mergeSort (le := fun x y : List UInt8 => decide (x ≤ y)) (fun a b c h1 h2 => by
    simp only [decide_eq_true_eq] at *
    exact List.le_trans h1 h2) (fun a b => by
    simp only [Bool.or_eq_true, decide_eq_true_eq]
    exact List.le_total a b) ss
  exact h.imp fun {a b} h => by
    simp only [decide_eq_true_eq] at h
    exact List.not_lt.2 h
theorem comp_mem (d : Array (List UInt8)) (x : List UInt8) : ∀ m, x ∈ Lib.compactUpTo d m ↔ ∃ j, j < m ∧ x = d[j]!
  | 0 => by simp [Lib.compactUpTo]
  | m + 1 => by
    rw [Lib.compactUpTo_succ, List.mem_append, comp_mem d x m]
    constructor
    · rintro (⟨j, h1, h2⟩ | h)
      · exact ⟨j, by omega, h2⟩
      · split at h
        · simp at h; exact ⟨m, by omega, h⟩
        · cases h
    · rintro ⟨j, h1, rfl⟩
      by_cases hj : j < m
      · exact .inl ⟨j, hj, rfl⟩
      · obtain rfl : j = m := by omega
        by_cases hk : Lib.keeps d j = true
        · exact .inr (by rw [if_pos hk]; simp)
        · left
          unfold Lib.keeps at hk
          simp only [decide_eq_true_eq, not_or] at hk
          exact ⟨j - 1, by omega, Classical.not_not.1 hk.2⟩
theorem comp_sorted (d : Array (List UInt8)) (hs : ∀ i j, i < j → j < d.size → ¬ d[j]! < d[i]!) : ∀ m, m ≤ d.size → (Lib.compactUpTo d m).Pairwise (fun a b => a < b)
  | 0, _ => by simp [Lib.compactUpTo]
  | m + 1, hm => by
    rw [Lib.compactUpTo_succ, List.pairwise_append]
    refine ⟨comp_sorted d hs m (by omega), by split <;> simp, fun a ha b hb => ?_⟩
    split at hb
    · rename_i hk
      simp at hb
      subst hb
      obtain ⟨j, hj, rfl⟩ := (comp_mem d a m).1 ha
      unfold Lib.keeps at hk
      simp only [decide_eq_true_eq] at hk
      have hne : d[m]! ≠ d[m - 1]! := by rcases hk with hk | hk; · omega
                                         · exact hk
      have h1 : ¬ d[m]! < d[m - 1]! := hs (m - 1) m (by omega) (by omega)
      have h2 : d[j]! = d[m - 1]! ∨ ¬ d[m - 1]! < d[j]! := by
        by_cases e : j = m - 1
        · exact .inl (by rw [e])
        · exact .inr (hs j (m - 1) (by omega) (by omega))
      have h3 : d[m - 1]! < d[m]! := by
        rcases List.le_iff_lt_or_eq.1 (List.not_lt.1 h1) with h | h
        · exact h
        · exact absurd h.symm hne
      rcases h2 with h2 | h2
      · rw [h2]; exact h3
      · exact List.lt_of_le_of_lt (List.not_lt.1 h2) h3
    · cases hb
/-- What is left of the names, sorted and each once. -/
theorem comp_names (l : List ByteArray) : byB (Lib.compactUpTo ((lsB l).mergeSort fun x y => decide (x ≤ y)).toArray ((lsB l).mergeSort fun x y => decide (x ≤ y)).toArray.size) = namesS l := by
  generalize hd : ((lsB l).mergeSort fun x y => decide (x ≤ y)) = ss
  have hperm : ss.Perm (lsB l) := by rw [← hd]; exact List.mergeSort_perm _ _
  have hso := ss_sorted (lsB l)
  rw [hd] at hso
  have hs : ∀ i j, i < j → j < ss.toArray.size → ¬ ss.toArray[j]! < ss.toArray[i]! := by
    intro i j hij hj
    have hj' : j < ss.length := by simpa using hj
    have h1 := List.pairwise_iff_getElem.1 hso i j (by omega) hj' hij
    rw [getElem!_pos ss.toArray j hj, getElem!_pos ss.toArray i (by omega)]
    simpa using h1
  have hp := comp_sorted ss.toArray hs ss.toArray.size (Nat.le_refl _)
  refine sorted_ext (sortedS_of ?_) (namesS_sorted _) fun x => ?_
  · unfold byB
    rw [List.pairwise_map]
    exact hp.imp fun {a b} h => by rw [ltS_mk]; simpa using h
  · rw [namesS_mem]
    have hx : x ∈ byB (Lib.compactUpTo ss.toArray ss.toArray.size) ↔ x.data.toList ∈ Lib.compactUpTo ss.toArray ss.toArray.size := by
      unfold byB
      rw [List.mem_map]
      constructor
      · rintro ⟨a, h, rfl⟩; exact h
      · intro h; exact ⟨_, h, rfl⟩
    rw [hx, comp_mem]
    have hy : x ∈ l ↔ x.data.toList ∈ ss := by
      rw [hperm.mem_iff]
      unfold lsB
      rw [List.mem_map]
      constructor
      · intro h; exact ⟨x, h, rfl⟩
      · rintro ⟨y, h, e⟩
        have : y = x := ba_ext e
        rw [← this]; exact h
    rw [hy]
    constructor
    · rintro ⟨j, hj, e⟩
      rw [e, getElem!_pos ss.toArray j hj]
      simp
    · intro h
      obtain ⟨j, hj, e⟩ := List.getElem_of_mem h
      refine ⟨j, by simpa using hj, ?_⟩
      rw [getElem!_pos ss.toArray j (by simpa using hj)]
      simp [e]
end Go.Proofs.YtgmbfiikkogenaaGreatDoor
