/- The fields that the laws make: Field, Fields, fields, name. Fields of the source; fields and name of the laws. fields, name and awake of the laws; Short. awake of the laws; the law FieldFormat. The law FieldValues. The plain mathematics of numerals: digits, their value with a limit, and that a numeral is read as its number. Contracts of the functions that read a number, of package number and of its reference. The contract of the law AsciiList. Frames of messages: what is said of them; the reference's frame, OfRequest, OfReply, Persistent. OfRequest, OfReply and Persistent of package framing, and what they call. Contracts of the reference's functions that write a number. Contracts of strconv.FormatInt at base 16, and of the functions of package number that write a number. The contracts of awake and of the laws of layer 2. What package hop does to fields: mathematics. The names that go, and Strip, in the project and in the reference. Joined strings, by the library and in the reference. -/
import Derived.Test.YtfghgenboahkkaaGreatDoorPq2
import Derived.Lib.ItoaMem
import Derived.Deep.RegionHeld3
import Derived.IntWalk
import Derived.Sort.Grow
import Derived.Lib.LaidTab
import Derived.LaidSub
import Derived.Shelf.Strings.OnBuilder
namespace Go.Proofs.YtfghgenboahkkaaGreatDoor
open Go.RowKit
def namesF : List ByteArray := [⟨#[88, 45, 65]⟩, ⟨#[120, 45, 97]⟩, ⟨#[88, 45, 66]⟩, ⟨#[65, 99, 99, 101, 112, 116]⟩, ⟨#[67, 111, 110, 110, 101, 99, 116, 105, 111, 110]⟩, ⟨#[86, 105, 97]⟩, ⟨#[67, 111, 111, 107, 105, 101]⟩, ⟨#[84, 69]⟩, ⟨#[75, 101, 101, 112, 45, 65, 108, 105, 118, 101]⟩, ⟨#[88, 45, 70, 111, 114, 119, 97, 114, 100, 101, 100, 45, 70, 111, 114]⟩, ⟨#[68, 97, 116, 101]⟩, ⟨#[69, 84, 97, 103]⟩, ⟨#[85, 112, 103, 114, 97, 100, 101]⟩, ⟨#[88, 45, 83, 104, 97, 100, 111, 119]⟩]
def valsF : List ByteArray := [⟨#[]⟩, ⟨#[49]⟩, ⟨#[97, 44, 32, 98]⟩, ⟨#[120, 45, 97]⟩, ⟨#[99, 108, 111, 115, 101]⟩, ⟨#[107, 101, 101, 112, 45, 97, 108, 105, 118, 101]⟩, ⟨#[88, 45, 66, 44, 32, 116, 101]⟩, ⟨#[99, 111, 104, 111, 114, 116, 61, 48, 49, 50, 51, 52, 53, 54, 55, 56, 57, 97, 98, 99, 100, 101, 102]⟩, ⟨#[107, 61, 118, 59, 32, 99, 111, 104, 111, 114, 116, 61, 48, 48, 48, 48, 48, 48, 48, 48, 48, 48, 48, 48, 48, 48, 102, 102]⟩, ⟨#[49, 46, 49, 32, 111, 116, 104, 101, 114]⟩, ⟨#[9, 63, 128, 59, 61]⟩]
theorem namesF_ok : (namesF.all fun s => tokS s && decide (s.size ≤ 1000)) = true := by decide +kernel
theorem valsF_ok : (valsF.all fun s => valS (trimBA s) && decide (s.size ≤ 1000)) = true := by decide +kernel
theorem strsIn_newF (w : World) (l : List ByteArray) (t : TypeId) : StrsIn (w.alloc (.cells (l.map Value.string).toArray t)) (some ⟨w.heap.size, 0, none⟩) l := fun j hj =>
 ⟨_, rfl, by rw [Addr.add_lit, Nat.zero_add, new_cellF]; simp [hj]⟩
theorem Src.low {w : World} {g : Nat} {a : Option Addr} {n c : Nat} (h : Src w g a n c) : ∀ x, a = some x → 0 < n → x.block < w.heap.size := fun x e h0 => by
 obtain ⟨y, z, e2, hc, _⟩ := h.2.2.1 0 h0
 rw [e] at e2
 obtain rfl := Option.some.inj e2
 have := lt_cell hc
 rw [add_blockF] at this; exact this
theorem Src.other {w w' : World} {g q : Nat} {a : Option Addr} {n c : Nat} (h : Src w g a n c) (hg : w.grownBy w' (some q)) (hq : g ≠ q) (hx : ∀ x, a = some x → 0 < n → x.block ≠ q) : Src w' g a n c :=
 h.grown hg (fun e => hq (Option.some.inj e)) (fun x e h0 e2 => hx x e h0 (Option.some.inj e2))
theorem grownBy_setRowF (w : World) (g : Nat) (cs : Array Value) : w.grownBy (w.setRow g cs) (some g) :=
 ⟨rfl, rfl, rfl, by simp [World.setRow], fun k _ hne => setRow_other w g k cs (fun e => hne (by rw [e]))⟩
theorem FVar.grown {w w' : World} {g : Nat} {n v : ByteArray} {row : Option Nat} (h : FVar w g n v) (hg : w.grownBy w' row) (hne : some g ≠ row) : FVar w' g n v := by
 have hlt := h.lt
 unfold FVar at *
 rw [hg.block g hlt hne]; exact h
theorem of_n (g b m : Nat) (l : List ByteArray) (cb : Nat) (a : Option Addr) (n c : Nat) (w : World) (h : Src w g a n c) (hl : StrsIn w (some ⟨b, 0, none⟩) l) (hb : b ≠ g) (hm : l.length = m) (h0 : 0 < m) (h1 : m ≤ 1000) :
  Calls Tryz.prog 33 #[.pointer (some ⟨g, 0, none⟩), .slice (some ⟨b, 0, none⟩) m cb] w fun e w' => ∃ s ∈ l, e = .returned (.string s) ∧ Src w' g a n c ∧ w.grownBy w' (some g) := by
 subst hm
 exact of_any g b l cb a n c w h hl hb h0 h1
def MadeF (f : Fld) : Prop := fldB f.1 f.2 = true ∧ f.1.size ≤ 1000 ∧ f.2.size ≤ 1000
theorem made_of {s v : ByteArray} (hs : s ∈ namesF) (hv : v ∈ valsF) : MadeF (s, trimBA v) := by
 have h1 := List.all_eq_true.1 namesF_ok s hs
 have h2 := List.all_eq_true.1 valsF_ok v hv
 simp only [Bool.and_eq_true, decide_eq_true_eq] at h1 h2
 exact ⟨by rw [fldB_val h1.1]; exact h2.1, h1.2, Nat.le_trans (trimBA_size v) h2.2⟩
def SrcF (f : Fld) : Prop := ∃ s ∈ namesF, ∃ v ∈ valsF, f = (s, trimBA v)
theorem SrcF.made {f : Fld} (h : SrcF f) : MadeF f := by
 obtain ⟨s, hs, v, hv, rfl⟩ := h
 exact made_of hs hv
set_option maxRecDepth 100000 in
set_option maxHeartbeats 2000000 in
theorem srcFieldS_any (g : Nat) (a : Option Addr) (n c : Nat) (w : World) (h : Src w g a n c) :
  Calls Tryz.prog 61 #[.pointer (some ⟨g, 0, none⟩)] w fun e w' => ∃ f, e = .returned (.agg #[.string f.1, .string f.2]) ∧ SrcF f ∧ Src w' g a n c ∧ w.grownBy w' (some g) := by
 have H0 := Box.mk h
 have HLOW := Box.mk h.low
 have hlt := h.lt
 clear h
 go_enter Tryz.func61, Tryz.ntmps61
 go_wp2_with fail
 obtain ⟨W, hW⟩ : ∃ W, W = (w.alloc (.cells #[.string ⟨#[]⟩, .string ⟨#[]⟩] 69)).alloc (.cells (namesF.map Value.string).toArray 9) := ⟨_, rfl⟩
 have HBW := Box.mk (show Below w.heap.size w W by rw [hW]; exact below_twoF (below_oneF w _) _)
 have HQ := Box.mk (show FVar W w.heap.size ⟨#[]⟩ ⟨#[]⟩ by rw [hW]; exact (FVar.new w ⟨#[]⟩ ⟨#[]⟩).keep (below_oneF _ _))
 have HL := Box.mk (show StrsIn W (some ⟨w.heap.size + 1, 0, none⟩) namesF by
  have h1 := strsIn_newF (w.alloc (.cells #[.string ⟨#[]⟩, .string ⟨#[]⟩] 69)) namesF 9
  rw [World.size_alloc] at h1
  rw [hW]; exact h1)
 have HS := Box.mk (H0.out.keep HBW.out)
 change Calls _ _ _ ((w.alloc (.cells #[.string ⟨#[]⟩, .string ⟨#[]⟩] 69)).alloc (.cells (namesF.map Value.string).toArray 9)) _
 rw [← hW]
 clear hW
 refine (of_n g (w.heap.size + 1) 14 namesF 14 a n c W HS.out HL.out (by omega) rfl (by decide) (by decide)).mono ?_
 rintro e w1 ⟨s, hs, rfl, hsrc, hg1⟩
 have HNM := Box.mk hs
 have HS1 := Box.mk hsrc
 have HG1 := Box.mk (show w.grownBy w1 (some g) from grownBy_trans (grownBy_below HBW.out) hg1)
 have HQ1 := Box.mk (HQ.out.grown hg1 (fun e => by have := Option.some.inj e; omega))
 clear hs hsrc hg1 HS HL HQ HBW H0
 go_wp2_with fail
 obtain ⟨W, hW⟩ : ∃ W, W = w1.alloc (.cells (valsF.map Value.string).toArray 9) := ⟨_, rfl⟩
 have HBW := Box.mk (show Below w1.heap.size w1 W by rw [hW]; exact below_oneF w1 _)
 have HL := Box.mk (show StrsIn W (some ⟨w1.heap.size, 0, none⟩) valsF by rw [hW]; exact strsIn_newF w1 valsF 9)
 have HS2 := Box.mk (HS1.out.keep HBW.out)
 have hlt1 := HS1.out.lt
 change Calls _ _ _ (w1.alloc (.cells (valsF.map Value.string).toArray 9)) _
 rw [← hW]
 clear hW
 refine (of_n g w1.heap.size 11 valsF 11 a n c W HS2.out HL.out (by omega) rfl (by decide) (by decide)).mono ?_
 rintro e w2 ⟨v, hv, rfl, hsrc, hg2⟩
 have HVL := Box.mk hv
 have HS3 := Box.mk hsrc
 have HG3 := Box.mk (show w.grownBy w2 (some g) from grownBy_trans HG1.out (grownBy_trans (grownBy_below HBW.out) hg2))
 have HQ3 := Box.mk ((HQ1.out.keep HBW.out).grown hg2 (fun e => by have := Option.some.inj e; omega))
 have HMD := Box.mk (show SrcF (s, trimBA v) from ⟨s, HNM.out, v, hv, rfl⟩)
 have HVZ := Box.mk (show v.size ≤ maxLen by
  have h2 := List.all_eq_true.1 valsF_ok v hv
  simp only [Bool.and_eq_true, decide_eq_true_eq] at h2
  unfold maxLen; omega)
 clear hv hsrc hg2 HS2 HL HQ1 HBW HS1 HG1 HNM HVL
 go_wp2_with fail
 refine (refTrim_any v _ HVZ.out).mono ?_
 rintro e w3 ⟨rfl, rfl⟩
 generalize trimBA v = v' at *
 go_wp2_with (refine wpList_store_row rfl 69 _ _ rfl w.heap.size #[.string s, .string v'] rfl rfl 69 _ HQ3.out sizeF rfl (oneF _ _) ?_)
 (try simp only [Exit.inBlock, Exit.then])
 refine bodyPost_ret (results_cell_row rfl _ _ w.heap.size _ _ _ _ rfl (setRow_heap _ _ _ _ _ _ HQ3.out) Tryz.underlying69 rfl sizeF) rfl ?_
 have hnew := grownBy_setRowF w2 w.heap.size #[.string s, .string v']
 exact ⟨(s, v'), rfl, HMD.out, HS3.out.other hnew (by omega) (fun x e h0 => by have := HLOW.out x e h0; omega), grownBy_new HG3.out hnew (fun i e => by have := Option.some.inj e; omega)⟩
def OwnF (B : Nat) (w : World) (v : Value) (l : List Fld) : Prop := w.ownsRow B 69 2 v l.length (cellsF l)
theorem OwnF.start (B : Nat) (w : World) : OwnF B w (.slice none 0 0) [] := World.ownsRow_nil _ _ _ _
theorem OwnF.lt {B : Nat} {w : World} {v : Value} {l : List Fld} (h : OwnF B w v l) {k : Nat} (hk : v.ownBlock = some k) : B ≤ k ∧ k < w.heap.size := World.ownsRow.lt h k hk
theorem OwnF.same {B : Nat} {w w' : World} {v : Value} {l : List Fld} (h : OwnF B w v l) (hs : ∀ k, v.ownBlock = some k → w'.heap[k]? = w.heap[k]?) : OwnF B w' v l := by
 obtain ⟨h1, h2⟩ := h
 refine ⟨h1, ?_⟩
 rcases h2 with h2 | ⟨g, cap, cur, hv, hg, hc, r⟩
 · exact .inl h2
 · exact .inr ⟨g, cap, cur, hv, hg, by rw [hs g (by rw [hv]; rfl)]; exact hc, r⟩
theorem OwnF.keep {B : Nat} {w w' : World} {v : Value} {l : List Fld} (h : OwnF B w v l) (hb : Below w.heap.size w w') : OwnF B w' v l :=
 h.same fun k hk => hb.block k (h.lt hk).2
theorem OwnF.grown {B : Nat} {w w' : World} {v : Value} {l : List Fld} {row : Option Nat} (h : OwnF B w v l) (hg : w.grownBy w' row) (hne : ∀ k, v.ownBlock = some k → some k ≠ row) : OwnF B w' v l :=
 h.same fun k hk => hg.block k (h.lt hk).2 (hne k hk)
theorem OwnF.shape {B : Nat} {w : World} {v : Value} {l : List Fld} (h : OwnF B w v l) : ∃ a cap, v = .slice a l.length cap ∧ FldsC w a l cap ∧ l.length ≤ cap := by
 obtain ⟨h1, h2⟩ := h
 rcases h2 with ⟨rfl, h2⟩ | ⟨g, cap, cur, rfl, hg, hc, hcap, hm, hsz, ht⟩
 · have : l = [] := List.eq_nil_of_length_eq_zero h2
   subst this
   exact ⟨none, 0, rfl, ⟨FldsIn.nil _ _, fun _ => ⟨rfl, rfl⟩⟩, Nat.le_refl _⟩
 · refine ⟨_, cap, rfl, ⟨FldsIn.of_cells fun j u hj => ?_, fun e => by cases e⟩, hcap⟩
   have e := congrArg (fun x => x[j]?) ht
   have hlt : j < l.length * 2 := by rw [← cellsF_len]; exact (List.getElem?_eq_some_iff.1 hj).1
   rw [hj, List.getElem?_take_of_lt hlt] at e
   rw [Addr.add_lit]
   simp only [World.cell?, hc, Nat.zero_add]
   simpa using e
section
variable {ops : Array Oper} {rest : List Oper} {o : Oper} {act : Act} {Q : Exit → Act → World → Prop}
theorem wpList_append_ownf (w : World) (hgd : o.guard = none) (s x : Operand) (ho : o.op = .call { callee := .builtin .append, args := #[s, x], argTypes := #[23, 23] })
  {B : Nat} {v : Value} {l : List Fld} (hs : act.eval s = v) (h : OwnF B w v l) {b c : Nat} (hx : act.eval x = .slice (some ⟨b, 0, none⟩) 1 c) {y : Fld} (hy : w.cell? ⟨b, 0, none⟩ = some (.string y.1)) (hy2 : w.cell? ⟨b, 1, none⟩ = some (.string y.2))
  (hn : l.length + 1 ≤ 4398046511104) (hB : B ≤ w.heap.size)
  (K : ∀ v' w', OwnF B w' v' (l ++ [y]) → w.grownBy w' v.ownBlock → wpList Tryz.prog ops Q rest (act.put o.dst v') w') : wpList Tryz.prog ops Q (o :: rest) act w := by
 obtain ⟨i0, hi, hz0, hz1, hz2⟩ := info_parts Tryz.info69
 refine wpList_append_lies w hgd s x 23 ho B 69 i0 _ 2 32 Tryz.underlying23 hi hz0 hz1 hz2 rfl (by decide) v l.length (cellsF l) hs h ⟨b, 0, none⟩ 1 c [.string y.1, .string y.2] hx rfl ?_ ?_ (by decide) (by unfold maxLen; omega) (by omega) hB w.heap.size rfl ?_
 · intro j u hj
   match j, hj with
   | 0, hj => simp at hj; subst hj; rw [Addr.add_lit]; exact hy
   | 1, hj => simp at hj; subst hj; rw [Addr.add_lit]; exact hy2
   | j + 2, hj => simp at hj
 · intro u hu; simp at hu; rcases hu with rfl | rfl <;> rfl
 · intro g cap w' hown hgrow hg hlt
   refine K _ w' ?_ hgrow
   unfold OwnF
   rw [List.length_append, cellsF_app]; exact hown
end
set_option maxRecDepth 100000 in
set_option maxHeartbeats 2000000 in
theorem srcFieldsS_any (g m : Nat) (a : Option Addr) (n c : Nat) (w : World) (h : Src w g a n c) (hm : m ≤ 1000) :
  Calls Tryz.prog 31 #[.pointer (some ⟨g, 0, none⟩), .int .i64 m] w fun e w' => ∃ v l, e = .returned v ∧ OwnF w.heap.size w' v l ∧ l.length ≤ m ∧ (∀ f ∈ l, SrcF f) ∧ Src w' g a n c ∧ w.grownBy w' (some g) := by
 have H0 := Box.mk h
 have HLOW := Box.mk h.low
 have hlt := h.lt
 clear h
 go_enter Tryz.func31, Tryz.ntmps31
 go_wp2_with fail
 refine (next_any g (m + 1) a n c w H0.out (by omega) (by omega)).mono ?_
 rintro e w1 ⟨k, hk, rfl, hsrc, hg1⟩
 have HS1 := Box.mk hsrc
 have HG1 := Box.mk hg1
 clear hsrc hg1 H0
 go_wp2_with fail
 go_loopw [5, 6] (fun v iv wr => ∃ j : Nat, j ≤ m ∧ iv = .int .i64 j ∧ ∃ l : List Fld, l.length + j ≤ m ∧ Box (OwnF w.heap.size wr v l ∧ (∀ f ∈ l, SrcF f) ∧ Src wr g a n c ∧ w.grownBy wr (some g))) (fun _ iv _ => (intOf iv).toNat)
 case atStart => exact ⟨k, by omega, rfl, [], by simp; omega, ⟨OwnF.start _ _, by simp, HS1.out, HG1.out⟩⟩
 case round =>
  clear HS1 HG1
  obtain ⟨j, hj, rfl, l, hl, HM⟩ := hrel
  by_cases hpos : 0 < j
  · go_wp2_with fail
    refine (srcFieldS_any g a n c wr HM.out.2.2.1).mono ?_
    rintro e w2 ⟨f, rfl, hmd, hsrc, hg2⟩
    have HO2 := Box.mk (HM.out.1.grown hg2 (fun q e e2 => by have := (HM.out.1.lt e).1; have := Option.some.inj e2; omega))
    have HS2 := Box.mk hsrc
    have HG2 := Box.mk (grownBy_trans HM.out.2.2.2 hg2)
    have HALL := Box.mk (show ∀ y ∈ l ++ [f], SrcF y from fun y hy => by
     rcases List.mem_append.1 hy with h1 | h1
     · exact HM.out.2.1 y h1
     · simp at h1; rw [h1]; exact hmd)
    have hsz := HG2.out.size
    clear hmd hsrc hg2 HM
    go_wp2_with (at_builtin; refine wpList_append_ownf _ rfl _ _ rfl rfl (HO2.out.keep ((Below.refl _ _).alloc (Nat.le_refl _) _)) rfl (y := f) ?c1 ?c2 (by omega) (by simp; omega) ?c3)
    case c1 => simp
    case c2 => simp
    case c3 =>
     intro v' w3 hown hgrow
     have HO3 := Box.mk hown
     have hgrow2 : w2.grownBy w3 u5.ownBlock := ⟨hgrow.os, hgrow.tape, hgrow.output, Nat.le_trans (by simp) hgrow.size, fun k hk hne => by
      rw [hgrow.block k (by simp; omega) hne]
      exact (below_oneF w2 _).block k hk⟩
     have HS3 := Box.mk (HS2.out.grown hgrow2 (fun e => by have := (HO2.out.lt e.symm).1; omega) (fun x e h0 e2 => by have := (HO2.out.lt e2.symm).1; have := HLOW.out x e h0; omega))
     have HG3 := Box.mk (grownBy_new HG2.out hgrow2 (fun i e => (HO2.out.lt e).1))
     clear hown hgrow hgrow2 HO2 HS2 HG2
     go_wp2_with fail
     go_roundw
     case rel => exact ⟨j - 1, by omega, by go_num, l ++ [f], by simp; omega, ⟨HO3.out, HALL.out, HS3.out, HG3.out⟩⟩
     case measure => simp [intOf]; omega
  · obtain rfl : j = 0 := by omega
    go_wp2_with fail
    go_ret
    exact ⟨_, l, rfl, HM.out.1, by omega, HM.out.2.1, HM.out.2.2.1, HM.out.2.2.2⟩
end Go.Proofs.YtfghgenboahkkaaGreatDoor
namespace Go.Proofs.YtfghgenboahkkaaGreatDoor
open Go.RowKit
theorem IntsF.alloc {w : World} {a : Option Addr} {n : Nat} (h : IntsF w a n) (o : Obj) : IntsF (w.alloc o) a n := h.keep (below_oneF w o)
theorem src_box {w : World} {a : Option Addr} {n c : Nat} (h : IntsF w a n) (hn : n ≤ maxLen) : Src (w.alloc (.cells #[.slice a n c, .int .i64 0] 34)) w.heap.size a n c := by
 refine ⟨⟨0, Nat.zero_le _, heap_alloc_new _ _⟩, hn, h.alloc _, fun x e h0 => ?_⟩
 obtain ⟨y, z, e2, hc, _⟩ := h 0 h0
 rw [e] at e2
 obtain rfl := Option.some.inj e2
 have := lt_cell hc
 rw [add_blockF] at this
 omega
theorem below_box {w w1 w2 : World} (h : Below w.heap.size w w1) (hg : w1.grownBy w2 (some w.heap.size)) : Below w.heap.size w w2 :=
 h.grown hg h.size fun k e => by have := Option.some.inj e; omega
theorem fldsIn_one (w : World) (n v : ByteArray) : FldsIn (w.alloc (.cells #[.string n, .string v] 69)) (some ⟨w.heap.size, 0, none⟩) [(n, v)] := fun j hj => by
 obtain rfl : j = 0 := by simpa using hj
 exact ⟨_, rfl, by rw [Addr.add_lit, new_cellF]; rfl, by rw [Addr.add_lit, new_cellF]; rfl⟩
theorem SmallF.short {l : List Fld} (h : SmallF l) : ShortF l := fun f hf => ⟨le_maxLen (h f hf).1, le_maxLen (h f hf).2⟩
theorem sameS_selfF (x : List ByteArray) : sameS x x = true := by unfold sameS; simp
theorem sameT_true (x : List ByteArray) (a b : Option Addr) (ca cb : Nat) (w : World) (hx : StrsAt w a x) (hy : StrsAt w b x) (h : x.length ≤ 8796093022208) :
  Calls Tryz.prog 19 #[.slice a x.length ca, .slice b x.length cb] w fun e w' => e = .returned (.bool true) ∧ Below w.heap.size w w' := by
 refine (same_any x x a b ca cb w hx hy h h).mono ?_
 rintro e w' ⟨rfl, hb⟩
 exact ⟨by rw [sameS_selfF], hb⟩
theorem total_values {x : List Fld} (h : SmallF x) (n : ByteArray) : total (valuesL x n) ≤ x.length * 1048577 := by
 unfold valuesL
 induction x with
 | nil => exact Nat.zero_le _
 | cons f t ih =>
  have h1 := ih (fun g hg => h g (List.mem_cons_of_mem _ hg))
  have h2 := (h f (List.mem_cons_self ..)).2
  clear h ih
  rw [List.filter_cons, List.length_cons, Nat.add_mul, Nat.one_mul]
  split
  · simp only [List.map_cons, total]
    exact Nat.le_trans (Nat.add_le_add (Nat.add_le_add_right h2 1) h1) (Nat.le_of_eq (Nat.add_comm _ _))
  · exact Nat.le_trans h1 (Nat.le_add_right _ _)
section
variable {Q : Exit → Act → World → Prop} {a : Act} {w : World} {o : Oper} {s : Spec}
end
end Go.Proofs.YtfghgenboahkkaaGreatDoor
namespace Go.Proofs.YtfghgenboahkkaaGreatDoor
open Go.RowKit
def dv (c : Int) : Int := if 48 ≤ c ∧ c ≤ 57 then c - 48 else if 97 ≤ c ∧ c ≤ 102 then c - 87 else if 65 ≤ c ∧ c ≤ 70 then c - 55 else 16
theorem dv_bd (c : Int) : 0 ≤ dv c ∧ dv c ≤ 16 := by unfold dv; (repeat' split) <;> omega
def numB (b : Int) (c : UInt8) : Bool := decide (dv c.toNat < b)
def numS (b : Int) (s : ByteArray) : Bool := s.data.toList.all (numB b) && !s.data.toList.isEmpty
def pgo (b most : Int) : Int → List UInt8 → Int × Int
 | acc, [] => (acc, 0)
 | acc, c :: r => if dv c.toNat > most ∨ acc > (most - dv c.toNat) / b then (0, 3) else pgo b most (acc * b + dv c.toNat) r
def parseS (b most : Int) (s : ByteArray) : Int × Int := if numS b s then pgo b most 0 s.data.toList else (0, 2)
theorem pgo_no {b most acc : Int} {c : UInt8} {r : List UInt8} (h : dv c.toNat > most ∨ acc > (most - dv c.toNat) / b) : pgo b most acc (c :: r) = (0, 3) := by rw [pgo, if_pos h]
theorem pgo_go {b most acc : Int} {c : UInt8} {r : List UInt8} (h1 : dv c.toNat ≤ most) (h2 : acc ≤ (most - dv c.toNat) / b) : pgo b most acc (c :: r) = pgo b most (acc * b + dv c.toNat) r := by rw [pgo, if_neg (by omega)]
theorem drop_cons (s : ByteArray) (k : Nat) (h : k < s.size) : s.data.toList.drop k = s[k] :: s.data.toList.drop (k + 1) := by
 rw [List.drop_eq_getElem_cons (by simpa using h)]; rfl
def vgo (b : Int) : Int → List UInt8 → Int
 | acc, [] => acc
 | acc, c :: r => vgo b (acc * b + dv c.toNat) r
theorem vgo_append (b : Int) : ∀ (l r : List UInt8) (acc : Int), vgo b acc (l ++ r) = vgo b (vgo b acc l) r
 | [], r, acc => rfl
 | c :: l, r, acc => by simp only [List.cons_append, vgo]; exact vgo_append b l r _
theorem mul_ge (b acc : Int) (hb : 1 ≤ b) (ha : 0 ≤ acc) : acc ≤ acc * b := by
 have := Int.mul_le_mul_of_nonneg_left hb ha; omega
theorem vgo_ge (b : Int) (hb : 1 ≤ b) : ∀ (l : List UInt8) (acc : Int), 0 ≤ acc → acc ≤ vgo b acc l
 | [], acc, _ => Int.le_refl _
 | c :: l, acc, ha => by
  have h1 := mul_ge b acc hb ha
  have h2 := dv_bd c.toNat
  have h3 := vgo_ge b hb l (acc * b + dv c.toNat) (by omega)
  rw [vgo]; omega
theorem pgo_eq (b most : Int) (hb : 1 ≤ b) : ∀ (l : List UInt8) (acc : Int), 0 ≤ acc → (acc ≤ most ∨ l ≠ []) → pgo b most acc l = if vgo b acc l ≤ most then (vgo b acc l, 0) else (0, 3)
 | [], acc, ha, h => by
  rcases h with h | h
  · rw [pgo, vgo, if_pos h]
  · exact absurd rfl h
 | c :: l, acc, ha, _ => by
  have h1 := mul_ge b acc hb ha
  have h2 := dv_bd c.toNat
  have hge := vgo_ge b hb l (acc * b + dv c.toNat) (by omega)
  have hiff : acc ≤ (most - dv c.toNat) / b ↔ acc * b ≤ most - dv c.toNat := Int.le_ediv_iff_mul_le (by omega)
  rw [pgo, vgo]
  by_cases h : dv c.toNat > most ∨ acc > (most - dv c.toNat) / b
  · rw [if_pos h, if_neg]
    rcases h with h | h
    · omega
    · have : ¬ acc * b ≤ most - dv c.toNat := fun hh => by have := hiff.2 hh; omega
      omega
  · have hm : acc * b ≤ most - dv c.toNat := hiff.1 (by omega)
    rw [if_neg h]
    exact pgo_eq b most hb l _ (by omega) (.inl (by omega))
def dgc (d : Nat) : UInt8 := if d < 10 then UInt8.ofNat (48 + d) else UInt8.ofNat (87 + d)
theorem dgc_toNat {d : Nat} (h : d < 16) : (dgc d).toNat = if d < 10 then 48 + d else 87 + d := by
 unfold dgc; split
 · rw [UInt8.toNat_ofNat']; omega
 · rw [UInt8.toNat_ofNat']; omega
theorem dv_dgc {d : Nat} (h : d < 16) : dv (dgc d).toNat = d := by
 rw [dgc_toNat h]; unfold dv; by_cases h10 : d < 10
 · rw [if_pos h10, if_pos (by omega)]; omega
 · rw [if_neg h10, if_neg (by omega), if_pos (by omega)]; omega
def digsF (b : Nat) : Nat → Nat → List UInt8
 | 0, n => [dgc (n % b)]
 | f + 1, n => if n < b then [dgc n] else digsF b f (n / b) ++ [dgc (n % b)]
def digs (b n : Nat) : List UInt8 := digsF b n n
theorem digsF_fuel (b : Nat) (hb : 2 ≤ b) : ∀ (f n : Nat), n ≤ f → digsF b f n = digsF b n n
  | 0, n, h => by obtain rfl : n = 0 := by omega
                  rfl
  | f + 1, n, h => by
    match n with
    | 0 => simp [digsF, show 0 < b by omega]
    | n + 1 =>
      have hd : (n + 1) / b ≤ n := by
        have : (n + 1) / b < n + 1 := Nat.div_lt_self (by omega) (by omega)
        omega
      simp only [digsF]
      rw [digsF_fuel b hb f _ (by omega), digsF_fuel b hb n _ hd]
theorem digs_small {b n : Nat} (h : n < b) : digs b n = [dgc n] := by
 unfold digs
 match n with
 | 0 => rw [digsF, Nat.zero_mod]
 | n + 1 => rw [digsF, if_pos h]
theorem digs_big {b n : Nat} (hb : 2 ≤ b) (h : ¬ n < b) : digs b n = digs b (n / b) ++ [dgc (n % b)] := by
 unfold digs
 match n with
 | 0 => omega
 | n + 1 =>
  have hd : (n + 1) / b ≤ n := by
   have : (n + 1) / b < n + 1 := Nat.div_lt_self (by omega) (by omega)
   omega
  rw [digsF, if_neg h, digsF_fuel b hb n _ hd]
theorem digs_ne (b n : Nat) : digs b n ≠ [] := by
 unfold digs
 match n with
 | 0 => simp [digsF]
 | n + 1 => rw [digsF]; split <;> simp
theorem digs_dec (n : Nat) : digs 10 n = Lib.decDigits n := by
 induction n using Nat.strongRecOn with
 | _ n ih =>
  by_cases h : n < 10
  · rw [digs_small h, Lib.decDigits, dif_pos h]; unfold dgc; rw [if_pos h]
  · rw [digs_big (by omega) h, Lib.decDigits, dif_neg h, ih _ (by omega)]
    congr 1; unfold dgc; rw [if_pos (by omega)]
theorem digs_num {b : Nat} (hb : 2 ≤ b) (hb16 : b ≤ 16) (n : Nat) : (digs b n).all (numB b) = true := by
 induction n using Nat.strongRecOn with
 | _ n ih =>
  have hd : ∀ d, d < b → numB b (dgc d) = true := fun d h => by
   unfold numB; rw [dv_dgc (by omega)]; simpa using h
  by_cases h : n < b
  · rw [digs_small h]; simpa using hd n h
  · rw [digs_big hb h, List.all_append, ih _ (Nat.div_lt_self (by omega) (by omega))]
    simpa using hd (n % b) (Nat.mod_lt _ (by omega))
theorem digs_val {b : Nat} (hb : 2 ≤ b) (hb16 : b ≤ 16) (n : Nat) : vgo b 0 (digs b n) = n := by
 induction n using Nat.strongRecOn with
 | _ n ih =>
  by_cases h : n < b
  · rw [digs_small h, vgo, vgo, dv_dgc (by omega)]; omega
  · rw [digs_big hb h, vgo_append, ih _ (Nat.div_lt_self (by omega) (by omega)), vgo, vgo, dv_dgc (by have := Nat.mod_lt n (show 0 < b by omega); omega)]
    have := Nat.div_add_mod n b
    rw [Nat.mul_comm] at this
    exact_mod_cast this
def numeral (b n : Nat) : ByteArray := ⟨(digs b n).toArray⟩
theorem parse_numeral {b : Nat} (hb : 2 ≤ b) (hb16 : b ≤ 16) (n : Nat) (most : Int) : parseS b most (numeral b n) = if (n : Int) ≤ most then ((n : Int), 0) else (0, 3) := by
 have hn : numS b (numeral b n) = true := by
  unfold numS numeral
  rw [digs_num hb hb16 n]
  simpa using digs_ne b n
 unfold parseS
 rw [if_pos hn]
 show pgo b most 0 (digs b n) = _
 rw [pgo_eq b most (by omega) _ 0 (Int.le_refl _) (.inr (digs_ne b n)), digs_val hb hb16]
theorem parse_empty (b most : Int) : parseS b most ⟨#[]⟩ = (0, 2) := by
 unfold parseS numS; simp
theorem ret_pair {k : IntKind} {a b : Int} {p : Int × Int} (h : p = (a, b)) : Ending.returned (.tuple #[.int .i64 a, .int k b]) = .returned (.tuple #[.int .i64 p.1, .int k p.2]) := by rw [h]
set_option maxHeartbeats 400000 in
theorem numDigit_any (c : Int) (w : World) (h0 : 0 ≤ c) (h1 : c ≤ 255) :
  Calls Tryz.prog 165 #[.int .u8 c] w fun e w' => e = .returned (.int .i64 (dv c)) ∧ w = w' := by
 go_enter Tryz.func165, Tryz.ntmps165
 go_wp2
 all_goals go_ret
 all_goals exact ⟨ret_int (by unfold dv; (repeat' split) <;> omega), rfl⟩
theorem numS_no {b : Int} {s : ByteArray} {k : Nat} (hlt : k < s.size) (hc : numB b s[k] = false) : numS b s = false := by
 unfold numS
 have : s.data.toList.all (numB b) = false := by
  rw [Bool.eq_false_iff]; intro h
  have := List.all_eq_true.1 h _ (mem_at s k hlt); rw [hc] at this; cases this
 rw [this]; rfl
theorem numS_yes {b : Int} {s : ByteArray} {k : Nat} (hk : k ≤ s.size) (hlt : ¬ k < s.size) (h : (s.data.toList.take k).all (numB b) = true) : numS b s = !s.data.toList.isEmpty := by
 rw [take_all s k hk hlt] at h; unfold numS; rw [h]; rfl
set_option maxHeartbeats 400000 in
theorem isNumeral_any (s : ByteArray) (b : Int) (w : World) (hs : s.size ≤ maxLen) :
  Calls Tryz.prog 164 #[.string s, .int .i64 b] w fun e w' => e = .returned (.bool (numS b s)) ∧ w = w' := by
 unfold maxLen at hs
 go_enter Tryz.func164, Tryz.ntmps164
 go_wp2
 go_loop [8] (fun i => ∃ k : Nat, k ≤ s.size ∧ i = .int .i64 k ∧ Hid ((s.data.toList.take k).all (numB b) = true)) (fun i => s.size - (intOf i).toNat)
 case atStart => exact ⟨0, Nat.zero_le _, rfl, Lib.hid (by simp)⟩
 case round =>
  obtain ⟨k, hk, rfl, HP⟩ := hrel
  by_cases hlt : k < s.size
  · have b1 : (s[k].toNat : Int) ≤ 255 := by have := s[k].toNat_lt; omega
    by_cases hc : b ≤ dv s[k].toNat
    · go_wp2_with (go_at_call 165; refine (numDigit_any _ _ (by omega) (by omega)).mono ?_; rintro e w' ⟨rfl, rfl⟩)
      go_ret
      exact ⟨ret_bool (numS_no hlt (by unfold numB; simpa using hc)).symm, rfl⟩
    · go_wp2_with (go_at_call 165; refine (numDigit_any _ _ (by omega) (by omega)).mono ?_; rintro e w' ⟨rfl, rfl⟩)
      go_round
      case rel => exact ⟨k + 1, by omega, by go_num, Lib.hid (by rw [take_snoc s k hlt, List.all_append, HP.out]; unfold numB; simpa using hc)⟩
      case measure => simp [intOf]; omega
  · go_wp2
    go_ret
    exact ⟨ret_bool (by rw [numS_yes hk hlt HP.out]; simp [toList_isEmpty]), rfl⟩
set_option maxHeartbeats 1000000 in
theorem numParse_yes10 (s : ByteArray) (most : Int) (w : World) (hs : s.size ≤ maxLen) (hn : numS 10 s = true) (hm0 : -9223372036854775808 ≤ most) (hm1 : most ≤ 9223372036854775807) :
  Calls Tryz.prog 135 #[.string s, .int .i64 10, .int .i64 most] w fun e w' => e = .returned (.tuple #[.int .i64 (parseS 10 most s).1, .int .i64 (parseS 10 most s).2]) ∧ w = w' := by
 unfold maxLen at hs
 have hp : parseS 10 most s = pgo 10 most 0 s.data.toList := by unfold parseS; rw [if_pos hn]
 have HP := Lib.hid hp
 clear hp
 go_enter Tryz.func135, Tryz.ntmps135
 go_wp2_with (go_at_call 164; refine (isNumeral_any _ _ _ (by unfold maxLen; omega)).mono ?_; rintro e w' ⟨rfl, rfl⟩)
 go_loop [8, 17] (fun n i => ∃ (k : Nat) (acc : Int), k ≤ s.size ∧ i = .int .i64 k ∧ n = .int .i64 acc ∧ 0 ≤ acc ∧ acc ≤ 9223372036854775807 ∧ Hid (parseS 10 most s = pgo 10 most acc (s.data.toList.drop k))) (fun _ i => s.size - (intOf i).toNat)
 case atStart => exact ⟨0, 0, Nat.zero_le _, rfl, rfl, by omega, by omega, Lib.hid (by rw [HP.out]; rfl)⟩
 case round =>
  obtain ⟨k, acc, hk, rfl, rfl, ha0, ha1, HG⟩ := hrel
  by_cases hlt : k < s.size
  · have b1 : (s[k].toNat : Int) ≤ 255 := by have := s[k].toNat_lt; omega
    have b2 := dv_bd s[k].toNat
    obtain ⟨b20, b21⟩ := b2
    by_cases hd : dv s[k].toNat ≤ most
    · by_cases hq : acc ≤ (most - dv s[k].toNat) / 10
      · go_wp2_with (go_at_call 165; refine (numDigit_any _ _ (by omega) (by omega)).mono ?_; rintro e w' ⟨rfl, rfl⟩)
        go_round
        case rel => exact ⟨k + 1, _, by omega, by go_num, rfl, by omega, by omega, Lib.hid (by rw [HG.out, drop_cons s k hlt, pgo_go hd hq])⟩
        case measure => simp [intOf]; omega
      · go_wp2_with (go_at_call 165; refine (numDigit_any _ _ (by omega) (by omega)).mono ?_; rintro e w' ⟨rfl, rfl⟩)
        go_ret2
        exact ⟨ret_pair (by rw [HG.out, drop_cons s k hlt, pgo_no (.inr (by omega))]), rfl⟩
    · go_wp2_with (go_at_call 165; refine (numDigit_any _ _ (by omega) (by omega)).mono ?_; rintro e w' ⟨rfl, rfl⟩)
      go_ret2
      exact ⟨ret_pair (by rw [HG.out, drop_cons s k hlt, pgo_no (.inl (by omega))]), rfl⟩
  · go_wp2
    go_ret2
    exact ⟨ret_pair (by rw [HG.out, List.drop_of_length_le (by simp; omega)]; rfl), rfl⟩
set_option maxHeartbeats 1000000 in
theorem numParse_yes16 (s : ByteArray) (most : Int) (w : World) (hs : s.size ≤ maxLen) (hn : numS 16 s = true) (hm0 : -9223372036854775808 ≤ most) (hm1 : most ≤ 9223372036854775807) :
  Calls Tryz.prog 135 #[.string s, .int .i64 16, .int .i64 most] w fun e w' => e = .returned (.tuple #[.int .i64 (parseS 16 most s).1, .int .i64 (parseS 16 most s).2]) ∧ w = w' := by
 unfold maxLen at hs
 have hp : parseS 16 most s = pgo 16 most 0 s.data.toList := by unfold parseS; rw [if_pos hn]
 have HP := Lib.hid hp
 clear hp
 go_enter Tryz.func135, Tryz.ntmps135
 go_wp2_with (go_at_call 164; refine (isNumeral_any _ _ _ (by unfold maxLen; omega)).mono ?_; rintro e w' ⟨rfl, rfl⟩)
 go_loop [8, 17] (fun n i => ∃ (k : Nat) (acc : Int), k ≤ s.size ∧ i = .int .i64 k ∧ n = .int .i64 acc ∧ 0 ≤ acc ∧ acc ≤ 9223372036854775807 ∧ Hid (parseS 16 most s = pgo 16 most acc (s.data.toList.drop k))) (fun _ i => s.size - (intOf i).toNat)
 case atStart => exact ⟨0, 0, Nat.zero_le _, rfl, rfl, by omega, by omega, Lib.hid (by rw [HP.out]; rfl)⟩
 case round =>
  obtain ⟨k, acc, hk, rfl, rfl, ha0, ha1, HG⟩ := hrel
  by_cases hlt : k < s.size
  · have b1 : (s[k].toNat : Int) ≤ 255 := by have := s[k].toNat_lt; omega
    have b2 := dv_bd s[k].toNat
    obtain ⟨b20, b21⟩ := b2
    by_cases hd : dv s[k].toNat ≤ most
    · by_cases hq : acc ≤ (most - dv s[k].toNat) / 16
      · go_wp2_with (go_at_call 165; refine (numDigit_any _ _ (by omega) (by omega)).mono ?_; rintro e w' ⟨rfl, rfl⟩)
        go_round
        case rel => exact ⟨k + 1, _, by omega, by go_num, rfl, by omega, by omega, Lib.hid (by rw [HG.out, drop_cons s k hlt, pgo_go hd hq])⟩
        case measure => simp [intOf]; omega
      · go_wp2_with (go_at_call 165; refine (numDigit_any _ _ (by omega) (by omega)).mono ?_; rintro e w' ⟨rfl, rfl⟩)
        go_ret2
        exact ⟨ret_pair (by rw [HG.out, drop_cons s k hlt, pgo_no (.inr (by omega))]), rfl⟩
    · go_wp2_with (go_at_call 165; refine (numDigit_any _ _ (by omega) (by omega)).mono ?_; rintro e w' ⟨rfl, rfl⟩)
      go_ret2
      exact ⟨ret_pair (by rw [HG.out, drop_cons s k hlt, pgo_no (.inl (by omega))]), rfl⟩
  · go_wp2
    go_ret2
    exact ⟨ret_pair (by rw [HG.out, List.drop_of_length_le (by simp; omega)]; rfl), rfl⟩
set_option maxHeartbeats 1000000 in
theorem numParse_any (s : ByteArray) (b most : Int) (w : World) (hs : s.size ≤ maxLen) (hb : b = 10 ∨ b = 16) (hm0 : -9223372036854775808 ≤ most) (hm1 : most ≤ 9223372036854775807) :
  Calls Tryz.prog 135 #[.string s, .int .i64 b, .int .i64 most] w fun e w' => e = .returned (.tuple #[.int .i64 (parseS b most s).1, .int .i64 (parseS b most s).2]) ∧ w = w' := by
 by_cases hn : numS b s = true
 · rcases hb with rfl | rfl
   · exact numParse_yes10 s most w hs hn hm0 hm1
   · exact numParse_yes16 s most w hs hn hm0 hm1
 · unfold maxLen at hs
   have hn' : numS b s = false := by simpa using hn
   clear hn
   have hp : parseS b most s = (0, 2) := by unfold parseS; rw [hn']; rfl
   have HP := Lib.hid hp
   clear hp
   go_enter Tryz.func135, Tryz.ntmps135
   go_wp2_with (go_at_call 164; refine (isNumeral_any _ _ _ (by unfold maxLen; omega)).mono ?_; rintro e w' ⟨rfl, rfl⟩)
   go_ret2
   exact ⟨ret_pair HP.out, rfl⟩
theorem parseDecimal_any (s : ByteArray) (most : Int) (w : World) (hs : s.size ≤ maxLen) (hm0 : -9223372036854775808 ≤ most) (hm1 : most ≤ 9223372036854775807) :
  Calls Tryz.prog 107 #[.string s, .int .i64 most] w fun e w' => e = .returned (.tuple #[.int .i64 (parseS 10 most s).1, .int .i64 (parseS 10 most s).2]) ∧ w = w' := by
 go_enter Tryz.func107, Tryz.ntmps107
 go_wp2_with (go_at_call 135; refine (numParse_any _ _ _ _ hs (by omega) hm0 hm1).mono ?_; rintro e w' ⟨rfl, rfl⟩)
 go_ret2
 exact ⟨rfl, rfl⟩
theorem splitL_total (c : UInt8) : ∀ l : List UInt8, ((splitL c l).map (fun p => p.length + 1)).sum = l.length + 1
 | [] => rfl
 | b :: t => by
  have ih := splitL_total c t
  rw [splitL]; split
  · simp; omega
  · cases h : splitL c t with
    | nil => exact absurd h (splitL_ne c t)
    | cons q r => rw [h] at ih; simp [front] at ih ⊢; omega
theorem total_map (L : List (List UInt8)) : total (L.map ofL) = (L.map (fun p => p.length + 1)).sum := by
 induction L with
 | nil => rfl
 | cons a t ih =>
  have e : (ofL a).size = a.length := by show (ofL a).data.size = _; simp [ofL]
  simp only [List.map_cons, total, List.sum_cons, ih, e]
theorem total_elemsOf (l : List ByteArray) : total (elemsOf l) ≤ total l := by
 unfold elemsOf
 induction l with
 | nil => exact Nat.le_refl _
 | cons a t ih =>
  have h := trimBA_size a
  simp only [List.map_cons, List.filter_cons]
  split <;> simp only [total] <;> omega
theorem total_append (a b : List ByteArray) : total (a ++ b) = total a + total b := by
 induction a with
 | nil => simp [total]
 | cons x t ih => simp only [List.cons_append, total, ih]; omega
theorem total_elemL (a : ByteArray) : total (elemL a) ≤ a.size + 1 := by
 have h1 := total_elemsOf (splitS 44 a)
 have h2 : total (splitS 44 a) = a.size + 1 := by
  unfold splitS; rw [total_map, splitL_total]; simp
 unfold elemL; omega
theorem total_listL : ∀ l : List ByteArray, total (listL l) ≤ total l
 | [] => Nat.le_refl _
 | a :: t => by
  have h1 := total_listL t
  have h2 := total_elemL a
  have e : listL (a :: t) = elemL a ++ listL t := by unfold listL; rw [List.flatMap_cons]
  rw [e, total_append]; simp only [total]; omega
section
variable (w : World) (m : Int)
end
end Go.Proofs.YtfghgenboahkkaaGreatDoor
namespace Go.Proofs.YtfghgenboahkkaaGreatDoor
open Go.RowKit
def clN : ByteArray := ⟨#[99, 111, 110, 116, 101, 110, 116, 45, 108, 101, 110, 103, 116, 104]⟩
def teN : ByteArray := ⟨#[116, 114, 97, 110, 115, 102, 101, 114, 45, 101, 110, 99, 111, 100, 105, 110, 103]⟩
def cnN : ByteArray := ⟨#[99, 111, 110, 110, 101, 99, 116, 105, 111, 110]⟩
def chunkedN : ByteArray := ⟨#[99, 104, 117, 110, 107, 101, 100]⟩
def chunkedB (x : List ByteArray) : Bool := match x with | [y] => foldS y chunkedN | _ => false
def frameS (v : Int) (l : List Fld) (k0 : Int) : Int × Int × Int :=
 if hasL l teN = true then
  (if v = 0 ∨ 0 < (valuesL l clN).length ∨ chunkedB (listL (valuesL l teN)) = false then (0, 0, 5) else (3, 0, 0))
 else match valuesL l clN with
  | [] => (k0, 0, 0)
  | y :: r => if 0 < r.length ∨ (parseS 10 1000000000 y).2 = 2 then (0, 0, 5) else if (parseS 10 1000000000 y).2 = 0 then (2, (parseS 10 1000000000 y).1, 0) else (0, 0, (parseS 10 1000000000 y).2)
def frameV (f : Int × Int × Int) : Value := .tuple #[.agg #[.int .i64 f.1, .int .i64 f.2.1], .int .i64 f.2.2]
theorem frameS_te {v : Int} {l : List Fld} {k0 : Int} (h : hasL l teN = true) : frameS v l k0 = if v = 0 ∨ 0 < (valuesL l clN).length ∨ chunkedB (listL (valuesL l teN)) = false then (0, 0, 5) else (3, 0, 0) := by
 unfold frameS; rw [if_pos h]
theorem frameS_none {v : Int} {l : List Fld} {k0 : Int} (h : hasL l teN = false) (h2 : valuesL l clN = []) : frameS v l k0 = (k0, 0, 0) := by
 unfold frameS; rw [if_neg (by rw [h]; decide), h2]
theorem frameS_len {v : Int} {l : List Fld} {k0 : Int} {y : ByteArray} {r : List ByteArray} (h : hasL l teN = false) (h2 : valuesL l clN = y :: r) :
  frameS v l k0 = if 0 < r.length ∨ (parseS 10 1000000000 y).2 = 2 then (0, 0, 5) else if (parseS 10 1000000000 y).2 = 0 then (2, (parseS 10 1000000000 y).1, 0) else (0, 0, (parseS 10 1000000000 y).2) := by
 unfold frameS; rw [if_neg (by rw [h]; decide), h2]
theorem valuesL_small {l : List Fld} (h : ShortF l) {n y : ByteArray} (hy : y ∈ valuesL l n) : y.size ≤ maxLen := by
 unfold valuesL at hy
 obtain ⟨f, hf, rfl⟩ := List.mem_map.1 hy
 exact (h f (List.mem_filter.1 hf).1).2
def KVar (w : World) (g : Nat) (k n : Int) : Prop := w.heap[g]? = some (.cells #[.int .i64 k, .int .i64 n] 40 (0, 0))
theorem KVar.keep {w w' : World} {g : Nat} {k n : Int} (h : KVar w g k n) (hb : Below w.heap.size w w') : KVar w' g k n := by
 unfold KVar at *
 rw [hb.block g (Array.getElem?_eq_some_iff.1 h).1]; exact h
theorem sizeK : (Tryz.prog.info? 40).map (·.size) = some 2 := by kernel_rfl
theorem oneK (k n : Int) : (#[.int .i64 k, .int .i64 n] : Array Value).all (·.oneCell') = true := by simp [Value.oneCell']
theorem total_mem {l : List ByteArray} {y : ByteArray} (h : y ∈ l) : y.size + 1 ≤ total l := by
 obtain ⟨k, hk, rfl⟩ := List.getElem_of_mem h
 exact total_at hk (Nat.le_refl _)
theorem listL_small {l : List ByteArray} {y : ByteArray} (h : y ∈ listL l) : y.size ≤ total l := by
 have h1 := total_mem h
 have h2 := total_listL l
 omega
theorem chunkedB_ne {x : List ByteArray} (h : ¬ x.length = 1) : chunkedB x = false := by
 unfold chunkedB
 split
 · exact absurd rfl h
 · rfl
def MaxOk (w : World) (mm : Int) : Prop := w.cell? ⟨0, 0, none⟩ = some (.int .i64 mm)
theorem MaxOk.keep {w w' : World} {mm : Int} (h : MaxOk w mm) (hb : Below w.heap.size w w') : MaxOk w' mm := below_cell hb h
def clP : ByteArray := ⟨#[67, 111, 110, 116, 101, 110, 116, 45, 76, 101, 110, 103, 116, 104]⟩
def teP : ByteArray := ⟨#[84, 114, 97, 110, 115, 102, 101, 114, 45, 69, 110, 99, 111, 100, 105, 110, 103]⟩
def cnP : ByteArray := ⟨#[67, 111, 110, 110, 101, 99, 116, 105, 111, 110]⟩
theorem low_cl : lowS clP = lowS clN := by decide +kernel
theorem low_te : lowS teP = lowS teN := by decide +kernel
theorem low_cn : lowS cnP = lowS cnN := by decide +kernel
theorem foldS_low {a n m : ByteArray} (h : lowS n = lowS m) : foldS a n = foldS a m := by unfold foldS; rw [h]
theorem valuesL_low {n m : ByteArray} (l : List Fld) (h : lowS n = lowS m) : valuesL l n = valuesL l m := by
 unfold valuesL; simp only [foldS_low h]
theorem hasL_low {n m : ByteArray} (l : List Fld) (h : lowS n = lowS m) : hasL l n = hasL l m := by
 unfold hasL; simp only [foldS_low h]
theorem fValues_low {n m : ByteArray} (e : lowS n = lowS m) (l : List Fld) (a : Option Addr) (cap : Nat) (w : World) (h : FldsIn w a l) (hz : ShortF l) (hn : n.size ≤ maxLen) (hl : l.length ≤ 1000000) :
  Calls Tryz.prog 75 #[.slice a l.length cap, .string n] w (RetStrs w (valuesL l m)) := by
 rw [← valuesL_low l e]; exact fValues_any l n a cap w h hz hn hl
theorem fHas_low {n m : ByteArray} (e : lowS n = lowS m) (l : List Fld) (a : Option Addr) (cap : Nat) (w : World) (h : FldsIn w a l) (hz : ShortF l) (hn : n.size ≤ maxLen) (hl : l.length ≤ 1000000) :
  Calls Tryz.prog 76 #[.slice a l.length cap, .string n] w fun e w' => e = .returned (.bool (hasL l m)) ∧ Below w.heap.size w w' := by
 rw [← hasL_low l e]; exact fHas_any l n a cap w h hz hn hl
theorem fElements_low {n m : ByteArray} (e : lowS n = lowS m) (w : World) (mm : Int) (l : List Fld) (a : Option Addr) (cap : Nat) (h : FldsIn w a l) (hz : ShortF l) (hn : n.size ≤ maxLen) (hl : l.length ≤ 1000000) (hm : MaxOk w mm) (ht : total (valuesL l m) ≤ 4000000000) :
  Calls Tryz.prog 64 #[.slice a l.length cap, .string n] w (RetStrs w (listL (valuesL l m))) := by
 rw [← valuesL_low l e]; exact fElements_any w mm l n a cap h hz hn hl hm (by rw [valuesL_low l e]; exact ht)
set_option maxHeartbeats 1000000 in
theorem isChunked_any (x : List ByteArray) (a : Option Addr) (cap : Nat) (w : World) (h : StrsAt w a x) (hz : ∀ y ∈ x, y.size ≤ maxLen) (hl : x.length ≤ 4000000000) :
  Calls Tryz.prog 77 #[.slice a x.length cap] w fun e w' => e = .returned (.bool (chunkedB x)) ∧ Below w.heap.size w w' := by
 by_cases hx : x.length = 1
 · obtain ⟨y, rfl⟩ : ∃ y, x = [y] := by
    match x, hx with
    | [y], _ => exact ⟨y, rfl⟩
   have hyz := hz y (by simp)
   obtain ⟨b3, o3, e3, hc3⟩ := h 0 (by simp)
   subst e3
   simp only [List.getElem_cons_zero, Nat.add_zero] at hc3
   have HP := Box.mk (show chunkedB [y] = foldS y chunkedN from rfl)
   clear hx h hz hl
   rw [show ([y] : List ByteArray).length = 1 from rfl]
   go_enter Tryz.func77, Tryz.ntmps77
   go_wp2_with fail
   refine (fold_any y chunkedN _ hyz (by decide)).mono ?_
   rintro e w1 ⟨rfl, hb⟩
   have HB := Box.mk hb
   clear hb hc3
   generalize hr : foldS y chunkedN = r at *
   have HR := Box.mk hr
   clear hr
   go_wp2_with fail
   go_ret
   exact ⟨ret_bool HP.out.symm, HB.out⟩
 · have HP := Box.mk (chunkedB_ne hx)
   have ex : (((x.length : Nat) : Int) == 1) = false := by rw [beq_eq_false_iff_ne]; omega
   clear hx h hz
   go_enter Tryz.func77, Tryz.ntmps77
   go_wp2_with fail
   go_ret
   exact ⟨ret_bool HP.out.symm, Below.refl _ _⟩
def lenS (y : ByteArray) : Int × Int × Int :=
 if (parseS 10 1000000000 y).2 = 0 then (2, (parseS 10 1000000000 y).1, 0) else if (parseS 10 1000000000 y).2 = 2 then (0, 0, 5) else (0, 0, (parseS 10 1000000000 y).2)
set_option maxRecDepth 100000 in
set_option maxHeartbeats 2000000 in
theorem ofLength_any (y : ByteArray) (w : World) (hy : y.size ≤ maxLen) :
  Calls Tryz.prog 78 #[.string y] w fun e w' => e = .returned (frameV (lenS y)) ∧ Below w.heap.size w w' := by
 have HB := Box.mk (below_oneF w (.cells #[.int .i64 0, .int .i64 0] 40))
 have HR := Box.mk (show KVar (w.alloc (.cells #[.int .i64 0, .int .i64 0] 40)) w.heap.size 0 0 from heap_alloc_new _ _)
 have HP0 := Box.mk (show lenS y = if (parseS 10 1000000000 y).2 = 0 then (2, (parseS 10 1000000000 y).1, 0) else if (parseS 10 1000000000 y).2 = 2 then (0, 0, 5) else (0, 0, (parseS 10 1000000000 y).2) from rfl)
 go_enter Tryz.func78, Tryz.ntmps78
 go_wp2_with fail
 refine (parseDecimal_any y 1000000000 _ hy (by decide) (by decide)).mono ?_
 rintro e w1 ⟨he, rfl⟩
 generalize parseS 10 1000000000 y = pp at *
 obtain ⟨n, er⟩ := pp
 simp only [] at HP0
 subst he
 by_cases h0 : er = 0
 · have HP := Box.mk (show lenS y = (2, n, 0) by rw [HP0.out, if_pos h0])
   have e0 : (er == 0) = true := by rw [h0]; rfl
   clear HP0 h0
   go_wp2_with (refine wpList_store_row rfl 40 _ _ rfl (w.heap.size) #[.int .i64 2, .int .i64 n] rfl rfl 40 _ HR.out sizeK rfl (oneK _ _) ?_)
   (try simp only [Exit.inBlock, Exit.then])
   refine bodyPost_ret (results_row_tmpF rfl _ _ (w.heap.size) _ _ _ _ rfl (setRow_heap _ _ _ _ _ _ HR.out) Tryz.underlying40 rfl sizeK) rfl ?_
   exact ⟨by rw [HP.out]; rfl, below_setRow HB.out (Nat.le_refl _) _⟩
 · have e0 : (er == 0) = false := by rw [beq_eq_false_iff_ne]; exact h0
   by_cases h2 : er = 2
   · have HP := Box.mk (show lenS y = (0, 0, 5) by rw [HP0.out, if_neg h0, if_pos h2])
     have e2 : (er == 2) = true := by rw [h2]; rfl
     clear HP0 h0 h2
     go_wp2_with (refine wpList_store_row rfl 40 _ _ rfl (w.heap.size) #[.int .i64 0, .int .i64 0] rfl rfl 40 _ HR.out sizeK rfl (oneK _ _) ?_)
     (try simp only [Exit.inBlock, Exit.then])
     refine bodyPost_ret (results_row_tmpF rfl _ _ (w.heap.size) _ _ _ _ rfl (setRow_heap _ _ _ _ _ _ HR.out) Tryz.underlying40 rfl sizeK) rfl ?_
     exact ⟨by rw [HP.out]; rfl, below_setRow HB.out (Nat.le_refl _) _⟩
   · have HP := Box.mk (show lenS y = (0, 0, er) by rw [HP0.out, if_neg h0, if_neg h2])
     have e2 : (er == 2) = false := by rw [beq_eq_false_iff_ne]; exact h2
     clear HP0 h0 h2
     go_wp2_with (refine wpList_store_row rfl 40 _ _ rfl (w.heap.size) #[.int .i64 0, .int .i64 0] rfl rfl 40 _ HR.out sizeK rfl (oneK _ _) ?_)
     (try simp only [Exit.inBlock, Exit.then])
     refine bodyPost_ret (results_row_tmpF rfl _ _ (w.heap.size) _ _ _ _ rfl (setRow_heap _ _ _ _ _ _ HR.out) Tryz.underlying40 rfl sizeK) rfl ?_
     exact ⟨by rw [HP.out]; rfl, below_setRow HB.out (Nat.le_refl _) _⟩
theorem frameS_one {v : Int} {l : List Fld} {k0 : Int} {y : ByteArray} (h : hasL l teN = false) (h2 : valuesL l clN = [y]) : frameS v l k0 = lenS y := by
 rw [frameS_len h h2]
 unfold lenS
 by_cases h0 : (parseS 10 1000000000 y).2 = 0
 · rw [if_neg (by rw [h0]; simp), if_pos h0, if_pos h0]
 · by_cases h2 : (parseS 10 1000000000 y).2 = 2
   · rw [if_pos (.inr h2), if_neg h0, if_pos h2]
   · rw [if_neg (by simp [h2]), if_neg h0, if_neg h0, if_neg h2]
set_option maxRecDepth 100000 in
set_option maxHeartbeats 4000000 in
theorem ofFields_any (v : Int) (l : List Fld) (a : Option Addr) (cap : Nat) (mm : Int) (w : World) (h : FldsIn w a l) (hz : ShortF l) (hl : l.length ≤ 1000000) (ht : total (valuesL l teN) ≤ 4000000000) (hm : MaxOk w mm) :
  Calls Tryz.prog 48 #[.int .i64 v, .slice a l.length cap] w fun e w' => e = .returned (frameV (frameS v l 1)) ∧ Below w.heap.size w w' := by
 have HB := Box.mk (below_oneF w (.cells #[.int .i64 0, .int .i64 0] 40))
 have HR := Box.mk (show KVar (w.alloc (.cells #[.int .i64 0, .int .i64 0] 40)) w.heap.size 0 0 from heap_alloc_new _ _)
 have H0 := Box.mk (And.intro (h.keep HB.out) (And.intro hz ht))
 have HMX := Box.mk hm
 have HVS := Box.mk (fun (n y : ByteArray) => valuesL_small hz (n := n) (y := y))
 have hcl : (valuesL l clN).length ≤ 1000000 := Nat.le_trans (valuesL_len l clN) hl
 clear h hz ht hm
 go_enter Tryz.func48, Tryz.ntmps48
 go_wp2_with fail
 refine (fValues_low low_cl l a cap _ H0.out.1 H0.out.2.1 (by decide) hl).mono ?_
 rintro e w1 ⟨a1, c1, rfl, hs1, hb1⟩
 have HB1 := Box.mk (below_trans HB.out hb1)
 have HR1 := Box.mk (HR.out.keep hb1)
 have HS1 := Box.mk hs1
 have HF1 := Box.mk (H0.out.1.keep hb1)
 clear hb1 hs1 HB HR
 go_wp2_with fail
 refine (fHas_low low_te l a cap _ HF1.out H0.out.2.1 (by decide) hl).mono ?_
 rintro e w2 ⟨he, hb2⟩
 have HB2 := Box.mk (below_trans HB1.out hb2)
 have HR2 := Box.mk (HR1.out.keep hb2)
 have HS2 := Box.mk (HS1.out.keep hb2)
 have HF2 := Box.mk (HF1.out.keep hb2)
 have HM2 := Box.mk (HMX.out.keep HB2.out)
 clear hb2 HB1 HR1 HS1 HF1 HMX
 cases hte : hasL l teN with
 | true =>
  have HTE := Box.mk hte
  rw [HTE.out] at he
  subst he
  clear hte
  have HP0 := Box.mk (frameS_te (v := v) (k0 := 1) HTE.out)
  by_cases hv : v = 0
  · have HP := Box.mk (show frameS v l 1 = (0, 0, 5) by rw [HP0.out, if_pos (.inl hv)])
    have ev : (v != 0) = false := by rw [hv]; rfl
    clear hv HP0 HS2 HF2 HTE HVS
    generalize (valuesL l clN).length = q at *
    go_wp2_with (refine wpList_store_row rfl 40 _ _ rfl (w.heap.size) #[.int .i64 0, .int .i64 0] rfl rfl 40 _ HR2.out sizeK rfl (oneK _ _) ?_)
    (try simp only [Exit.inBlock, Exit.then])
    refine bodyPost_ret (results_row_tmpF rfl _ _ (w.heap.size) _ _ _ _ rfl (setRow_heap _ _ _ _ _ _ HR2.out) Tryz.underlying40 rfl sizeK) rfl ?_
    exact ⟨by rw [HP.out]; rfl, below_setRow HB2.out (Nat.le_refl _) _⟩
  · have ev : (v != 0) = true := by rw [bne_iff_ne]; exact hv
    by_cases hc : 0 < (valuesL l clN).length
    · have HP := Box.mk (show frameS v l 1 = (0, 0, 5) by rw [HP0.out, if_pos (.inr (.inl hc))])
      clear hv HP0 HS2 HF2 HTE HVS
      generalize (valuesL l clN).length = q at *
      have eq : (((q : Nat) : Int) == 0) = false := by rw [beq_eq_false_iff_ne]; omega
      go_wp2_with (refine wpList_store_row rfl 40 _ _ rfl (w.heap.size) #[.int .i64 0, .int .i64 0] rfl rfl 40 _ HR2.out sizeK rfl (oneK _ _) ?_)
      (try simp only [Exit.inBlock, Exit.then])
      refine bodyPost_ret (results_row_tmpF rfl _ _ (w.heap.size) _ _ _ _ rfl (setRow_heap _ _ _ _ _ _ HR2.out) Tryz.underlying40 rfl sizeK) rfl ?_
      exact ⟨by rw [HP.out]; rfl, below_setRow HB2.out (Nat.le_refl _) _⟩
    · have HP1 := Box.mk (show frameS v l 1 = if chunkedB (listL (valuesL l teN)) = false then (0, 0, 5) else (3, 0, 0) by
       rw [HP0.out]
       by_cases hf : chunkedB (listL (valuesL l teN)) = false
       · rw [if_pos (.inr (.inr hf)), if_pos hf]
       · rw [if_neg hf, if_neg]
         rintro (h | h | h)
         · exact hv h
         · exact hc h
         · exact hf h)
      have HXZ := Box.mk (show ∀ y ∈ listL (valuesL l teN), y.size ≤ maxLen from fun y hy => by
       have := listL_small hy
       have := H0.out.2.2
       unfold maxLen; omega)
      have hxl : (listL (valuesL l teN)).length ≤ 4000000000 := Nat.le_trans (listL_length _) H0.out.2.2
      clear hv HP0 HS2 HTE HVS
      generalize (valuesL l clN).length = q at *
      have eq : (((q : Nat) : Int) == 0) = true := by rw [beq_iff_eq]; omega
      go_wp2_with fail
      refine (fElements_low low_te _ mm l a cap HF2.out H0.out.2.1 (by decide) hl HM2.out H0.out.2.2).mono ?_
      rintro e w3 ⟨a3, c3, rfl, hs3, hb3⟩
      have HB3 := Box.mk (below_trans HB2.out hb3)
      have HR3 := Box.mk (HR2.out.keep hb3)
      have HS3 := Box.mk hs3
      clear hb3 HB2 HR2 HF2 hs3 HM2
      generalize listL (valuesL l teN) = x at *
      go_wp2_with fail
      refine (isChunked_any x a3 c3 _ HS3.out HXZ.out hxl).mono ?_
      rintro e w4 ⟨he, hb4⟩
      have HB4 := Box.mk (below_trans HB3.out hb4)
      have HR4 := Box.mk (HR3.out.keep hb4)
      clear hb4 HB3 HR3 HS3 HXZ
      cases hf : chunkedB x with
      | false =>
       have HP := Box.mk (show frameS v l 1 = (0, 0, 5) by rw [HP1.out, if_pos hf])
       rw [hf] at he
       subst he
       clear hf HP1
       go_wp2_with (refine wpList_store_row rfl 40 _ _ rfl (w.heap.size) #[.int .i64 0, .int .i64 0] rfl rfl 40 _ HR4.out sizeK rfl (oneK _ _) ?_)
       (try simp only [Exit.inBlock, Exit.then])
       refine bodyPost_ret (results_row_tmpF rfl _ _ (w.heap.size) _ _ _ _ rfl (setRow_heap _ _ _ _ _ _ HR4.out) Tryz.underlying40 rfl sizeK) rfl ?_
       exact ⟨by rw [HP.out]; rfl, below_setRow HB4.out (Nat.le_refl _) _⟩
      | true =>
       have HP := Box.mk (show frameS v l 1 = (3, 0, 0) by rw [HP1.out, if_neg (by rw [hf]; decide)])
       rw [hf] at he
       subst he
       clear hf HP1
       go_wp2_with (refine wpList_store_row rfl 40 _ _ rfl (w.heap.size) #[.int .i64 3, .int .i64 0] rfl rfl 40 _ HR4.out sizeK rfl (oneK _ _) ?_)
       (try simp only [Exit.inBlock, Exit.then])
       refine bodyPost_ret (results_row_tmpF rfl _ _ (w.heap.size) _ _ _ _ rfl (setRow_heap _ _ _ _ _ _ HR4.out) Tryz.underlying40 rfl sizeK) rfl ?_
       exact ⟨by rw [HP.out]; rfl, below_setRow HB4.out (Nat.le_refl _) _⟩
 | false =>
  have HTE := Box.mk hte
  rw [HTE.out] at he
  subst he
  clear hte
  match hcv : valuesL l clN with
  | [] =>
   have HP := Box.mk (frameS_none (v := v) (k0 := 1) HTE.out hcv)
   rw [hcv] at hcl
   rw [show ([] : List ByteArray).length = 0 from rfl]
   clear hcv HS2 HF2 HTE HVS
   go_wp2_with (refine wpList_store_row rfl 40 _ _ rfl (w.heap.size) #[.int .i64 1, .int .i64 0] rfl rfl 40 _ HR2.out sizeK rfl (oneK _ _) ?_)
   (try simp only [Exit.inBlock, Exit.then])
   refine bodyPost_ret (results_row_tmpF rfl _ _ (w.heap.size) _ _ _ _ rfl (setRow_heap _ _ _ _ _ _ HR2.out) Tryz.underlying40 rfl sizeK) rfl ?_
   exact ⟨by rw [HP.out]; rfl, below_setRow HB2.out (Nat.le_refl _) _⟩
  | [y] =>
   have HP := Box.mk (frameS_one (v := v) (k0 := 1) HTE.out hcv)
   have hyz := HVS.out clN y (by rw [hcv]; simp)
   rw [hcv] at HS2 hcl
   obtain ⟨b3, o3, e3, hc3⟩ := HS2.out 0 (by simp)
   subst e3
   simp only [List.getElem_cons_zero, Nat.add_zero] at hc3
   rw [show ([y] : List ByteArray).length = 1 from rfl]
   clear hcv HS2 HF2 HTE HVS
   go_wp2_with fail
   refine (ofLength_any y _ hyz).mono ?_
   rintro e w3 ⟨he, hb3⟩
   have HB3 := Box.mk (below_trans HB2.out hb3)
   have HR3 := Box.mk (HR2.out.keep hb3)
   clear hb3 HB2 HR2 hc3
   generalize lenS y = pp at *
   obtain ⟨k, n, er⟩ := pp
   simp only [frameV] at he
   subst he
   go_wp2_with (refine wpList_store_row rfl 40 _ _ rfl (w.heap.size) #[.int .i64 k, .int .i64 n] rfl rfl 40 _ HR3.out sizeK rfl (oneK _ _) ?_)
   (try simp only [Exit.inBlock, Exit.then])
   refine bodyPost_ret (results_row_tmpF rfl _ _ (w.heap.size) _ _ _ _ rfl (setRow_heap _ _ _ _ _ _ HR3.out) Tryz.underlying40 rfl sizeK) rfl ?_
   exact ⟨by rw [HP.out]; rfl, below_setRow HB3.out (Nat.le_refl _) _⟩
  | y :: z :: r =>
   have HP := Box.mk (show frameS v l 1 = (0, 0, 5) by rw [frameS_len HTE.out hcv, if_pos (.inl (by simp))])
   rw [hcv] at hcl
   obtain ⟨q, hq⟩ : ∃ q, (y :: z :: r).length = q := ⟨_, rfl⟩
   rw [hq] at hcl ⊢
   have hq1 : 1 < q := by rw [← hq]; simp
   clear hcv HS2 HF2 HTE HVS hq
   go_wp2_with (refine wpList_store_row rfl 40 _ _ rfl (w.heap.size) #[.int .i64 0, .int .i64 0] rfl rfl 40 _ HR2.out sizeK rfl (oneK _ _) ?_)
   (try simp only [Exit.inBlock, Exit.then])
   refine bodyPost_ret (results_row_tmpF rfl _ _ (w.heap.size) _ _ _ _ rfl (setRow_heap _ _ _ _ _ _ HR2.out) Tryz.underlying40 rfl sizeK) rfl ?_
   exact ⟨by rw [HP.out]; rfl, below_setRow HB2.out (Nat.le_refl _) _⟩
set_option maxRecDepth 100000 in
set_option maxHeartbeats 2000000 in
theorem projOfReq_any (m t : ByteArray) (v : Int) (l : List Fld) (a : Option Addr) (cap : Nat) (fr : Bool) (ba : Option Addr) (bn bc : Nat) (mm : Int) (w : World) (h : FldsIn w a l) (hz : ShortF l) (hl : l.length ≤ 1000000) (ht : total (valuesL l teN) ≤ 4000000000) (hm : MaxOk w mm) :
  Calls Tryz.prog 18 #[.agg #[.string m, .string t, .int .i64 v, .slice a l.length cap, .bool fr, .slice ba bn bc]] w fun e w' => e = .returned (frameV (frameS v l 1)) ∧ Below w.heap.size w w' := by
 have hbw := below_twoF (below_oneF w (.cells #[.string m, .string t, .int .i64 v, .slice a l.length cap, .bool fr, .slice ba bn bc] 31)) (.cells #[.int .i64 0, .int .i64 0] 40)
 have HB := Box.mk hbw
 have HR := Box.mk (show KVar ((w.alloc (.cells #[.string m, .string t, .int .i64 v, .slice a l.length cap, .bool fr, .slice ba bn bc] 31)).alloc (.cells #[.int .i64 0, .int .i64 0] 40)) (w.heap.size + 1) 0 0 by
  have h := heap_alloc_new (w.alloc (.cells #[.string m, .string t, .int .i64 v, .slice a l.length cap, .bool fr, .slice ba bn bc] 31)) (.cells #[.int .i64 0, .int .i64 0] 40)
  rw [World.size_alloc] at h; exact h)
 have H0 := Box.mk (And.intro (h.keep hbw) (And.intro hz (And.intro ht (hm.keep hbw))))
 clear h hz ht hbw hm
 go_enter Tryz.func18, Tryz.ntmps18
 go_wp2_with fail
 refine (ofFields_any v l a cap mm _ H0.out.1 H0.out.2.1 hl H0.out.2.2.1 H0.out.2.2.2).mono ?_
 rintro e w1 ⟨he, hb1⟩
 have HB1 := Box.mk (below_trans HB.out hb1)
 have HR1 := Box.mk (HR.out.keep hb1)
 generalize hq : frameS v l 1 = q at *
 have HP := Box.mk hq
 obtain ⟨k, n, er⟩ := q
 simp only [frameV] at he
 clear hb1 HB HR hq H0
 subst he
 go_wp2_with (refine wpList_store_row rfl 40 _ _ rfl (w.heap.size + 1) #[.int .i64 k, .int .i64 n] rfl rfl 40 _ HR1.out sizeK rfl (oneK _ _) ?_)
 (try simp only [Exit.inBlock, Exit.then])
 refine bodyPost_ret (results_row_tmpF rfl _ _ (w.heap.size + 1) _ _ _ _ rfl (setRow_heap _ _ _ _ _ _ HR1.out) Tryz.underlying40 rfl sizeK) rfl ?_
 exact ⟨by rw [HP.out]; rfl, below_setRow HB1.out (by omega) _⟩
def hexS : ByteArray := ⟨#[48, 49, 50, 51, 52, 53, 54, 55, 56, 57, 97, 98, 99, 100, 101, 102]⟩
theorem hexS_piece_fin : ∀ d : Fin 16, (hexS.extract d.val (d.val + 1)).data.toList = [dgc d.val] := by decide +kernel
theorem hexS_piece {d : Nat} (h : d < 16) : (⟨#[48, 49, 50, 51, 52, 53, 54, 55, 56, 57, 97, 98, 99, 100, 101, 102]⟩ : ByteArray).extract d (d + 1) = ⟨#[dgc d]⟩ := by
 have := hexS_piece_fin ⟨d, h⟩
 apply ByteArray.ext
 apply Array.toList_inj.1
 exact this
theorem one_cat (c : UInt8) (t : List UInt8) : (⟨#[c]⟩ : ByteArray) ++ ⟨t.toArray⟩ = ⟨(c :: t).toArray⟩ := by
 apply ByteArray.ext; simp
set_option maxHeartbeats 1000000 in
theorem refBase10 (n : Nat) (w : World) (hn : (n : Int) ≤ 9223372036854775807) :
  Calls Tryz.prog 74 #[.int .i64 n, .int .i64 10] w fun e w' => e = .returned (.string (numeral 10 n)) ∧ ∃ j, w' = w.drewN j := by
 go_enter Tryz.func74, Tryz.ntmps74
 go_wp2
 go_loopw [5, 0] (fun s m wr => ∃ (k : Nat) (t : List UInt8) (j : Nat), (t.length : Int) + k ≤ n ∧ (t = [] ∨ 0 < k) ∧ m = .int .i64 k ∧ s = .string ⟨t.toArray⟩ ∧ wr = w.drewN j ∧ Hid (digs 10 n = digs 10 k ++ t)) (fun _ m _ => (intOf m).toNat)
 case atStart => exact ⟨n, [], 0, by simp, .inl rfl, rfl, rfl, by simp [World.drewN_zero], Lib.hid (by simp)⟩
 case round =>
  obtain ⟨k, t, j, hk, hne, rfl, rfl, rfl, HD⟩ := hrel
  have HNE := Lib.hid hne
  have hlen : t.length + 1 ≤ 9223372036854775807 := by
   rcases hne with rfl | h
   · simp
   · omega
  clear hne
  obtain ⟨d, hd⟩ : ∃ d : Nat, k % 10 = d := ⟨_, rfl⟩
  have hd9 : d < 10 := by omega
  have HDD := Lib.hid hd
  have hr : ((k : Int).tmod 10) = (d : Int) := by rw [Int.tmod_eq_emod_of_nonneg (by omega)]; omega
  clear hd
  have hw1 : IntKind.i64.wrap (d : Int) = (d : Int) := IntWalk.i64_in _ (by omega)
  have hw2 : IntKind.i64.wrap ((d : Int) + 1) = (d : Int) + 1 := IntWalk.i64_in _ (by omega)
  have hn1 : ((d : Int) + 1).toNat = d + 1 := by omega
  have hi1 : (0 : Int) ≤ d := by omega
  have hi2 : (0 : Int) ≤ d + 1 := by omega
  have hi3 : (d : Int) + 1 ≤ 16 := by omega
  have hi4 : d + 1 ≤ 16 := by omega
  have hi5 : (d : Int) ≤ d + 1 := by omega
  have hp := hexS_piece (d := d) (by omega)
  have hadd : ∀ W, (Op.stringOp .add ⟨#[dgc d]⟩ ⟨t.toArray⟩).run Tryz.prog W = .ok (.string ⟨(dgc d :: t).toArray⟩) W := fun W => by
   have h := run_string_add_sum (P := Tryz.prog) (w := W) ⟨#[dgc d]⟩ ⟨t.toArray⟩ (by show 1 + (t.toArray).size ≤ _; simp; omega)
   rw [one_cat] at h; exact h
  go_wp2_with fail
  go_quiet (fail)
  clear hr hw1 hw2 hn1 hp hadd hi4
  have hq : (k : Int) / 10 = ((k / 10 : Nat) : Int) := by omega
  by_cases hz : k / 10 = 0
  · have hz1 : (k : Int) / 10 = 0 := by omega
    have HZ := Lib.hid hz
    clear hz hq
    go_wp2
    go_ret
    refine ⟨ret_str ?_, _, rfl⟩
    have hs : k < 10 := by have := HZ.out; omega
    unfold numeral
    rw [HD.out, digs_small hs]
    have : k % 10 = k := Nat.mod_eq_of_lt hs
    rw [← HDD.out, this]; rfl
  · have HZ := Lib.hid hz
    have hz2 : ¬ (k : Int) / 10 = 0 := by omega
    clear hz hq
    go_wp2
    go_roundw
    case rel =>
     have hz := HZ.out
     refine ⟨k / 10, dgc d :: t, _, by simp; omega, .inr (by omega), by first | rfl | simp, rfl, rfl, Lib.hid ?_⟩
     rw [HD.out, digs_big (by omega) (show ¬ k < 10 by omega), ← HDD.out]; simp
    case measure => have hz := HZ.out; simp [intOf]; omega
set_option maxHeartbeats 1000000 in
theorem refBase16 (n : Nat) (w : World) (hn : (n : Int) ≤ 9223372036854775807) :
  Calls Tryz.prog 74 #[.int .i64 n, .int .i64 16] w fun e w' => e = .returned (.string (numeral 16 n)) ∧ ∃ j, w' = w.drewN j := by
 go_enter Tryz.func74, Tryz.ntmps74
 go_wp2
 go_loopw [5, 0] (fun s m wr => ∃ (k : Nat) (t : List UInt8) (j : Nat), (t.length : Int) + k ≤ n ∧ (t = [] ∨ 0 < k) ∧ m = .int .i64 k ∧ s = .string ⟨t.toArray⟩ ∧ wr = w.drewN j ∧ Hid (digs 16 n = digs 16 k ++ t)) (fun _ m _ => (intOf m).toNat)
 case atStart => exact ⟨n, [], 0, by simp, .inl rfl, rfl, rfl, by simp [World.drewN_zero], Lib.hid (by simp)⟩
 case round =>
  obtain ⟨k, t, j, hk, hne, rfl, rfl, rfl, HD⟩ := hrel
  have HNE := Lib.hid hne
  have hlen : t.length + 1 ≤ 9223372036854775807 := by
   rcases hne with rfl | h
   · simp
   · omega
  clear hne
  obtain ⟨d, hd⟩ : ∃ d : Nat, k % 16 = d := ⟨_, rfl⟩
  have hd9 : d < 16 := by omega
  have HDD := Lib.hid hd
  have hr : ((k : Int).tmod 16) = (d : Int) := by rw [Int.tmod_eq_emod_of_nonneg (by omega)]; omega
  clear hd
  have hw1 : IntKind.i64.wrap (d : Int) = (d : Int) := IntWalk.i64_in _ (by omega)
  have hw2 : IntKind.i64.wrap ((d : Int) + 1) = (d : Int) + 1 := IntWalk.i64_in _ (by omega)
  have hn1 : ((d : Int) + 1).toNat = d + 1 := by omega
  have hi1 : (0 : Int) ≤ d := by omega
  have hi2 : (0 : Int) ≤ d + 1 := by omega
  have hi3 : (d : Int) + 1 ≤ 16 := by omega
  have hi4 : d + 1 ≤ 16 := by omega
  have hi5 : (d : Int) ≤ d + 1 := by omega
  have hp := hexS_piece (d := d) (by omega)
  have hadd : ∀ W, (Op.stringOp .add ⟨#[dgc d]⟩ ⟨t.toArray⟩).run Tryz.prog W = .ok (.string ⟨(dgc d :: t).toArray⟩) W := fun W => by
   have h := run_string_add_sum (P := Tryz.prog) (w := W) ⟨#[dgc d]⟩ ⟨t.toArray⟩ (by show 1 + (t.toArray).size ≤ _; simp; omega)
   rw [one_cat] at h; exact h
  go_wp2_with fail
  go_quiet (fail)
  clear hr hw1 hw2 hn1 hp hadd hi4
  have hq : (k : Int) / 16 = ((k / 16 : Nat) : Int) := by omega
  by_cases hz : k / 16 = 0
  · have hz1 : (k : Int) / 16 = 0 := by omega
    have HZ := Lib.hid hz
    clear hz hq
    go_wp2
    go_ret
    refine ⟨ret_str ?_, _, rfl⟩
    have hs : k < 16 := by have := HZ.out; omega
    unfold numeral
    rw [HD.out, digs_small hs]
    have : k % 16 = k := Nat.mod_eq_of_lt hs
    rw [← HDD.out, this]; rfl
  · have HZ := Lib.hid hz
    have hz2 : ¬ (k : Int) / 16 = 0 := by omega
    clear hz hq
    go_wp2
    go_roundw
    case rel =>
     have hz := HZ.out
     refine ⟨k / 16, dgc d :: t, _, by simp; omega, .inr (by omega), by first | rfl | simp, rfl, rfl, Lib.hid ?_⟩
     rw [HD.out, digs_big (by omega) (show ¬ k < 16 by omega), ← HDD.out]; simp
    case measure => have hz := HZ.out; simp [intOf]; omega
def fmtS (b : Nat) (n : Int) : ByteArray := if n < 0 then ⟨#[]⟩ else numeral b n.toNat
theorem below_drewN0 (w : World) (j : Nat) : Below w.heap.size w (w.drewN j) := ⟨rfl, rfl, rfl, Nat.le_refl _, fun _ _ => rfl⟩
theorem refBase_neg (n b : Int) (w : World) (hn : n < 0) :
  Calls Tryz.prog 74 #[.int .i64 n, .int .i64 b] w fun e w' => e = .returned (.string ⟨#[]⟩) ∧ w = w' := by
 go_enter Tryz.func74, Tryz.ntmps74
 go_wp2
 go_ret
 exact ⟨rfl, rfl⟩
theorem refDecimal_any (n : Int) (w : World) (h0 : -9223372036854775808 ≤ n) (h1 : n ≤ 9223372036854775807) :
  Calls Tryz.prog 47 #[.int .i64 n] w fun e w' => e = .returned (.string (fmtS 10 n)) ∧ Below w.heap.size w w' := by
 by_cases hn : n < 0
 · go_enter Tryz.func47, Tryz.ntmps47
   go_wp2_with (go_at_call 74; refine (refBase_neg _ _ _ hn).mono ?_; rintro e w' ⟨rfl, rfl⟩)
   go_ret
   exact ⟨ret_str (by unfold fmtS; rw [if_pos hn]), Below.refl _ _⟩
 · obtain ⟨k, rfl⟩ : ∃ k : Nat, n = k := ⟨n.toNat, by omega⟩
   go_enter Tryz.func47, Tryz.ntmps47
   go_wp2_with (go_at_call 74; refine (refBase10 _ _ (by omega)).mono ?_; rintro e w' ⟨rfl, j, rfl⟩)
   go_ret
   exact ⟨ret_str (by unfold fmtS; rw [if_neg (by omega)]; rfl), below_drewN0 _ _⟩
theorem refHex_any (n : Int) (w : World) (h0 : -9223372036854775808 ≤ n) (h1 : n ≤ 9223372036854775807) :
  Calls Tryz.prog 102 #[.int .i64 n] w fun e w' => e = .returned (.string (fmtS 16 n)) ∧ Below w.heap.size w w' := by
 by_cases hn : n < 0
 · go_enter Tryz.func102, Tryz.ntmps102
   go_wp2_with (go_at_call 74; refine (refBase_neg _ _ _ hn).mono ?_; rintro e w' ⟨rfl, rfl⟩)
   go_ret
   exact ⟨ret_str (by unfold fmtS; rw [if_pos hn]), Below.refl _ _⟩
 · obtain ⟨k, rfl⟩ : ∃ k : Nat, n = k := ⟨n.toNat, by omega⟩
   go_enter Tryz.func102, Tryz.ntmps102
   go_wp2_with (go_at_call 74; refine (refBase16 _ _ (by omega)).mono ?_; rintro e w' ⟨rfl, j, rfl⟩)
   go_ret
   exact ⟨ret_str (by unfold fmtS; rw [if_neg (by omega)]; rfl), below_drewN0 _ _⟩
def Tabs (w : World) : Prop := Lib.TabIs Tryz.prog w "internal/strconv.uint64pow10" .u64 Lib.pow10Tab ∧ w.cell? ⟨3, 15, none⟩ = some (.int .u8 4) ∧ 1 < w.heap.size
set_option maxHeartbeats 400000 in
theorem tz64_16 (w : World) (h : w.cell? ⟨3, 15, none⟩ = some (.int .u8 4)) :
  Calls Tryz.prog 214 #[.int .u64 16] w fun e w' => e = .returned (.int .i64 4) ∧ w = w' := by
 go_enter Tryz.func214, Tryz.ntmps214
 have b1 : bits BinOp.and IntKind.u64 16 (IntKind.u64.wrap (-16)) = 16 := by kernel_rfl
 have b2 : IntKind.u64.wrap (16 * 285870213051353865) = 4573923408821661840 := by kernel_rfl
 go_wp2
 go_ret
 exact ⟨rfl, rfl⟩
set_option maxHeartbeats 400000 in
theorem tz16_any (w : World) (h : w.cell? ⟨3, 15, none⟩ = some (.int .u8 4)) :
  Calls Tryz.prog 195 #[.int .u64 16] w fun e w' => e = .returned (.int .i64 4) ∧ w = w' := by
 go_enter Tryz.func195, Tryz.ntmps195
 go_wp2_with (go_at_call 214; refine (tz64_16 _ h).mono ?_; rintro e w' ⟨rfl, rfl⟩)
 go_ret
 exact ⟨rfl, rfl⟩
set_option maxHeartbeats 400000 in
theorem pow2_16 (w : World) :
  Calls Tryz.prog 194 #[.int .i64 16] w fun e w' => e = .returned (.bool true) ∧ w = w' := by
 go_enter Tryz.func194, Tryz.ntmps194
 go_wp2
 go_ret
 exact ⟨rfl, rfl⟩
theorem ret_sl_str {a b : ByteArray} {v : Value} (h : a = b) : Ending.returned (.tuple #[v, .string a]) = .returned (.tuple #[v, .string b]) := by rw [h]
def zs65 : Array Value := Array.replicate 65 (.int .u8 0)
theorem zs65_at (j : Nat) (h : j < 65) : zs65[j]? = some (.int .u8 0) := by unfold zs65; rw [Array.getElem?_replicate, if_pos h]
theorem zs65_ne : ¬ zs65 = #[] := by intro h; have := congrArg Array.size h; simp [zs65] at this
theorem zs65_zero (w : World) : (zeroValue 216).run Tryz.prog w = .ok (.agg zs65) w := by kernel_rfl
theorem pow_bd {k n u : Nat} (h : k * 16 ^ n ≤ u) (hu : u < 9223372036854775808) (hk : 1 ≤ k) : n ≤ 15 := by
 rcases Nat.lt_or_ge 15 n with hn | hn
 · have h1 : 16 ^ 16 ≤ 16 ^ n := Nat.pow_le_pow_right (by omega) hn
   have h2 : 16 ^ n ≤ k * 16 ^ n := Nat.le_mul_of_pos_left _ hk
   have h3 : (16 : Nat) ^ 16 = 18446744073709551616 := by decide
   omega
 · exact hn
def Tail (w0 w : World) (i : Nat) (t : List UInt8) : Prop := ∃ l : List UInt8, l.length = 65 ∧ BytesAt w w0.heap.size l ∧ l.drop i = t ∧ Below w0.heap.size w0 w
def dig36 : ByteArray := ⟨#[48, 49, 50, 51, 52, 53, 54, 55, 56, 57, 97, 98, 99, 100, 101, 102, 103, 104, 105, 106, 107, 108, 109, 110, 111, 112, 113, 114, 115, 116, 117, 118, 119, 120, 121, 122]⟩
theorem dig36_fin : ∀ d : Fin 16, dig36.data.toList[d.val]? = some (dgc d.val) := by decide +kernel
theorem dig36_at {d : Nat} (h : d < 16) (hd : d < dig36.size) : dig36[d]'hd = dgc d := by
 have h1 := dig36_fin ⟨d, h⟩
 have h2 : dig36.data.toList[d]? = some (dig36[d]'hd) := by
  have hs : d < dig36.data.toList.length := by simpa using hd
  rw [List.getElem?_eq_getElem hs]; rfl
 rw [h2] at h1; exact Option.some.inj h1
theorem Tail.cell {w0 w : World} {i : Nat} {t : List UInt8} (h : Tail w0 w i t) {j : Nat} (hj : j < 65) : ∃ v, w.cell? ⟨w0.heap.size, j, none⟩ = some v ∧ w.frozen? ⟨w0.heap.size, j, none⟩ = false := by
 obtain ⟨l, h1, h2, _⟩ := h
 obtain ⟨a, b⟩ := h2 j (by omega)
 exact ⟨_, a, b⟩
theorem Tail.put {w0 w : World} {i : Nat} {t : List UInt8} (h : Tail w0 w i t) (hi : 1 ≤ i) (hi2 : i ≤ 65) (c : UInt8) :
  Tail w0 (w.setCell ⟨w0.heap.size, i - 1, none⟩ (.int .u8 (c.toNat : Int))) (i - 1) (c :: t) := by
 obtain ⟨l, h1, h2, h3, h4⟩ := h
 refine ⟨l.set (i - 1) c, by simp [h1], h2.set (by omega) c, ?_, h4.setCell (Nat.le_refl _) _⟩
 rw [List.drop_eq_getElem_cons (by rw [List.length_set]; omega), List.getElem_set_self, show i - 1 + 1 = i by omega, List.drop_set_of_lt (by omega), h3]
theorem Tail.read {w0 w : World} {i : Nat} {t : List UInt8} (h : Tail w0 w i t) {j : Nat} (hj : j < t.length) : w.cell? ⟨w0.heap.size, i + j, none⟩ = some (.int .u8 (t[j].toNat : Int)) := by
 obtain ⟨l, h1, h2, h3, h4⟩ := h
 subst h3
 have hj' : i + j < l.length := by simp at hj; omega
 rw [(h2 (i + j) hj').1, List.getElem_drop]
set_option maxRecDepth 100000 in
set_option maxHeartbeats 1000000 in
theorem formatBits16 (u : Nat) (w : World) (hu : u < 9223372036854775808) (h : w.cell? ⟨3, 15, none⟩ = some (.int .u8 4)) :
  Calls Tryz.prog 163 #[.slice none 0 0, .int .u64 u, .int .i64 16, .bool false, .bool false] w fun e w' => e = .returned (.tuple #[.slice none 0 0, .string (numeral 16 u)]) ∧ Below w.heap.size w w' := by
 have hlt := lt_cell h
 have hz := zs65_zero
 have hne := zs65_ne
 have HT : Hid (Tail w (w.alloc (.cells zs65 216)) 65 []) := by
  refine Lib.hid ⟨List.replicate 65 0, by simp, ?_, by simp, (Below.refl _ _).alloc (Nat.le_refl _) _⟩
  intro j hj
  have hj' : j < 65 := by simpa using hj
  refine ⟨?_, World.frozen?_alloc_new _ _ _ _⟩
  rw [World.cell?_alloc_new, zs65_at j hj', List.getElem_replicate]; rfl
 have hc : (w.alloc (.cells zs65 216)).cell? ⟨3, 15, none⟩ = some (.int .u8 4) := by rw [World.cell?_alloc_past _ _ _ hlt]; exact h
 have HC := Lib.hid hc
 clear hc h
 go_enter Tryz.func163, Tryz.ntmps163
 go_wp2_with (first | (go_at_call 194; refine (pow2_16 _).mono ?_; rintro e w' ⟨rfl, rfl⟩) | (go_at_call 195; refine (tz16_any _ HC.out).mono ?_; rintro e w' ⟨rfl, rfl⟩))
 go_loopw [1, 13] (fun x y wr => ∃ (k i : Nat) (t : List UInt8), x = .int .u64 k ∧ y = .int .i64 i ∧ t.length + i = 65 ∧ k ≤ u ∧ Hid (k * 16 ^ t.length ≤ u ∧ (t = [] ∨ 1 ≤ k) ∧ digs 16 u = digs 16 k ++ t ∧ Tail w wr i t)) (fun x _ _ => (intOf x).toNat)
 case atStart => exact ⟨u, 65, [], rfl, rfl, by simp, Nat.le_refl _, Lib.hid ⟨by simp, .inl rfl, by simp, HT.out⟩⟩
 case round =>
  obtain ⟨k, i, t, rfl, rfl, hi, hk, HH⟩ := hrel
  have h1 := HH.out.1
  have h15 : t.length ≤ 15 := by
   rcases HH.out.2.1 with e | e
   · rw [e]; simp
   · exact pow_bd h1 hu e
  clear h1
  obtain ⟨v, hcell, hfz⟩ := HH.out.2.2.2.cell (j := i - 1) (by omega)
  have hx : ∀ d (hd16 : d < 16) hd, (⟨#[48, 49, 50, 51, 52, 53, 54, 55, 56, 57, 97, 98, 99, 100, 101, 102, 103, 104, 105, 106, 107, 108, 109, 110, 111, 112, 113, 114, 115, 116, 117, 118, 119, 120, 121, 122]⟩ : ByteArray)[d]'hd = dgc d := fun d hd16 hd => dig36_at hd16 hd
  by_cases h16 : 16 ≤ k
  · obtain ⟨d, hd⟩ : ∃ d : Nat, k % 16 = d := ⟨_, rfl⟩
    have hd9 : d < 16 := by omega
    have hb : bits BinOp.and IntKind.u64 (k : Int) 15 = (d : Int) := by
     rw [show (15 : Int) = ((15 : Nat) : Int) from rfl, bits_and_u64_nat _ _ (by omega) (by omega), ← hd]
     congr 1
     exact Nat.and_two_pow_sub_one_eq_mod k 4
    have HD := Lib.hid hd
    have hxd := hx d hd9
    clear hd hx
    go_wp2
    all_goals go_roundw
    case rel =>
     obtain ⟨a1, a2, a3, a4⟩ := HH.out
     have hd := HD.out
     refine ⟨k / 16, i - 1, dgc d :: t, congrArg (Value.int .u64) (by omega), congrArg (Value.int .i64) (by omega), by simp; omega, by omega, Lib.hid ⟨?_, .inr (by omega), ?_, a4.put (by omega) (by omega) _⟩⟩
     · rw [List.length_cons, Nat.pow_succ, ← Nat.mul_assoc, Nat.mul_right_comm]
       exact Nat.le_trans (Nat.mul_le_mul_right _ (by omega)) a1
     · rw [a3, digs_big (by omega) (show ¬ k < 16 by omega), hd]; simp
    case measure => simp [intOf]; omega
  · have hk16 : k < 16 := by omega
    have hxd := hx k hk16
    clear hx
    have hal : Tryz.prog.arrayLen 216 = 65 := by simp [Program.arrayLen, Tryz.underlying216]
    have hsl : ∀ W, (Instr.sliceAt 216 (.pointer (some ⟨w.heap.size, 0, none⟩)) (some (.int .i64 ((i : Int) - 1))) none none).run Tryz.prog W = .ok (.slice (some ⟨w.heap.size, i - 1, none⟩) (t.length + 1) (t.length + 1)) W := fun W => by
     rw [run_sliceAt_array_l W 216 ⟨w.heap.size, 0, none⟩ (by simp [Program.arrayLen, Program.elem, Tryz.underlying216]) .i64 _ (by omega) (by rw [hal]; omega)]
     go_simp
     omega
    have hT := HH.out.2.2.2.put (by omega) (by omega) (dgc k)
    have hcv : (convert 29 9 (.slice (some ⟨w.heap.size, i - 1, none⟩) (t.length + 1) (t.length + 1))).run Tryz.prog (wr.setCell ⟨w.heap.size, i - 1, none⟩ (.int .u8 ((dgc k).toNat : Int))) = .ok (.string ⟨(dgc k :: t).toArray⟩) (wr.setCell ⟨w.heap.size, i - 1, none⟩ (.int .u8 ((dgc k).toNat : Int))) :=
     run_convert_bytes_back (P := Tryz.prog) _ 29 9 5 ⟨w.heap.size, i - 1, none⟩ (t.length + 1) (dgc k :: t) Tryz.underlying29 Tryz.underlying5 Tryz.underlying9 (fun j hj => by rw [Lib.add_plain]; exact hT.read hj)
    have HT := Lib.hid hT
    clear hT hal
    go_wp2
    go_ret2
    obtain ⟨a1, a2, a3, a4⟩ := HH.out
    obtain ⟨_, _, _, _, hb⟩ := HT.out
    refine ⟨ret_sl_str ?_, hb⟩
    unfold numeral
    rw [a3, digs_small hk16]; rfl
theorem grow_below (w : World) (os : Array Obj) : Below w.heap.size w (Sort.grow w os) :=
 ⟨rfl, rfl, rfl, by simp [Sort.grow], fun k hk => by simp [Sort.grow, Array.getElem?_append_left hk]⟩
set_option maxHeartbeats 1000000 in
theorem formatInt16 (u : Nat) (w : World) (hu : u < 9223372036854775808) (h : w.cell? ⟨3, 15, none⟩ = some (.int .u8 4)) :
  Calls Tryz.prog 104 #[.int .i64 u, .int .i64 16] w fun e w' => e = .returned (.string (numeral 16 u)) ∧ Below w.heap.size w w' := by
 have HC := Lib.hid h
 clear h
 have h1 : Calls Tryz.prog 133 #[.int .i64 u, .int .i64 16] w fun e w' => e = .returned (.string (numeral 16 u)) ∧ Below w.heap.size w w' := by
  have hwr : IntKind.u64.wrap (u : Int) = (u : Int) := by rw [IntKind.wrap_u64]; omega
  go_enter Tryz.func133, Tryz.ntmps133
  go_wp2_with (go_at_call 163; refine (formatBits16 u _ hu HC.out).mono ?_; rintro e w' ⟨rfl, hb⟩)
  go_ret
  exact ⟨rfl, hb⟩
 go_enter Tryz.func104, Tryz.ntmps104
 go_wp2_with (go_at_call 133; refine h1.mono ?_; rintro e w' ⟨rfl, hb⟩)
 go_ret
 exact ⟨rfl, hb⟩
theorem formatInt10 (u : Nat) (w : World) (hu : u < 9223372036854775808) (h : Lib.TabIs Tryz.prog w "internal/strconv.uint64pow10" .u64 Lib.pow10Tab) :
  Calls Tryz.prog 104 #[.int .i64 u, .int .i64 10] w fun e w' => e = .returned (.string (numeral 10 u)) ∧ Below w.heap.size w w' := by
 refine (Any.strconv_FormatInt_10 Tryz.laysM173 (u : Int) (by omega) (by omega) w h).mono ?_
 rintro e w' ⟨rfl, k, os, rfl⟩
 refine ⟨ret_str ?_, (below_drewN0 w k).trans (show Below w.heap.size (w.drewN k) _ from grow_below (w.drewN k) os)⟩
 unfold numeral
 rw [digs_dec, Lib.itoa_nonneg]
theorem format_any (n : Int) (b : Int) (w : World) (hb : b = 10 ∨ b = 16) (h0 : -9223372036854775808 ≤ n) (h1 : n ≤ 9223372036854775807) (ht : Tabs w) :
  Calls Tryz.prog 73 #[.int .i64 n, .int .i64 b] w fun e w' => e = .returned (.string (fmtS b.toNat n)) ∧ Below w.heap.size w w' := by
 by_cases hn : n < 0
 · go_enter Tryz.func73, Tryz.ntmps73
   go_wp2
   go_ret
   exact ⟨ret_str (by unfold fmtS; rw [if_pos hn]), Below.refl _ _⟩
 · obtain ⟨u, rfl⟩ : ∃ u : Nat, n = u := ⟨n.toNat, by omega⟩
   obtain ⟨t1, t2, t3⟩ := ht
   have T1 := Lib.hid t1
   have T2 := Lib.hid t2
   clear t1 t2
   rcases hb with rfl | rfl
   · go_enter Tryz.func73, Tryz.ntmps73
     go_wp2_with (go_at_call 104; refine (formatInt10 u _ (by omega) T1.out).mono ?_; rintro e w' ⟨rfl, hb⟩)
     go_ret
     exact ⟨ret_str (by unfold fmtS; rw [if_neg (by omega)]; rfl), hb⟩
   · go_enter Tryz.func73, Tryz.ntmps73
     go_wp2_with (go_at_call 104; refine (formatInt16 u _ (by omega) T2.out).mono ?_; rintro e w' ⟨rfl, hb⟩)
     go_ret
     exact ⟨ret_str (by unfold fmtS; rw [if_neg (by omega)]; rfl), hb⟩
theorem decimal_any (n : Int) (w : World) (h0 : -9223372036854775808 ≤ n) (h1 : n ≤ 9223372036854775807) (ht : Tabs w) :
  Calls Tryz.prog 45 #[.int .i64 n] w fun e w' => e = .returned (.string (fmtS 10 n)) ∧ Below w.heap.size w w' := by
 have HT := Lib.hid ht
 clear ht
 go_enter Tryz.func45, Tryz.ntmps45
 go_wp2_with (go_at_call 73; refine (format_any _ _ _ (.inl rfl) h0 h1 HT.out).mono ?_; rintro e w' ⟨rfl, hb⟩)
 go_ret
 exact ⟨rfl, hb⟩
theorem tabs_below {w w' : World} (h : Tabs w) (hb : Below w.heap.size w w') : Tabs w' := by
 obtain ⟨h1, h2, h3⟩ := h
 refine ⟨?_, below_cell hb h2, Nat.lt_of_lt_of_le h3 hb.size⟩
 have hg : Tryz.prog.globalNamed "internal/strconv.uint64pow10" = some 1 := by kernel_rfl
 unfold Lib.TabIs World.var? at *
 rw [hg] at h1 ⊢
 simp only [Option.bind_some] at h1 ⊢
 rw [hb.block _ h3]; exact h1
theorem digs_len {b : Nat} (hb : 2 ≤ b) : ∀ (k n : Nat), n < 2 ^ k → 1 ≤ k → (digs b n).length ≤ k
 | 0, n, _, h => absurd h (by omega)
 | k + 1, n, hn, _ => by
  by_cases h : n < b
  · rw [digs_small h]; simp
  · rw [digs_big hb h, List.length_append]
    have h1 : n / b ≤ n / 2 := Nat.div_le_div_left hb (by omega)
    have h2 : n / 2 < 2 ^ k := by rw [Nat.pow_succ] at hn; omega
    have h3 : 1 ≤ n / b := by
     have : b / b ≤ n / b := Nat.div_le_div_right (by omega)
     rw [Nat.div_self (by omega)] at this; exact this
    have hk : 1 ≤ k := by
     match k, h2 with
     | 0, h2 => simp at h2; omega
     | k + 1, _ => omega
    have := digs_len hb k (n / b) (by omega) hk
    simp; omega
theorem fmtS_size {b : Nat} (hb : 2 ≤ b) (n : Int) (h1 : n ≤ 9223372036854775807) : (fmtS b n).size ≤ 64 := by
  unfold fmtS; split
  · decide
  · show (digs b n.toNat).toArray.size ≤ 64
    simpa using digs_len hb 64 n.toNat (by have : (2 : Nat) ^ 64 = 18446744073709551616 := by decide
                                           omega) (by omega)
theorem fmtS_max {b : Nat} (hb : 2 ≤ b) (n : Int) (h1 : n ≤ 9223372036854775807) : (fmtS b n).size ≤ maxLen := Nat.le_trans (fmtS_size hb n h1) (by decide)
theorem parse_fmt {b : Nat} (hb : 2 ≤ b) (hb16 : b ≤ 16) (n most : Int) : parseS b most (fmtS b n) = if n < 0 then (0, 2) else if n ≤ most then (n, 0) else (0, 3) := by
 unfold fmtS; split
 · exact parse_empty _ _
 · rw [parse_numeral hb hb16]
   have : ((n.toNat : Nat) : Int) = n := by omega
   rw [this]
def nineN : List ByteArray := [⟨#[67, 111, 110, 110, 101, 99, 116, 105, 111, 110]⟩, ⟨#[75, 101, 101, 112, 45, 65, 108, 105, 118, 101]⟩, ⟨#[80, 114, 111, 120, 121, 45, 67, 111, 110, 110, 101, 99, 116, 105, 111, 110]⟩, ⟨#[84, 69]⟩, ⟨#[84, 114, 97, 105, 108, 101, 114]⟩, ⟨#[84, 114, 97, 110, 115, 102, 101, 114, 45, 69, 110, 99, 111, 100, 105, 110, 103]⟩, ⟨#[85, 112, 103, 114, 97, 100, 101]⟩, ⟨#[69, 120, 112, 101, 99, 116]⟩, ⟨#[67, 111, 110, 116, 101, 110, 116, 45, 76, 101, 110, 103, 116, 104]⟩]
def nineR : List ByteArray := [⟨#[99, 111, 110, 110, 101, 99, 116, 105, 111, 110]⟩, ⟨#[107, 101, 101, 112, 45, 97, 108, 105, 118, 101]⟩, ⟨#[112, 114, 111, 120, 121, 45, 99, 111, 110, 110, 101, 99, 116, 105, 111, 110]⟩, ⟨#[116, 101]⟩, ⟨#[116, 114, 97, 105, 108, 101, 114]⟩, ⟨#[116, 114, 97, 110, 115, 102, 101, 114, 45, 101, 110, 99, 111, 100, 105, 110, 103]⟩, ⟨#[117, 112, 103, 114, 97, 100, 101]⟩, ⟨#[101, 120, 112, 101, 99, 116]⟩, ⟨#[99, 111, 110, 116, 101, 110, 116, 45, 108, 101, 110, 103, 116, 104]⟩]
def hostP : ByteArray := ⟨#[72, 111, 115, 116]⟩
def cookP : ByteArray := ⟨#[67, 111, 111, 107, 105, 101]⟩
def hostLo : ByteArray := ⟨#[104, 111, 115, 116]⟩
def cookN : ByteArray := ⟨#[99, 111, 111, 107, 105, 101]⟩
def viaP : ByteArray := ⟨#[86, 105, 97]⟩
def viaN : ByteArray := ⟨#[118, 105, 97]⟩
def selfP : ByteArray := ⟨#[49, 46, 49, 32, 99, 97, 110, 97, 114, 121]⟩
def xffP : ByteArray := ⟨#[88, 45, 70, 111, 114, 119, 97, 114, 100, 101, 100, 45, 70, 111, 114]⟩
def sepP : ByteArray := ⟨#[44, 32]⟩
theorem low_host : lowS hostP = lowS hostLo := by decide +kernel
theorem low_cook : lowS cookP = lowS cookN := by decide +kernel
theorem low_nine : nineN.map lowS = nineR.map lowS := by decide +kernel
def protB (s : ByteArray) : Bool := foldS s hostLo || foldS s cookN
def namedL (x : List ByteArray) : List ByteArray := x.filter fun s => !protB s
def stripNs (l : List Fld) : List ByteArray := nineN ++ namedL (listL (valuesL l cnN))
def stripL (l : List Fld) : List Fld := withoutL l (stripNs l)
def tailB (l : List ByteArray) : List UInt8 := l.flatMap fun y => [44, 32] ++ y.data.toList
def joinB : List ByteArray → List UInt8
 | [] => []
 | x :: r => x.data.toList ++ tailB r
def joinS (l : List ByteArray) : ByteArray := ⟨(joinB l).toArray⟩
def extL (l : List Fld) (n last : ByteArray) : List Fld := withoutL l [n] ++ [(n, joinS (listL (valuesL l n) ++ [last]))]
def viaL (l : List Fld) : List Fld := extL l viaP selfP
def lenF (k : Int) : Fld := (⟨#[67, 111, 110, 116, 101, 110, 116, 45, 76, 101, 110, 103, 116, 104]⟩, fmtS 10 k)
def fwdL (l : List Fld) (fr : Bool) (k : Int) (peer : ByteArray) : List Fld := viaL (extL (stripL l) xffP peer) ++ (if fr then [lenF k] else [])
theorem inFoldL_app (a b : List ByteArray) (s : ByteArray) : inFoldL (a ++ b) s = (inFoldL a s || inFoldL b s) := by unfold inFoldL; rw [List.any_append]
theorem inFoldL_map (a : List ByteArray) (s : ByteArray) : inFoldL a s = (a.map lowS).any (fun x => x.toList == (lowS s).toList) := by
 unfold inFoldL foldS; rw [List.any_map]; rfl
theorem inFoldL_nine (s : ByteArray) : inFoldL nineR s = inFoldL nineN s := by rw [inFoldL_map, inFoldL_map, low_nine]
theorem foldS_right {a b x : ByteArray} (h : foldS a b = true) : foldS x a = foldS x b := by
 unfold foldS at *; rw [eq_of_beq h]
theorem inFoldL_right {a b : ByteArray} (ns : List ByteArray) (h : foldS a b = true) : inFoldL ns a = inFoldL ns b := by
 unfold inFoldL; congr 1; funext x; exact foldS_right h
theorem vals_app (a b : List Fld) (n : ByteArray) : valuesL (a ++ b) n = valuesL a n ++ valuesL b n := by
 unfold valuesL; rw [List.filter_append, List.map_append]
theorem valuesL_kept (l : List Fld) (ns : List ByteArray) (n : ByteArray) (h : inFoldL ns n = false) : valuesL (withoutL l ns) n = valuesL l n := by
 unfold valuesL withoutL
 rw [List.filter_filter]
 congr 1
 apply List.filter_congr
 intro f _
 by_cases hf : foldS f.1 n = true
 · rw [hf, inFoldL_right ns hf, h]; rfl
 · rw [Bool.not_eq_true] at hf; rw [hf]; rfl
theorem valuesL_gone (l : List Fld) (ns : List ByteArray) (n : ByteArray) (h : inFoldL ns n = true) : valuesL (withoutL l ns) n = [] := by
 unfold valuesL withoutL
 rw [List.filter_filter, List.map_eq_nil_iff, List.filter_eq_nil_iff]
 intro f _ hf
 rw [Bool.and_eq_true] at hf
 rw [inFoldL_right ns hf.1, h] at hf
 exact absurd hf.2 (by decide)
theorem inFoldL_one (n m : ByteArray) : inFoldL [n] m = foldS n m := by unfold inFoldL; simp
theorem vals_one (n v m : ByteArray) : valuesL [(n, v)] m = if foldS n m then [v] else [] := by
 unfold valuesL; by_cases h : foldS n m = true <;> simp [h]
theorem foldS_cm (a b : ByteArray) : foldS a b = foldS b a := by unfold foldS; exact Bool.beq_comm
theorem foldS_refl (a : ByteArray) : foldS a a = true := by unfold foldS; exact beq_self_eq_true _
theorem valuesL_ext (l : List Fld) (n last m : ByteArray) (h : foldS n m = false) : valuesL (extL l n last) m = valuesL l m := by
 unfold extL
 rw [vals_app, valuesL_kept _ _ _ (by rw [inFoldL_one]; exact h), vals_one, h]; simp
theorem valuesL_extSame (l : List Fld) (n last : ByteArray) : valuesL (extL l n last) n = [joinS (listL (valuesL l n) ++ [last])] := by
 unfold extL
 rw [vals_app, valuesL_gone _ _ _ (by rw [inFoldL_one]; exact foldS_refl n), vals_one, foldS_refl]; rfl
theorem nine_cn : inFoldL nineN cnN = true := by decide +kernel
theorem nine_te : inFoldL nineN teN = true := by decide +kernel
theorem nine_cl : inFoldL nineN clN = true := by decide +kernel
theorem nine_host : inFoldL nineN hostLo = false := by decide +kernel
theorem nine_cook : inFoldL nineN cookN = false := by decide +kernel
theorem named_prot (x : List ByteArray) (n : ByteArray) (h : protB n = true) : inFoldL (namedL x) n = false := by
 unfold inFoldL namedL
 rw [List.any_filter, List.any_eq_false]
 intro s _ hs
 rw [Bool.and_eq_true] at hs
 have h1 : protB s = true := by
  unfold protB at *
  rw [foldS_cm s, foldS_cm s, foldS_right hs.2, foldS_right hs.2, foldS_cm hostLo, foldS_cm cookN]; exact h
 rw [h1] at hs
 exact absurd hs.1 (by decide)
theorem strip_gone (l : List Fld) (n : ByteArray) (h : inFoldL nineN n = true) : valuesL (stripL l) n = [] :=
 valuesL_gone _ _ _ (by unfold stripNs; rw [inFoldL_app, h]; rfl)
theorem strip_prot (l : List Fld) (n : ByteArray) (h : inFoldL nineN n = false) (h2 : protB n = true) : valuesL (stripL l) n = valuesL l n :=
 valuesL_kept _ _ _ (by unfold stripNs; rw [inFoldL_app, h, named_prot _ _ h2]; rfl)
theorem strip_twice (l : List Fld) : stripL (stripL l) = stripL l := by
 have e : stripNs (stripL l) = nineN := by
  unfold stripNs; rw [strip_gone l cnN nine_cn]; rfl
 show withoutL (stripL l) (stripNs (stripL l)) = stripL l
 rw [e]
 unfold stripL withoutL
 rw [List.filter_eq_self]
 intro f hf
 have h := (List.mem_filter.1 hf).2
 unfold stripNs at h
 rw [inFoldL_app, Bool.not_or, Bool.and_eq_true] at h
 exact h.1
theorem strip_ref (l : List Fld) : withoutL l (nineR ++ namedL (listL (valuesL l cnN))) = stripL l := by
 unfold stripL withoutL stripNs
 apply List.filter_congr
 intro f _
 rw [inFoldL_app, inFoldL_app, inFoldL_nine]
theorem stripL_len (l : List Fld) : (stripL l).length ≤ l.length := withoutL_len _ _
theorem stripL_small {l : List Fld} (h : SmallF l) : SmallF (stripL l) := fun f hf => h f (List.mem_filter.1 hf).1
theorem extL_len (l : List Fld) (n last : ByteArray) : (extL l n last).length ≤ l.length + 1 := by
 unfold extL; rw [List.length_append]; have := withoutL_len l [n]; simp only [List.length_cons, List.length_nil]; omega
theorem tailB_len : ∀ l : List ByteArray, (tailB l).length ≤ 2 * total l
 | [] => Nat.le_refl _
 | x :: r => by
  have ih := tailB_len r
  unfold tailB at *
  rw [List.flatMap_cons, List.length_append]
  simp only [List.length_append, List.length_cons, List.length_nil, total]
  have : x.data.toList.length = x.size := by simp
  omega
theorem joinB_len (l : List ByteArray) : (joinB l).length ≤ 2 * total l := by
 cases l with
 | nil => exact Nat.zero_le _
 | cons x r =>
  have ih := tailB_len r
  unfold joinB
  rw [List.length_append]
  have : x.data.toList.length = x.size := by simp
  simp only [total]; omega
theorem joinS_size (l : List ByteArray) : (joinS l).size ≤ 2 * total l := by
 have := joinB_len l
 show (joinB l).toArray.size ≤ _
 rw [List.size_toArray]; exact this
theorem tailB_snoc (l : List ByteArray) (x : ByteArray) : tailB (l ++ [x]) = tailB l ++ [44, 32] ++ x.data.toList := by
 unfold tailB; rw [List.flatMap_append]; simp
theorem joinB_snoc {l : List ByteArray} (h : l ≠ []) (x : ByteArray) : joinB (l ++ [x]) = joinB l ++ [44, 32] ++ x.data.toList := by
 cases l with
 | nil => exact absurd rfl h
 | cons y r => show y.data.toList ++ tailB (r ++ [x]) = _; rw [tailB_snoc]; unfold joinB; simp
theorem joinS_one (x : ByteArray) : joinS [x] = x := ba_ext (by unfold joinS joinB tailB; simp)
theorem joinS_snoc {l : List ByteArray} (h : l ≠ []) (x : ByteArray) : joinS (l ++ [x]) = joinS l ++ sepP ++ x := ba_ext (by
 rw [ba_app_list, ba_app_list]
 unfold joinS; rw [joinB_snoc h]; rfl)
theorem extL_short {l : List Fld} {n last : ByteArray} (h : ShortF l) (hn : n.size ≤ maxLen) (ht : total (valuesL l n) ≤ 4000000000) (hl : last.size ≤ 4000000000) : ShortF (extL l n last) := by
 intro f hf
 rcases List.mem_append.1 hf with hf | hf
 · exact withoutL_short h _ f hf
 · obtain rfl := List.mem_singleton.1 hf
   refine ⟨hn, ?_⟩
   have h1 := joinS_size (listL (valuesL l n) ++ [last])
   rw [total_append] at h1
   have h2 := total_listL (valuesL l n)
   simp only [total] at h1
   show (joinS _).size ≤ maxLen
   unfold maxLen; omega
theorem ext_total {l : List Fld} {n last m : ByteArray} (h : foldS n m = false) (ht : total (valuesL l m) ≤ 4000000000) : total (valuesL (extL l n last) m) ≤ 4000000000 := by rw [valuesL_ext _ _ _ _ h]; exact ht
theorem xff_via : foldS xffP viaP = false := by decide +kernel
theorem nineN_short : ∀ x ∈ nineN, x.size ≤ maxLen := by
 have h : (nineN.all fun x => decide (x.size ≤ 100)) = true := by decide +kernel
 intro x hx
 have := of_decide_eq_true (List.all_eq_true.1 h x hx)
 unfold maxLen; omega
theorem nineR_short : ∀ x ∈ nineR, x.size ≤ maxLen := by
 have h : (nineR.all fun x => decide (x.size ≤ 100)) = true := by decide +kernel
 intro x hx
 have := of_decide_eq_true (List.all_eq_true.1 h x hx)
 unfold maxLen; omega
theorem named_yes (x : List ByteArray) (k : Nat) (h : k < x.length) (hp : protB x[k] = false) : namedL (x.take (k + 1)) = namedL (x.take k) ++ [x[k]] := by
 unfold namedL; rw [List.take_succ_eq_append_getElem h, List.filter_append]; simp [hp]
theorem named_no (x : List ByteArray) (k : Nat) (h : k < x.length) (hp : protB x[k] = true) : namedL (x.take (k + 1)) = namedL (x.take k) := by
 unfold namedL; rw [List.take_succ_eq_append_getElem h, List.filter_append]; simp [hp]
theorem namedL_len (x : List ByteArray) : (namedL x).length ≤ x.length := List.length_filter_le _ _
theorem prot_yes {s : ByteArray} (h : foldS s hostLo = true) : protB s = true := by unfold protB; rw [h]; rfl
theorem prot_second {s : ByteArray} (h : foldS s hostLo = false) : protB s = foldS s cookN := by unfold protB; rw [h]; rfl
theorem names_short {l : List Fld} (h : total (valuesL l cnN) ≤ 4000000000) : ∀ x ∈ nineN ++ namedL (listL (valuesL l cnN)), x.size ≤ maxLen := by
 intro x hx
 rcases List.mem_append.1 hx with hx | hx
 · exact nineN_short x hx
 · have := listL_small (List.mem_filter.1 hx).1
   unfold maxLen; omega
theorem namesR_short {l : List Fld} (h : total (valuesL l cnN) ≤ 4000000000) : ∀ x ∈ nineR ++ namedL (listL (valuesL l cnN)), x.size ≤ maxLen := by
 intro x hx
 rcases List.mem_append.1 hx with hx | hx
 · exact nineR_short x hx
 · have := listL_small (List.mem_filter.1 hx).1
   unfold maxLen; omega
theorem stripNs_len {l : List Fld} (h : total (valuesL l cnN) ≤ 4000000000 - 9) : (stripNs l).length ≤ 4000000000 := by
 have h1 := namedL_len (listL (valuesL l cnN))
 have h2 := listL_length (valuesL l cnN)
 unfold stripNs; rw [List.length_append]; show 9 + _ ≤ _; omega
set_option maxHeartbeats 1000000 in
theorem isProtected_any (s : ByteArray) (w : World) (hs : s.size ≤ maxLen) :
  Calls Tryz.prog 65 #[.string s] w fun e w' => e = .returned (.bool (protB s)) ∧ Below w.heap.size w w' := by
 cases h1 : foldS s hostLo with
 | true =>
  have HP := Box.mk (prot_yes h1).symm
  have H1 := Box.mk (show foldS s hostP = true by rw [foldS_low low_host]; exact h1)
  clear h1
  go_enter Tryz.func65, Tryz.ntmps65
  go_wp2_with fail
  refine (fold_any s hostP _ hs (by decide)).mono ?_
  rintro e w1 ⟨he, hb⟩
  rw [H1.out] at he
  subst he
  have HB := Box.mk hb
  clear hb
  go_wp2_with fail
  go_ret
  exact ⟨ret_bool HP.out, HB.out⟩
 | false =>
  have HP := Box.mk (prot_second h1).symm
  have H1 := Box.mk (show foldS s hostP = false by rw [foldS_low low_host]; exact h1)
  clear h1
  go_enter Tryz.func65, Tryz.ntmps65
  go_wp2_with fail
  refine (fold_any s hostP _ hs (by decide)).mono ?_
  rintro e w1 ⟨he, hb⟩
  rw [H1.out] at he
  subst he
  have HB := Box.mk hb
  clear hb
  go_wp2_with fail
  refine (fold_any s cookP _ hs (by decide)).mono ?_
  rintro e w2 ⟨rfl, hb2⟩
  rw [foldS_low low_cook]
  have HB2 := Box.mk (below_trans HB.out hb2)
  clear hb2
  go_wp2_with fail
  go_ret
  exact ⟨ret_bool HP.out, HB2.out⟩
theorem acc_lits (w : World) (L : List ByteArray) (n : Nat) (h : L.length = n) (hn : n ≤ 1000) (h0 : 0 < n) (cs : Array Value) (hc : cs = (L.map Value.string).toArray) : Acc w (w.alloc (.cells cs 9)) (.slice (some ⟨w.heap.size, 0, none⟩) n n) L := by
 subst h
 refine ⟨⟨by rw [List.length_map, Nat.mul_one], .inr ⟨w.heap.size, L.length, cs, rfl, Nat.le_refl _, heap_alloc_new w (.cells cs 9), Nat.le_refl _, by unfold maxLen; omega, ?_, ?_⟩⟩, below_oneF w _⟩
 · rw [hc]; simp
 · rw [hc, Nat.mul_one]; show List.take _ _ = _; exact List.take_of_length_le (by rw [List.length_map]; exact Nat.le_refl _)
theorem fElements_lowA {n m : ByteArray} (e : lowS n = lowS m) (w : World) (mm : Int) (l : List Fld) (a : Option Addr) (cap : Nat) (h : FldsIn w a l) (hz : ShortF l) (hn : n.size ≤ maxLen) (hl : l.length ≤ 1000000) (hm : MaxOk w mm) (ht : total (valuesL l m) ≤ 4000000000) :
  Calls Tryz.prog 64 #[.slice a l.length cap, .string n] w (RetAcc w (listL (valuesL l m))) := by
 rw [← valuesL_low l e] at ht ⊢
 exact fElements_acc w mm l n a cap h hz hn hl hm ht
theorem acc_beside {w w1 : World} {v : Value} {x : List ByteArray} {B : Nat} (h : Acc w w1 v x) (hB : B < w.heap.size) {u : Value} (hu : u.ownBlock = some B) :
  ∃ a c P, v = .slice a x.length c ∧ StrsAt w1 a x ∧ (x ≠ [] → a = some ⟨P, 0, none⟩ ∧ Aside w1 u P x) := by
 by_cases hx : x = []
 · obtain ⟨a, c, rfl, hs⟩ := h.shape
   exact ⟨a, c, 0, rfl, hs, fun e => absurd hx e⟩
 · obtain ⟨g, c, rfl, h1, h2, h3⟩ := h.isNew hx
   exact ⟨_, c, g, rfl, h3, fun _ => ⟨rfl, h3, (by rw [hu]; intro e; have := Option.some.inj e; omega), h2⟩⟩
set_option maxRecDepth 100000 in
set_option maxHeartbeats 2000000 in
theorem namesOfOneHop_any (l : List Fld) (a : Option Addr) (cap : Nat) (w : World) (mm : Int) (h : FldsIn w a l) (hz : ShortF l) (hl : l.length ≤ 1000000) (hm : MaxOk w mm) (ht : total (valuesL l cnN) ≤ 4000000000) :
  Calls Tryz.prog 35 #[.slice a l.length cap] w (RetStrs w (stripNs l)) := by
 have HA0 := Box.mk (acc_lits w nineN 9 rfl (by decide) (by decide) _ rfl)
 have HF0 := Box.mk (h.keep HA0.out.2)
 have HM0 := Box.mk (hm.keep HA0.out.2)
 clear h hm
 obtain ⟨x, HX⟩ : ∃ x, Box (listL (valuesL l cnN) = x) := ⟨_, ⟨rfl⟩⟩
 have HXL := Box.mk (show ∀ y ∈ x, y.size ≤ maxLen by
  intro y hy; rw [← HX.out] at hy; have := listL_small hy; unfold maxLen; omega)
 have hxl : x.length ≤ 4000000000 := by rw [← HX.out]; have := listL_length (valuesL l cnN); omega
 go_enter Tryz.func35, Tryz.ntmps35
 go_wp2_with fail
 change Calls _ _ _ (w.alloc (.cells (nineN.map Value.string).toArray 9)) _
 obtain ⟨W, hW⟩ : ∃ W, W = w.alloc (.cells (nineN.map Value.string).toArray 9) := ⟨_, rfl⟩
 rw [← hW] at HA0 HF0 HM0 ⊢
 have HLT := Box.mk (show w.heap.size < W.heap.size by rw [hW, World.size_alloc]; exact Nat.lt_succ_self _)
 clear hW
 refine (fElements_lowA low_cn W mm l a cap HF0.out hz (by decide) hl HM0.out ht).mono ?_
 rintro e w1 ⟨v1, rfl, hv1⟩
 rw [HX.out] at hv1
 have HA1 := Box.mk (show Acc w w1 (.slice (some ⟨w.heap.size, 0, none⟩) 9 9) (nineN ++ namedL (x.take 0)) from HA0.out.keep hv1.2)
 obtain ⟨a1, c1, P, rfl, _, hP⟩ := acc_beside hv1 HLT.out (u := .slice (some ⟨w.heap.size, 0, none⟩) 9 9) rfl
 have HP1 := Box.mk hP
 clear hv1 hP HA0 HF0 HM0 HLT
 go_wp2_with fail
 go_loopw [3, 10] (fun v iv wr => ∃ k : Nat, k ≤ x.length ∧ iv = .int .i64 k ∧ Box (Acc w wr v (nineN ++ namedL (x.take k)) ∧ (x ≠ [] → Aside wr v P x))) (fun _ iv _ => x.length - (intOf iv).toNat)
 case atStart => exact ⟨0, Nat.zero_le _, rfl, ⟨HA1.out, fun e => (HP1.out e).2⟩⟩
 case round =>
  clear HA1
  obtain ⟨k, hk, rfl, HM⟩ := hrel
  have hnl := namedL_len (x.take k)
  have hnl2 : (x.take k).length ≤ k := List.length_take_le _ _
  have hnn : (nineN ++ namedL (x.take k)).length ≤ 4000000009 := by rw [List.length_append]; show 9 + _ ≤ _; omega
  by_cases hlt : k < x.length
  · have hne : x ≠ [] := fun e => by rw [e] at hlt; exact absurd hlt (Nat.not_lt_zero _)
    obtain ⟨rfl, _⟩ := HP1.out hne
    have HASD := Box.mk (HM.out.2 hne)
    obtain ⟨b, off, hbe, hc⟩ := HASD.out.1 k hlt
    have hbe2 := Option.some.inj hbe
    injection hbe2 with e1 e2
    subst e1 e2
    rw [Nat.zero_add] at hc
    clear hbe hne
    have HSZ := Box.mk (HXL.out _ (List.getElem_mem hlt))
    by_cases hp : protB x[k] = true
    · have HT := Box.mk (named_no x k hlt hp)
      have HP := Box.mk hp
      clear hp
      generalize x[k] = f at *
      go_wp2_with fail
      refine (isProtected_any f _ HSZ.out).mono ?_
      rintro e w2 ⟨he, hb⟩
      rw [HP.out] at he
      subst he
      have HM2 := Box.mk (show Acc w w2 _ (nineN ++ namedL (x.take (k + 1))) ∧ (x ≠ [] → Aside w2 _ P x) by rw [HT.out]; exact ⟨HM.out.1.keep hb, fun _ => HASD.out.keep hb⟩)
      clear hb HM HT HP hc hnl hnl2 hnn
      go_wp2_with fail
      go_roundw
      case rel => exact ⟨k + 1, by omega, by go_num, HM2⟩
      case measure => simp [intOf]; omega
    · have hp' : protB x[k] = false := by simpa using hp
      have HT := Box.mk (named_yes x k hlt hp')
      have HP := Box.mk hp'
      clear hp hp'
      generalize x[k] = f at *
      obtain ⟨y, hy⟩ : ∃ y, y = nineN ++ namedL (x.take k) := ⟨_, rfl⟩
      have HY := Box.mk (show nineN ++ namedL (x.take (k + 1)) = y ++ [f] by rw [HT.out, hy, List.append_assoc])
      rw [← hy] at HM hnn
      clear hy HT
      go_wp2_with fail
      refine (isProtected_any f _ HSZ.out).mono ?_
      rintro e w2 ⟨he, hb⟩
      rw [HP.out] at he
      subst he
      have HM2 := Box.mk (And.intro (HM.out.1.keep hb) (HASD.out.keep hb))
      clear hb HM HP hc hnl hnl2
      go_wp2_with (at_builtin; refine wpList_append_acc _ rfl _ _ rfl rfl (HM2.out.1.keep ((Below.refl _ _).alloc (Nat.le_refl _) _)) rfl (y := f) ?c1 ?c2 ?c3)
      case c1 => simp
      case c2 => omega
      case c3 =>
       intro g cap' w' hacc has
       have HACC := Box.mk (show Acc w w' (.slice (some ⟨g, 0, none⟩) (y.length + 1) cap') (nineN ++ namedL (x.take (k + 1))) ∧ (x ≠ [] → Aside w' (.slice (some ⟨g, 0, none⟩) (y.length + 1) cap') P x) by
        rw [HY.out]; exact ⟨hacc, fun _ => has _ _ (HM2.out.2.keep (below_oneF _ _))⟩)
       clear hacc has HM2 HY HASD
       go_wp2_with fail
       go_roundw
       case rel => exact ⟨k + 1, by omega, by go_num, HACC⟩
       case measure => simp [intOf]; omega
  · have HE := Box.mk (show Acc w wr _ (stripNs l) by
     have h1 := HM.out.1
     rw [List.take_of_length_le (by omega), ← HX.out] at h1; exact h1)
    clear HM
    go_wp2_with fail
    obtain ⟨a', cap', rfl, hs⟩ := HE.out.shape
    go_ret
    exact ⟨a', cap', rfl, hs, HE.out.2⟩
set_option maxHeartbeats 1000000 in
theorem hStrip_any (l : List Fld) (a : Option Addr) (cap : Nat) (w : World) (mm : Int) (h : FldsIn w a l) (hz : ShortF l) (hl : l.length ≤ 1000000) (hm : MaxOk w mm) (ht : total (valuesL l cnN) ≤ 3000000000) :
  Calls Tryz.prog 9 #[.slice a l.length cap] w (RetAccF w (stripL l)) := by
 have H0 := Box.mk h
 have hnl := stripNs_len (l := l) (by omega)
 have HN := Box.mk (names_short (l := l) (by omega))
 clear h
 go_enter Tryz.func9, Tryz.ntmps9
 go_wp2_with fail
 refine (namesOfOneHop_any l a cap _ mm H0.out hz hl hm (by omega)).mono ?_
 rintro e w1 ⟨a1, c1, rfl, hs1, hb1⟩
 have HS1 := Box.mk (StrsIn.of_at hs1)
 have HB1 := Box.mk hb1
 have HF1 := Box.mk (H0.out.keep hb1)
 clear hs1 hb1 H0
 go_wp2_with fail
 refine (fWithout_acc l (stripNs l) a a1 cap c1 w1 HF1.out hz HS1.out HN.out hl hnl).mono ?_
 rintro e w2 ⟨v2, rfl, hv2⟩
 have HV := Box.mk (AccF.lift HB1.out hv2)
 clear hv2
 go_wp2_with fail
 go_ret
 exact ⟨v2, rfl, HV.out⟩
theorem joinX : Builder.Extra Tryz.prog Tryz.lays156_ren where -- 69
 sizeBuilder := by kernel_rfl
 liesBuilder := by kernel_rfl
 t5 := Tryz.underlying5
 a5 := Tryz.isAgg5
 z5 := Tryz.sizeOf5
 v5 := Tryz.zeroValue5
 infoByte := Tryz.info5
 cellsByte := by kernel_rfl
 sizeByte := by kernel_rfl
 neB5 := by decide
theorem tailB_lib : ∀ l : List ByteArray, Lib.joinTail [44, 32] (l.map (·.data.toList)) = tailB l
 | [] => rfl
 | x :: r => by
  have ih := tailB_lib r
  unfold Lib.joinTail tailB at *
  rw [List.map_cons, List.map_cons, List.flatten_cons, List.flatMap_cons, ih]
theorem joinB_lib (l : List ByteArray) : Lib.join (l.map (·.data.toList)) [44, 32] = joinB l := by
 cases l with
 | nil => rfl
 | cons x r => rw [List.map_cons, Lib.join_cons, tailB_lib]; rfl
theorem Acc.lies {w0 w : World} {v : Value} {l : List ByteArray} (h : Acc w0 w v l) (hne : l ≠ []) : ∃ g cap, v = .slice (some ⟨g, 0, none⟩) l.length cap ∧ l.length ≤ cap ∧ g < w.heap.size ∧ StrsAt w (some ⟨g, 0, none⟩) l := by
 obtain ⟨g, cap, hv, _, hlt, hs⟩ := h.isNew hne
 have hpos : 0 < l.length := by cases l with
  | nil => exact absurd rfl hne
  | cons _ _ => simp
 obtain ⟨⟨h1, h2⟩, _⟩ := h
 rcases h2 with ⟨_, h2⟩ | ⟨g', cap', cur, hv', _, _, hcap, _⟩
 · omega
 · rw [hv] at hv'; cases hv'
   exact ⟨g, cap, hv, hcap, hlt, hs⟩
theorem sJoin_any (l : List ByteArray) (g cap : Nat) (w : World) (h : StrsAt w (some ⟨g, 0, none⟩) l) (hg : g < w.heap.size) (hc : l.length ≤ cap) (ht : total l ≤ 70000000000000) :
  Calls Tryz.prog 69 #[.slice (some ⟨g, 0, none⟩) l.length cap, .string sepP] w fun e w' => e = .returned (.string (joinS l)) ∧ Below w.heap.size w w' := by
 have hl := total_len l
 have hj := joinB_len l
 refine (Any.strings_Join Tryz.lays156 joinX g 0 cap l sepP w ?_ hg (by omega) hc ?_).mono ?_
 · intro j x hx
   obtain ⟨hj, rfl⟩ := List.getElem?_eq_some_iff.1 hx
   obtain ⟨b, off, e, hc⟩ := h j hj
   have e2 := Option.some.inj e
   injection e2 with e3 e4
   subst e3 e4
   exact hc
 · show (Lib.join (l.map (·.data.toList)) [44, 32]).length ≤ _
   rw [joinB_lib]; omega
 · rintro e w' ⟨he, hb⟩
   refine ⟨he.trans ?_, hb⟩
   show Ending.returned (.string ⟨(Lib.join (l.map (·.data.toList)) [44, 32]).toArray⟩) = _
   rw [joinB_lib]; rfl
theorem sJoin_len (l : List ByteArray) (k g cap : Nat) (w : World) (hk : l.length = k) (h : StrsAt w (some ⟨g, 0, none⟩) l) (hg : g < w.heap.size) (hc : k ≤ cap) (ht : total l ≤ 70000000000000) :
  Calls Tryz.prog 69 #[.slice (some ⟨g, 0, none⟩) k cap, .string sepP] w fun e w' => e = .returned (.string (joinS l)) ∧ Below w.heap.size w w' := by
 subst hk; exact sJoin_any l g cap w h hg hc ht
theorem join_first (l : List ByteArray) (h : 0 < l.length) : joinS (l.take 1) = l[0] := by
 cases l with
 | nil => exact absurd h (by decide)
 | cons x r => exact joinS_one x
theorem join_step (l : List ByteArray) (k : Nat) (h : k < l.length) (h0 : 0 < k) : joinS (l.take (k + 1)) = joinS (l.take k) ++ sepP ++ l[k] := by
 rw [List.take_succ_eq_append_getElem h]
 refine joinS_snoc (fun e => ?_) _
 have := congrArg List.length e
 rw [List.length_take] at this
 simp only [List.length_nil] at this
 omega
set_option maxRecDepth 100000 in
set_option maxHeartbeats 2000000 in
theorem refJoin_any (l : List ByteArray) (a : Option Addr) (cap : Nat) (w : World) (h : StrsAt w a l) (ht : total l ≤ 70000000000000) :
  Calls Tryz.prog 70 #[.slice a l.length cap, .string sepP] w fun e w' => e = .returned (.string (joinS l)) ∧ Below w.heap.size w w' := by
 have H0 := Box.mk h
 have HT := Box.mk ht
 have hl := total_len l
 clear h
 go_enter Tryz.func70, Tryz.ntmps70
 go_wp2_with fail
 go_loopw [5, 6] (fun v iv wr => ∃ k : Nat, k ≤ l.length ∧ iv = .int .i64 k ∧ ∃ s : ByteArray, v = .string s ∧ s.size ≤ 140000000000000 ∧ Box (s = joinS (l.take k) ∧ Below w.heap.size w wr)) (fun _ iv _ => l.length - (intOf iv).toNat)
 case atStart => exact ⟨0, Nat.zero_le _, rfl, ⟨#[]⟩, rfl, Nat.zero_le _, ⟨rfl, Below.refl _ _⟩⟩
 case round =>
  obtain ⟨k, hk, rfl, s, rfl, hs, HM⟩ := hrel
  by_cases hlt : k < l.length
  · obtain ⟨b, off, rfl, hc⟩ := (H0.out.keep HM.out.2) k hlt
    have HSZ := Box.mk (show (joinS (l.take (k + 1))).size ≤ 140000000000000 by
     have h1 := joinS_size (l.take (k + 1)); have h2 := total_take l (k + 1); have h3 := HT.out; omega)
    have hx : l[k].size ≤ 70000000000000 := by have h1 := total_mem (List.getElem_mem hlt); have h3 := HT.out; omega
    by_cases h0 : 0 < k
    · have HNEW := Box.mk (show s ++ sepP ++ l[k] = joinS (l.take (k + 1)) by rw [join_step l k hlt h0, HM.out.1])
      have HB := Box.mk HM.out.2
      clear HM
      generalize l[k] = f at *
      have g1 : (s ++ sepP).size = s.size + 2 := by rw [ByteArray.size_append]; rfl
      have gp : sepP.size = 2 := rfl
      have HN2 := Box.mk (show (s ++ sepP ++ f).size ≤ 140000000000000 by rw [HNEW.out]; exact HSZ.out)
      go_wp2_with fail
      go_roundw
      case rel => exact ⟨k + 1, by omega, by go_num, _, rfl, HN2.out, ⟨HNEW.out, HB.out⟩⟩
      case measure => simp [intOf]; omega
    · obtain rfl : k = 0 := by omega
      rw [Nat.add_zero] at hc
      have HNEW := Box.mk (show (⟨#[]⟩ : ByteArray) ++ l[0] = joinS (l.take (0 + 1)) by rw [Nat.zero_add, join_first l hlt]; exact ba_ext (by rw [ba_app_list]; rfl))
      have HB := Box.mk HM.out.2
      have hse : s = ⟨#[]⟩ := HM.out.1
      subst hse
      clear HM h0
      generalize l[0] = f at *
      have HN2 := Box.mk (show ((⟨#[]⟩ : ByteArray) ++ f).size ≤ 140000000000000 by rw [HNEW.out]; exact HSZ.out)
      go_wp2_with fail
      go_roundw
      case rel => exact ⟨0 + 1, by omega, by go_num, _, rfl, HN2.out, ⟨HNEW.out, HB.out⟩⟩
      case measure => simp [intOf]; omega
  · have HE := Box.mk (show s = joinS l by have := HM.out.1; rw [List.take_of_length_le (by omega)] at this; exact this)
    go_wp2_with fail
    go_ret
    exact ⟨ret_str HE.out, HM.out.2⟩
theorem refJoin_len (l : List ByteArray) (k : Nat) (a : Option Addr) (cap : Nat) (w : World) (hk : l.length = k) (h : StrsAt w a l) (ht : total l ≤ 70000000000000) :
  Calls Tryz.prog 70 #[.slice a k cap, .string sepP] w fun e w' => e = .returned (.string (joinS l)) ∧ Below w.heap.size w w' := by
 subst hk; exact refJoin_any l a cap w h ht
end Go.Proofs.YtfghgenboahkkaaGreatDoor
