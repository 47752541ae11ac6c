/- Queues: Put. -/
import Derived.Test.YtpgppninmnplkaaQueG
namespace Go.Proofs.Ytpgppninmnplkaa
open Go.RowKit

/-- The row of length N with M at its head. -/
def fillR (M : List UInt8) (N : Nat) : List UInt8 := (M ++ List.replicate N 0).take N
theorem fillR_len (M : List UInt8) (N : Nat) : (fillR M N).length = N := by unfold fillR; rw [List.length_take, List.length_append, List.length_replicate]; omega
theorem fillR_step (M b : List UInt8) (N E : Nat) (hE : E = min N M.length) : splice (fillR M N) E (b.take (N - E)) = fillR (M ++ b) N := by
  unfold splice fillR
  rcases Nat.lt_or_ge M.length N with h | h
  · obtain rfl : E = M.length := by omega
    have e1 : ((M ++ List.replicate N 0).take N).take M.length = M := by rw [List.take_take, Nat.min_eq_left (by omega), List.take_left' rfl]
    have e2 : ((M ++ List.replicate N 0).take N).drop (M.length + (b.take (N - M.length)).length) = List.replicate (N - (M.length + (b.take (N - M.length)).length)) 0 := by
      rw [List.drop_take, List.drop_append, List.drop_of_length_le (by omega), List.nil_append, List.drop_replicate, List.take_replicate]
      congr 1
      rw [List.length_take]; omega
    rw [e1, e2, List.append_assoc, List.take_append, List.take_of_length_le (l := M) (by omega), List.take_append, List.take_replicate]
    congr 3
    rw [List.length_take]; omega
  · obtain rfl : E = N := by omega
    have e1 : (M ++ List.replicate E (0 : UInt8)).take E = M.take E := by rw [List.take_append, Nat.sub_eq_zero_of_le h, List.take_zero, List.append_nil]
    have e2 : (M ++ b ++ List.replicate E 0).take E = M.take E := by rw [List.append_assoc, List.take_append, Nat.sub_eq_zero_of_le h, List.take_zero, List.append_nil]
    rw [e1, e2, Nat.sub_self, List.take_zero, List.length_nil, List.nil_append, List.take_take, Nat.min_self, Nat.add_zero, List.drop_of_length_le (by rw [List.length_take]; omega), List.append_nil]
theorem bytesV_splice (L b : List UInt8) (E : Nat) : bytesV (splice L E b) = splice (bytesV L) E (bytesV b) := by
  unfold splice
  rw [bytesV_append, bytesV_append, bytesV_take, bytesV_drop, bytesV_len]
theorem fillR_end (l f : List UInt8) (t : Nat) (ht : t ≤ f.length) : fillR (l ++ f) (l.length + t) = l ++ f.take t := by
  unfold fillR
  rw [List.append_assoc, List.take_append, List.take_of_length_le (by omega), List.take_append_of_le_length (by omega)]
  congr 2; omega
def putL (z : Int) (n m : Nat) : Nat := min (roomN z n) m

/-- data[E:], and where it lies. -/
theorem part_at (gd N E : Nat) (hE : E ≤ N) : ∃ D : Addr, (∀ W, (Instr.sliceAt 22 (.slice (some ⟨gd, 0, none⟩) N N) (some (.int .i64 (E : Int))) none none).run Try.prog W = .ok (.slice (some D) (N - E) (N - E)) W) ∧ (E < N → D = ⟨gd, E, none⟩) := by
  refine ⟨_, fun W => run_part_q W ⟨gd, 0, none⟩ N N E hE, fun h => ?_⟩
  rw [if_neg (by omega), Addr.add_lit, Nat.zero_add]

set_option maxRecDepth 100000 in
set_option maxHeartbeats 2000000 in
theorem put_fresh (z : Int) (l : List UInt8) (ls : List (List UInt8)) (a al : Option Addr) (c cl : Nat) (w : World) (h : IsBytes w a l c) (hls : SlcIn w al ls) (hln : ls.length ≤ 140737488355328) (hlen : l.length ≤ 70368744177664) :
    Calls Try.prog 17 #[.agg #[.int .i64 z, .slice a l.length c], .slice al ls.length cl] w fun e w' => ∃ d f, e = .returned (.tuple #[.agg #[.int .i64 z, .slice d (l ++ ls.flatten.take (putL z l.length ls.flatten.length)).length f], .int .i64 (putL z l.length ls.flatten.length)]) ∧ Below w.heap.size w w' ∧
      IsBytes w' d (l ++ ls.flatten.take (putL z l.length ls.flatten.length)) f ∧ ∀ x, d = some x → w.heap.size ≤ x.block := by
  have H0 := Box.mk h
  have HA := Box.mk hls
  clear h hls
  obtain ⟨t, ht⟩ : ∃ t, t = putL z l.length ls.flatten.length := ⟨_, rfl⟩
  have HK := Box.mk ht
  rw [← ht]
  clear ht
  have hrr : roomN z l.length ≤ 1000000 := by
    unfold roomN
    split
    · rename_i hv; obtain ⟨f1, f2, f3⟩ := valid_facts hv; omega
    · omega
  go_enter Try.func17, Try.ntmps17
  go_wp2_with fail
  obtain ⟨W, hW⟩ : ∃ W, W = (w.alloc (.cells #[.int .i64 z, .slice a l.length c] 24)).alloc (.cells #[.int .i64 0, .slice none 0 0] 24) := ⟨_, rfl⟩
  have HBW : Box (Below w.heap.size w W) := ⟨by rw [hW]; exact below_two w _ _⟩
  have HQ : Box (QVar W w.heap.size z a l.length c) := ⟨by
    rw [hW]
    have := (below_one (w.alloc (.cells #[.int .i64 z, .slice a l.length c] 24)) (.cells #[.int .i64 0, .slice none 0 0] 24)).block w.heap.size (by simp)
    exact this.trans (heap_alloc_new _ _)⟩
  have HR : Box (QVar W (w.heap.size + 1) 0 none 0 0) := ⟨by
    rw [hW]
    have := heap_alloc_new (w.alloc (.cells #[.int .i64 z, .slice a l.length c] 24)) (.cells #[.int .i64 0, .slice none 0 0] 24)
    rw [World.size_alloc] at this; exact this⟩
  change Calls _ _ _ ((w.alloc (.cells #[.int .i64 z, .slice a l.length c] 24)).alloc (.cells #[.int .i64 0, .slice none 0 0] 24)) _
  rw [← hW]
  clear hW
  refine (room_lit z a l.length c W).mono ?_
  rintro e w0 ⟨rfl, hb0⟩
  have HB1 := Box.mk (below_trans HBW.out hb0)
  have HQ1 := Box.mk (HQ.out.keep hb0)
  have HR1 := Box.mk (HR.out.keep hb0)
  clear hb0 HBW HQ HR
  go_wp2_with fail
  refine (fitting_any (roomN z l.length) ls al cl w0 (HA.out.keep HB1.out) hln hrr).mono ?_
  rintro e w1 ⟨he, rfl⟩
  rw [show min (roomN z l.length) ls.flatten.length = t from HK.out.symm] at he
  subst he
  have htr : t ≤ 1000000 := by rw [HK.out]; unfold putL; omega
  have HTF := Box.mk (show t ≤ ls.flatten.length by rw [HK.out]; unfold putL; omega)
  clear hrr
  generalize hg : w.heap.size = g at HQ1 HR1 ⊢
  have HG := Box.mk hg
  clear hg
  have hd1 := HQ1.out.data
  obtain ⟨i0, hi, hz0, hz1, hz2⟩ := info_parts Try.info5
  obtain ⟨N, HN⟩ : ∃ N, Box (N = l.length + t) := ⟨_, ⟨rfl⟩⟩
  have hNN : N ≤ 70368745177664 := by have := HN.out; omega
  have HI := Box.mk (show i0.bytes * N ≤ 281474976710656 ∧ N ≤ maxLen by rw [hz2]; unfold maxLen; omega)
  have HZ := Box.mk (And.intro hi (And.intro hz0 hz1))
  clear hi hz0 hz1 hz2
  go_wp2_with (at_make; refine wpList_make_full _ rfl _ _ 22 rfl w0.heap.size 5 i0 (.int .u8 0) 1 Try.underlying22 HZ.out.1 HZ.out.2.1 HZ.out.2.2 .i64 .i64 _ _ N rfl rfl (by have := HN.out; omega) (by have := HN.out; omega) HI.out.1 HI.out.2 (Nat.le_refl _) ?c1)
  case c1 =>
    intro w1 hown hgrow
    have HR0 := Box.mk (made_row hown)
    have HBM := Box.mk ((Below.refl w0.heap.size w0).grown hgrow (Nat.le_refl _) fun k hk => by cases hk)
    clear hown hgrow hd1
    have hd2 := (HQ1.out.keep HBM.out).data
    have HP := Box.mk (fun hp => copy_src (n := N) ((H0.out.keep HB1.out).keep HBM.out) hp)
    have HTK := Box.mk (show l.take N = l from List.take_of_length_le (by have := HN.out; omega))
    rw [HTK.out] at HP
    have HS := Box.mk (show splice (bytesV (List.replicate N 0)) 0 (bytesV l) = bytesV (fillR l N) by
      have h1 := fillR_step [] l N 0 (by simp)
      rw [Nat.sub_zero, HTK.out, List.nil_append] at h1
      rw [← h1, bytesV_splice]
      congr 2
      unfold fillR
      rw [List.nil_append, List.take_of_length_le (by rw [List.length_replicate]; exact Nat.le_refl _)])
    have HLn := Box.mk (show (bytesV l).length = Nat.min l.length N by rw [bytesV_len]; exact (Nat.min_eq_left (by have := HN.out; omega)).symm)
    go_wp2_with (refine wpList_copy_splice rfl (.tmp 21) (.tmp 23) 22 22 rfl 5 Try.underlying22 u8_sizeQ _ _ _ _ _ _ rfl rfl w0.heap.size 0 (bytesV (List.replicate N 0)) 5 HR0.out (bytesV l) HLn.out (fun hp => ⟨rfl, HP.out hp⟩) (by have := HN.out; simp [bytesV_len]; omega) (bytesV_oneQ l) w0.heap.size w0 HBM.out (Nat.le_refl _) ?c2)
    case c2 =>
      intro w2 hrow hb2
      rw [show (bytesV l).length = l.length from bytesV_len l]
      have HR2 : Box (w2.heap[w0.heap.size]? = some (.cells (bytesV (fillR l N)).toArray 5 (0, 0))) := ⟨by rw [← HS.out]; exact hrow⟩
      have HB2 := Box.mk hb2
      clear hrow hb2 HR0 HBM hd2 HP HS HLn HI HZ
      generalize hgd : w0.heap.size = gd at *
      have HGD := Box.mk hgd
      clear hgd
      go_wp2_with fail
      go_loopw [8, 27] (fun ev iv wr => ∃ k E : Nat, k ≤ ls.length ∧ iv = .int .i64 k ∧ ev = .int .i64 E ∧ E ≤ N ∧ Box (E = min N (l ++ (ls.take k).flatten).length) ∧ Box (wr.heap[gd]? = some (.cells (bytesV (fillR (l ++ (ls.take k).flatten) N)).toArray 5 (0, 0)) ∧ Below gd w0 wr)) (fun _ iv _ => ls.length - (intOf iv).toNat)
      case atStart => exact ⟨0, l.length, Nat.zero_le _, rfl, rfl, by have := HN.out; omega, ⟨by rw [List.take_zero, List.flatten_nil, List.append_nil]; have := HN.out; omega⟩, ⟨by rw [List.take_zero, List.flatten_nil, List.append_nil]; exact ⟨HR2.out, HB2.out⟩⟩⟩
      case round =>
        clear HR2 HB2
        obtain ⟨k, E, hk, rfl, rfl, hEN, HE, HM⟩ := hrel
        have HBW := Box.mk (show Below w0.heap.size w0 wr by rw [HGD.out]; exact HM.out.2)
        by_cases hlt : k < ls.length
        · obtain ⟨x, ba, bc, rfl, hc, hb⟩ := HA.out.keep (below_trans HB1.out HBW.out) k hlt
          have HBy := Box.mk hb
          have HFS := Box.mk (flat_step ls k hlt)
          clear hb
          generalize ls[k] = b at *
          obtain ⟨D, hsl, hD⟩ := part_at gd N E hEN
          have HD := Box.mk hD
          obtain ⟨cs, HCS⟩ : ∃ cs, Box (cs = bytesV (b.take (N - E))) := ⟨_, ⟨rfl⟩⟩
          obtain ⟨m, HMM, hmN⟩ : ∃ m, Box (cs.length = m ∧ m = min (N - E) b.length) ∧ m ≤ N - E := ⟨_, ⟨rfl, by rw [HCS.out, bytesV_len, List.length_take]⟩, by rw [HCS.out, bytesV_len, List.length_take]; omega⟩
          have HP := Box.mk (show 0 < cs.length → (some D : Option Addr) = some ⟨gd, E, none⟩ ∧ ∃ ad, ba = some ad ∧ ∀ j v, cs[j]? = some v → wr.cell? (ad.add j) = some v from fun hp => ⟨by
            rw [HD.out (by have := HMM.out; omega)], by
            rw [HCS.out] at hp ⊢; exact copy_src HBy.out hp⟩)
          have HFIT := Box.mk (show E + cs.length ≤ (bytesV (fillR (l ++ (ls.take k).flatten) N)).length by rw [bytesV_len, fillR_len]; have := HMM.out; omega)
          have HONE := Box.mk (show ∀ v ∈ cs, v.oneCell' = true by rw [HCS.out]; exact bytesV_oneQ _)
          have HMIN := Box.mk (show cs.length = Nat.min b.length (N - E) by rw [HMM.out.1, HMM.out.2]; exact Nat.min_comm _ _)
          have HSTEP := Box.mk (show splice (bytesV (fillR (l ++ (ls.take k).flatten) N)) E cs = bytesV (fillR (l ++ (ls.take (k + 1)).flatten) N) by
            rw [HCS.out, ← bytesV_splice, fillR_step _ b N E HE.out, HFS.out, List.append_assoc])
          have HE1 := Box.mk (show E + m = min N (l ++ (ls.take (k + 1)).flatten).length by
            have h1 := HE.out
            have h2 := HMM.out.2
            have h3 : (l ++ ((ls.take k).flatten ++ b)).length = (l ++ (ls.take k).flatten).length + b.length := by rw [← List.append_assoc]; exact List.length_append
            rw [HFS.out, h3]
            omega)
          clear hD
          go_wp2_with (refine wpList_copy_splice rfl (.tmp 34) (.tmp 35) 22 22 rfl 5 Try.underlying22 u8_sizeQ _ _ _ _ _ _ rfl rfl gd E (bytesV (fillR (l ++ (ls.take k).flatten) N)) 5 HM.out.1 cs HMIN.out HP.out HFIT.out HONE.out gd w0 HM.out.2 (Nat.le_refl _) ?c3)
          case c3 =>
            intro w3 hrow hb3
            rw [HMM.out.1]
            have HN3 := Box.mk (And.intro (show w3.heap[gd]? = some (.cells (bytesV (fillR (l ++ (ls.take (k + 1)).flatten) N)).toArray 5 (0, 0)) by rw [← HSTEP.out]; exact hrow) hb3)
            clear hrow hb3 HM HP HFIT HONE HMIN HSTEP HCS HMM hsl
            go_wp2_with fail
            go_roundw
            case rel => exact ⟨k + 1, E + m, by omega, by go_num, by go_num, by omega, HE1, HN3⟩
            case measure => simp [intOf]; omega
        · have HQ3 := Box.mk (HQ1.out.keep HBW.out)
          have HR3 := Box.mk (HR1.out.keep HBW.out)
          have hcz := HQ3.out.cap
          have HF := Box.mk (show IsBytes wr (some ⟨gd, 0, none⟩) (l ++ ls.flatten.take t) N by
            have h1 := HM.out.1
            rw [List.take_of_length_le (by omega), HN.out, fillR_end l ls.flatten t HTF.out] at h1
            have h2 := row_bytes h1 (by unfold maxLen; rw [List.length_append, List.length_take]; omega)
            have h3 : (l ++ ls.flatten.take t).length = N := by rw [List.length_append, List.length_take, HN.out]; have := HTF.out; omega
            rw [h3] at h2; exact h2)
          have HLN := Box.mk (show N = (l ++ ls.flatten.take t).length by rw [List.length_append, List.length_take, HN.out]; have := HTF.out; omega)
          go_wp2_with (refine wpList_store_row rfl 24 _ _ rfl (g + 1) #[.int .i64 z, .slice (some ⟨gd, 0, none⟩) N N] rfl rfl 24 _ HR3.out sizeQ rfl (oneQ _ _ _ _) ?_)
          (try simp only [Exit.inBlock, Exit.then])
          refine bodyPost_ret (results_row_tmp rfl _ _ (g + 1) _ _ _ _ rfl (setRow_heap _ _ _ _ _ _ HR3.out) Try.underlying24 rfl sizeQ) rfl ?_
          have hgw := HG.out
          have hgl : g + 1 < w0.heap.size := (Array.getElem?_eq_some_iff.1 HR1.out).1
          have hgd := HGD.out
          refine ⟨_, N, by rw [← HLN.out]; rfl, below_setRow (below_trans HB1.out HBW.out) (by omega) _, HF.out.setRowQ (fun x hx _ => by obtain rfl := Option.some.inj hx; show gd ≠ g + 1; omega) _, fun x hx => by obtain rfl := Option.some.inj hx; have := HB1.out.size; show w.heap.size ≤ gd; omega⟩
theorem put_any (z : Int) (l : List UInt8) (ls : List (List UInt8)) (a al : Option Addr) (c cl : Nat) (w : World) (h : IsBytes w a l c) (hls : SlcIn w al ls) (hln : ls.length ≤ 140737488355328) (hlen : l.length ≤ 70368744177664) :
    Calls Try.prog 17 #[.agg #[.int .i64 z, .slice a l.length c], .slice al ls.length cl] w fun e w' => ∃ d f, e = .returned (.tuple #[.agg #[.int .i64 z, .slice d (l ++ ls.flatten.take (putL z l.length ls.flatten.length)).length f], .int .i64 (putL z l.length ls.flatten.length)]) ∧ Below w.heap.size w w' ∧
      IsBytes w' d (l ++ ls.flatten.take (putL z l.length ls.flatten.length)) f := by
  refine (put_fresh z l ls a al c cl w h hls hln hlen).mono ?_
  rintro e w' ⟨d, f, he, hb, hy, _⟩
  exact ⟨d, f, he, hb, hy⟩
end Go.Proofs.Ytpgppninmnplkaa
