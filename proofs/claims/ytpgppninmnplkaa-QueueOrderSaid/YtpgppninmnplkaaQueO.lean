/- Opening a queue among the arguments. -/
import Derived.Test.YtpgppninmnplkaaQueA
import Derived.Test.YtpgppninmnplkaaHashD
namespace Go.Proofs.Ytpgppninmnplkaa
open Go.ChangeShapes Go.WideShapes Go.ChangeAt Go.RowKit

theorem i64_ofQ {x : Int} (h : (Lit.int .i64 x).wf = true) : -9223372036854775808 ≤ x ∧ x ≤ 9223372036854775807 := bounds_i64 h
theorem open_queue {H : Type} {enc : TypeId × Value → H} {W : World} {r : Reach} {b0 : Nat} {v : Value} {d : DataW H} {ps : List MemPlace} {base : Nat} (hval : Value.okWide Try.prog W r b0 24 v)
    (h : DataW.Trod enc Try.prog W base (fun _ => true) true 24 v d ps) :
    ∃ (z : Int) (l : List UInt8) (a : Option Addr) (c : Nat), v = .agg #[.int .i64 z, .slice a l.length c] ∧ IsBytes W a l c ∧ l.length ≤ Rows.uptoBulk d := by
  obtain ⟨cs, rfl, hsz⟩ := okWide_struct Try.underlying24 hval
  obtain ⟨fuel, hf⟩ := h
  have hsz2 : cs.size = 2 := by rw [hsz]; kernel_rfl
  obtain ⟨x0, x1, rfl⟩ : ∃ x0 x1, cs = #[x0, x1] := by
    match cs, hsz2 with
    | ⟨[x0, x1]⟩, _ => exact ⟨x0, x1, rfl⟩
  obtain ⟨y0, y1, n, hdp, _, h0, h1⟩ := trod_struct2 Try.underlying24 hf
  have e0 : ((Value.agg #[x0, x1]).cells.toList.drop 0).take (Try.prog.cellsOf 3) = [x0] := by rw [show Try.prog.cellsOf 3 = 1 by kernel_rfl]; rfl
  have e1 : ((Value.agg #[x0, x1]).cells.toList.drop 1).take (Try.prog.cellsOf 22) = [x1] := by rw [show Try.prog.cellsOf 22 = 1 by kernel_rfl]; rfl
  have h0' : DataW.trod enc Try.prog W base (fun _ => true) true n 3 [x0] = some y0 := by rw [← e0]; exact h0
  have h1' : DataW.trod enc Try.prog W base (fun _ => true) true n 22 [x1] = some y1 := by rw [← e1]; exact h1
  obtain ⟨z, hz, _, _⟩ := DataW.trod_int Try.underlying3 h0'
  injection hz with hz
  subst hz
  obtain ⟨a, len, cap, rfl⟩ : ∃ a len cap, x1 = .slice a len cap := by
    rcases open_ints Try.underlying22 Try.underlying5 (by kernel_rfl) h1' with ⟨hcs, _⟩ | ⟨x, k, c, zs, hcs, _⟩
    · injection hcs with hcs; exact ⟨_, _, _, hcs⟩
    · injection hcs with hcs; exact ⟨_, _, _, hcs⟩
  obtain ⟨l, rfl, hb, hl⟩ := open_bytes_bulk (d := y1.1) (ps := y1.2) ⟨n, h1'⟩
  refine ⟨z, l, a, cap, rfl, hb, ?_⟩
  have hd : d = .agg [y0.1, y1.1] := congrArg Prod.fst hdp
  subst hd
  simp only [Rows.uptoBulk, Rows.uptoBulkAll]
  omega
end Go.Proofs.Ytpgppninmnplkaa
