/-
  No cell of these rows narrows 'for every input' (looked for: loops, veiled, ifaces, maps, wideKeys, modest, calm, conditions, laid).
  DERIVED. THE GIVEN ROWS OF THIS SEAT. 4 by the template 'for every input the law returns true; each argument reads behind the call as it read before'; 0 by the template 'total and deterministic' (their statements: YtegpgcdhmkcopaaTotals.lean).
  GIVEN WITH THE SEED: the statements are not yours to turn. If you find one false, say at which input.
  Laid BY PROGRAM, IN A SANDBOX (cutbox-rows.mjs): the forced cells as the released guide's own fill.sh prints them over the translation f49d395ef5c39d0d… (all of the seat's roots in one cut). By AI agents, Wed Nov 11 2026. No macro, syntax, notation, axiom, sorry.
-/
import Derived.Test.YtegpgcdhmkcopaaChecked
import GoSem.Claim
import GoSem.ClaimJoined
import GoSem.ClaimMapViews
import Derived.JoinedTies
import Derived.KernelRfl
namespace Go.Proofs.Ytegpgcdhmkcopaa
/- THE CELL 'sum', in the pinned program and in every row, IS THE sha256 OF THE DUMP (.gsa) THAT YtegpgcdhmkcopaaProg.lean LOADS. Nothing in Lean hashes anything: it is a label: what it is worth is what the hold of that sum in a sandbox is worth. -/
noncomputable def Try.pinned : Pinned := { name := "ytegpgcdhmkcopaa", sum := "f49d395ef5c39d0d5e9c5bcf1a003b897013b78356091733b31bad633be480a5", checked := Try.checked }
namespace Rows
def none {H : Type} : Left H := { results := [], args := [] }

/-- 'canarylaw17.WindowTick': WHATEVER THE INPUT: true; the input reads as it did. -/
def windowTickSpec : ChangeSpec := { name := "windowTick", fn := fun _ => fun
  | [d1, d2, d3] => { results := [.lit (.bool true)], args := [d1, d2, d3] }
  | _ => none }
def windowTickRow : OpenClaim := { program := "ytegpgcdhmkcopaa", sum := "f49d395ef5c39d0d5e9c5bcf1a003b897013b78356091733b31bad633be480a5", func := "canary/canarylaw17.WindowTick", spec := "windowTick", apart := false }
def WindowTickSaid : Prop := windowTickRow.holds Try.pinned (OpenSpec.ofChange windowTickSpec)

/-- ITS FALSE NEIGHBOUR: 'it returns false'. Refute it at one input. -/
def windowTickWrong : ChangeSpec := { name := "windowTick", fn := fun _ => fun
  | [d1, d2, d3] => { results := [.lit (.bool false)], args := [d1, d2, d3] }
  | _ => none }
def WindowTickWrongFalsely : Prop := windowTickRow.holds Try.pinned (OpenSpec.ofChange windowTickWrong)

/-- 'canarylaw17.WindowMerge': WHATEVER THE INPUT: true; the input reads as it did. -/
def windowMergeSpec : ChangeSpec := { name := "windowMerge", fn := fun _ => fun
  | [d1, d2, d3] => { results := [.lit (.bool true)], args := [d1, d2, d3] }
  | _ => none }
def windowMergeRow : OpenClaim := { program := "ytegpgcdhmkcopaa", sum := "f49d395ef5c39d0d5e9c5bcf1a003b897013b78356091733b31bad633be480a5", func := "canary/canarylaw17.WindowMerge", spec := "windowMerge", apart := false }
def WindowMergeSaid : Prop := windowMergeRow.holds Try.pinned (OpenSpec.ofChange windowMergeSpec)

/-- ITS FALSE NEIGHBOUR: 'it returns false'. Refute it at one input. -/
def windowMergeWrong : ChangeSpec := { name := "windowMerge", fn := fun _ => fun
  | [d1, d2, d3] => { results := [.lit (.bool false)], args := [d1, d2, d3] }
  | _ => none }
def WindowMergeWrongFalsely : Prop := windowMergeRow.holds Try.pinned (OpenSpec.ofChange windowMergeWrong)

/-- 'canarylaw17.WindowNever': WHATEVER THE INPUT: true; the input reads as it did. -/
def windowNeverSpec : ChangeSpec := { name := "windowNever", fn := fun _ => fun
  | [d1, d2] => { results := [.lit (.bool true)], args := [d1, d2] }
  | _ => none }
def windowNeverRow : OpenClaim := { program := "ytegpgcdhmkcopaa", sum := "f49d395ef5c39d0d5e9c5bcf1a003b897013b78356091733b31bad633be480a5", func := "canary/canarylaw17.WindowNever", spec := "windowNever", apart := false }
def WindowNeverSaid : Prop := windowNeverRow.holds Try.pinned (OpenSpec.ofChange windowNeverSpec)

/-- ITS FALSE NEIGHBOUR: 'it returns false'. Refute it at one input. -/
def windowNeverWrong : ChangeSpec := { name := "windowNever", fn := fun _ => fun
  | [d1, d2] => { results := [.lit (.bool false)], args := [d1, d2] }
  | _ => none }
def WindowNeverWrongFalsely : Prop := windowNeverRow.holds Try.pinned (OpenSpec.ofChange windowNeverWrong)

/-- 'canarylaw17.WindowCloses': WHATEVER THE INPUT: true; the input reads as it did. -/
def windowClosesSpec : ChangeSpec := { name := "windowCloses", fn := fun _ => fun
  | [d1, d2] => { results := [.lit (.bool true)], args := [d1, d2] }
  | _ => none }
def windowClosesRow : OpenClaim := { program := "ytegpgcdhmkcopaa", sum := "f49d395ef5c39d0d5e9c5bcf1a003b897013b78356091733b31bad633be480a5", func := "canary/canarylaw17.WindowCloses", spec := "windowCloses", apart := false }
def WindowClosesSaid : Prop := windowClosesRow.holds Try.pinned (OpenSpec.ofChange windowClosesSpec)

/-- ITS FALSE NEIGHBOUR: 'it returns false'. Refute it at one input. -/
def windowClosesWrong : ChangeSpec := { name := "windowCloses", fn := fun _ => fun
  | [d1, d2] => { results := [.lit (.bool false)], args := [d1, d2] }
  | _ => none }
def WindowClosesWrongFalsely : Prop := windowClosesRow.holds Try.pinned (OpenSpec.ofChange windowClosesWrong)

/- THE SECOND FORM. 'bulk': how many values and letters a reading holds, each counted each time it is reached (what is shared counts as often as it is met; a slice's spare places count too). A statement '..UptoSaid' is the law's where the arguments, and the package variables that the reading takes, are together of bulk at most 1048576: NARROWER than '..Said'. Prove '..Said' where nothing that the law and all that it calls make is longer than what came in: it says more and counts as full. Else prove '..UptoSaid'. A law counts once. -/
mutual
def uptoBulk {H : Type} : DataW H → Nat
  | .lit (.string bytes) => bytes.length + 1
  | .lit _ => 1
  | .nil => 1
  | .ptr d => uptoBulk d + 1
  | .slice elems spare => uptoBulkAll elems + uptoBulkAll spare + 1
  | .agg parts => uptoBulkAll parts + 1
  | .iface _ d => uptoBulk d + 1
  | .map entries => uptoBulkEntries entries + 1
  | .held _ => 1
def uptoBulkAll {H : Type} : List (DataW H) → Nat
  | [] => 0
  | d :: r => uptoBulk d + uptoBulkAll r
def uptoBulkEntries {H : Type} : List (Lit × DataW H) → Nat
  | [] => 0
  | x :: r => uptoBulkEntry x + uptoBulkEntries r
def uptoBulkEntry {H : Type} : Lit × DataW H → Nat
  | (.string bytes, d) => bytes.length + uptoBulk d + 1
  | (_, d) => uptoBulk d + 1
 end
def uptoSmall : (H : Type) → List (DataW H) → Bool := fun _ ds => decide (uptoBulkAll ds ≤ 1048576)
def OpenSpec.upto (s : _root_.Go.ChangeSpec) : _root_.Go.OpenSpec := { _root_.Go.OpenSpec.ofChange s with cond := some uptoSmall }

/-- 'canarylaw17.WindowTick', WHERE WHAT IT READS IS OF BULK AT MOST 1048576: true; the input reads as it did. -/
def windowTickUptoRow : OpenClaim := { program := "ytegpgcdhmkcopaa", sum := "f49d395ef5c39d0d5e9c5bcf1a003b897013b78356091733b31bad633be480a5", func := "canary/canarylaw17.WindowTick", spec := "windowTick", apart := false, narrowed := true }
def WindowTickUptoSaid : Prop := windowTickUptoRow.holds Try.pinned (OpenSpec.upto windowTickSpec)

/-- 'canarylaw17.WindowMerge', WHERE WHAT IT READS IS OF BULK AT MOST 1048576: true; the input reads as it did. -/
def windowMergeUptoRow : OpenClaim := { program := "ytegpgcdhmkcopaa", sum := "f49d395ef5c39d0d5e9c5bcf1a003b897013b78356091733b31bad633be480a5", func := "canary/canarylaw17.WindowMerge", spec := "windowMerge", apart := false, narrowed := true }
def WindowMergeUptoSaid : Prop := windowMergeUptoRow.holds Try.pinned (OpenSpec.upto windowMergeSpec)

/-- 'canarylaw17.WindowNever', WHERE WHAT IT READS IS OF BULK AT MOST 1048576: true; the input reads as it did. -/
def windowNeverUptoRow : OpenClaim := { program := "ytegpgcdhmkcopaa", sum := "f49d395ef5c39d0d5e9c5bcf1a003b897013b78356091733b31bad633be480a5", func := "canary/canarylaw17.WindowNever", spec := "windowNever", apart := false, narrowed := true }
def WindowNeverUptoSaid : Prop := windowNeverUptoRow.holds Try.pinned (OpenSpec.upto windowNeverSpec)

/-- 'canarylaw17.WindowCloses', WHERE WHAT IT READS IS OF BULK AT MOST 1048576: true; the input reads as it did. -/
def windowClosesUptoRow : OpenClaim := { program := "ytegpgcdhmkcopaa", sum := "f49d395ef5c39d0d5e9c5bcf1a003b897013b78356091733b31bad633be480a5", func := "canary/canarylaw17.WindowCloses", spec := "windowCloses", apart := false, narrowed := true }
def WindowClosesUptoSaid : Prop := windowClosesUptoRow.holds Try.pinned (OpenSpec.upto windowClosesSpec)

end Rows
end Go.Proofs.Ytegpgcdhmkcopaa
