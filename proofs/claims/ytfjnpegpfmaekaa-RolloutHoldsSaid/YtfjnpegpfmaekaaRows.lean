/-
  No cell of these rows narrows 'for every input' (looked for: loops, veiled, ifaces, maps, wideKeys, modest, calm, conditions, laid).
  DERIVED. THE GIVEN ROWS OF THIS SEAT. 6 by the template 'for every input the law returns true; each argument reads behind the call as it read before'; 0 by the template 'total and deterministic' (their statements: YtfjnpegpfmaekaaTotals.lean).
  GIVEN WITH THE SEED: the statements are not yours to turn. If you find one false, say at which input.
  Laid BY PROGRAM, IN A SANDBOX (cutbox-rows.mjs): the forced cells as the released guide's own fill.sh prints them over the translation 29df8fe692f9e9a8… (all of the seat's roots in one cut). By AI agents, Wed Nov 11 2026. No macro, syntax, notation, axiom, sorry.
-/
import Derived.Test.YtfjnpegpfmaekaaChecked
import GoSem.Claim
import GoSem.ClaimJoined
import GoSem.ClaimMapViews
import Derived.JoinedTies
import Derived.KernelRfl
namespace Go.Proofs.Ytfjnpegpfmaekaa
/- THE CELL 'sum', in the pinned program and in every row, IS THE sha256 OF THE DUMP (.gsa) THAT YtfjnpegpfmaekaaProg.lean LOADS. Nothing in Lean hashes anything: it is a label: what it is worth is what the hold of that sum in a sandbox is worth. -/
noncomputable def Try.pinned : Pinned := { name := "ytfjnpegpfmaekaa", sum := "29df8fe692f9e9a85964478ce3ddbbade2ca2726939b24e0e9b39a1b34e21f41", checked := Try.checked }
namespace Rows
def none {H : Type} : Left H := { results := [], args := [] }

/-- 'canarylaw18.RolloutTick': WHATEVER THE INPUT: true; the input reads as it did. -/
def rolloutTickSpec : ChangeSpec := { name := "rolloutTick", fn := fun _ => fun
  | [d1, d2, d3, d4, d5] => { results := [.lit (.bool true)], args := [d1, d2, d3, d4, d5] }
  | _ => none }
def rolloutTickRow : OpenClaim := { program := "ytfjnpegpfmaekaa", sum := "29df8fe692f9e9a85964478ce3ddbbade2ca2726939b24e0e9b39a1b34e21f41", func := "canary/canarylaw18.RolloutTick", spec := "rolloutTick", unfollowed := true, recurses := true, apart := false }
def RolloutTickSaid : Prop := rolloutTickRow.holds Try.pinned (OpenSpec.ofChange rolloutTickSpec)

/-- ITS FALSE NEIGHBOUR: 'it returns false'. Refute it at one input. -/
def rolloutTickWrong : ChangeSpec := { name := "rolloutTick", fn := fun _ => fun
  | [d1, d2, d3, d4, d5] => { results := [.lit (.bool false)], args := [d1, d2, d3, d4, d5] }
  | _ => none }
def RolloutTickWrongFalsely : Prop := rolloutTickRow.holds Try.pinned (OpenSpec.ofChange rolloutTickWrong)

/-- 'canarylaw18.RolloutRun': WHATEVER THE INPUT: true; the input reads as it did. -/
def rolloutRunSpec : ChangeSpec := { name := "rolloutRun", fn := fun _ => fun
  | [d1, d2] => { results := [.lit (.bool true)], args := [d1, d2] }
  | _ => none }
def rolloutRunRow : OpenClaim := { program := "ytfjnpegpfmaekaa", sum := "29df8fe692f9e9a85964478ce3ddbbade2ca2726939b24e0e9b39a1b34e21f41", func := "canary/canarylaw18.RolloutRun", spec := "rolloutRun", unfollowed := true, recurses := true, apart := false }
def RolloutRunSaid : Prop := rolloutRunRow.holds Try.pinned (OpenSpec.ofChange rolloutRunSpec)

/-- ITS FALSE NEIGHBOUR: 'it returns false'. Refute it at one input. -/
def rolloutRunWrong : ChangeSpec := { name := "rolloutRun", fn := fun _ => fun
  | [d1, d2] => { results := [.lit (.bool false)], args := [d1, d2] }
  | _ => none }
def RolloutRunWrongFalsely : Prop := rolloutRunRow.holds Try.pinned (OpenSpec.ofChange rolloutRunWrong)

/-- 'canarylaw18.RolloutBack': WHATEVER THE INPUT: true; the input reads as it did. -/
def rolloutBackSpec : ChangeSpec := { name := "rolloutBack", fn := fun _ => fun
  | [d1, d2] => { results := [.lit (.bool true)], args := [d1, d2] }
  | _ => none }
def rolloutBackRow : OpenClaim := { program := "ytfjnpegpfmaekaa", sum := "29df8fe692f9e9a85964478ce3ddbbade2ca2726939b24e0e9b39a1b34e21f41", func := "canary/canarylaw18.RolloutBack", spec := "rolloutBack", unfollowed := true, recurses := true, apart := false }
def RolloutBackSaid : Prop := rolloutBackRow.holds Try.pinned (OpenSpec.ofChange rolloutBackSpec)

/-- ITS FALSE NEIGHBOUR: 'it returns false'. Refute it at one input. -/
def rolloutBackWrong : ChangeSpec := { name := "rolloutBack", fn := fun _ => fun
  | [d1, d2] => { results := [.lit (.bool false)], args := [d1, d2] }
  | _ => none }
def RolloutBackWrongFalsely : Prop := rolloutBackRow.holds Try.pinned (OpenSpec.ofChange rolloutBackWrong)

/-- 'canarylaw18.RolloutHolds': WHATEVER THE INPUT: true; the input reads as it did. -/
def rolloutHoldsSpec : ChangeSpec := { name := "rolloutHolds", fn := fun _ => fun
  | [d1, d2] => { results := [.lit (.bool true)], args := [d1, d2] }
  | _ => none }
def rolloutHoldsRow : OpenClaim := { program := "ytfjnpegpfmaekaa", sum := "29df8fe692f9e9a85964478ce3ddbbade2ca2726939b24e0e9b39a1b34e21f41", func := "canary/canarylaw18.RolloutHolds", spec := "rolloutHolds", unfollowed := true, recurses := true, apart := false }
def RolloutHoldsSaid : Prop := rolloutHoldsRow.holds Try.pinned (OpenSpec.ofChange rolloutHoldsSpec)

/-- ITS FALSE NEIGHBOUR: 'it returns false'. Refute it at one input. -/
def rolloutHoldsWrong : ChangeSpec := { name := "rolloutHolds", fn := fun _ => fun
  | [d1, d2] => { results := [.lit (.bool false)], args := [d1, d2] }
  | _ => none }
def RolloutHoldsWrongFalsely : Prop := rolloutHoldsRow.holds Try.pinned (OpenSpec.ofChange rolloutHoldsWrong)

/-- 'canarylaw18.RolloutRises': WHATEVER THE INPUT: true; the input reads as it did. -/
def rolloutRisesSpec : ChangeSpec := { name := "rolloutRises", fn := fun _ => fun
  | [d1, d2] => { results := [.lit (.bool true)], args := [d1, d2] }
  | _ => none }
def rolloutRisesRow : OpenClaim := { program := "ytfjnpegpfmaekaa", sum := "29df8fe692f9e9a85964478ce3ddbbade2ca2726939b24e0e9b39a1b34e21f41", func := "canary/canarylaw18.RolloutRises", spec := "rolloutRises", unfollowed := true, recurses := true, apart := false }
def RolloutRisesSaid : Prop := rolloutRisesRow.holds Try.pinned (OpenSpec.ofChange rolloutRisesSpec)

/-- ITS FALSE NEIGHBOUR: 'it returns false'. Refute it at one input. -/
def rolloutRisesWrong : ChangeSpec := { name := "rolloutRises", fn := fun _ => fun
  | [d1, d2] => { results := [.lit (.bool false)], args := [d1, d2] }
  | _ => none }
def RolloutRisesWrongFalsely : Prop := rolloutRisesRow.holds Try.pinned (OpenSpec.ofChange rolloutRisesWrong)

/-- 'canarylaw18.RolloutPaused': WHATEVER THE INPUT: true; the input reads as it did. -/
def rolloutPausedSpec : ChangeSpec := { name := "rolloutPaused", fn := fun _ => fun
  | [d1, d2, d3] => { results := [.lit (.bool true)], args := [d1, d2, d3] }
  | _ => none }
def rolloutPausedRow : OpenClaim := { program := "ytfjnpegpfmaekaa", sum := "29df8fe692f9e9a85964478ce3ddbbade2ca2726939b24e0e9b39a1b34e21f41", func := "canary/canarylaw18.RolloutPaused", spec := "rolloutPaused", unfollowed := true, recurses := true, apart := false }
def RolloutPausedSaid : Prop := rolloutPausedRow.holds Try.pinned (OpenSpec.ofChange rolloutPausedSpec)

/-- ITS FALSE NEIGHBOUR: 'it returns false'. Refute it at one input. -/
def rolloutPausedWrong : ChangeSpec := { name := "rolloutPaused", fn := fun _ => fun
  | [d1, d2, d3] => { results := [.lit (.bool false)], args := [d1, d2, d3] }
  | _ => none }
def RolloutPausedWrongFalsely : Prop := rolloutPausedRow.holds Try.pinned (OpenSpec.ofChange rolloutPausedWrong)

/- THE SECOND FORM. 'bulk': how many values and letters a reading holds, each counted each time it is reached (what is shared counts as often as it is met; a slice's spare places count too). A statement '..UptoSaid' is the law's where the arguments, and the package variables that the reading takes, are together of bulk at most 1048576: NARROWER than '..Said'. Prove '..Said' where nothing that the law and all that it calls make is longer than what came in: it says more and counts as full. Else prove '..UptoSaid'. A law counts once. -/
mutual
def uptoBulk {H : Type} : DataW H → Nat
  | .lit (.string bytes) => bytes.length + 1
  | .lit _ => 1
  | .nil => 1
  | .ptr d => uptoBulk d + 1
  | .slice elems spare => uptoBulkAll elems + uptoBulkAll spare + 1
  | .agg parts => uptoBulkAll parts + 1
  | .iface _ d => uptoBulk d + 1
  | .map entries => uptoBulkEntries entries + 1
  | .held _ => 1
def uptoBulkAll {H : Type} : List (DataW H) → Nat
  | [] => 0
  | d :: r => uptoBulk d + uptoBulkAll r
def uptoBulkEntries {H : Type} : List (Lit × DataW H) → Nat
  | [] => 0
  | x :: r => uptoBulkEntry x + uptoBulkEntries r
def uptoBulkEntry {H : Type} : Lit × DataW H → Nat
  | (.string bytes, d) => bytes.length + uptoBulk d + 1
  | (_, d) => uptoBulk d + 1
 end
def uptoSmall : (H : Type) → List (DataW H) → Bool := fun _ ds => decide (uptoBulkAll ds ≤ 1048576)
def OpenSpec.upto (s : _root_.Go.ChangeSpec) : _root_.Go.OpenSpec := { _root_.Go.OpenSpec.ofChange s with cond := some uptoSmall }

/-- 'canarylaw18.RolloutTick', WHERE WHAT IT READS IS OF BULK AT MOST 1048576: true; the input reads as it did. -/
def rolloutTickUptoRow : OpenClaim := { program := "ytfjnpegpfmaekaa", sum := "29df8fe692f9e9a85964478ce3ddbbade2ca2726939b24e0e9b39a1b34e21f41", func := "canary/canarylaw18.RolloutTick", spec := "rolloutTick", unfollowed := true, recurses := true, apart := false, narrowed := true }
def RolloutTickUptoSaid : Prop := rolloutTickUptoRow.holds Try.pinned (OpenSpec.upto rolloutTickSpec)

/-- 'canarylaw18.RolloutRun', WHERE WHAT IT READS IS OF BULK AT MOST 1048576: true; the input reads as it did. -/
def rolloutRunUptoRow : OpenClaim := { program := "ytfjnpegpfmaekaa", sum := "29df8fe692f9e9a85964478ce3ddbbade2ca2726939b24e0e9b39a1b34e21f41", func := "canary/canarylaw18.RolloutRun", spec := "rolloutRun", unfollowed := true, recurses := true, apart := false, narrowed := true }
def RolloutRunUptoSaid : Prop := rolloutRunUptoRow.holds Try.pinned (OpenSpec.upto rolloutRunSpec)

/-- 'canarylaw18.RolloutBack', WHERE WHAT IT READS IS OF BULK AT MOST 1048576: true; the input reads as it did. -/
def rolloutBackUptoRow : OpenClaim := { program := "ytfjnpegpfmaekaa", sum := "29df8fe692f9e9a85964478ce3ddbbade2ca2726939b24e0e9b39a1b34e21f41", func := "canary/canarylaw18.RolloutBack", spec := "rolloutBack", unfollowed := true, recurses := true, apart := false, narrowed := true }
def RolloutBackUptoSaid : Prop := rolloutBackUptoRow.holds Try.pinned (OpenSpec.upto rolloutBackSpec)

/-- 'canarylaw18.RolloutHolds', WHERE WHAT IT READS IS OF BULK AT MOST 1048576: true; the input reads as it did. -/
def rolloutHoldsUptoRow : OpenClaim := { program := "ytfjnpegpfmaekaa", sum := "29df8fe692f9e9a85964478ce3ddbbade2ca2726939b24e0e9b39a1b34e21f41", func := "canary/canarylaw18.RolloutHolds", spec := "rolloutHolds", unfollowed := true, recurses := true, apart := false, narrowed := true }
def RolloutHoldsUptoSaid : Prop := rolloutHoldsUptoRow.holds Try.pinned (OpenSpec.upto rolloutHoldsSpec)

/-- 'canarylaw18.RolloutRises', WHERE WHAT IT READS IS OF BULK AT MOST 1048576: true; the input reads as it did. -/
def rolloutRisesUptoRow : OpenClaim := { program := "ytfjnpegpfmaekaa", sum := "29df8fe692f9e9a85964478ce3ddbbade2ca2726939b24e0e9b39a1b34e21f41", func := "canary/canarylaw18.RolloutRises", spec := "rolloutRises", unfollowed := true, recurses := true, apart := false, narrowed := true }
def RolloutRisesUptoSaid : Prop := rolloutRisesUptoRow.holds Try.pinned (OpenSpec.upto rolloutRisesSpec)

/-- 'canarylaw18.RolloutPaused', WHERE WHAT IT READS IS OF BULK AT MOST 1048576: true; the input reads as it did. -/
def rolloutPausedUptoRow : OpenClaim := { program := "ytfjnpegpfmaekaa", sum := "29df8fe692f9e9a85964478ce3ddbbade2ca2726939b24e0e9b39a1b34e21f41", func := "canary/canarylaw18.RolloutPaused", spec := "rolloutPaused", unfollowed := true, recurses := true, apart := false, narrowed := true }
def RolloutPausedUptoSaid : Prop := rolloutPausedUptoRow.holds Try.pinned (OpenSpec.upto rolloutPausedSpec)

end Rows
end Go.Proofs.Ytfjnpegpfmaekaa
