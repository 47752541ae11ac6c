/-
  No cell of these rows narrows 'for every input' (looked for: loops, veiled, ifaces, maps, wideKeys, modest, calm, conditions, laid).
  DERIVED. THE GIVEN ROWS OF THIS SEAT. 4 by the template 'for every input the law returns true; each argument reads behind the call as it read before'; 0 by the template 'total and deterministic' (their statements: YthjlfnonmfcloaaTotals.lean).
  GIVEN WITH THE SEED: the statements are not yours to turn. If you find one false, say at which input.
  Laid BY PROGRAM, IN A SANDBOX (cutbox-rows.mjs): the forced cells as the released guide's own fill.sh prints them over the translation 9ed2229b8dd86539… (all of the seat's roots in one cut). By AI agents, Wed Nov 11 2026. No macro, syntax, notation, axiom, sorry.
-/
import Derived.Test.YthjlfnonmfcloaaChecked
import GoSem.Claim
import GoSem.ClaimJoined
import GoSem.ClaimMapViews
import Derived.JoinedTies
import Derived.KernelRfl
namespace Go.Proofs.Ythjlfnonmfcloaa
/- THE CELL 'sum', in the pinned program and in every row, IS THE sha256 OF THE DUMP (.gsa) THAT YthjlfnonmfcloaaProg.lean LOADS. Nothing in Lean hashes anything: it is a label: what it is worth is what the hold of that sum in a sandbox is worth. -/
noncomputable def Try.pinned : Pinned := { name := "ythjlfnonmfcloaa", sum := "9ed2229b8dd86539bf7df43efa06151b62610b0473e3706a52b7bbec51e7ff80", checked := Try.checked }
namespace Rows
def none {H : Type} : Left H := { results := [], args := [] }

/-- 'canarylaw03.HashWrite': WHATEVER THE INPUT: true; the input reads as it did. -/
def hashWriteSpec : ChangeSpec := { name := "hashWrite", fn := fun _ => fun
  | [d1, d2, d3] => { results := [.lit (.bool true)], args := [d1, d2, d3] }
  | _ => none }
def hashWriteRow : OpenClaim := { program := "ythjlfnonmfcloaa", sum := "9ed2229b8dd86539bf7df43efa06151b62610b0473e3706a52b7bbec51e7ff80", func := "canary/canarylaw03.HashWrite", spec := "hashWrite", apart := false }
def HashWriteSaid : Prop := hashWriteRow.holds Try.pinned (OpenSpec.ofChange hashWriteSpec)

/-- ITS FALSE NEIGHBOUR: 'it returns false'. Refute it at one input. -/
def hashWriteWrong : ChangeSpec := { name := "hashWrite", fn := fun _ => fun
  | [d1, d2, d3] => { results := [.lit (.bool false)], args := [d1, d2, d3] }
  | _ => none }
def HashWriteWrongFalsely : Prop := hashWriteRow.holds Try.pinned (OpenSpec.ofChange hashWriteWrong)

/-- 'canarylaw03.HashSum': WHATEVER THE INPUT: true; the input reads as it did. -/
def hashSumSpec : ChangeSpec := { name := "hashSum", fn := fun _ => fun
  | [d] => { results := [.lit (.bool true)], args := [d] }
  | _ => none }
def hashSumRow : OpenClaim := { program := "ythjlfnonmfcloaa", sum := "9ed2229b8dd86539bf7df43efa06151b62610b0473e3706a52b7bbec51e7ff80", func := "canary/canarylaw03.HashSum", spec := "hashSum", apart := false }
def HashSumSaid : Prop := hashSumRow.holds Try.pinned (OpenSpec.ofChange hashSumSpec)

/-- ITS FALSE NEIGHBOUR: 'it returns false'. Refute it at one input. -/
def hashSumWrong : ChangeSpec := { name := "hashSum", fn := fun _ => fun
  | [d] => { results := [.lit (.bool false)], args := [d] }
  | _ => none }
def HashSumWrongFalsely : Prop := hashSumRow.holds Try.pinned (OpenSpec.ofChange hashSumWrong)

/-- 'canarylaw03.HashSeparates': WHATEVER THE INPUT: true; the input reads as it did. -/
def hashSeparatesSpec : ChangeSpec := { name := "hashSeparates", fn := fun _ => fun
  | [d1, d2] => { results := [.lit (.bool true)], args := [d1, d2] }
  | _ => none }
def hashSeparatesRow : OpenClaim := { program := "ythjlfnonmfcloaa", sum := "9ed2229b8dd86539bf7df43efa06151b62610b0473e3706a52b7bbec51e7ff80", func := "canary/canarylaw03.HashSeparates", spec := "hashSeparates", apart := false }
def HashSeparatesSaid : Prop := hashSeparatesRow.holds Try.pinned (OpenSpec.ofChange hashSeparatesSpec)

/-- ITS FALSE NEIGHBOUR: 'it returns false'. Refute it at one input. -/
def hashSeparatesWrong : ChangeSpec := { name := "hashSeparates", fn := fun _ => fun
  | [d1, d2] => { results := [.lit (.bool false)], args := [d1, d2] }
  | _ => none }
def HashSeparatesWrongFalsely : Prop := hashSeparatesRow.holds Try.pinned (OpenSpec.ofChange hashSeparatesWrong)

/-- 'canarylaw03.HashByte': WHATEVER THE INPUT: true; the input reads as it did. -/
def hashByteSpec : ChangeSpec := { name := "hashByte", fn := fun _ => fun
  | [d1, d2, d3] => { results := [.lit (.bool true)], args := [d1, d2, d3] }
  | _ => none }
def hashByteRow : OpenClaim := { program := "ythjlfnonmfcloaa", sum := "9ed2229b8dd86539bf7df43efa06151b62610b0473e3706a52b7bbec51e7ff80", func := "canary/canarylaw03.HashByte", spec := "hashByte", apart := false }
def HashByteSaid : Prop := hashByteRow.holds Try.pinned (OpenSpec.ofChange hashByteSpec)

/-- ITS FALSE NEIGHBOUR: 'it returns false'. Refute it at one input. -/
def hashByteWrong : ChangeSpec := { name := "hashByte", fn := fun _ => fun
  | [d1, d2, d3] => { results := [.lit (.bool false)], args := [d1, d2, d3] }
  | _ => none }
def HashByteWrongFalsely : Prop := hashByteRow.holds Try.pinned (OpenSpec.ofChange hashByteWrong)

/- THE SECOND FORM. 'bulk': how many values and letters a reading holds, each counted each time it is reached (what is shared counts as often as it is met; a slice's spare places count too). A statement '..UptoSaid' is the law's where the arguments, and the package variables that the reading takes, are together of bulk at most 1048576: NARROWER than '..Said'. Prove '..Said' where nothing that the law and all that it calls make is longer than what came in: it says more and counts as full. Else prove '..UptoSaid'. A law counts once. -/
mutual
def uptoBulk {H : Type} : DataW H → Nat
  | .lit (.string bytes) => bytes.length + 1
  | .lit _ => 1
  | .nil => 1
  | .ptr d => uptoBulk d + 1
  | .slice elems spare => uptoBulkAll elems + uptoBulkAll spare + 1
  | .agg parts => uptoBulkAll parts + 1
  | .iface _ d => uptoBulk d + 1
  | .map entries => uptoBulkEntries entries + 1
  | .held _ => 1
def uptoBulkAll {H : Type} : List (DataW H) → Nat
  | [] => 0
  | d :: r => uptoBulk d + uptoBulkAll r
def uptoBulkEntries {H : Type} : List (Lit × DataW H) → Nat
  | [] => 0
  | x :: r => uptoBulkEntry x + uptoBulkEntries r
def uptoBulkEntry {H : Type} : Lit × DataW H → Nat
  | (.string bytes, d) => bytes.length + uptoBulk d + 1
  | (_, d) => uptoBulk d + 1
 end
def uptoSmall : (H : Type) → List (DataW H) → Bool := fun _ ds => decide (uptoBulkAll ds ≤ 1048576)
def OpenSpec.upto (s : _root_.Go.ChangeSpec) : _root_.Go.OpenSpec := { _root_.Go.OpenSpec.ofChange s with cond := some uptoSmall }

/-- 'canarylaw03.HashWrite', WHERE WHAT IT READS IS OF BULK AT MOST 1048576: true; the input reads as it did. -/
def hashWriteUptoRow : OpenClaim := { program := "ythjlfnonmfcloaa", sum := "9ed2229b8dd86539bf7df43efa06151b62610b0473e3706a52b7bbec51e7ff80", func := "canary/canarylaw03.HashWrite", spec := "hashWrite", apart := false, narrowed := true }
def HashWriteUptoSaid : Prop := hashWriteUptoRow.holds Try.pinned (OpenSpec.upto hashWriteSpec)

/-- 'canarylaw03.HashSum', WHERE WHAT IT READS IS OF BULK AT MOST 1048576: true; the input reads as it did. -/
def hashSumUptoRow : OpenClaim := { program := "ythjlfnonmfcloaa", sum := "9ed2229b8dd86539bf7df43efa06151b62610b0473e3706a52b7bbec51e7ff80", func := "canary/canarylaw03.HashSum", spec := "hashSum", apart := false, narrowed := true }
def HashSumUptoSaid : Prop := hashSumUptoRow.holds Try.pinned (OpenSpec.upto hashSumSpec)

/-- 'canarylaw03.HashSeparates', WHERE WHAT IT READS IS OF BULK AT MOST 1048576: true; the input reads as it did. -/
def hashSeparatesUptoRow : OpenClaim := { program := "ythjlfnonmfcloaa", sum := "9ed2229b8dd86539bf7df43efa06151b62610b0473e3706a52b7bbec51e7ff80", func := "canary/canarylaw03.HashSeparates", spec := "hashSeparates", apart := false, narrowed := true }
def HashSeparatesUptoSaid : Prop := hashSeparatesUptoRow.holds Try.pinned (OpenSpec.upto hashSeparatesSpec)

/-- 'canarylaw03.HashByte', WHERE WHAT IT READS IS OF BULK AT MOST 1048576: true; the input reads as it did. -/
def hashByteUptoRow : OpenClaim := { program := "ythjlfnonmfcloaa", sum := "9ed2229b8dd86539bf7df43efa06151b62610b0473e3706a52b7bbec51e7ff80", func := "canary/canarylaw03.HashByte", spec := "hashByte", apart := false, narrowed := true }
def HashByteUptoSaid : Prop := hashByteUptoRow.holds Try.pinned (OpenSpec.upto hashByteSpec)

end Rows
end Go.Proofs.Ythjlfnonmfcloaa
