/-
  No cell of these rows narrows 'for every input' (looked for: loops, veiled, ifaces, maps, wideKeys, modest, calm, conditions, laid).
  DERIVED. THE GIVEN ROWS OF THIS SEAT. 4 by the template 'for every input the law returns true; each argument reads behind the call as it read before'; 0 by the template 'total and deterministic' (their statements: YtlcegpjpgmpnbaaTotals.lean).
  GIVEN WITH THE SEED: the statements are not yours to turn. If you find one false, say at which input.
  Laid BY PROGRAM, IN A SANDBOX (cutbox-rows.mjs): the forced cells as the released guide's own fill.sh prints them over the translation 134091dbfd0e67fb… (all of the seat's roots in one cut). By AI agents, Wed Nov 11 2026. No macro, syntax, notation, axiom, sorry.
-/
import Derived.Test.YtlcegpjpgmpnbaaChecked
import GoSem.Claim
import GoSem.ClaimJoined
import GoSem.ClaimMapViews
import Derived.JoinedTies
import Derived.KernelRfl
namespace Go.Proofs.Ytlcegpjpgmpnbaa
/- THE CELL 'sum', in the pinned program and in every row, IS THE sha256 OF THE DUMP (.gsa) THAT YtlcegpjpgmpnbaaProg.lean LOADS. Nothing in Lean hashes anything: it is a label: what it is worth is what the hold of that sum in a sandbox is worth. -/
noncomputable def Try.pinned : Pinned := { name := "ytlcegpjpgmpnbaa", sum := "134091dbfd0e67fb60a622eaf7a9c3f048551c241105bae65c636987d05b025d", checked := Try.checked }
namespace Rows
def none {H : Type} : Left H := { results := [], args := [] }

/-- 'canarylaw16.PlanValidate': WHATEVER THE INPUT: true; the input reads as it did. -/
def planValidateSpec : ChangeSpec := { name := "planValidate", fn := fun _ => fun
  | [d1, d2, d3, d4, d5] => { results := [.lit (.bool true)], args := [d1, d2, d3, d4, d5] }
  | _ => none }
def planValidateRow : OpenClaim := { program := "ytlcegpjpgmpnbaa", sum := "134091dbfd0e67fb60a622eaf7a9c3f048551c241105bae65c636987d05b025d", func := "canary/canarylaw16.PlanValidate", spec := "planValidate", apart := false }
def PlanValidateSaid : Prop := planValidateRow.holds Try.pinned (OpenSpec.ofChange planValidateSpec)

/-- ITS FALSE NEIGHBOUR: 'it returns false'. Refute it at one input. -/
def planValidateWrong : ChangeSpec := { name := "planValidate", fn := fun _ => fun
  | [d1, d2, d3, d4, d5] => { results := [.lit (.bool false)], args := [d1, d2, d3, d4, d5] }
  | _ => none }
def PlanValidateWrongFalsely : Prop := planValidateRow.holds Try.pinned (OpenSpec.ofChange planValidateWrong)

/-- 'canarylaw16.PlanWeight': WHATEVER THE INPUT: true; the input reads as it did. -/
def planWeightSpec : ChangeSpec := { name := "planWeight", fn := fun _ => fun
  | [d1, d2, d3, d4] => { results := [.lit (.bool true)], args := [d1, d2, d3, d4] }
  | _ => none }
def planWeightRow : OpenClaim := { program := "ytlcegpjpgmpnbaa", sum := "134091dbfd0e67fb60a622eaf7a9c3f048551c241105bae65c636987d05b025d", func := "canary/canarylaw16.PlanWeight", spec := "planWeight", apart := false }
def PlanWeightSaid : Prop := planWeightRow.holds Try.pinned (OpenSpec.ofChange planWeightSpec)

/-- ITS FALSE NEIGHBOUR: 'it returns false'. Refute it at one input. -/
def planWeightWrong : ChangeSpec := { name := "planWeight", fn := fun _ => fun
  | [d1, d2, d3, d4] => { results := [.lit (.bool false)], args := [d1, d2, d3, d4] }
  | _ => none }
def PlanWeightWrongFalsely : Prop := planWeightRow.holds Try.pinned (OpenSpec.ofChange planWeightWrong)

/-- 'canarylaw16.PlanVerdict': WHATEVER THE INPUT: true; the input reads as it did. -/
def planVerdictSpec : ChangeSpec := { name := "planVerdict", fn := fun _ => fun
  | [d1, d2, d3, d4] => { results := [.lit (.bool true)], args := [d1, d2, d3, d4] }
  | _ => none }
def planVerdictRow : OpenClaim := { program := "ytlcegpjpgmpnbaa", sum := "134091dbfd0e67fb60a622eaf7a9c3f048551c241105bae65c636987d05b025d", func := "canary/canarylaw16.PlanVerdict", spec := "planVerdict", apart := false }
def PlanVerdictSaid : Prop := planVerdictRow.holds Try.pinned (OpenSpec.ofChange planVerdictSpec)

/-- ITS FALSE NEIGHBOUR: 'it returns false'. Refute it at one input. -/
def planVerdictWrong : ChangeSpec := { name := "planVerdict", fn := fun _ => fun
  | [d1, d2, d3, d4] => { results := [.lit (.bool false)], args := [d1, d2, d3, d4] }
  | _ => none }
def PlanVerdictWrongFalsely : Prop := planVerdictRow.holds Try.pinned (OpenSpec.ofChange planVerdictWrong)

/-- 'canarylaw16.PlanWorse': WHATEVER THE INPUT: true; the input reads as it did. -/
def planWorseSpec : ChangeSpec := { name := "planWorse", fn := fun _ => fun
  | [d1, d2, d3, d4, d5] => { results := [.lit (.bool true)], args := [d1, d2, d3, d4, d5] }
  | _ => none }
def planWorseRow : OpenClaim := { program := "ytlcegpjpgmpnbaa", sum := "134091dbfd0e67fb60a622eaf7a9c3f048551c241105bae65c636987d05b025d", func := "canary/canarylaw16.PlanWorse", spec := "planWorse", apart := false }
def PlanWorseSaid : Prop := planWorseRow.holds Try.pinned (OpenSpec.ofChange planWorseSpec)

/-- ITS FALSE NEIGHBOUR: 'it returns false'. Refute it at one input. -/
def planWorseWrong : ChangeSpec := { name := "planWorse", fn := fun _ => fun
  | [d1, d2, d3, d4, d5] => { results := [.lit (.bool false)], args := [d1, d2, d3, d4, d5] }
  | _ => none }
def PlanWorseWrongFalsely : Prop := planWorseRow.holds Try.pinned (OpenSpec.ofChange planWorseWrong)

/- THE SECOND FORM. 'bulk': how many values and letters a reading holds, each counted each time it is reached (what is shared counts as often as it is met; a slice's spare places count too). A statement '..UptoSaid' is the law's where the arguments, and the package variables that the reading takes, are together of bulk at most 1048576: NARROWER than '..Said'. Prove '..Said' where nothing that the law and all that it calls make is longer than what came in: it says more and counts as full. Else prove '..UptoSaid'. A law counts once. -/
mutual
def uptoBulk {H : Type} : DataW H → Nat
  | .lit (.string bytes) => bytes.length + 1
  | .lit _ => 1
  | .nil => 1
  | .ptr d => uptoBulk d + 1
  | .slice elems spare => uptoBulkAll elems + uptoBulkAll spare + 1
  | .agg parts => uptoBulkAll parts + 1
  | .iface _ d => uptoBulk d + 1
  | .map entries => uptoBulkEntries entries + 1
  | .held _ => 1
def uptoBulkAll {H : Type} : List (DataW H) → Nat
  | [] => 0
  | d :: r => uptoBulk d + uptoBulkAll r
def uptoBulkEntries {H : Type} : List (Lit × DataW H) → Nat
  | [] => 0
  | x :: r => uptoBulkEntry x + uptoBulkEntries r
def uptoBulkEntry {H : Type} : Lit × DataW H → Nat
  | (.string bytes, d) => bytes.length + uptoBulk d + 1
  | (_, d) => uptoBulk d + 1
 end
def uptoSmall : (H : Type) → List (DataW H) → Bool := fun _ ds => decide (uptoBulkAll ds ≤ 1048576)
def OpenSpec.upto (s : _root_.Go.ChangeSpec) : _root_.Go.OpenSpec := { _root_.Go.OpenSpec.ofChange s with cond := some uptoSmall }

/-- 'canarylaw16.PlanValidate', WHERE WHAT IT READS IS OF BULK AT MOST 1048576: true; the input reads as it did. -/
def planValidateUptoRow : OpenClaim := { program := "ytlcegpjpgmpnbaa", sum := "134091dbfd0e67fb60a622eaf7a9c3f048551c241105bae65c636987d05b025d", func := "canary/canarylaw16.PlanValidate", spec := "planValidate", apart := false, narrowed := true }
def PlanValidateUptoSaid : Prop := planValidateUptoRow.holds Try.pinned (OpenSpec.upto planValidateSpec)

/-- 'canarylaw16.PlanWeight', WHERE WHAT IT READS IS OF BULK AT MOST 1048576: true; the input reads as it did. -/
def planWeightUptoRow : OpenClaim := { program := "ytlcegpjpgmpnbaa", sum := "134091dbfd0e67fb60a622eaf7a9c3f048551c241105bae65c636987d05b025d", func := "canary/canarylaw16.PlanWeight", spec := "planWeight", apart := false, narrowed := true }
def PlanWeightUptoSaid : Prop := planWeightUptoRow.holds Try.pinned (OpenSpec.upto planWeightSpec)

/-- 'canarylaw16.PlanVerdict', WHERE WHAT IT READS IS OF BULK AT MOST 1048576: true; the input reads as it did. -/
def planVerdictUptoRow : OpenClaim := { program := "ytlcegpjpgmpnbaa", sum := "134091dbfd0e67fb60a622eaf7a9c3f048551c241105bae65c636987d05b025d", func := "canary/canarylaw16.PlanVerdict", spec := "planVerdict", apart := false, narrowed := true }
def PlanVerdictUptoSaid : Prop := planVerdictUptoRow.holds Try.pinned (OpenSpec.upto planVerdictSpec)

/-- 'canarylaw16.PlanWorse', WHERE WHAT IT READS IS OF BULK AT MOST 1048576: true; the input reads as it did. -/
def planWorseUptoRow : OpenClaim := { program := "ytlcegpjpgmpnbaa", sum := "134091dbfd0e67fb60a622eaf7a9c3f048551c241105bae65c636987d05b025d", func := "canary/canarylaw16.PlanWorse", spec := "planWorse", apart := false, narrowed := true }
def PlanWorseUptoSaid : Prop := planWorseUptoRow.holds Try.pinned (OpenSpec.upto planWorseSpec)

end Rows
end Go.Proofs.Ytlcegpjpgmpnbaa
