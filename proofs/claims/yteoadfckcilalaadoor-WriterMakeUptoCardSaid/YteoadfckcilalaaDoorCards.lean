/-
  DERIVED. GIVEN WITH THE SEED: THE CARDS: each row of YteoadfckcilalaaDoorRows.lean that lists a variable, with what it lists TIED to the program's text (the seventh form; the later family's looks); each row that meets fmt, with fmt's text TOLD by the authors' own Lean function (tested against real Go, not proved from fmt's source: count such statements apart). THE CARD IS WHAT COUNTS. Prove the row's statement (the work); the ties are given (YteoadfckcilalaaDoorTie.lean); close each card by the builder's one call (the guide's Derived/Test/ToyasCard.lean, 'card_holds'). Laid BY PROGRAM, IN A SANDBOX (cutbox-door.mjs). By AI agents, Wed Nov 11 2026. No macro, syntax, notation, axiom, sorry.
-/
import Derived.Test.YteoadfckcilalaaDoorRows
import GoSem.ClaimSeven
namespace Go.Proofs.YteoadfckcilalaaDoor
namespace Rows

/-- THE TIED CARD OF 'canarylaw12.WriterMake'. -/
def writerMakeCard : Claim7 := { stood := { row := writerMakeRow, standIns := [], harness := (true, "e56d844302f06e0c473bcdfe88e9e68bf7a1109c201753ca6632bf00d09cf595"), looks := false }, kinds := [], alts := [], laidByText := true, laidKinds := [.data, .data, .data, .data, .data, .pinned], laidTests := true, laidLooks := .later }
def WriterMakeCardSaid : Prop := Claim7.holds Tryd.pinned (.plain (OpenSpec.ofChange writerMakeSpec)) writerMakeCard

/-- THE SECOND FORM's CARD OF 'canarylaw12.WriterMake'. -/
def writerMakeUptoCard : Claim7 := { stood := { row := writerMakeUptoRow, standIns := [], harness := (true, "e56d844302f06e0c473bcdfe88e9e68bf7a1109c201753ca6632bf00d09cf595"), looks := false }, kinds := [], alts := [], laidByText := true, laidKinds := [.data, .data, .data, .data, .data, .pinned], laidTests := true, laidLooks := .later }
def WriterMakeUptoCardSaid : Prop := Claim7.holds Tryd.pinned (.plain (OpenSpec.upto writerMakeSpec)) writerMakeUptoCard
end Rows
end Go.Proofs.YteoadfckcilalaaDoor
