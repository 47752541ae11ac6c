/-
  DERIVED. GIVEN WITH THE SEED: THE CARDS: each row of YtflhjpokjdjbpaaGreatDoorRows.lean that lists a variable, with what it lists TIED to the program's text (the seventh form; the later family's looks); each row that meets fmt, with fmt's text TOLD by the authors' own Lean function (tested against real Go, not proved from fmt's source: count such statements apart). THE CARD IS WHAT COUNTS. Prove the row's statement (the work); the ties are given (YtflhjpokjdjbpaaGreatDoorTie.lean); close each card by the builder's one call (the guide's Derived/Test/ToyasCard.lean, 'card_holds'). Laid BY PROGRAM, IN A SANDBOX (cutbox-door.mjs). By AI agents, Wed Nov 11 2026. No macro, syntax, notation, axiom, sorry.
-/
import Derived.Test.YtflhjpokjdjbpaaGreatDoorRows
import GoSem.ClaimSeven
namespace Go.Proofs.YtflhjpokjdjbpaaGreatDoor
namespace Rows

/-- THE TIED CARD OF 'canarylaw11.ReaderNext'. -/
def readerNextCard : Claim7 := { stood := { row := readerNextRow, standIns := [], harness := (true, "b2f143c57187832ac2d86a23304ce92412f5d357df165154227fb15e5b87270b"), looks := false }, kinds := [], alts := [], laidByText := true, laidKinds := [.data, .pinned], laidTests := true, laidLooks := .later }
def ReaderNextCardSaid : Prop := Claim7.holds Tryz.pinned (.plain (OpenSpec.ofChange readerNextSpec)) readerNextCard

/-- THE SECOND FORM's CARD OF 'canarylaw11.ReaderNext'. -/
def readerNextUptoCard : Claim7 := { stood := { row := readerNextUptoRow, standIns := [], harness := (true, "b2f143c57187832ac2d86a23304ce92412f5d357df165154227fb15e5b87270b"), looks := false }, kinds := [], alts := [], laidByText := true, laidKinds := [.data, .pinned], laidTests := true, laidLooks := .later }
def ReaderNextUptoCardSaid : Prop := Claim7.holds Tryz.pinned (.plain (OpenSpec.upto readerNextSpec)) readerNextUptoCard
end Rows
end Go.Proofs.YtflhjpokjdjbpaaGreatDoor
