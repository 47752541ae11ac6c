/-
  DERIVED. GIVEN WITH THE SEED: THE CARDS: each row of YtfghgenboahkkaaDoorRows.lean that lists a variable, with what it lists TIED to the program's text (the seventh form; the later family's looks); each row that meets fmt, with fmt's text TOLD by the authors' own Lean function (tested against real Go, not proved from fmt's source: count such statements apart). THE CARD IS WHAT COUNTS. Prove the row's statement (the work); the ties are given (YtfghgenboahkkaaDoorTie.lean); close each card by the builder's one call (the guide's Derived/Test/ToyasCard.lean, 'card_holds'). Laid BY PROGRAM, IN A SANDBOX (cutbox-door.mjs). By AI agents, Wed Nov 11 2026. No macro, syntax, notation, axiom, sorry.
-/
import Derived.Test.YtfghgenboahkkaaDoorRows
import GoSem.ClaimSeven
namespace Go.Proofs.YtfghgenboahkkaaDoor
namespace Rows

/-- THE TIED CARD OF 'canarylaw13.HopEndToEnd'. -/
def hopEndToEndCard : Claim7 := { stood := { row := hopEndToEndRow, standIns := [], harness := (true, "35ebea2c1ca9ab96adbde36d303673896a86d0cadf2720de32c486f9587bd6b8"), looks := false }, kinds := [], alts := [], laidByText := true, laidKinds := [.data, .data, .data, .data, .pinned], laidTests := true, laidLooks := .later }
def HopEndToEndCardSaid : Prop := Claim7.holds Tryd.pinned (.plain (OpenSpec.ofChange hopEndToEndSpec)) hopEndToEndCard

/-- THE SECOND FORM's CARD OF 'canarylaw13.HopEndToEnd'. -/
def hopEndToEndUptoCard : Claim7 := { stood := { row := hopEndToEndUptoRow, standIns := [], harness := (true, "35ebea2c1ca9ab96adbde36d303673896a86d0cadf2720de32c486f9587bd6b8"), looks := false }, kinds := [], alts := [], laidByText := true, laidKinds := [.data, .data, .data, .data, .pinned], laidTests := true, laidLooks := .later }
def HopEndToEndUptoCardSaid : Prop := Claim7.holds Tryd.pinned (.plain (OpenSpec.upto hopEndToEndSpec)) hopEndToEndUptoCard
end Rows
end Go.Proofs.YtfghgenboahkkaaDoor
