/-
  DERIVED. GIVEN WITH THE SEED: THE CARDS: each row of YtejbkbccljoldaaGreatDoorRows.lean that lists a variable, with what it lists TIED to the program's text (the seventh form; the later family's looks); each row that meets fmt, with fmt's text TOLD by the authors' own Lean function (tested against real Go, not proved from fmt's source: count such statements apart). THE CARD IS WHAT COUNTS. Prove the row's statement (the work); the ties are given (YtejbkbccljoldaaGreatDoorTie.lean); close each card by the builder's one call (the guide's Derived/Test/ToyasCard.lean, 'card_holds'). Laid BY PROGRAM, IN A SANDBOX (cutbox-door.mjs). By AI agents, Wed Nov 11 2026. No macro, syntax, notation, axiom, sorry.
-/
import Derived.Test.YtejbkbccljoldaaGreatDoorRows
import GoSem.ClaimSeven
namespace Go.Proofs.YtejbkbccljoldaaGreatDoor
namespace Rows

/-- THE TIED CARD OF 'canarylaw11.ReaderNext'. -/
def readerNextCard : Claim7 := { stood := { row := readerNextRow, standIns := [], harness := (true, "b727fa49adf94d4b1b68e843ac5f2973f469faa64197693da42aa8ccd84fa807"), looks := false }, kinds := [], alts := [], laidByText := true, laidKinds := [.data, .pinned], laidTests := true, laidLooks := .later }
def ReaderNextCardSaid : Prop := Claim7.holds Tryz.pinned (.plain (OpenSpec.ofChange readerNextSpec)) readerNextCard

/-- THE TIED CARD OF 'canarylaw11.ReaderPieces'. -/
def readerPiecesCard : Claim7 := { stood := { row := readerPiecesRow, standIns := [], harness := (true, "b727fa49adf94d4b1b68e843ac5f2973f469faa64197693da42aa8ccd84fa807"), looks := false }, kinds := [], alts := [], laidByText := true, laidKinds := [.data, .pinned], laidTests := true, laidLooks := .later }
def ReaderPiecesCardSaid : Prop := Claim7.holds Tryz.pinned (.plain (OpenSpec.ofChange readerPiecesSpec)) readerPiecesCard

/-- THE TIED CARD OF 'canarylaw11.ReaderRequest'. -/
def readerRequestCard : Claim7 := { stood := { row := readerRequestRow, standIns := [], harness := (true, "b727fa49adf94d4b1b68e843ac5f2973f469faa64197693da42aa8ccd84fa807"), looks := false }, kinds := [], alts := [], laidByText := true, laidKinds := [.data, .pinned], laidTests := true, laidLooks := .later }
def ReaderRequestCardSaid : Prop := Claim7.holds Tryz.pinned (.plain (OpenSpec.ofChange readerRequestSpec)) readerRequestCard

/-- THE TIED CARD OF 'canarylaw11.ReaderLimits'. -/
def readerLimitsCard : Claim7 := { stood := { row := readerLimitsRow, standIns := [], harness := (true, "b727fa49adf94d4b1b68e843ac5f2973f469faa64197693da42aa8ccd84fa807"), looks := false }, kinds := [], alts := [], laidByText := true, laidKinds := [.data, .pinned], laidTests := true, laidLooks := .later }
def ReaderLimitsCardSaid : Prop := Claim7.holds Tryz.pinned (.plain (OpenSpec.ofChange readerLimitsSpec)) readerLimitsCard

/-- THE TIED CARD OF 'canarylaw11.ReaderInterim'. -/
def readerInterimCard : Claim7 := { stood := { row := readerInterimRow, standIns := [], harness := (true, "b727fa49adf94d4b1b68e843ac5f2973f469faa64197693da42aa8ccd84fa807"), looks := false }, kinds := [], alts := [], laidByText := true, laidKinds := [.data, .pinned], laidTests := true, laidLooks := .later }
def ReaderInterimCardSaid : Prop := Claim7.holds Tryz.pinned (.plain (OpenSpec.ofChange readerInterimSpec)) readerInterimCard

/-- THE SECOND FORM's CARD OF 'canarylaw11.ReaderNext'. -/
def readerNextUptoCard : Claim7 := { stood := { row := readerNextUptoRow, standIns := [], harness := (true, "b727fa49adf94d4b1b68e843ac5f2973f469faa64197693da42aa8ccd84fa807"), looks := false }, kinds := [], alts := [], laidByText := true, laidKinds := [.data, .pinned], laidTests := true, laidLooks := .later }
def ReaderNextUptoCardSaid : Prop := Claim7.holds Tryz.pinned (.plain (OpenSpec.upto readerNextSpec)) readerNextUptoCard

/-- THE SECOND FORM's CARD OF 'canarylaw11.ReaderPieces'. -/
def readerPiecesUptoCard : Claim7 := { stood := { row := readerPiecesUptoRow, standIns := [], harness := (true, "b727fa49adf94d4b1b68e843ac5f2973f469faa64197693da42aa8ccd84fa807"), looks := false }, kinds := [], alts := [], laidByText := true, laidKinds := [.data, .pinned], laidTests := true, laidLooks := .later }
def ReaderPiecesUptoCardSaid : Prop := Claim7.holds Tryz.pinned (.plain (OpenSpec.upto readerPiecesSpec)) readerPiecesUptoCard

/-- THE SECOND FORM's CARD OF 'canarylaw11.ReaderRequest'. -/
def readerRequestUptoCard : Claim7 := { stood := { row := readerRequestUptoRow, standIns := [], harness := (true, "b727fa49adf94d4b1b68e843ac5f2973f469faa64197693da42aa8ccd84fa807"), looks := false }, kinds := [], alts := [], laidByText := true, laidKinds := [.data, .pinned], laidTests := true, laidLooks := .later }
def ReaderRequestUptoCardSaid : Prop := Claim7.holds Tryz.pinned (.plain (OpenSpec.upto readerRequestSpec)) readerRequestUptoCard

/-- THE SECOND FORM's CARD OF 'canarylaw11.ReaderLimits'. -/
def readerLimitsUptoCard : Claim7 := { stood := { row := readerLimitsUptoRow, standIns := [], harness := (true, "b727fa49adf94d4b1b68e843ac5f2973f469faa64197693da42aa8ccd84fa807"), looks := false }, kinds := [], alts := [], laidByText := true, laidKinds := [.data, .pinned], laidTests := true, laidLooks := .later }
def ReaderLimitsUptoCardSaid : Prop := Claim7.holds Tryz.pinned (.plain (OpenSpec.upto readerLimitsSpec)) readerLimitsUptoCard

/-- THE SECOND FORM's CARD OF 'canarylaw11.ReaderInterim'. -/
def readerInterimUptoCard : Claim7 := { stood := { row := readerInterimUptoRow, standIns := [], harness := (true, "b727fa49adf94d4b1b68e843ac5f2973f469faa64197693da42aa8ccd84fa807"), looks := false }, kinds := [], alts := [], laidByText := true, laidKinds := [.data, .pinned], laidTests := true, laidLooks := .later }
def ReaderInterimUptoCardSaid : Prop := Claim7.holds Tryz.pinned (.plain (OpenSpec.upto readerInterimSpec)) readerInterimUptoCard
end Rows
end Go.Proofs.YtejbkbccljoldaaGreatDoor
