/-
  DERIVED. GIVEN WITH THE SEED: THE CARDS: each row of YteoadfckcilalaaGreatDoorRows.lean that lists a variable, with what it lists TIED to the program's text (the seventh form; the later family's looks); each row that meets fmt, with fmt's text TOLD by the authors' own Lean function (tested against real Go, not proved from fmt's source: count such statements apart). THE CARD IS WHAT COUNTS. Prove the row's statement (the work); the ties are given (YteoadfckcilalaaGreatDoorTie.lean); close each card by the builder's one call (the guide's Derived/Test/ToyasCard.lean, 'card_holds'). Laid BY PROGRAM, IN A SANDBOX (cutbox-door.mjs). By AI agents, Wed Nov 11 2026. No macro, syntax, notation, axiom, sorry.
-/
import Derived.Test.YteoadfckcilalaaGreatDoorRows
import GoSem.ClaimSeven
namespace Go.Proofs.YteoadfckcilalaaGreatDoor
namespace Rows

/-- THE TIED CARD OF 'canarylaw11.ReaderNext'. -/
def readerNextCard : Claim7 := { stood := { row := readerNextRow, standIns := [], harness := (true, "91a7a5240a5050912401e76909ab294c673d9ca45d6419ae1c90df10680aab65"), looks := false }, kinds := [], alts := [], laidByText := true, laidKinds := [.data, .pinned], laidTests := true, laidLooks := .later }
def ReaderNextCardSaid : Prop := Claim7.holds Tryz.pinned (.plain (OpenSpec.ofChange readerNextSpec)) readerNextCard

/-- THE TIED CARD OF 'canarylaw11.ReaderPieces'. -/
def readerPiecesCard : Claim7 := { stood := { row := readerPiecesRow, standIns := [], harness := (true, "91a7a5240a5050912401e76909ab294c673d9ca45d6419ae1c90df10680aab65"), looks := false }, kinds := [], alts := [], laidByText := true, laidKinds := [.data, .pinned], laidTests := true, laidLooks := .later }
def ReaderPiecesCardSaid : Prop := Claim7.holds Tryz.pinned (.plain (OpenSpec.ofChange readerPiecesSpec)) readerPiecesCard

/-- THE TIED CARD OF 'canarylaw12.WriterWrite'. -/
def writerWriteCard : Claim7 := { stood := { row := writerWriteRow, standIns := [], harness := (true, "91a7a5240a5050912401e76909ab294c673d9ca45d6419ae1c90df10680aab65"), looks := false }, kinds := [], alts := [], laidByText := true, laidKinds := [.data, .data, .data, .data, .data, .pinned], laidTests := true, laidLooks := .later }
def WriterWriteCardSaid : Prop := Claim7.holds Tryz.pinned (.plain (OpenSpec.ofChange writerWriteSpec)) writerWriteCard

/-- THE TIED CARD OF 'canarylaw12.WriterRead'. -/
def writerReadCard : Claim7 := { stood := { row := writerReadRow, standIns := [], harness := (true, "91a7a5240a5050912401e76909ab294c673d9ca45d6419ae1c90df10680aab65"), looks := false }, kinds := [], alts := [], laidByText := true, laidKinds := [.data, .data, .data, .data, .data, .pinned], laidTests := true, laidLooks := .later }
def WriterReadCardSaid : Prop := Claim7.holds Tryz.pinned (.plain (OpenSpec.ofChange writerReadSpec)) writerReadCard

/-- THE TIED CARD OF 'canarylaw12.WriterBody'. -/
def writerBodyCard : Claim7 := { stood := { row := writerBodyRow, standIns := [], harness := (true, "91a7a5240a5050912401e76909ab294c673d9ca45d6419ae1c90df10680aab65"), looks := false }, kinds := [], alts := [], laidByText := true, laidKinds := [.data, .data, .data, .data, .data, .pinned], laidTests := true, laidLooks := .later }
def WriterBodyCardSaid : Prop := Claim7.holds Tryz.pinned (.plain (OpenSpec.ofChange writerBodySpec)) writerBodyCard

/-- THE SECOND FORM's CARD OF 'canarylaw11.ReaderNext'. -/
def readerNextUptoCard : Claim7 := { stood := { row := readerNextUptoRow, standIns := [], harness := (true, "91a7a5240a5050912401e76909ab294c673d9ca45d6419ae1c90df10680aab65"), looks := false }, kinds := [], alts := [], laidByText := true, laidKinds := [.data, .pinned], laidTests := true, laidLooks := .later }
def ReaderNextUptoCardSaid : Prop := Claim7.holds Tryz.pinned (.plain (OpenSpec.upto readerNextSpec)) readerNextUptoCard

/-- THE SECOND FORM's CARD OF 'canarylaw11.ReaderPieces'. -/
def readerPiecesUptoCard : Claim7 := { stood := { row := readerPiecesUptoRow, standIns := [], harness := (true, "91a7a5240a5050912401e76909ab294c673d9ca45d6419ae1c90df10680aab65"), looks := false }, kinds := [], alts := [], laidByText := true, laidKinds := [.data, .pinned], laidTests := true, laidLooks := .later }
def ReaderPiecesUptoCardSaid : Prop := Claim7.holds Tryz.pinned (.plain (OpenSpec.upto readerPiecesSpec)) readerPiecesUptoCard

/-- THE SECOND FORM's CARD OF 'canarylaw12.WriterWrite'. -/
def writerWriteUptoCard : Claim7 := { stood := { row := writerWriteUptoRow, standIns := [], harness := (true, "91a7a5240a5050912401e76909ab294c673d9ca45d6419ae1c90df10680aab65"), looks := false }, kinds := [], alts := [], laidByText := true, laidKinds := [.data, .data, .data, .data, .data, .pinned], laidTests := true, laidLooks := .later }
def WriterWriteUptoCardSaid : Prop := Claim7.holds Tryz.pinned (.plain (OpenSpec.upto writerWriteSpec)) writerWriteUptoCard

/-- THE SECOND FORM's CARD OF 'canarylaw12.WriterRead'. -/
def writerReadUptoCard : Claim7 := { stood := { row := writerReadUptoRow, standIns := [], harness := (true, "91a7a5240a5050912401e76909ab294c673d9ca45d6419ae1c90df10680aab65"), looks := false }, kinds := [], alts := [], laidByText := true, laidKinds := [.data, .data, .data, .data, .data, .pinned], laidTests := true, laidLooks := .later }
def WriterReadUptoCardSaid : Prop := Claim7.holds Tryz.pinned (.plain (OpenSpec.upto writerReadSpec)) writerReadUptoCard

/-- THE SECOND FORM's CARD OF 'canarylaw12.WriterBody'. -/
def writerBodyUptoCard : Claim7 := { stood := { row := writerBodyUptoRow, standIns := [], harness := (true, "91a7a5240a5050912401e76909ab294c673d9ca45d6419ae1c90df10680aab65"), looks := false }, kinds := [], alts := [], laidByText := true, laidKinds := [.data, .data, .data, .data, .data, .pinned], laidTests := true, laidLooks := .later }
def WriterBodyUptoCardSaid : Prop := Claim7.holds Tryz.pinned (.plain (OpenSpec.upto writerBodySpec)) writerBodyUptoCard
end Rows
end Go.Proofs.YteoadfckcilalaaGreatDoor
