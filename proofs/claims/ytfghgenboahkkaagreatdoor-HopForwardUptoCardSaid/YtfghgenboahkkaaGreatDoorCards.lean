/-
  DERIVED. GIVEN WITH THE SEED: THE CARDS: each row of YtfghgenboahkkaaGreatDoorRows.lean that lists a variable, with what it lists TIED to the program's text (the seventh form; the later family's looks); each row that meets fmt, with fmt's text TOLD by the authors' own Lean function (tested against real Go, not proved from fmt's source: count such statements apart). THE CARD IS WHAT COUNTS. Prove the row's statement (the work); the ties are given (YtfghgenboahkkaaGreatDoorTie.lean); close each card by the builder's one call (the guide's Derived/Test/ToyasCard.lean, 'card_holds'). Laid BY PROGRAM, IN A SANDBOX (cutbox-door.mjs). By AI agents, Wed Nov 11 2026. No macro, syntax, notation, axiom, sorry.
-/
import Derived.Test.YtfghgenboahkkaaGreatDoorRows
import GoSem.ClaimSeven
namespace Go.Proofs.YtfghgenboahkkaaGreatDoor
namespace Rows

/-- THE TIED CARD OF 'canarylaw13.HopStrip'. -/
def hopStripCard : Claim7 := { stood := { row := hopStripRow, standIns := [], harness := (true, "830cdc8f7a321e0571b8206d846b8f0df37932a4d2b919c4f289906f5f655e6f"), looks := false }, kinds := [], alts := [], laidByText := true, laidKinds := [.data, .data, .data, .data, .pinned], laidTests := true, laidLooks := .later }
def HopStripCardSaid : Prop := Claim7.holds Tryz.pinned (.plain (OpenSpec.ofChange hopStripSpec)) hopStripCard

/-- THE TIED CARD OF 'canarylaw13.HopForward'. -/
def hopForwardCard : Claim7 := { stood := { row := hopForwardRow, standIns := [], harness := (true, "830cdc8f7a321e0571b8206d846b8f0df37932a4d2b919c4f289906f5f655e6f"), looks := false }, kinds := [], alts := [], laidByText := true, laidKinds := [.data, .data, .data, .data, .pinned], laidTests := true, laidLooks := .later }
def HopForwardCardSaid : Prop := Claim7.holds Tryz.pinned (.plain (OpenSpec.ofChange hopForwardSpec)) hopForwardCard

/-- THE TIED CARD OF 'canarylaw13.HopOneFraming'. -/
def hopOneFramingCard : Claim7 := { stood := { row := hopOneFramingRow, standIns := [], harness := (true, "830cdc8f7a321e0571b8206d846b8f0df37932a4d2b919c4f289906f5f655e6f"), looks := false }, kinds := [], alts := [], laidByText := true, laidKinds := [.data, .data, .data, .data, .pinned], laidTests := true, laidLooks := .later }
def HopOneFramingCardSaid : Prop := Claim7.holds Tryz.pinned (.plain (OpenSpec.ofChange hopOneFramingSpec)) hopOneFramingCard

/-- THE TIED CARD OF 'canarylaw11.ReaderNext'. -/
def readerNextCard : Claim7 := { stood := { row := readerNextRow, standIns := [], harness := (true, "830cdc8f7a321e0571b8206d846b8f0df37932a4d2b919c4f289906f5f655e6f"), looks := false }, kinds := [], alts := [], laidByText := true, laidKinds := [.data, .pinned], laidTests := true, laidLooks := .later }
def ReaderNextCardSaid : Prop := Claim7.holds Tryz.pinned (.plain (OpenSpec.ofChange readerNextSpec)) readerNextCard

/-- THE SECOND FORM's CARD OF 'canarylaw13.HopStrip'. -/
def hopStripUptoCard : Claim7 := { stood := { row := hopStripUptoRow, standIns := [], harness := (true, "830cdc8f7a321e0571b8206d846b8f0df37932a4d2b919c4f289906f5f655e6f"), looks := false }, kinds := [], alts := [], laidByText := true, laidKinds := [.data, .data, .data, .data, .pinned], laidTests := true, laidLooks := .later }
def HopStripUptoCardSaid : Prop := Claim7.holds Tryz.pinned (.plain (OpenSpec.upto hopStripSpec)) hopStripUptoCard

/-- THE SECOND FORM's CARD OF 'canarylaw13.HopForward'. -/
def hopForwardUptoCard : Claim7 := { stood := { row := hopForwardUptoRow, standIns := [], harness := (true, "830cdc8f7a321e0571b8206d846b8f0df37932a4d2b919c4f289906f5f655e6f"), looks := false }, kinds := [], alts := [], laidByText := true, laidKinds := [.data, .data, .data, .data, .pinned], laidTests := true, laidLooks := .later }
def HopForwardUptoCardSaid : Prop := Claim7.holds Tryz.pinned (.plain (OpenSpec.upto hopForwardSpec)) hopForwardUptoCard

/-- THE SECOND FORM's CARD OF 'canarylaw13.HopOneFraming'. -/
def hopOneFramingUptoCard : Claim7 := { stood := { row := hopOneFramingUptoRow, standIns := [], harness := (true, "830cdc8f7a321e0571b8206d846b8f0df37932a4d2b919c4f289906f5f655e6f"), looks := false }, kinds := [], alts := [], laidByText := true, laidKinds := [.data, .data, .data, .data, .pinned], laidTests := true, laidLooks := .later }
def HopOneFramingUptoCardSaid : Prop := Claim7.holds Tryz.pinned (.plain (OpenSpec.upto hopOneFramingSpec)) hopOneFramingUptoCard

/-- THE SECOND FORM's CARD OF 'canarylaw11.ReaderNext'. -/
def readerNextUptoCard : Claim7 := { stood := { row := readerNextUptoRow, standIns := [], harness := (true, "830cdc8f7a321e0571b8206d846b8f0df37932a4d2b919c4f289906f5f655e6f"), looks := false }, kinds := [], alts := [], laidByText := true, laidKinds := [.data, .pinned], laidTests := true, laidLooks := .later }
def ReaderNextUptoCardSaid : Prop := Claim7.holds Tryz.pinned (.plain (OpenSpec.upto readerNextSpec)) readerNextUptoCard
end Rows
end Go.Proofs.YtfghgenboahkkaaGreatDoor
