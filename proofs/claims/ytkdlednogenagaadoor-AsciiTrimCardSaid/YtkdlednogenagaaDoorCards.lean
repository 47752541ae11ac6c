/-
  DERIVED. GIVEN WITH THE SEED: THE CARDS: each row of YtkdlednogenagaaDoorRows.lean that lists a variable, with what it lists TIED to the program's text (the seventh form; the later family's looks); each row that meets fmt, with fmt's text TOLD by the authors' own Lean function (tested against real Go, not proved from fmt's source: count such statements apart). THE CARD IS WHAT COUNTS. Prove the row's statement (the work); the ties are given (YtkdlednogenagaaDoorTie.lean); close each card by the builder's one call (the guide's Derived/Test/ToyasCard.lean, 'card_holds'). Laid BY PROGRAM, IN A SANDBOX (cutbox-door.mjs). By AI agents, Wed Nov 11 2026. No macro, syntax, notation, axiom, sorry.
-/
import Derived.Test.YtkdlednogenagaaDoorRows
import GoSem.ClaimSeven
namespace Go.Proofs.YtkdlednogenagaaDoor
namespace Rows

/-- THE TIED CARD OF 'canarylaw01.AsciiLower'. -/
def asciiLowerCard : Claim7 := { stood := { row := asciiLowerRow, standIns := [], harness := (true, "3a2c38b18aac0e5bd5b663ca702f869ec68d54d2a4aebadfea098ef95b38c323"), looks := false }, kinds := [], alts := [], laidByText := true, laidKinds := [.data, .pinned], laidTests := true, laidLooks := .later }
def AsciiLowerCardSaid : Prop := Claim7.holds Tryd.pinned (.plain (OpenSpec.ofChange asciiLowerSpec)) asciiLowerCard

/-- THE TIED CARD OF 'canarylaw01.AsciiToken'. -/
def asciiTokenCard : Claim7 := { stood := { row := asciiTokenRow, standIns := [], harness := (true, "3a2c38b18aac0e5bd5b663ca702f869ec68d54d2a4aebadfea098ef95b38c323"), looks := false }, kinds := [], alts := [], laidByText := true, laidKinds := [.data, .pinned], laidTests := true, laidLooks := .later }
def AsciiTokenCardSaid : Prop := Claim7.holds Tryd.pinned (.plain (OpenSpec.ofChange asciiTokenSpec)) asciiTokenCard

/-- THE TIED CARD OF 'canarylaw01.AsciiBytes'. -/
def asciiBytesCard : Claim7 := { stood := { row := asciiBytesRow, standIns := [], harness := (true, "3a2c38b18aac0e5bd5b663ca702f869ec68d54d2a4aebadfea098ef95b38c323"), looks := false }, kinds := [], alts := [], laidByText := true, laidKinds := [.data, .pinned], laidTests := true, laidLooks := .later }
def AsciiBytesCardSaid : Prop := Claim7.holds Tryd.pinned (.plain (OpenSpec.ofChange asciiBytesSpec)) asciiBytesCard

/-- THE TIED CARD OF 'canarylaw01.AsciiTrim'. -/
def asciiTrimCard : Claim7 := { stood := { row := asciiTrimRow, standIns := [], harness := (true, "3a2c38b18aac0e5bd5b663ca702f869ec68d54d2a4aebadfea098ef95b38c323"), looks := false }, kinds := [], alts := [], laidByText := true, laidKinds := [.data, .pinned], laidTests := true, laidLooks := .later }
def AsciiTrimCardSaid : Prop := Claim7.holds Tryd.pinned (.plain (OpenSpec.ofChange asciiTrimSpec)) asciiTrimCard

/-- THE TIED CARD OF 'canarylaw01.AsciiList'. -/
def asciiListCard : Claim7 := { stood := { row := asciiListRow, standIns := [], harness := (true, "3a2c38b18aac0e5bd5b663ca702f869ec68d54d2a4aebadfea098ef95b38c323"), looks := false }, kinds := [], alts := [], laidByText := true, laidKinds := [.data, .pinned], laidTests := true, laidLooks := .later }
def AsciiListCardSaid : Prop := Claim7.holds Tryd.pinned (.plain (OpenSpec.ofChange asciiListSpec)) asciiListCard

/-- THE SECOND FORM's CARD OF 'canarylaw01.AsciiLower'. -/
def asciiLowerUptoCard : Claim7 := { stood := { row := asciiLowerUptoRow, standIns := [], harness := (true, "3a2c38b18aac0e5bd5b663ca702f869ec68d54d2a4aebadfea098ef95b38c323"), looks := false }, kinds := [], alts := [], laidByText := true, laidKinds := [.data, .pinned], laidTests := true, laidLooks := .later }
def AsciiLowerUptoCardSaid : Prop := Claim7.holds Tryd.pinned (.plain (OpenSpec.upto asciiLowerSpec)) asciiLowerUptoCard

/-- THE SECOND FORM's CARD OF 'canarylaw01.AsciiToken'. -/
def asciiTokenUptoCard : Claim7 := { stood := { row := asciiTokenUptoRow, standIns := [], harness := (true, "3a2c38b18aac0e5bd5b663ca702f869ec68d54d2a4aebadfea098ef95b38c323"), looks := false }, kinds := [], alts := [], laidByText := true, laidKinds := [.data, .pinned], laidTests := true, laidLooks := .later }
def AsciiTokenUptoCardSaid : Prop := Claim7.holds Tryd.pinned (.plain (OpenSpec.upto asciiTokenSpec)) asciiTokenUptoCard

/-- THE SECOND FORM's CARD OF 'canarylaw01.AsciiBytes'. -/
def asciiBytesUptoCard : Claim7 := { stood := { row := asciiBytesUptoRow, standIns := [], harness := (true, "3a2c38b18aac0e5bd5b663ca702f869ec68d54d2a4aebadfea098ef95b38c323"), looks := false }, kinds := [], alts := [], laidByText := true, laidKinds := [.data, .pinned], laidTests := true, laidLooks := .later }
def AsciiBytesUptoCardSaid : Prop := Claim7.holds Tryd.pinned (.plain (OpenSpec.upto asciiBytesSpec)) asciiBytesUptoCard

/-- THE SECOND FORM's CARD OF 'canarylaw01.AsciiTrim'. -/
def asciiTrimUptoCard : Claim7 := { stood := { row := asciiTrimUptoRow, standIns := [], harness := (true, "3a2c38b18aac0e5bd5b663ca702f869ec68d54d2a4aebadfea098ef95b38c323"), looks := false }, kinds := [], alts := [], laidByText := true, laidKinds := [.data, .pinned], laidTests := true, laidLooks := .later }
def AsciiTrimUptoCardSaid : Prop := Claim7.holds Tryd.pinned (.plain (OpenSpec.upto asciiTrimSpec)) asciiTrimUptoCard

/-- THE SECOND FORM's CARD OF 'canarylaw01.AsciiList'. -/
def asciiListUptoCard : Claim7 := { stood := { row := asciiListUptoRow, standIns := [], harness := (true, "3a2c38b18aac0e5bd5b663ca702f869ec68d54d2a4aebadfea098ef95b38c323"), looks := false }, kinds := [], alts := [], laidByText := true, laidKinds := [.data, .pinned], laidTests := true, laidLooks := .later }
def AsciiListUptoCardSaid : Prop := Claim7.holds Tryd.pinned (.plain (OpenSpec.upto asciiListSpec)) asciiListUptoCard
end Rows
end Go.Proofs.YtkdlednogenagaaDoor
