/-
  DERIVED. GIVEN WITH THE SEED: THE CARDS: each row of YtnpbnaapbimjaaaGreatDoorRows.lean that lists a variable, with what it lists TIED to the program's text (the seventh form; the later family's looks); each row that meets fmt, with fmt's text TOLD by the authors' own Lean function (tested against real Go, not proved from fmt's source: count such statements apart). THE CARD IS WHAT COUNTS. Prove the row's statement (the work); the ties are given (YtnpbnaapbimjaaaGreatDoorTie.lean); close each card by the builder's one call (the guide's Derived/Test/ToyasCard.lean, 'card_holds'). Laid BY PROGRAM, IN A SANDBOX (cutbox-door.mjs). By AI agents, Wed Nov 11 2026. No macro, syntax, notation, axiom, sorry.
-/
import Derived.Test.YtnpbnaapbimjaaaGreatDoorRows
import GoSem.ClaimSeven
namespace Go.Proofs.YtnpbnaapbimjaaaGreatDoor
namespace Rows

/-- THE TIED CARD OF 'canarylaw19.NormalFields'. -/
def normalFieldsCard : Claim7 := { stood := { row := normalFieldsRow, standIns := [], harness := (true, "27cedcb1f4431831282184a2306927e054dd6c480f9bdb531951f157922fdcee"), looks := false }, kinds := [], alts := [], laidByText := true, laidKinds := [.data, .pinned], laidTests := true, laidLooks := .later }
def NormalFieldsCardSaid : Prop := Claim7.holds Tryz.pinned (.plain (OpenSpec.ofChange normalFieldsSpec)) normalFieldsCard

/-- THE TIED CARD OF 'canarylaw19.NormalTwice'. -/
def normalTwiceCard : Claim7 := { stood := { row := normalTwiceRow, standIns := [], harness := (true, "27cedcb1f4431831282184a2306927e054dd6c480f9bdb531951f157922fdcee"), looks := false }, kinds := [], alts := [], laidByText := true, laidKinds := [.data, .pinned], laidTests := true, laidLooks := .later }
def NormalTwiceCardSaid : Prop := Claim7.holds Tryz.pinned (.plain (OpenSpec.ofChange normalTwiceSpec)) normalTwiceCard

/-- THE SECOND FORM's CARD OF 'canarylaw19.NormalFields'. -/
def normalFieldsUptoCard : Claim7 := { stood := { row := normalFieldsUptoRow, standIns := [], harness := (true, "27cedcb1f4431831282184a2306927e054dd6c480f9bdb531951f157922fdcee"), looks := false }, kinds := [], alts := [], laidByText := true, laidKinds := [.data, .pinned], laidTests := true, laidLooks := .later }
def NormalFieldsUptoCardSaid : Prop := Claim7.holds Tryz.pinned (.plain (OpenSpec.upto normalFieldsSpec)) normalFieldsUptoCard

/-- THE SECOND FORM's CARD OF 'canarylaw19.NormalTwice'. -/
def normalTwiceUptoCard : Claim7 := { stood := { row := normalTwiceUptoRow, standIns := [], harness := (true, "27cedcb1f4431831282184a2306927e054dd6c480f9bdb531951f157922fdcee"), looks := false }, kinds := [], alts := [], laidByText := true, laidKinds := [.data, .pinned], laidTests := true, laidLooks := .later }
def NormalTwiceUptoCardSaid : Prop := Claim7.holds Tryz.pinned (.plain (OpenSpec.upto normalTwiceSpec)) normalTwiceUptoCard
end Rows
end Go.Proofs.YtnpbnaapbimjaaaGreatDoor
