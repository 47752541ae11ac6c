/-
  DERIVED. GIVEN WITH THE SEED: THE CARDS: each row of YtgmbfiikkogenaaGreatDoorRows.lean that lists a variable, with what it lists TIED to the program's text (the seventh form; the later family's looks); each row that meets fmt, with fmt's text TOLD by the authors' own Lean function (tested against real Go, not proved from fmt's source: count such statements apart). THE CARD IS WHAT COUNTS. Prove the row's statement (the work); the ties are given (YtgmbfiikkogenaaGreatDoorTie.lean); close each card by the builder's one call (the guide's Derived/Test/ToyasCard.lean, 'card_holds'). Laid BY PROGRAM, IN A SANDBOX (cutbox-door.mjs). By AI agents, Wed Nov 11 2026. No macro, syntax, notation, axiom, sorry.
-/
import Derived.Test.YtgmbfiikkogenaaGreatDoorRows
import GoSem.ClaimSeven
namespace Go.Proofs.YtgmbfiikkogenaaGreatDoor
namespace Rows

/-- THE TIED CARD OF 'canarylaw20.DifferSee'. -/
def differSeeCard : Claim7 := { stood := { row := differSeeRow, standIns := [], harness := (true, "e836f95b8a19fe58686cdbdaa9c05273276f88aab20dcf5c59cece6c2d6c24bf"), looks := false }, kinds := [], alts := [], laidByText := true, laidKinds := [.data, .data, .data, .pinned], laidTests := true, laidLooks := .later }
def DifferSeeCardSaid : Prop := Claim7.holds Tryz.pinned (.plain (OpenSpec.ofChange differSeeSpec)) differSeeCard

/-- THE TIED CARD OF 'canarylaw20.DifferCompare'. -/
def differCompareCard : Claim7 := { stood := { row := differCompareRow, standIns := [], harness := (true, "e836f95b8a19fe58686cdbdaa9c05273276f88aab20dcf5c59cece6c2d6c24bf"), looks := false }, kinds := [], alts := [], laidByText := true, laidKinds := [.data, .data, .data, .pinned], laidTests := true, laidLooks := .later }
def DifferCompareCardSaid : Prop := Claim7.holds Tryz.pinned (.plain (OpenSpec.ofChange differCompareSpec)) differCompareCard

/-- THE TIED CARD OF 'canarylaw20.DifferSymmetric'. -/
def differSymmetricCard : Claim7 := { stood := { row := differSymmetricRow, standIns := [], harness := (true, "e836f95b8a19fe58686cdbdaa9c05273276f88aab20dcf5c59cece6c2d6c24bf"), looks := false }, kinds := [], alts := [], laidByText := true, laidKinds := [.data, .data, .data, .pinned], laidTests := true, laidLooks := .later }
def DifferSymmetricCardSaid : Prop := Claim7.holds Tryz.pinned (.plain (OpenSpec.ofChange differSymmetricSpec)) differSymmetricCard

/-- THE TIED CARD OF 'canarylaw20.DifferBody'. -/
def differBodyCard : Claim7 := { stood := { row := differBodyRow, standIns := [], harness := (true, "e836f95b8a19fe58686cdbdaa9c05273276f88aab20dcf5c59cece6c2d6c24bf"), looks := false }, kinds := [], alts := [], laidByText := true, laidKinds := [.data, .data, .data, .pinned], laidTests := true, laidLooks := .later }
def DifferBodyCardSaid : Prop := Claim7.holds Tryz.pinned (.plain (OpenSpec.ofChange differBodySpec)) differBodyCard

/-- THE TIED CARD OF 'canarylaw20.DifferField'. -/
def differFieldCard : Claim7 := { stood := { row := differFieldRow, standIns := [], harness := (true, "e836f95b8a19fe58686cdbdaa9c05273276f88aab20dcf5c59cece6c2d6c24bf"), looks := false }, kinds := [], alts := [], laidByText := true, laidKinds := [.data, .data, .data, .pinned], laidTests := true, laidLooks := .later }
def DifferFieldCardSaid : Prop := Claim7.holds Tryz.pinned (.plain (OpenSpec.ofChange differFieldSpec)) differFieldCard

/-- THE SECOND FORM's CARD OF 'canarylaw20.DifferSee'. -/
def differSeeUptoCard : Claim7 := { stood := { row := differSeeUptoRow, standIns := [], harness := (true, "e836f95b8a19fe58686cdbdaa9c05273276f88aab20dcf5c59cece6c2d6c24bf"), looks := false }, kinds := [], alts := [], laidByText := true, laidKinds := [.data, .data, .data, .pinned], laidTests := true, laidLooks := .later }
def DifferSeeUptoCardSaid : Prop := Claim7.holds Tryz.pinned (.plain (OpenSpec.upto differSeeSpec)) differSeeUptoCard

/-- THE SECOND FORM's CARD OF 'canarylaw20.DifferCompare'. -/
def differCompareUptoCard : Claim7 := { stood := { row := differCompareUptoRow, standIns := [], harness := (true, "e836f95b8a19fe58686cdbdaa9c05273276f88aab20dcf5c59cece6c2d6c24bf"), looks := false }, kinds := [], alts := [], laidByText := true, laidKinds := [.data, .data, .data, .pinned], laidTests := true, laidLooks := .later }
def DifferCompareUptoCardSaid : Prop := Claim7.holds Tryz.pinned (.plain (OpenSpec.upto differCompareSpec)) differCompareUptoCard

/-- THE SECOND FORM's CARD OF 'canarylaw20.DifferSymmetric'. -/
def differSymmetricUptoCard : Claim7 := { stood := { row := differSymmetricUptoRow, standIns := [], harness := (true, "e836f95b8a19fe58686cdbdaa9c05273276f88aab20dcf5c59cece6c2d6c24bf"), looks := false }, kinds := [], alts := [], laidByText := true, laidKinds := [.data, .data, .data, .pinned], laidTests := true, laidLooks := .later }
def DifferSymmetricUptoCardSaid : Prop := Claim7.holds Tryz.pinned (.plain (OpenSpec.upto differSymmetricSpec)) differSymmetricUptoCard

/-- THE SECOND FORM's CARD OF 'canarylaw20.DifferBody'. -/
def differBodyUptoCard : Claim7 := { stood := { row := differBodyUptoRow, standIns := [], harness := (true, "e836f95b8a19fe58686cdbdaa9c05273276f88aab20dcf5c59cece6c2d6c24bf"), looks := false }, kinds := [], alts := [], laidByText := true, laidKinds := [.data, .data, .data, .pinned], laidTests := true, laidLooks := .later }
def DifferBodyUptoCardSaid : Prop := Claim7.holds Tryz.pinned (.plain (OpenSpec.upto differBodySpec)) differBodyUptoCard

/-- THE SECOND FORM's CARD OF 'canarylaw20.DifferField'. -/
def differFieldUptoCard : Claim7 := { stood := { row := differFieldUptoRow, standIns := [], harness := (true, "e836f95b8a19fe58686cdbdaa9c05273276f88aab20dcf5c59cece6c2d6c24bf"), looks := false }, kinds := [], alts := [], laidByText := true, laidKinds := [.data, .data, .data, .pinned], laidTests := true, laidLooks := .later }
def DifferFieldUptoCardSaid : Prop := Claim7.holds Tryz.pinned (.plain (OpenSpec.upto differFieldSpec)) differFieldUptoCard
end Rows
end Go.Proofs.YtgmbfiikkogenaaGreatDoor
