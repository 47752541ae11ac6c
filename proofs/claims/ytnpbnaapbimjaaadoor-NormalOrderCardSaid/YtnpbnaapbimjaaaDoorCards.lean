/-
  DERIVED. GIVEN WITH THE SEED: THE CARDS: each row of YtnpbnaapbimjaaaDoorRows.lean that lists a variable, with what it lists TIED to the program's text (the seventh form; the later family's looks); each row that meets fmt, with fmt's text TOLD by the authors' own Lean function (tested against real Go, not proved from fmt's source: count such statements apart). THE CARD IS WHAT COUNTS. Prove the row's statement (the work); the ties are given (YtnpbnaapbimjaaaDoorTie.lean); close each card by the builder's one call (the guide's Derived/Test/ToyasCard.lean, 'card_holds'). Laid BY PROGRAM, IN A SANDBOX (cutbox-door.mjs). By AI agents, Wed Nov 11 2026. No macro, syntax, notation, axiom, sorry.
-/
import Derived.Test.YtnpbnaapbimjaaaDoorRows
import GoSem.ClaimSeven
namespace Go.Proofs.YtnpbnaapbimjaaaDoor
namespace Rows

/-- THE TIED CARD OF 'canarylaw19.NormalOrder'. -/
def normalOrderCard : Claim7 := { stood := { row := normalOrderRow, standIns := [], harness := (true, "d3b996699f972dc568d54c43ca54e6f93e24690e5617aaad46ece6c6bb741a6e"), looks := false }, kinds := [], alts := [], laidByText := true, laidKinds := [.data, .pinned], laidTests := true, laidLooks := .later }
def NormalOrderCardSaid : Prop := Claim7.holds Tryd.pinned (.plain (OpenSpec.ofChange normalOrderSpec)) normalOrderCard

/-- THE SECOND FORM's CARD OF 'canarylaw19.NormalOrder'. -/
def normalOrderUptoCard : Claim7 := { stood := { row := normalOrderUptoRow, standIns := [], harness := (true, "d3b996699f972dc568d54c43ca54e6f93e24690e5617aaad46ece6c6bb741a6e"), looks := false }, kinds := [], alts := [], laidByText := true, laidKinds := [.data, .pinned], laidTests := true, laidLooks := .later }
def NormalOrderUptoCardSaid : Prop := Claim7.holds Tryd.pinned (.plain (OpenSpec.upto normalOrderSpec)) normalOrderUptoCard
end Rows
end Go.Proofs.YtnpbnaapbimjaaaDoor
