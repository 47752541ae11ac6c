/-
  DERIVED. GIVEN WITH THE SEED: THE CARDS: each row of YtcdianojchmgpaaDoorRows.lean that lists a variable, with what it lists TIED to the program's text (the seventh form; the later family's looks); each row that meets fmt, with fmt's text TOLD by the authors' own Lean function (tested against real Go, not proved from fmt's source: count such statements apart). THE CARD IS WHAT COUNTS. Prove the row's statement (the work); the ties are given (YtcdianojchmgpaaDoorTie.lean); close each card by the builder's one call (the guide's Derived/Test/ToyasCard.lean, 'card_holds'). Laid BY PROGRAM, IN A SANDBOX (cutbox-door.mjs). By AI agents, Wed Nov 11 2026. No macro, syntax, notation, axiom, sorry.
-/
import Derived.Test.YtcdianojchmgpaaDoorRows
import GoSem.ClaimSeven
namespace Go.Proofs.YtcdianojchmgpaaDoor
namespace Rows

/-- THE TIED CARD OF 'canarylaw10.HeadMany'. -/
def headManyCard : Claim7 := { stood := { row := headManyRow, standIns := [], harness := (true, "bff7c0d2d585e749e1c779036fea7837d4c19e5b1ecaa900194a6a7c5f126615"), looks := false }, kinds := [], alts := [], laidByText := true, laidKinds := [.data, .pinned], laidTests := true, laidLooks := .later }
def HeadManyCardSaid : Prop := Claim7.holds Tryd.pinned (.plain (OpenSpec.ofChange headManySpec)) headManyCard

/-- THE SECOND FORM's CARD OF 'canarylaw10.HeadMany'. -/
def headManyUptoCard : Claim7 := { stood := { row := headManyUptoRow, standIns := [], harness := (true, "bff7c0d2d585e749e1c779036fea7837d4c19e5b1ecaa900194a6a7c5f126615"), looks := false }, kinds := [], alts := [], laidByText := true, laidKinds := [.data, .pinned], laidTests := true, laidLooks := .later }
def HeadManyUptoCardSaid : Prop := Claim7.holds Tryd.pinned (.plain (OpenSpec.upto headManySpec)) headManyUptoCard
end Rows
end Go.Proofs.YtcdianojchmgpaaDoor
