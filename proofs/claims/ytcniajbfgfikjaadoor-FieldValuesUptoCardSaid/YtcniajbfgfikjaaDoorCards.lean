/-
  DERIVED. GIVEN WITH THE SEED: THE CARDS: each row of YtcniajbfgfikjaaDoorRows.lean that lists a variable, with what it lists TIED to the program's text (the seventh form; the later family's looks); each row that meets fmt, with fmt's text TOLD by the authors' own Lean function (tested against real Go, not proved from fmt's source: count such statements apart). THE CARD IS WHAT COUNTS. Prove the row's statement (the work); the ties are given (YtcniajbfgfikjaaDoorTie.lean); close each card by the builder's one call (the guide's Derived/Test/ToyasCard.lean, 'card_holds'). Laid BY PROGRAM, IN A SANDBOX (cutbox-door.mjs). By AI agents, Wed Nov 11 2026. No macro, syntax, notation, axiom, sorry.
-/
import Derived.Test.YtcniajbfgfikjaaDoorRows
import GoSem.ClaimSeven
namespace Go.Proofs.YtcniajbfgfikjaaDoor
namespace Rows

/-- THE TIED CARD OF 'canarylaw06.FieldValues'. -/
def fieldValuesCard : Claim7 := { stood := { row := fieldValuesRow, standIns := [], harness := (true, "db09aad952047d47d61dd4f9f9cc5a815ce2544fab51dad17adbbb41c13d06bd"), looks := false }, kinds := [], alts := [], laidByText := true, laidKinds := [.data, .pinned], laidTests := true, laidLooks := .later }
def FieldValuesCardSaid : Prop := Claim7.holds Tryd.pinned (.plain (OpenSpec.ofChange fieldValuesSpec)) fieldValuesCard

/-- THE TIED CARD OF 'canarylaw06.FieldWithout'. -/
def fieldWithoutCard : Claim7 := { stood := { row := fieldWithoutRow, standIns := [], harness := (true, "db09aad952047d47d61dd4f9f9cc5a815ce2544fab51dad17adbbb41c13d06bd"), looks := false }, kinds := [], alts := [], laidByText := true, laidKinds := [.data, .pinned], laidTests := true, laidLooks := .later }
def FieldWithoutCardSaid : Prop := Claim7.holds Tryd.pinned (.plain (OpenSpec.ofChange fieldWithoutSpec)) fieldWithoutCard

/-- THE TIED CARD OF 'canarylaw06.FieldFormat'. -/
def fieldFormatCard : Claim7 := { stood := { row := fieldFormatRow, standIns := [], harness := (true, "db09aad952047d47d61dd4f9f9cc5a815ce2544fab51dad17adbbb41c13d06bd"), looks := false }, kinds := [], alts := [], laidByText := true, laidKinds := [.data, .pinned], laidTests := true, laidLooks := .later }
def FieldFormatCardSaid : Prop := Claim7.holds Tryd.pinned (.plain (OpenSpec.ofChange fieldFormatSpec)) fieldFormatCard

/-- THE TIED CARD OF 'canarylaw06.FieldParse'. -/
def fieldParseCard : Claim7 := { stood := { row := fieldParseRow, standIns := [], harness := (true, "db09aad952047d47d61dd4f9f9cc5a815ce2544fab51dad17adbbb41c13d06bd"), looks := false }, kinds := [], alts := [], laidByText := true, laidKinds := [.data, .pinned], laidTests := true, laidLooks := .later }
def FieldParseCardSaid : Prop := Claim7.holds Tryd.pinned (.plain (OpenSpec.ofChange fieldParseSpec)) fieldParseCard

/-- THE TIED CARD OF 'canarylaw06.FieldLine'. -/
def fieldLineCard : Claim7 := { stood := { row := fieldLineRow, standIns := [], harness := (true, "db09aad952047d47d61dd4f9f9cc5a815ce2544fab51dad17adbbb41c13d06bd"), looks := false }, kinds := [], alts := [], laidByText := true, laidKinds := [.data, .pinned], laidTests := true, laidLooks := .later }
def FieldLineCardSaid : Prop := Claim7.holds Tryd.pinned (.plain (OpenSpec.ofChange fieldLineSpec)) fieldLineCard

/-- THE SECOND FORM's CARD OF 'canarylaw06.FieldValues'. -/
def fieldValuesUptoCard : Claim7 := { stood := { row := fieldValuesUptoRow, standIns := [], harness := (true, "db09aad952047d47d61dd4f9f9cc5a815ce2544fab51dad17adbbb41c13d06bd"), looks := false }, kinds := [], alts := [], laidByText := true, laidKinds := [.data, .pinned], laidTests := true, laidLooks := .later }
def FieldValuesUptoCardSaid : Prop := Claim7.holds Tryd.pinned (.plain (OpenSpec.upto fieldValuesSpec)) fieldValuesUptoCard

/-- THE SECOND FORM's CARD OF 'canarylaw06.FieldWithout'. -/
def fieldWithoutUptoCard : Claim7 := { stood := { row := fieldWithoutUptoRow, standIns := [], harness := (true, "db09aad952047d47d61dd4f9f9cc5a815ce2544fab51dad17adbbb41c13d06bd"), looks := false }, kinds := [], alts := [], laidByText := true, laidKinds := [.data, .pinned], laidTests := true, laidLooks := .later }
def FieldWithoutUptoCardSaid : Prop := Claim7.holds Tryd.pinned (.plain (OpenSpec.upto fieldWithoutSpec)) fieldWithoutUptoCard

/-- THE SECOND FORM's CARD OF 'canarylaw06.FieldFormat'. -/
def fieldFormatUptoCard : Claim7 := { stood := { row := fieldFormatUptoRow, standIns := [], harness := (true, "db09aad952047d47d61dd4f9f9cc5a815ce2544fab51dad17adbbb41c13d06bd"), looks := false }, kinds := [], alts := [], laidByText := true, laidKinds := [.data, .pinned], laidTests := true, laidLooks := .later }
def FieldFormatUptoCardSaid : Prop := Claim7.holds Tryd.pinned (.plain (OpenSpec.upto fieldFormatSpec)) fieldFormatUptoCard

/-- THE SECOND FORM's CARD OF 'canarylaw06.FieldParse'. -/
def fieldParseUptoCard : Claim7 := { stood := { row := fieldParseUptoRow, standIns := [], harness := (true, "db09aad952047d47d61dd4f9f9cc5a815ce2544fab51dad17adbbb41c13d06bd"), looks := false }, kinds := [], alts := [], laidByText := true, laidKinds := [.data, .pinned], laidTests := true, laidLooks := .later }
def FieldParseUptoCardSaid : Prop := Claim7.holds Tryd.pinned (.plain (OpenSpec.upto fieldParseSpec)) fieldParseUptoCard

/-- THE SECOND FORM's CARD OF 'canarylaw06.FieldLine'. -/
def fieldLineUptoCard : Claim7 := { stood := { row := fieldLineUptoRow, standIns := [], harness := (true, "db09aad952047d47d61dd4f9f9cc5a815ce2544fab51dad17adbbb41c13d06bd"), looks := false }, kinds := [], alts := [], laidByText := true, laidKinds := [.data, .pinned], laidTests := true, laidLooks := .later }
def FieldLineUptoCardSaid : Prop := Claim7.holds Tryd.pinned (.plain (OpenSpec.upto fieldLineSpec)) fieldLineUptoCard
end Rows
end Go.Proofs.YtcniajbfgfikjaaDoor
