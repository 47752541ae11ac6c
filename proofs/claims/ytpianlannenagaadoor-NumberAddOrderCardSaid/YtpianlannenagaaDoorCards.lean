/-
  DERIVED. GIVEN WITH THE SEED: THE CARDS: each row of YtpianlannenagaaDoorRows.lean that lists a variable, with what it lists TIED to the program's text (the seventh form; the later family's looks); each row that meets fmt, with fmt's text TOLD by the authors' own Lean function (tested against real Go, not proved from fmt's source: count such statements apart). THE CARD IS WHAT COUNTS. Prove the row's statement (the work); the ties are given (YtpianlannenagaaDoorTie.lean); close each card by the builder's one call (the guide's Derived/Test/ToyasCard.lean, 'card_holds'). Laid BY PROGRAM, IN A SANDBOX (cutbox-door.mjs). By AI agents, Wed Nov 11 2026. No macro, syntax, notation, axiom, sorry.
-/
import Derived.Test.YtpianlannenagaaDoorRows
import GoSem.ClaimSeven
namespace Go.Proofs.YtpianlannenagaaDoor
namespace Rows

/-- THE TIED CARD OF 'canarylaw02.NumberPrint'. -/
def numberPrintCard : Claim7 := { stood := { row := numberPrintRow, standIns := [], harness := (true, "366dae88d5ff59371236235a00b379319670d3a5285b6906ffd87f70c920f435"), looks := false }, kinds := [], alts := [], laidByText := true, laidKinds := [.data, .data, .data], laidTests := true, laidLooks := .later }
def NumberPrintCardSaid : Prop := Claim7.holds Tryd.pinned (.plain (OpenSpec.ofChange numberPrintSpec)) numberPrintCard

/-- THE TIED CARD OF 'canarylaw02.NumberParse'. -/
def numberParseCard : Claim7 := { stood := { row := numberParseRow, standIns := [], harness := (true, "366dae88d5ff59371236235a00b379319670d3a5285b6906ffd87f70c920f435"), looks := false }, kinds := [], alts := [], laidByText := true, laidKinds := [.data, .data, .data], laidTests := true, laidLooks := .later }
def NumberParseCardSaid : Prop := Claim7.holds Tryd.pinned (.plain (OpenSpec.ofChange numberParseSpec)) numberParseCard

/-- THE TIED CARD OF 'canarylaw02.NumberLimit'. -/
def numberLimitCard : Claim7 := { stood := { row := numberLimitRow, standIns := [], harness := (true, "366dae88d5ff59371236235a00b379319670d3a5285b6906ffd87f70c920f435"), looks := false }, kinds := [], alts := [], laidByText := true, laidKinds := [.data, .data, .data], laidTests := true, laidLooks := .later }
def NumberLimitCardSaid : Prop := Claim7.holds Tryd.pinned (.plain (OpenSpec.ofChange numberLimitSpec)) numberLimitCard

/-- THE TIED CARD OF 'canarylaw02.NumberAdd'. -/
def numberAddCard : Claim7 := { stood := { row := numberAddRow, standIns := [], harness := (true, "366dae88d5ff59371236235a00b379319670d3a5285b6906ffd87f70c920f435"), looks := false }, kinds := [], alts := [], laidByText := true, laidKinds := [.data, .data, .data], laidTests := true, laidLooks := .later }
def NumberAddCardSaid : Prop := Claim7.holds Tryd.pinned (.plain (OpenSpec.ofChange numberAddSpec)) numberAddCard

/-- THE TIED CARD OF 'canarylaw02.NumberAddOrder'. -/
def numberAddOrderCard : Claim7 := { stood := { row := numberAddOrderRow, standIns := [], harness := (true, "366dae88d5ff59371236235a00b379319670d3a5285b6906ffd87f70c920f435"), looks := false }, kinds := [], alts := [], laidByText := true, laidKinds := [.data, .data, .data], laidTests := true, laidLooks := .later }
def NumberAddOrderCardSaid : Prop := Claim7.holds Tryd.pinned (.plain (OpenSpec.ofChange numberAddOrderSpec)) numberAddOrderCard

/-- THE SECOND FORM's CARD OF 'canarylaw02.NumberPrint'. -/
def numberPrintUptoCard : Claim7 := { stood := { row := numberPrintUptoRow, standIns := [], harness := (true, "366dae88d5ff59371236235a00b379319670d3a5285b6906ffd87f70c920f435"), looks := false }, kinds := [], alts := [], laidByText := true, laidKinds := [.data, .data, .data], laidTests := true, laidLooks := .later }
def NumberPrintUptoCardSaid : Prop := Claim7.holds Tryd.pinned (.plain (OpenSpec.upto numberPrintSpec)) numberPrintUptoCard

/-- THE SECOND FORM's CARD OF 'canarylaw02.NumberParse'. -/
def numberParseUptoCard : Claim7 := { stood := { row := numberParseUptoRow, standIns := [], harness := (true, "366dae88d5ff59371236235a00b379319670d3a5285b6906ffd87f70c920f435"), looks := false }, kinds := [], alts := [], laidByText := true, laidKinds := [.data, .data, .data], laidTests := true, laidLooks := .later }
def NumberParseUptoCardSaid : Prop := Claim7.holds Tryd.pinned (.plain (OpenSpec.upto numberParseSpec)) numberParseUptoCard

/-- THE SECOND FORM's CARD OF 'canarylaw02.NumberLimit'. -/
def numberLimitUptoCard : Claim7 := { stood := { row := numberLimitUptoRow, standIns := [], harness := (true, "366dae88d5ff59371236235a00b379319670d3a5285b6906ffd87f70c920f435"), looks := false }, kinds := [], alts := [], laidByText := true, laidKinds := [.data, .data, .data], laidTests := true, laidLooks := .later }
def NumberLimitUptoCardSaid : Prop := Claim7.holds Tryd.pinned (.plain (OpenSpec.upto numberLimitSpec)) numberLimitUptoCard

/-- THE SECOND FORM's CARD OF 'canarylaw02.NumberAdd'. -/
def numberAddUptoCard : Claim7 := { stood := { row := numberAddUptoRow, standIns := [], harness := (true, "366dae88d5ff59371236235a00b379319670d3a5285b6906ffd87f70c920f435"), looks := false }, kinds := [], alts := [], laidByText := true, laidKinds := [.data, .data, .data], laidTests := true, laidLooks := .later }
def NumberAddUptoCardSaid : Prop := Claim7.holds Tryd.pinned (.plain (OpenSpec.upto numberAddSpec)) numberAddUptoCard

/-- THE SECOND FORM's CARD OF 'canarylaw02.NumberAddOrder'. -/
def numberAddOrderUptoCard : Claim7 := { stood := { row := numberAddOrderUptoRow, standIns := [], harness := (true, "366dae88d5ff59371236235a00b379319670d3a5285b6906ffd87f70c920f435"), looks := false }, kinds := [], alts := [], laidByText := true, laidKinds := [.data, .data, .data], laidTests := true, laidLooks := .later }
def NumberAddOrderUptoCardSaid : Prop := Claim7.holds Tryd.pinned (.plain (OpenSpec.upto numberAddOrderSpec)) numberAddOrderUptoCard
end Rows
end Go.Proofs.YtpianlannenagaaDoor
