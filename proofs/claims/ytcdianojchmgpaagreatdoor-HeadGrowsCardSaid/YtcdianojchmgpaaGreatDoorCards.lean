/-
  DERIVED. GIVEN WITH THE SEED: THE CARDS: each row of YtcdianojchmgpaaGreatDoorRows.lean that lists a variable, with what it lists TIED to the program's text (the seventh form; the later family's looks); each row that meets fmt, with fmt's text TOLD by the authors' own Lean function (tested against real Go, not proved from fmt's source: count such statements apart). THE CARD IS WHAT COUNTS. Prove the row's statement (the work); the ties are given (YtcdianojchmgpaaGreatDoorTie.lean); close each card by the builder's one call (the guide's Derived/Test/ToyasCard.lean, 'card_holds'). Laid BY PROGRAM, IN A SANDBOX (cutbox-door.mjs). By AI agents, Wed Nov 11 2026. No macro, syntax, notation, axiom, sorry.
-/
import Derived.Test.YtcdianojchmgpaaGreatDoorRows
import GoSem.ClaimSeven
namespace Go.Proofs.YtcdianojchmgpaaGreatDoor
namespace Rows

/-- THE TIED CARD OF 'canarylaw10.HeadEnd'. -/
def headEndCard : Claim7 := { stood := { row := headEndRow, standIns := [], harness := (true, "0d106af13eef76adcfe08467ef54c3133f607c1323d2f5ead4ef1269eeb1b41f"), looks := false }, kinds := [], alts := [], laidByText := true, laidKinds := [.data, .pinned], laidTests := true, laidLooks := .later }
def HeadEndCardSaid : Prop := Claim7.holds Tryz.pinned (.plain (OpenSpec.ofChange headEndSpec)) headEndCard

/-- THE TIED CARD OF 'canarylaw10.HeadGrows'. -/
def headGrowsCard : Claim7 := { stood := { row := headGrowsRow, standIns := [], harness := (true, "0d106af13eef76adcfe08467ef54c3133f607c1323d2f5ead4ef1269eeb1b41f"), looks := false }, kinds := [], alts := [], laidByText := true, laidKinds := [.data, .pinned], laidTests := true, laidLooks := .later }
def HeadGrowsCardSaid : Prop := Claim7.holds Tryz.pinned (.plain (OpenSpec.ofChange headGrowsSpec)) headGrowsCard

/-- THE TIED CARD OF 'canarylaw10.HeadParse'. -/
def headParseCard : Claim7 := { stood := { row := headParseRow, standIns := [], harness := (true, "0d106af13eef76adcfe08467ef54c3133f607c1323d2f5ead4ef1269eeb1b41f"), looks := false }, kinds := [], alts := [], laidByText := true, laidKinds := [.data, .pinned], laidTests := true, laidLooks := .later }
def HeadParseCardSaid : Prop := Claim7.holds Tryz.pinned (.plain (OpenSpec.ofChange headParseSpec)) headParseCard

/-- THE TIED CARD OF 'canarylaw10.HeadFormat'. -/
def headFormatCard : Claim7 := { stood := { row := headFormatRow, standIns := [], harness := (true, "0d106af13eef76adcfe08467ef54c3133f607c1323d2f5ead4ef1269eeb1b41f"), looks := false }, kinds := [], alts := [], laidByText := true, laidKinds := [.data, .data, .data, .data, .pinned], laidTests := true, laidLooks := .later }
def HeadFormatCardSaid : Prop := Claim7.holds Tryz.pinned (.plain (OpenSpec.ofChange headFormatSpec)) headFormatCard

/-- THE TIED CARD OF 'canarylaw10.HeadTwice'. -/
def headTwiceCard : Claim7 := { stood := { row := headTwiceRow, standIns := [], harness := (true, "0d106af13eef76adcfe08467ef54c3133f607c1323d2f5ead4ef1269eeb1b41f"), looks := false }, kinds := [], alts := [], laidByText := true, laidKinds := [.data, .data, .data, .data, .pinned], laidTests := true, laidLooks := .later }
def HeadTwiceCardSaid : Prop := Claim7.holds Tryz.pinned (.plain (OpenSpec.ofChange headTwiceSpec)) headTwiceCard

/-- THE SECOND FORM's CARD OF 'canarylaw10.HeadEnd'. -/
def headEndUptoCard : Claim7 := { stood := { row := headEndUptoRow, standIns := [], harness := (true, "0d106af13eef76adcfe08467ef54c3133f607c1323d2f5ead4ef1269eeb1b41f"), looks := false }, kinds := [], alts := [], laidByText := true, laidKinds := [.data, .pinned], laidTests := true, laidLooks := .later }
def HeadEndUptoCardSaid : Prop := Claim7.holds Tryz.pinned (.plain (OpenSpec.upto headEndSpec)) headEndUptoCard

/-- THE SECOND FORM's CARD OF 'canarylaw10.HeadGrows'. -/
def headGrowsUptoCard : Claim7 := { stood := { row := headGrowsUptoRow, standIns := [], harness := (true, "0d106af13eef76adcfe08467ef54c3133f607c1323d2f5ead4ef1269eeb1b41f"), looks := false }, kinds := [], alts := [], laidByText := true, laidKinds := [.data, .pinned], laidTests := true, laidLooks := .later }
def HeadGrowsUptoCardSaid : Prop := Claim7.holds Tryz.pinned (.plain (OpenSpec.upto headGrowsSpec)) headGrowsUptoCard

/-- THE SECOND FORM's CARD OF 'canarylaw10.HeadParse'. -/
def headParseUptoCard : Claim7 := { stood := { row := headParseUptoRow, standIns := [], harness := (true, "0d106af13eef76adcfe08467ef54c3133f607c1323d2f5ead4ef1269eeb1b41f"), looks := false }, kinds := [], alts := [], laidByText := true, laidKinds := [.data, .pinned], laidTests := true, laidLooks := .later }
def HeadParseUptoCardSaid : Prop := Claim7.holds Tryz.pinned (.plain (OpenSpec.upto headParseSpec)) headParseUptoCard

/-- THE SECOND FORM's CARD OF 'canarylaw10.HeadFormat'. -/
def headFormatUptoCard : Claim7 := { stood := { row := headFormatUptoRow, standIns := [], harness := (true, "0d106af13eef76adcfe08467ef54c3133f607c1323d2f5ead4ef1269eeb1b41f"), looks := false }, kinds := [], alts := [], laidByText := true, laidKinds := [.data, .data, .data, .data, .pinned], laidTests := true, laidLooks := .later }
def HeadFormatUptoCardSaid : Prop := Claim7.holds Tryz.pinned (.plain (OpenSpec.upto headFormatSpec)) headFormatUptoCard

/-- THE SECOND FORM's CARD OF 'canarylaw10.HeadTwice'. -/
def headTwiceUptoCard : Claim7 := { stood := { row := headTwiceUptoRow, standIns := [], harness := (true, "0d106af13eef76adcfe08467ef54c3133f607c1323d2f5ead4ef1269eeb1b41f"), looks := false }, kinds := [], alts := [], laidByText := true, laidKinds := [.data, .data, .data, .data, .pinned], laidTests := true, laidLooks := .later }
def HeadTwiceUptoCardSaid : Prop := Claim7.holds Tryz.pinned (.plain (OpenSpec.upto headTwiceSpec)) headTwiceUptoCard
end Rows
end Go.Proofs.YtcdianojchmgpaaGreatDoor
