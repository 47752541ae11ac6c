/-
  DERIVED. GIVEN WITH THE SEED: THE CARDS: each row of YtbplpfcgmmflnaaDoorRows.lean that lists a variable, with what it lists TIED to the program's text (the seventh form; the later family's looks); each row that meets fmt, with fmt's text TOLD by the authors' own Lean function (tested against real Go, not proved from fmt's source: count such statements apart). THE CARD IS WHAT COUNTS. Prove the row's statement (the work); the ties are given (YtbplpfcgmmflnaaDoorTie.lean); close each card by the builder's one call (the guide's Derived/Test/ToyasCard.lean, 'card_holds'). Laid BY PROGRAM, IN A SANDBOX (cutbox-door.mjs). By AI agents, Wed Nov 11 2026. No macro, syntax, notation, axiom, sorry.
-/
import Derived.Test.YtbplpfcgmmflnaaDoorRows
import GoSem.ClaimSeven
namespace Go.Proofs.YtbplpfcgmmflnaaDoor
namespace Rows

/-- THE TIED CARD OF 'canarylaw09.ChunkedFeed'. -/
def chunkedFeedCard : Claim7 := { stood := { row := chunkedFeedRow, standIns := [], harness := (true, "4309b2a5d6bd095ab62fe03b7dd68b26f83cb3c9d1d4c1bd74aa81aa3e2dde87"), looks := false }, kinds := [], alts := [], laidByText := true, laidKinds := [.data, .data, .data, .data, .pinned], laidTests := true, laidLooks := .later }
def ChunkedFeedCardSaid : Prop := Claim7.holds Tryd.pinned (.plain (OpenSpec.ofChange chunkedFeedSpec)) chunkedFeedCard

/-- THE TIED CARD OF 'canarylaw09.ChunkedPieces'. -/
def chunkedPiecesCard : Claim7 := { stood := { row := chunkedPiecesRow, standIns := [], harness := (true, "4309b2a5d6bd095ab62fe03b7dd68b26f83cb3c9d1d4c1bd74aa81aa3e2dde87"), looks := false }, kinds := [], alts := [], laidByText := true, laidKinds := [.data, .data, .data, .data, .pinned], laidTests := true, laidLooks := .later }
def ChunkedPiecesCardSaid : Prop := Claim7.holds Tryd.pinned (.plain (OpenSpec.ofChange chunkedPiecesSpec)) chunkedPiecesCard

/-- THE TIED CARD OF 'canarylaw09.ChunkedDecode'. -/
def chunkedDecodeCard : Claim7 := { stood := { row := chunkedDecodeRow, standIns := [], harness := (true, "4309b2a5d6bd095ab62fe03b7dd68b26f83cb3c9d1d4c1bd74aa81aa3e2dde87"), looks := false }, kinds := [], alts := [], laidByText := true, laidKinds := [.data, .data, .data, .data, .pinned], laidTests := true, laidLooks := .later }
def ChunkedDecodeCardSaid : Prop := Claim7.holds Tryd.pinned (.plain (OpenSpec.ofChange chunkedDecodeSpec)) chunkedDecodeCard

/-- THE TIED CARD OF 'canarylaw09.ChunkedEncode'. -/
def chunkedEncodeCard : Claim7 := { stood := { row := chunkedEncodeRow, standIns := [], harness := (true, "4309b2a5d6bd095ab62fe03b7dd68b26f83cb3c9d1d4c1bd74aa81aa3e2dde87"), looks := false }, kinds := [], alts := [], laidByText := true, laidKinds := [.data, .data, .data, .data, .pinned], laidTests := true, laidLooks := .later }
def ChunkedEncodeCardSaid : Prop := Claim7.holds Tryd.pinned (.plain (OpenSpec.ofChange chunkedEncodeSpec)) chunkedEncodeCard

/-- THE TIED CARD OF 'canarylaw09.ChunkedTorn'. -/
def chunkedTornCard : Claim7 := { stood := { row := chunkedTornRow, standIns := [], harness := (true, "4309b2a5d6bd095ab62fe03b7dd68b26f83cb3c9d1d4c1bd74aa81aa3e2dde87"), looks := false }, kinds := [], alts := [], laidByText := true, laidKinds := [.data, .data, .data, .data, .pinned], laidTests := true, laidLooks := .later }
def ChunkedTornCardSaid : Prop := Claim7.holds Tryd.pinned (.plain (OpenSpec.ofChange chunkedTornSpec)) chunkedTornCard

/-- THE TIED CARD OF 'canarylaw09.ChunkedLimits'. -/
def chunkedLimitsCard : Claim7 := { stood := { row := chunkedLimitsRow, standIns := [], harness := (true, "4309b2a5d6bd095ab62fe03b7dd68b26f83cb3c9d1d4c1bd74aa81aa3e2dde87"), looks := false }, kinds := [], alts := [], laidByText := true, laidKinds := [.data, .data, .data, .data, .pinned], laidTests := true, laidLooks := .later }
def ChunkedLimitsCardSaid : Prop := Claim7.holds Tryd.pinned (.plain (OpenSpec.ofChange chunkedLimitsSpec)) chunkedLimitsCard

/-- THE SECOND FORM's CARD OF 'canarylaw09.ChunkedFeed'. -/
def chunkedFeedUptoCard : Claim7 := { stood := { row := chunkedFeedUptoRow, standIns := [], harness := (true, "4309b2a5d6bd095ab62fe03b7dd68b26f83cb3c9d1d4c1bd74aa81aa3e2dde87"), looks := false }, kinds := [], alts := [], laidByText := true, laidKinds := [.data, .data, .data, .data, .pinned], laidTests := true, laidLooks := .later }
def ChunkedFeedUptoCardSaid : Prop := Claim7.holds Tryd.pinned (.plain (OpenSpec.upto chunkedFeedSpec)) chunkedFeedUptoCard

/-- THE SECOND FORM's CARD OF 'canarylaw09.ChunkedPieces'. -/
def chunkedPiecesUptoCard : Claim7 := { stood := { row := chunkedPiecesUptoRow, standIns := [], harness := (true, "4309b2a5d6bd095ab62fe03b7dd68b26f83cb3c9d1d4c1bd74aa81aa3e2dde87"), looks := false }, kinds := [], alts := [], laidByText := true, laidKinds := [.data, .data, .data, .data, .pinned], laidTests := true, laidLooks := .later }
def ChunkedPiecesUptoCardSaid : Prop := Claim7.holds Tryd.pinned (.plain (OpenSpec.upto chunkedPiecesSpec)) chunkedPiecesUptoCard

/-- THE SECOND FORM's CARD OF 'canarylaw09.ChunkedDecode'. -/
def chunkedDecodeUptoCard : Claim7 := { stood := { row := chunkedDecodeUptoRow, standIns := [], harness := (true, "4309b2a5d6bd095ab62fe03b7dd68b26f83cb3c9d1d4c1bd74aa81aa3e2dde87"), looks := false }, kinds := [], alts := [], laidByText := true, laidKinds := [.data, .data, .data, .data, .pinned], laidTests := true, laidLooks := .later }
def ChunkedDecodeUptoCardSaid : Prop := Claim7.holds Tryd.pinned (.plain (OpenSpec.upto chunkedDecodeSpec)) chunkedDecodeUptoCard

/-- THE SECOND FORM's CARD OF 'canarylaw09.ChunkedEncode'. -/
def chunkedEncodeUptoCard : Claim7 := { stood := { row := chunkedEncodeUptoRow, standIns := [], harness := (true, "4309b2a5d6bd095ab62fe03b7dd68b26f83cb3c9d1d4c1bd74aa81aa3e2dde87"), looks := false }, kinds := [], alts := [], laidByText := true, laidKinds := [.data, .data, .data, .data, .pinned], laidTests := true, laidLooks := .later }
def ChunkedEncodeUptoCardSaid : Prop := Claim7.holds Tryd.pinned (.plain (OpenSpec.upto chunkedEncodeSpec)) chunkedEncodeUptoCard

/-- THE SECOND FORM's CARD OF 'canarylaw09.ChunkedTorn'. -/
def chunkedTornUptoCard : Claim7 := { stood := { row := chunkedTornUptoRow, standIns := [], harness := (true, "4309b2a5d6bd095ab62fe03b7dd68b26f83cb3c9d1d4c1bd74aa81aa3e2dde87"), looks := false }, kinds := [], alts := [], laidByText := true, laidKinds := [.data, .data, .data, .data, .pinned], laidTests := true, laidLooks := .later }
def ChunkedTornUptoCardSaid : Prop := Claim7.holds Tryd.pinned (.plain (OpenSpec.upto chunkedTornSpec)) chunkedTornUptoCard

/-- THE SECOND FORM's CARD OF 'canarylaw09.ChunkedLimits'. -/
def chunkedLimitsUptoCard : Claim7 := { stood := { row := chunkedLimitsUptoRow, standIns := [], harness := (true, "4309b2a5d6bd095ab62fe03b7dd68b26f83cb3c9d1d4c1bd74aa81aa3e2dde87"), looks := false }, kinds := [], alts := [], laidByText := true, laidKinds := [.data, .data, .data, .data, .pinned], laidTests := true, laidLooks := .later }
def ChunkedLimitsUptoCardSaid : Prop := Claim7.holds Tryd.pinned (.plain (OpenSpec.upto chunkedLimitsSpec)) chunkedLimitsUptoCard
end Rows
end Go.Proofs.YtbplpfcgmmflnaaDoor
