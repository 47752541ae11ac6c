/-
  DERIVED. GIVEN WITH THE SEED: THE CARDS: each row of YtkbnkiflabncjaaDoorRows.lean that lists a variable, with what it lists TIED to the program's text (the seventh form; the later family's looks); each row that meets fmt, with fmt's text TOLD by the authors' own Lean function (tested against real Go, not proved from fmt's source: count such statements apart). THE CARD IS WHAT COUNTS. Prove the row's statement (the work); the ties are given (YtkbnkiflabncjaaDoorTie.lean); close each card by the builder's one call (the guide's Derived/Test/ToyasCard.lean, 'card_holds'). Laid BY PROGRAM, IN A SANDBOX (cutbox-door.mjs). By AI agents, Wed Nov 11 2026. No macro, syntax, notation, axiom, sorry.
-/
import Derived.Test.YtkbnkiflabncjaaDoorRows
import GoSem.ClaimSeven
namespace Go.Proofs.YtkbnkiflabncjaaDoor
namespace Rows

/-- THE TIED CARD OF 'canarylaw08.FramingRequest'. -/
def framingRequestCard : Claim7 := { stood := { row := framingRequestRow, standIns := [], harness := (true, "2098b80e197ea4fe169f54e881258793b689c26052510ffb3f6423a614078740"), looks := false }, kinds := [], alts := [], laidByText := true, laidKinds := [.data, .pinned], laidTests := true, laidLooks := .later }
def FramingRequestCardSaid : Prop := Claim7.holds Tryd.pinned (.plain (OpenSpec.ofChange framingRequestSpec)) framingRequestCard

/-- THE TIED CARD OF 'canarylaw08.FramingReply'. -/
def framingReplyCard : Claim7 := { stood := { row := framingReplyRow, standIns := [], harness := (true, "2098b80e197ea4fe169f54e881258793b689c26052510ffb3f6423a614078740"), looks := false }, kinds := [], alts := [], laidByText := true, laidKinds := [.data, .pinned], laidTests := true, laidLooks := .later }
def FramingReplyCardSaid : Prop := Claim7.holds Tryd.pinned (.plain (OpenSpec.ofChange framingReplySpec)) framingReplyCard

/-- THE TIED CARD OF 'canarylaw08.FramingNoSmuggling'. -/
def framingNoSmugglingCard : Claim7 := { stood := { row := framingNoSmugglingRow, standIns := [], harness := (true, "2098b80e197ea4fe169f54e881258793b689c26052510ffb3f6423a614078740"), looks := false }, kinds := [], alts := [], laidByText := true, laidKinds := [.data, .pinned], laidTests := true, laidLooks := .later }
def FramingNoSmugglingCardSaid : Prop := Claim7.holds Tryd.pinned (.plain (OpenSpec.ofChange framingNoSmugglingSpec)) framingNoSmugglingCard

/-- THE TIED CARD OF 'canarylaw08.FramingAlone'. -/
def framingAloneCard : Claim7 := { stood := { row := framingAloneRow, standIns := [], harness := (true, "2098b80e197ea4fe169f54e881258793b689c26052510ffb3f6423a614078740"), looks := false }, kinds := [], alts := [], laidByText := true, laidKinds := [.data, .pinned], laidTests := true, laidLooks := .later }
def FramingAloneCardSaid : Prop := Claim7.holds Tryd.pinned (.plain (OpenSpec.ofChange framingAloneSpec)) framingAloneCard

/-- THE SECOND FORM's CARD OF 'canarylaw08.FramingRequest'. -/
def framingRequestUptoCard : Claim7 := { stood := { row := framingRequestUptoRow, standIns := [], harness := (true, "2098b80e197ea4fe169f54e881258793b689c26052510ffb3f6423a614078740"), looks := false }, kinds := [], alts := [], laidByText := true, laidKinds := [.data, .pinned], laidTests := true, laidLooks := .later }
def FramingRequestUptoCardSaid : Prop := Claim7.holds Tryd.pinned (.plain (OpenSpec.upto framingRequestSpec)) framingRequestUptoCard

/-- THE SECOND FORM's CARD OF 'canarylaw08.FramingReply'. -/
def framingReplyUptoCard : Claim7 := { stood := { row := framingReplyUptoRow, standIns := [], harness := (true, "2098b80e197ea4fe169f54e881258793b689c26052510ffb3f6423a614078740"), looks := false }, kinds := [], alts := [], laidByText := true, laidKinds := [.data, .pinned], laidTests := true, laidLooks := .later }
def FramingReplyUptoCardSaid : Prop := Claim7.holds Tryd.pinned (.plain (OpenSpec.upto framingReplySpec)) framingReplyUptoCard

/-- THE SECOND FORM's CARD OF 'canarylaw08.FramingNoSmuggling'. -/
def framingNoSmugglingUptoCard : Claim7 := { stood := { row := framingNoSmugglingUptoRow, standIns := [], harness := (true, "2098b80e197ea4fe169f54e881258793b689c26052510ffb3f6423a614078740"), looks := false }, kinds := [], alts := [], laidByText := true, laidKinds := [.data, .pinned], laidTests := true, laidLooks := .later }
def FramingNoSmugglingUptoCardSaid : Prop := Claim7.holds Tryd.pinned (.plain (OpenSpec.upto framingNoSmugglingSpec)) framingNoSmugglingUptoCard

/-- THE SECOND FORM's CARD OF 'canarylaw08.FramingAlone'. -/
def framingAloneUptoCard : Claim7 := { stood := { row := framingAloneUptoRow, standIns := [], harness := (true, "2098b80e197ea4fe169f54e881258793b689c26052510ffb3f6423a614078740"), looks := false }, kinds := [], alts := [], laidByText := true, laidKinds := [.data, .pinned], laidTests := true, laidLooks := .later }
def FramingAloneUptoCardSaid : Prop := Claim7.holds Tryd.pinned (.plain (OpenSpec.upto framingAloneSpec)) framingAloneUptoCard
end Rows
end Go.Proofs.YtkbnkiflabncjaaDoor
