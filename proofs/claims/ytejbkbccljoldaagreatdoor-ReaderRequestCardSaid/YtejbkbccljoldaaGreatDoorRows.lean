/-
  NARROWER THAN 'FOR EVERY INPUT', by the rows' own cells (each row's printed sentence says how): ReaderNext: laid · ReaderPieces: laid · ReaderRequest: laid · ReaderLimits: laid · ReaderInterim: laid.
  DERIVED. THE GIVEN ROWS OF THIS SEAT. 5 by the template 'for every input the law returns true; each argument reads behind the call as it read before'; 0 by the template 'total and deterministic' (their statements: YtejbkbccljoldaaGreatDoorTotals.lean).
  GIVEN WITH THE SEED: the statements are not yours to turn. If you find one false, say at which input.
  Laid BY PROGRAM, IN A SANDBOX (cutbox-rows.mjs): the forced cells as the released guide's own fill.sh prints them over the translation 9df0b708625ada94… (all of the seat's roots in one cut). By AI agents, Wed Nov 11 2026. No macro, syntax, notation, axiom, sorry.
-/
import Derived.Test.YtejbkbccljoldaaGreatDoorChecked
import GoSem.PinnedTables
import GoSem.Claim
import GoSem.ClaimJoined
import GoSem.ClaimMapViews
import Derived.JoinedTies
import Derived.KernelRfl
namespace Go.Proofs.YtejbkbccljoldaaGreatDoor
/- THE CELL 'sum', in the pinned program and in every row, IS THE sha256 OF THE DUMP (.gsa) THAT YtejbkbccljoldaaGreatDoorProg.lean LOADS. Nothing in Lean hashes anything: it is a label: what it is worth is what the hold of that sum in a sandbox is worth. -/
noncomputable def Tryz.pinned : Pinned := { name := "ytejbkbccljoldaagreatdoor", sum := "9df0b708625ada94c9d9ba0f76563e5a5691dfc9463eb284930aa46abf278d65", checked := Tryz.checked }
namespace Rows
def none {H : Type} : Left H := { results := [], args := [] }

/- WHAT THE LISTED PACKAGE-LEVEL VARIABLES READ AS WHEN THE CALL BEGINS. Each datum BY PROGRAM (the guide's laid-datum.mjs) off the statement by which the dump's own 'gosem.cut.vars' lays the variable. In a bare row this is a premise. The card (YtejbkbccljoldaaGreatDoorCards.lean) ties it to the program's text. -/
def laid_unicode_utf8_acceptRanges {H : Type} : DataW H := .agg [.agg [.lit (.int .u8 128), .lit (.int .u8 191)], .agg [.lit (.int .u8 160), .lit (.int .u8 191)], .agg [.lit (.int .u8 128), .lit (.int .u8 159)], .agg [.lit (.int .u8 144), .lit (.int .u8 191)], .agg [.lit (.int .u8 128), .lit (.int .u8 143)], .agg [.lit (.int .u8 0), .lit (.int .u8 0)], .agg [.lit (.int .u8 0), .lit (.int .u8 0)], .agg [.lit (.int .u8 0), .lit (.int .u8 0)], .agg [.lit (.int .u8 0), .lit (.int .u8 0)], .agg [.lit (.int .u8 0), .lit (.int .u8 0)], .agg [.lit (.int .u8 0), .lit (.int .u8 0)], .agg [.lit (.int .u8 0), .lit (.int .u8 0)], .agg [.lit (.int .u8 0), .lit (.int .u8 0)], .agg [.lit (.int .u8 0), .lit (.int .u8 0)], .agg [.lit (.int .u8 0), .lit (.int .u8 0)], .agg [.lit (.int .u8 0), .lit (.int .u8 0)]]
/-- One of Go's own tables, pinned by name: the form's constant. -/
def laid_unicode_utf8_first : DataW Unit := Go.Pinned.utf8First

/-- 'canarylaw11.ReaderNext': WHATEVER THE INPUT: true; the input reads as it did. -/
def readerNextSpec : ChangeSpec := { name := "readerNext", fn := fun _ => fun
  | [d1, d2, d3, d4, d5, d6, d7, d8, d9, d10, d11] => { results := [.lit (.bool true)], args := [d1, d2, d3, d4, d5, d6, d7, d8, d9, d10, d11] }
  | _ => none }
def readerNextRow : OpenClaim := { program := "ytejbkbccljoldaagreatdoor", sum := "9df0b708625ada94c9d9ba0f76563e5a5691dfc9463eb284930aa46abf278d65", func := "canary/canarylaw11.ReaderNext", spec := "readerNext", inPlace := ["internal/bytealg.IndexByte", "internal/bytealg.Index", "internal/bytealg.CountString", "internal/bytealg.IndexByteString", "internal/bytealg.IndexString"], unfollowed := true, recurses := true, named := ["internal/bytealg.MaxLen", "unicode/utf8.first", "unicode/utf8.acceptRanges"], apart := false, laid := [("unicode/utf8.acceptRanges", laid_unicode_utf8_acceptRanges), ("unicode/utf8.first", laid_unicode_utf8_first)] }
def ReaderNextSaid : Prop := readerNextRow.holds Tryz.pinned (OpenSpec.ofChange readerNextSpec)

/-- ITS FALSE NEIGHBOUR: 'it returns false'. Refute it at one input. -/
def readerNextWrong : ChangeSpec := { name := "readerNext", fn := fun _ => fun
  | [d1, d2, d3, d4, d5, d6, d7, d8, d9, d10, d11] => { results := [.lit (.bool false)], args := [d1, d2, d3, d4, d5, d6, d7, d8, d9, d10, d11] }
  | _ => none }
def ReaderNextWrongFalsely : Prop := readerNextRow.holds Tryz.pinned (OpenSpec.ofChange readerNextWrong)

/-- 'canarylaw11.ReaderPieces': WHATEVER THE INPUT: true; the input reads as it did. -/
def readerPiecesSpec : ChangeSpec := { name := "readerPieces", fn := fun _ => fun
  | [d1, d2, d3, d4, d5, d6] => { results := [.lit (.bool true)], args := [d1, d2, d3, d4, d5, d6] }
  | _ => none }
def readerPiecesRow : OpenClaim := { program := "ytejbkbccljoldaagreatdoor", sum := "9df0b708625ada94c9d9ba0f76563e5a5691dfc9463eb284930aa46abf278d65", func := "canary/canarylaw11.ReaderPieces", spec := "readerPieces", inPlace := ["internal/bytealg.IndexByte", "internal/bytealg.Index", "internal/bytealg.CountString", "internal/bytealg.IndexByteString", "internal/bytealg.IndexString"], unfollowed := true, recurses := true, named := ["internal/bytealg.MaxLen", "unicode/utf8.first", "unicode/utf8.acceptRanges"], apart := false, laid := [("unicode/utf8.acceptRanges", laid_unicode_utf8_acceptRanges), ("unicode/utf8.first", laid_unicode_utf8_first)] }
def ReaderPiecesSaid : Prop := readerPiecesRow.holds Tryz.pinned (OpenSpec.ofChange readerPiecesSpec)

/-- ITS FALSE NEIGHBOUR: 'it returns false'. Refute it at one input. -/
def readerPiecesWrong : ChangeSpec := { name := "readerPieces", fn := fun _ => fun
  | [d1, d2, d3, d4, d5, d6] => { results := [.lit (.bool false)], args := [d1, d2, d3, d4, d5, d6] }
  | _ => none }
def ReaderPiecesWrongFalsely : Prop := readerPiecesRow.holds Tryz.pinned (OpenSpec.ofChange readerPiecesWrong)

/-- 'canarylaw11.ReaderRequest': WHATEVER THE INPUT: true; the input reads as it did. -/
def readerRequestSpec : ChangeSpec := { name := "readerRequest", fn := fun _ => fun
  | [d1, d2, d3] => { results := [.lit (.bool true)], args := [d1, d2, d3] }
  | _ => none }
def readerRequestRow : OpenClaim := { program := "ytejbkbccljoldaagreatdoor", sum := "9df0b708625ada94c9d9ba0f76563e5a5691dfc9463eb284930aa46abf278d65", func := "canary/canarylaw11.ReaderRequest", spec := "readerRequest", inPlace := ["internal/bytealg.IndexByte", "internal/bytealg.Index", "internal/bytealg.CountString", "internal/bytealg.IndexByteString", "internal/bytealg.IndexString"], unfollowed := true, recurses := true, named := ["internal/bytealg.MaxLen", "unicode/utf8.first", "unicode/utf8.acceptRanges"], apart := false, laid := [("unicode/utf8.acceptRanges", laid_unicode_utf8_acceptRanges), ("unicode/utf8.first", laid_unicode_utf8_first)] }
def ReaderRequestSaid : Prop := readerRequestRow.holds Tryz.pinned (OpenSpec.ofChange readerRequestSpec)

/-- ITS FALSE NEIGHBOUR: 'it returns false'. Refute it at one input. -/
def readerRequestWrong : ChangeSpec := { name := "readerRequest", fn := fun _ => fun
  | [d1, d2, d3] => { results := [.lit (.bool false)], args := [d1, d2, d3] }
  | _ => none }
def ReaderRequestWrongFalsely : Prop := readerRequestRow.holds Tryz.pinned (OpenSpec.ofChange readerRequestWrong)

/-- 'canarylaw11.ReaderLimits': WHATEVER THE INPUT: true; the input reads as it did. -/
def readerLimitsSpec : ChangeSpec := { name := "readerLimits", fn := fun _ => fun
  | [d1, d2, d3] => { results := [.lit (.bool true)], args := [d1, d2, d3] }
  | _ => none }
def readerLimitsRow : OpenClaim := { program := "ytejbkbccljoldaagreatdoor", sum := "9df0b708625ada94c9d9ba0f76563e5a5691dfc9463eb284930aa46abf278d65", func := "canary/canarylaw11.ReaderLimits", spec := "readerLimits", inPlace := ["internal/bytealg.IndexByte", "internal/bytealg.Index", "internal/bytealg.CountString", "internal/bytealg.IndexByteString", "internal/bytealg.IndexString"], unfollowed := true, recurses := true, named := ["internal/bytealg.MaxLen", "unicode/utf8.first", "unicode/utf8.acceptRanges"], apart := false, laid := [("unicode/utf8.acceptRanges", laid_unicode_utf8_acceptRanges), ("unicode/utf8.first", laid_unicode_utf8_first)] }
def ReaderLimitsSaid : Prop := readerLimitsRow.holds Tryz.pinned (OpenSpec.ofChange readerLimitsSpec)

/-- ITS FALSE NEIGHBOUR: 'it returns false'. Refute it at one input. -/
def readerLimitsWrong : ChangeSpec := { name := "readerLimits", fn := fun _ => fun
  | [d1, d2, d3] => { results := [.lit (.bool false)], args := [d1, d2, d3] }
  | _ => none }
def ReaderLimitsWrongFalsely : Prop := readerLimitsRow.holds Tryz.pinned (OpenSpec.ofChange readerLimitsWrong)

/-- 'canarylaw11.ReaderInterim': WHATEVER THE INPUT: true; the input reads as it did. -/
def readerInterimSpec : ChangeSpec := { name := "readerInterim", fn := fun _ => fun
  | [d1, d2] => { results := [.lit (.bool true)], args := [d1, d2] }
  | _ => none }
def readerInterimRow : OpenClaim := { program := "ytejbkbccljoldaagreatdoor", sum := "9df0b708625ada94c9d9ba0f76563e5a5691dfc9463eb284930aa46abf278d65", func := "canary/canarylaw11.ReaderInterim", spec := "readerInterim", inPlace := ["internal/bytealg.IndexByte", "internal/bytealg.Index", "internal/bytealg.CountString", "internal/bytealg.IndexByteString", "internal/bytealg.IndexString"], unfollowed := true, recurses := true, named := ["internal/bytealg.MaxLen", "unicode/utf8.first", "unicode/utf8.acceptRanges"], apart := false, laid := [("unicode/utf8.acceptRanges", laid_unicode_utf8_acceptRanges), ("unicode/utf8.first", laid_unicode_utf8_first)] }
def ReaderInterimSaid : Prop := readerInterimRow.holds Tryz.pinned (OpenSpec.ofChange readerInterimSpec)

/-- ITS FALSE NEIGHBOUR: 'it returns false'. Refute it at one input. -/
def readerInterimWrong : ChangeSpec := { name := "readerInterim", fn := fun _ => fun
  | [d1, d2] => { results := [.lit (.bool false)], args := [d1, d2] }
  | _ => none }
def ReaderInterimWrongFalsely : Prop := readerInterimRow.holds Tryz.pinned (OpenSpec.ofChange readerInterimWrong)

/- THE SECOND FORM. 'bulk': how many values and letters a reading holds, each counted each time it is reached (what is shared counts as often as it is met; a slice's spare places count too). A statement '..UptoSaid' is the law's where the arguments, and the package variables that the reading takes, are together of bulk at most 1048576: NARROWER than '..Said'. Prove '..Said' where nothing that the law and all that it calls make is longer than what came in: it says more and counts as full. Else prove '..UptoSaid'. A law counts once. -/
mutual
def uptoBulk {H : Type} : DataW H → Nat
  | .lit (.string bytes) => bytes.length + 1
  | .lit _ => 1
  | .nil => 1
  | .ptr d => uptoBulk d + 1
  | .slice elems spare => uptoBulkAll elems + uptoBulkAll spare + 1
  | .agg parts => uptoBulkAll parts + 1
  | .iface _ d => uptoBulk d + 1
  | .map entries => uptoBulkEntries entries + 1
  | .held _ => 1
def uptoBulkAll {H : Type} : List (DataW H) → Nat
  | [] => 0
  | d :: r => uptoBulk d + uptoBulkAll r
def uptoBulkEntries {H : Type} : List (Lit × DataW H) → Nat
  | [] => 0
  | x :: r => uptoBulkEntry x + uptoBulkEntries r
def uptoBulkEntry {H : Type} : Lit × DataW H → Nat
  | (.string bytes, d) => bytes.length + uptoBulk d + 1
  | (_, d) => uptoBulk d + 1
 end
def uptoSmall : (H : Type) → List (DataW H) → Bool := fun _ ds => decide (uptoBulkAll ds ≤ 1048576)
def OpenSpec.upto (s : _root_.Go.ChangeSpec) : _root_.Go.OpenSpec := { _root_.Go.OpenSpec.ofChange s with cond := some uptoSmall }

/-- 'canarylaw11.ReaderNext', WHERE WHAT IT READS IS OF BULK AT MOST 1048576: true; the input reads as it did. -/
def readerNextUptoRow : OpenClaim := { program := "ytejbkbccljoldaagreatdoor", sum := "9df0b708625ada94c9d9ba0f76563e5a5691dfc9463eb284930aa46abf278d65", func := "canary/canarylaw11.ReaderNext", spec := "readerNext", inPlace := ["internal/bytealg.IndexByte", "internal/bytealg.Index", "internal/bytealg.CountString", "internal/bytealg.IndexByteString", "internal/bytealg.IndexString"], unfollowed := true, recurses := true, named := ["internal/bytealg.MaxLen", "unicode/utf8.first", "unicode/utf8.acceptRanges"], apart := false, laid := [("unicode/utf8.acceptRanges", laid_unicode_utf8_acceptRanges), ("unicode/utf8.first", laid_unicode_utf8_first)], narrowed := true }
def ReaderNextUptoSaid : Prop := readerNextUptoRow.holds Tryz.pinned (OpenSpec.upto readerNextSpec)

/-- 'canarylaw11.ReaderPieces', WHERE WHAT IT READS IS OF BULK AT MOST 1048576: true; the input reads as it did. -/
def readerPiecesUptoRow : OpenClaim := { program := "ytejbkbccljoldaagreatdoor", sum := "9df0b708625ada94c9d9ba0f76563e5a5691dfc9463eb284930aa46abf278d65", func := "canary/canarylaw11.ReaderPieces", spec := "readerPieces", inPlace := ["internal/bytealg.IndexByte", "internal/bytealg.Index", "internal/bytealg.CountString", "internal/bytealg.IndexByteString", "internal/bytealg.IndexString"], unfollowed := true, recurses := true, named := ["internal/bytealg.MaxLen", "unicode/utf8.first", "unicode/utf8.acceptRanges"], apart := false, laid := [("unicode/utf8.acceptRanges", laid_unicode_utf8_acceptRanges), ("unicode/utf8.first", laid_unicode_utf8_first)], narrowed := true }
def ReaderPiecesUptoSaid : Prop := readerPiecesUptoRow.holds Tryz.pinned (OpenSpec.upto readerPiecesSpec)

/-- 'canarylaw11.ReaderRequest', WHERE WHAT IT READS IS OF BULK AT MOST 1048576: true; the input reads as it did. -/
def readerRequestUptoRow : OpenClaim := { program := "ytejbkbccljoldaagreatdoor", sum := "9df0b708625ada94c9d9ba0f76563e5a5691dfc9463eb284930aa46abf278d65", func := "canary/canarylaw11.ReaderRequest", spec := "readerRequest", inPlace := ["internal/bytealg.IndexByte", "internal/bytealg.Index", "internal/bytealg.CountString", "internal/bytealg.IndexByteString", "internal/bytealg.IndexString"], unfollowed := true, recurses := true, named := ["internal/bytealg.MaxLen", "unicode/utf8.first", "unicode/utf8.acceptRanges"], apart := false, laid := [("unicode/utf8.acceptRanges", laid_unicode_utf8_acceptRanges), ("unicode/utf8.first", laid_unicode_utf8_first)], narrowed := true }
def ReaderRequestUptoSaid : Prop := readerRequestUptoRow.holds Tryz.pinned (OpenSpec.upto readerRequestSpec)

/-- 'canarylaw11.ReaderLimits', WHERE WHAT IT READS IS OF BULK AT MOST 1048576: true; the input reads as it did. -/
def readerLimitsUptoRow : OpenClaim := { program := "ytejbkbccljoldaagreatdoor", sum := "9df0b708625ada94c9d9ba0f76563e5a5691dfc9463eb284930aa46abf278d65", func := "canary/canarylaw11.ReaderLimits", spec := "readerLimits", inPlace := ["internal/bytealg.IndexByte", "internal/bytealg.Index", "internal/bytealg.CountString", "internal/bytealg.IndexByteString", "internal/bytealg.IndexString"], unfollowed := true, recurses := true, named := ["internal/bytealg.MaxLen", "unicode/utf8.first", "unicode/utf8.acceptRanges"], apart := false, laid := [("unicode/utf8.acceptRanges", laid_unicode_utf8_acceptRanges), ("unicode/utf8.first", laid_unicode_utf8_first)], narrowed := true }
def ReaderLimitsUptoSaid : Prop := readerLimitsUptoRow.holds Tryz.pinned (OpenSpec.upto readerLimitsSpec)

/-- 'canarylaw11.ReaderInterim', WHERE WHAT IT READS IS OF BULK AT MOST 1048576: true; the input reads as it did. -/
def readerInterimUptoRow : OpenClaim := { program := "ytejbkbccljoldaagreatdoor", sum := "9df0b708625ada94c9d9ba0f76563e5a5691dfc9463eb284930aa46abf278d65", func := "canary/canarylaw11.ReaderInterim", spec := "readerInterim", inPlace := ["internal/bytealg.IndexByte", "internal/bytealg.Index", "internal/bytealg.CountString", "internal/bytealg.IndexByteString", "internal/bytealg.IndexString"], unfollowed := true, recurses := true, named := ["internal/bytealg.MaxLen", "unicode/utf8.first", "unicode/utf8.acceptRanges"], apart := false, laid := [("unicode/utf8.acceptRanges", laid_unicode_utf8_acceptRanges), ("unicode/utf8.first", laid_unicode_utf8_first)], narrowed := true }
def ReaderInterimUptoSaid : Prop := readerInterimUptoRow.holds Tryz.pinned (OpenSpec.upto readerInterimSpec)

end Rows
end Go.Proofs.YtejbkbccljoldaaGreatDoor
