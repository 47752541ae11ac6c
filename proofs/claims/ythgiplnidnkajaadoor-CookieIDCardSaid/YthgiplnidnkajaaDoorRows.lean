/-
  NARROWER THAN 'FOR EVERY INPUT', by the rows' own cells (each row's printed sentence says how): CookiePairs: laid · CookieID: laid · CookieFound: laid · CookieFirst: laid.
  DERIVED. THE GIVEN ROWS OF THIS SEAT. 4 by the template 'for every input the law returns true; each argument reads behind the call as it read before'; 0 by the template 'total and deterministic' (their statements: YthgiplnidnkajaaDoorTotals.lean).
  GIVEN WITH THE SEED: the statements are not yours to turn. If you find one false, say at which input.
  Laid BY PROGRAM, IN A SANDBOX (cutbox-rows.mjs): the forced cells as the released guide's own fill.sh prints them over the translation 57ccaad54713c6e8… (all of the seat's roots in one cut). By AI agents, Wed Nov 11 2026. No macro, syntax, notation, axiom, sorry.
-/
import Derived.Test.YthgiplnidnkajaaDoorChecked
import GoSem.PinnedTables
import GoSem.Claim
import GoSem.ClaimJoined
import GoSem.ClaimMapViews
import Derived.JoinedTies
import Derived.KernelRfl
namespace Go.Proofs.YthgiplnidnkajaaDoor
/- THE CELL 'sum', in the pinned program and in every row, IS THE sha256 OF THE DUMP (.gsa) THAT YthgiplnidnkajaaDoorProg.lean LOADS. Nothing in Lean hashes anything: it is a label: what it is worth is what the hold of that sum in a sandbox is worth. -/
noncomputable def Tryd.pinned : Pinned := { name := "ythgiplnidnkajaadoor", sum := "57ccaad54713c6e860cb8eb59b2a931a2172344b78378b2dfcb8b2c89c2792e4", checked := Tryd.checked }
namespace Rows
def none {H : Type} : Left H := { results := [], args := [] }

/- WHAT THE LISTED PACKAGE-LEVEL VARIABLES READ AS WHEN THE CALL BEGINS. Each datum BY PROGRAM (the guide's laid-datum.mjs) off the statement by which the dump's own 'gosem.cut.vars' lays the variable. In a bare row this is a premise. The card (YthgiplnidnkajaaDoorCards.lean) ties it to the program's text. -/
def laid_unicode_utf8_acceptRanges {H : Type} : DataW H := .agg [.agg [.lit (.int .u8 128), .lit (.int .u8 191)], .agg [.lit (.int .u8 160), .lit (.int .u8 191)], .agg [.lit (.int .u8 128), .lit (.int .u8 159)], .agg [.lit (.int .u8 144), .lit (.int .u8 191)], .agg [.lit (.int .u8 128), .lit (.int .u8 143)], .agg [.lit (.int .u8 0), .lit (.int .u8 0)], .agg [.lit (.int .u8 0), .lit (.int .u8 0)], .agg [.lit (.int .u8 0), .lit (.int .u8 0)], .agg [.lit (.int .u8 0), .lit (.int .u8 0)], .agg [.lit (.int .u8 0), .lit (.int .u8 0)], .agg [.lit (.int .u8 0), .lit (.int .u8 0)], .agg [.lit (.int .u8 0), .lit (.int .u8 0)], .agg [.lit (.int .u8 0), .lit (.int .u8 0)], .agg [.lit (.int .u8 0), .lit (.int .u8 0)], .agg [.lit (.int .u8 0), .lit (.int .u8 0)], .agg [.lit (.int .u8 0), .lit (.int .u8 0)]]
/-- One of Go's own tables, pinned by name: the form's constant. -/
def laid_unicode_utf8_first : DataW Unit := Go.Pinned.utf8First

/-- 'canarylaw14.CookiePairs': WHATEVER THE INPUT: true; the input reads as it did. -/
def cookiePairsSpec : ChangeSpec := { name := "cookiePairs", fn := fun _ => fun
  | [d1, d2, d3, d4] => { results := [.lit (.bool true)], args := [d1, d2, d3, d4] }
  | _ => none }
def cookiePairsRow : OpenClaim := { program := "ythgiplnidnkajaadoor", sum := "57ccaad54713c6e860cb8eb59b2a931a2172344b78378b2dfcb8b2c89c2792e4", func := "canary/canarylaw14.CookiePairs", spec := "cookiePairs", inPlace := ["internal/bytealg.CountString", "internal/bytealg.IndexByteString", "internal/bytealg.IndexString"], unfollowed := true, recurses := true, named := ["unicode/utf8.first", "unicode/utf8.acceptRanges", "internal/bytealg.MaxLen"], apart := false, laid := [("unicode/utf8.acceptRanges", laid_unicode_utf8_acceptRanges), ("unicode/utf8.first", laid_unicode_utf8_first)] }
def CookiePairsSaid : Prop := cookiePairsRow.holds Tryd.pinned (OpenSpec.ofChange cookiePairsSpec)

/-- ITS FALSE NEIGHBOUR: 'it returns false'. Refute it at one input. -/
def cookiePairsWrong : ChangeSpec := { name := "cookiePairs", fn := fun _ => fun
  | [d1, d2, d3, d4] => { results := [.lit (.bool false)], args := [d1, d2, d3, d4] }
  | _ => none }
def CookiePairsWrongFalsely : Prop := cookiePairsRow.holds Tryd.pinned (OpenSpec.ofChange cookiePairsWrong)

/-- 'canarylaw14.CookieID': WHATEVER THE INPUT: true; the input reads as it did. -/
def cookieIDSpec : ChangeSpec := { name := "cookieID", fn := fun _ => fun
  | [d1, d2, d3, d4] => { results := [.lit (.bool true)], args := [d1, d2, d3, d4] }
  | _ => none }
def cookieIDRow : OpenClaim := { program := "ythgiplnidnkajaadoor", sum := "57ccaad54713c6e860cb8eb59b2a931a2172344b78378b2dfcb8b2c89c2792e4", func := "canary/canarylaw14.CookieID", spec := "cookieID", inPlace := ["internal/bytealg.IndexByteString", "internal/bytealg.CountString", "internal/bytealg.IndexString"], named := ["unicode/utf8.first", "unicode/utf8.acceptRanges", "internal/bytealg.MaxLen"], apart := false, laid := [("unicode/utf8.acceptRanges", laid_unicode_utf8_acceptRanges), ("unicode/utf8.first", laid_unicode_utf8_first)] }
def CookieIDSaid : Prop := cookieIDRow.holds Tryd.pinned (OpenSpec.ofChange cookieIDSpec)

/-- ITS FALSE NEIGHBOUR: 'it returns false'. Refute it at one input. -/
def cookieIDWrong : ChangeSpec := { name := "cookieID", fn := fun _ => fun
  | [d1, d2, d3, d4] => { results := [.lit (.bool false)], args := [d1, d2, d3, d4] }
  | _ => none }
def CookieIDWrongFalsely : Prop := cookieIDRow.holds Tryd.pinned (OpenSpec.ofChange cookieIDWrong)

/-- 'canarylaw14.CookieFound': WHATEVER THE INPUT: true; the input reads as it did. -/
def cookieFoundSpec : ChangeSpec := { name := "cookieFound", fn := fun _ => fun
  | [d1, d2, d3, d4] => { results := [.lit (.bool true)], args := [d1, d2, d3, d4] }
  | _ => none }
def cookieFoundRow : OpenClaim := { program := "ythgiplnidnkajaadoor", sum := "57ccaad54713c6e860cb8eb59b2a931a2172344b78378b2dfcb8b2c89c2792e4", func := "canary/canarylaw14.CookieFound", spec := "cookieFound", inPlace := ["internal/bytealg.CountString", "internal/bytealg.IndexByteString", "internal/bytealg.IndexString"], unfollowed := true, recurses := true, named := ["unicode/utf8.first", "unicode/utf8.acceptRanges", "internal/bytealg.MaxLen"], apart := false, laid := [("unicode/utf8.acceptRanges", laid_unicode_utf8_acceptRanges), ("unicode/utf8.first", laid_unicode_utf8_first)] }
def CookieFoundSaid : Prop := cookieFoundRow.holds Tryd.pinned (OpenSpec.ofChange cookieFoundSpec)

/-- ITS FALSE NEIGHBOUR: 'it returns false'. Refute it at one input. -/
def cookieFoundWrong : ChangeSpec := { name := "cookieFound", fn := fun _ => fun
  | [d1, d2, d3, d4] => { results := [.lit (.bool false)], args := [d1, d2, d3, d4] }
  | _ => none }
def CookieFoundWrongFalsely : Prop := cookieFoundRow.holds Tryd.pinned (OpenSpec.ofChange cookieFoundWrong)

/-- 'canarylaw14.CookieFirst': WHATEVER THE INPUT: true; the input reads as it did. -/
def cookieFirstSpec : ChangeSpec := { name := "cookieFirst", fn := fun _ => fun
  | [d1, d2] => { results := [.lit (.bool true)], args := [d1, d2] }
  | _ => none }
def cookieFirstRow : OpenClaim := { program := "ythgiplnidnkajaadoor", sum := "57ccaad54713c6e860cb8eb59b2a931a2172344b78378b2dfcb8b2c89c2792e4", func := "canary/canarylaw14.CookieFirst", spec := "cookieFirst", inPlace := ["internal/bytealg.CountString", "internal/bytealg.IndexByteString", "internal/bytealg.IndexString"], unfollowed := true, recurses := true, named := ["unicode/utf8.first", "unicode/utf8.acceptRanges", "internal/bytealg.MaxLen"], apart := false, laid := [("unicode/utf8.acceptRanges", laid_unicode_utf8_acceptRanges), ("unicode/utf8.first", laid_unicode_utf8_first)] }
def CookieFirstSaid : Prop := cookieFirstRow.holds Tryd.pinned (OpenSpec.ofChange cookieFirstSpec)

/-- ITS FALSE NEIGHBOUR: 'it returns false'. Refute it at one input. -/
def cookieFirstWrong : ChangeSpec := { name := "cookieFirst", fn := fun _ => fun
  | [d1, d2] => { results := [.lit (.bool false)], args := [d1, d2] }
  | _ => none }
def CookieFirstWrongFalsely : Prop := cookieFirstRow.holds Tryd.pinned (OpenSpec.ofChange cookieFirstWrong)

/- THE SECOND FORM. 'bulk': how many values and letters a reading holds, each counted each time it is reached (what is shared counts as often as it is met; a slice's spare places count too). A statement '..UptoSaid' is the law's where the arguments, and the package variables that the reading takes, are together of bulk at most 1048576: NARROWER than '..Said'. Prove '..Said' where nothing that the law and all that it calls make is longer than what came in: it says more and counts as full. Else prove '..UptoSaid'. A law counts once. -/
mutual
def uptoBulk {H : Type} : DataW H → Nat
  | .lit (.string bytes) => bytes.length + 1
  | .lit _ => 1
  | .nil => 1
  | .ptr d => uptoBulk d + 1
  | .slice elems spare => uptoBulkAll elems + uptoBulkAll spare + 1
  | .agg parts => uptoBulkAll parts + 1
  | .iface _ d => uptoBulk d + 1
  | .map entries => uptoBulkEntries entries + 1
  | .held _ => 1
def uptoBulkAll {H : Type} : List (DataW H) → Nat
  | [] => 0
  | d :: r => uptoBulk d + uptoBulkAll r
def uptoBulkEntries {H : Type} : List (Lit × DataW H) → Nat
  | [] => 0
  | x :: r => uptoBulkEntry x + uptoBulkEntries r
def uptoBulkEntry {H : Type} : Lit × DataW H → Nat
  | (.string bytes, d) => bytes.length + uptoBulk d + 1
  | (_, d) => uptoBulk d + 1
 end
def uptoSmall : (H : Type) → List (DataW H) → Bool := fun _ ds => decide (uptoBulkAll ds ≤ 1048576)
def OpenSpec.upto (s : _root_.Go.ChangeSpec) : _root_.Go.OpenSpec := { _root_.Go.OpenSpec.ofChange s with cond := some uptoSmall }

/-- 'canarylaw14.CookiePairs', WHERE WHAT IT READS IS OF BULK AT MOST 1048576: true; the input reads as it did. -/
def cookiePairsUptoRow : OpenClaim := { program := "ythgiplnidnkajaadoor", sum := "57ccaad54713c6e860cb8eb59b2a931a2172344b78378b2dfcb8b2c89c2792e4", func := "canary/canarylaw14.CookiePairs", spec := "cookiePairs", inPlace := ["internal/bytealg.CountString", "internal/bytealg.IndexByteString", "internal/bytealg.IndexString"], unfollowed := true, recurses := true, named := ["unicode/utf8.first", "unicode/utf8.acceptRanges", "internal/bytealg.MaxLen"], apart := false, laid := [("unicode/utf8.acceptRanges", laid_unicode_utf8_acceptRanges), ("unicode/utf8.first", laid_unicode_utf8_first)], narrowed := true }
def CookiePairsUptoSaid : Prop := cookiePairsUptoRow.holds Tryd.pinned (OpenSpec.upto cookiePairsSpec)

/-- 'canarylaw14.CookieID', WHERE WHAT IT READS IS OF BULK AT MOST 1048576: true; the input reads as it did. -/
def cookieIDUptoRow : OpenClaim := { program := "ythgiplnidnkajaadoor", sum := "57ccaad54713c6e860cb8eb59b2a931a2172344b78378b2dfcb8b2c89c2792e4", func := "canary/canarylaw14.CookieID", spec := "cookieID", inPlace := ["internal/bytealg.IndexByteString", "internal/bytealg.CountString", "internal/bytealg.IndexString"], named := ["unicode/utf8.first", "unicode/utf8.acceptRanges", "internal/bytealg.MaxLen"], apart := false, laid := [("unicode/utf8.acceptRanges", laid_unicode_utf8_acceptRanges), ("unicode/utf8.first", laid_unicode_utf8_first)], narrowed := true }
def CookieIDUptoSaid : Prop := cookieIDUptoRow.holds Tryd.pinned (OpenSpec.upto cookieIDSpec)

/-- 'canarylaw14.CookieFound', WHERE WHAT IT READS IS OF BULK AT MOST 1048576: true; the input reads as it did. -/
def cookieFoundUptoRow : OpenClaim := { program := "ythgiplnidnkajaadoor", sum := "57ccaad54713c6e860cb8eb59b2a931a2172344b78378b2dfcb8b2c89c2792e4", func := "canary/canarylaw14.CookieFound", spec := "cookieFound", inPlace := ["internal/bytealg.CountString", "internal/bytealg.IndexByteString", "internal/bytealg.IndexString"], unfollowed := true, recurses := true, named := ["unicode/utf8.first", "unicode/utf8.acceptRanges", "internal/bytealg.MaxLen"], apart := false, laid := [("unicode/utf8.acceptRanges", laid_unicode_utf8_acceptRanges), ("unicode/utf8.first", laid_unicode_utf8_first)], narrowed := true }
def CookieFoundUptoSaid : Prop := cookieFoundUptoRow.holds Tryd.pinned (OpenSpec.upto cookieFoundSpec)

/-- 'canarylaw14.CookieFirst', WHERE WHAT IT READS IS OF BULK AT MOST 1048576: true; the input reads as it did. -/
def cookieFirstUptoRow : OpenClaim := { program := "ythgiplnidnkajaadoor", sum := "57ccaad54713c6e860cb8eb59b2a931a2172344b78378b2dfcb8b2c89c2792e4", func := "canary/canarylaw14.CookieFirst", spec := "cookieFirst", inPlace := ["internal/bytealg.CountString", "internal/bytealg.IndexByteString", "internal/bytealg.IndexString"], unfollowed := true, recurses := true, named := ["unicode/utf8.first", "unicode/utf8.acceptRanges", "internal/bytealg.MaxLen"], apart := false, laid := [("unicode/utf8.acceptRanges", laid_unicode_utf8_acceptRanges), ("unicode/utf8.first", laid_unicode_utf8_first)], narrowed := true }
def CookieFirstUptoSaid : Prop := cookieFirstUptoRow.holds Tryd.pinned (OpenSpec.upto cookieFirstSpec)

end Rows
end Go.Proofs.YthgiplnidnkajaaDoor
