/-
  NARROWER THAN 'FOR EVERY INPUT', by the rows' own cells (each row's printed sentence says how): FieldValues: laid · FieldWithout: laid · FieldFormat: laid · FieldParse: laid · FieldLine: laid.
  DERIVED. THE GIVEN ROWS OF THIS SEAT. 5 by the template 'for every input the law returns true; each argument reads behind the call as it read before'; 0 by the template 'total and deterministic' (their statements: YtcniajbfgfikjaaDoorTotals.lean).
  GIVEN WITH THE SEED: the statements are not yours to turn. If you find one false, say at which input.
  Laid BY PROGRAM, IN A SANDBOX (cutbox-rows.mjs): the forced cells as the released guide's own fill.sh prints them over the translation d80044f4dcfe8885… (all of the seat's roots in one cut). By AI agents, Wed Nov 11 2026. No macro, syntax, notation, axiom, sorry.
-/
import Derived.Test.YtcniajbfgfikjaaDoorChecked
import GoSem.PinnedTables
import GoSem.Claim
import GoSem.ClaimJoined
import GoSem.ClaimMapViews
import Derived.JoinedTies
import Derived.KernelRfl
namespace Go.Proofs.YtcniajbfgfikjaaDoor
/- THE CELL 'sum', in the pinned program and in every row, IS THE sha256 OF THE DUMP (.gsa) THAT YtcniajbfgfikjaaDoorProg.lean LOADS. Nothing in Lean hashes anything: it is a label: what it is worth is what the hold of that sum in a sandbox is worth. -/
noncomputable def Tryd.pinned : Pinned := { name := "ytcniajbfgfikjaadoor", sum := "d80044f4dcfe8885d7bb58c4347b775f9da1aa0e5f5954e10cc45899be7dc8c7", checked := Tryd.checked }
namespace Rows
def none {H : Type} : Left H := { results := [], args := [] }

/- WHAT THE LISTED PACKAGE-LEVEL VARIABLES READ AS WHEN THE CALL BEGINS. Each datum BY PROGRAM (the guide's laid-datum.mjs) off the statement by which the dump's own 'gosem.cut.vars' lays the variable. In a bare row this is a premise. The card (YtcniajbfgfikjaaDoorCards.lean) ties it to the program's text. -/
def laid_unicode_utf8_acceptRanges {H : Type} : DataW H := .agg [.agg [.lit (.int .u8 128), .lit (.int .u8 191)], .agg [.lit (.int .u8 160), .lit (.int .u8 191)], .agg [.lit (.int .u8 128), .lit (.int .u8 159)], .agg [.lit (.int .u8 144), .lit (.int .u8 191)], .agg [.lit (.int .u8 128), .lit (.int .u8 143)], .agg [.lit (.int .u8 0), .lit (.int .u8 0)], .agg [.lit (.int .u8 0), .lit (.int .u8 0)], .agg [.lit (.int .u8 0), .lit (.int .u8 0)], .agg [.lit (.int .u8 0), .lit (.int .u8 0)], .agg [.lit (.int .u8 0), .lit (.int .u8 0)], .agg [.lit (.int .u8 0), .lit (.int .u8 0)], .agg [.lit (.int .u8 0), .lit (.int .u8 0)], .agg [.lit (.int .u8 0), .lit (.int .u8 0)], .agg [.lit (.int .u8 0), .lit (.int .u8 0)], .agg [.lit (.int .u8 0), .lit (.int .u8 0)], .agg [.lit (.int .u8 0), .lit (.int .u8 0)]]
/-- One of Go's own tables, pinned by name: the form's constant. -/
def laid_unicode_utf8_first : DataW Unit := Go.Pinned.utf8First

/-- 'canarylaw06.FieldValues': WHATEVER THE INPUT: true; the input reads as it did. -/
def fieldValuesSpec : ChangeSpec := { name := "fieldValues", fn := fun _ => fun
  | [d1, d2, d3, d4, d5] => { results := [.lit (.bool true)], args := [d1, d2, d3, d4, d5] }
  | _ => none }
def fieldValuesRow : OpenClaim := { program := "ytcniajbfgfikjaadoor", sum := "d80044f4dcfe8885d7bb58c4347b775f9da1aa0e5f5954e10cc45899be7dc8c7", func := "canary/canarylaw06.FieldValues", spec := "fieldValues", inPlace := ["internal/bytealg.IndexByteString", "internal/bytealg.IndexString", "internal/bytealg.CountString"], unfollowed := true, recurses := true, named := ["unicode/utf8.first", "unicode/utf8.acceptRanges", "internal/bytealg.MaxLen"], apart := false, laid := [("unicode/utf8.acceptRanges", laid_unicode_utf8_acceptRanges), ("unicode/utf8.first", laid_unicode_utf8_first)] }
def FieldValuesSaid : Prop := fieldValuesRow.holds Tryd.pinned (OpenSpec.ofChange fieldValuesSpec)

/-- ITS FALSE NEIGHBOUR: 'it returns false'. Refute it at one input. -/
def fieldValuesWrong : ChangeSpec := { name := "fieldValues", fn := fun _ => fun
  | [d1, d2, d3, d4, d5] => { results := [.lit (.bool false)], args := [d1, d2, d3, d4, d5] }
  | _ => none }
def FieldValuesWrongFalsely : Prop := fieldValuesRow.holds Tryd.pinned (OpenSpec.ofChange fieldValuesWrong)

/-- 'canarylaw06.FieldWithout': WHATEVER THE INPUT: true; the input reads as it did. -/
def fieldWithoutSpec : ChangeSpec := { name := "fieldWithout", fn := fun _ => fun
  | [d1, d2, d3, d4, d5, d6, d7] => { results := [.lit (.bool true)], args := [d1, d2, d3, d4, d5, d6, d7] }
  | _ => none }
def fieldWithoutRow : OpenClaim := { program := "ytcniajbfgfikjaadoor", sum := "d80044f4dcfe8885d7bb58c4347b775f9da1aa0e5f5954e10cc45899be7dc8c7", func := "canary/canarylaw06.FieldWithout", spec := "fieldWithout", inPlace := ["internal/bytealg.IndexByteString", "internal/bytealg.IndexString"], unfollowed := true, recurses := true, named := ["internal/bytealg.MaxLen", "unicode/utf8.first", "unicode/utf8.acceptRanges"], apart := false, laid := [("unicode/utf8.acceptRanges", laid_unicode_utf8_acceptRanges), ("unicode/utf8.first", laid_unicode_utf8_first)] }
def FieldWithoutSaid : Prop := fieldWithoutRow.holds Tryd.pinned (OpenSpec.ofChange fieldWithoutSpec)

/-- ITS FALSE NEIGHBOUR: 'it returns false'. Refute it at one input. -/
def fieldWithoutWrong : ChangeSpec := { name := "fieldWithout", fn := fun _ => fun
  | [d1, d2, d3, d4, d5, d6, d7] => { results := [.lit (.bool false)], args := [d1, d2, d3, d4, d5, d6, d7] }
  | _ => none }
def FieldWithoutWrongFalsely : Prop := fieldWithoutRow.holds Tryd.pinned (OpenSpec.ofChange fieldWithoutWrong)

/-- 'canarylaw06.FieldFormat': WHATEVER THE INPUT: true; the input reads as it did. -/
def fieldFormatSpec : ChangeSpec := { name := "fieldFormat", fn := fun _ => fun
  | [d1, d2, d3] => { results := [.lit (.bool true)], args := [d1, d2, d3] }
  | _ => none }
def fieldFormatRow : OpenClaim := { program := "ytcniajbfgfikjaadoor", sum := "d80044f4dcfe8885d7bb58c4347b775f9da1aa0e5f5954e10cc45899be7dc8c7", func := "canary/canarylaw06.FieldFormat", spec := "fieldFormat", inPlace := ["internal/bytealg.IndexByteString", "internal/bytealg.IndexString", "internal/abi.NoEscape"], unfollowed := true, recurses := true, named := ["unicode/utf8.first", "unicode/utf8.acceptRanges", "internal/bytealg.MaxLen"], apart := false, laid := [("unicode/utf8.acceptRanges", laid_unicode_utf8_acceptRanges), ("unicode/utf8.first", laid_unicode_utf8_first)] }
def FieldFormatSaid : Prop := fieldFormatRow.holds Tryd.pinned (OpenSpec.ofChange fieldFormatSpec)

/-- ITS FALSE NEIGHBOUR: 'it returns false'. Refute it at one input. -/
def fieldFormatWrong : ChangeSpec := { name := "fieldFormat", fn := fun _ => fun
  | [d1, d2, d3] => { results := [.lit (.bool false)], args := [d1, d2, d3] }
  | _ => none }
def FieldFormatWrongFalsely : Prop := fieldFormatRow.holds Tryd.pinned (OpenSpec.ofChange fieldFormatWrong)

/-- 'canarylaw06.FieldParse': WHATEVER THE INPUT: true; the input reads as it did. -/
def fieldParseSpec : ChangeSpec := { name := "fieldParse", fn := fun _ => fun
  | [d1, d2, d3, d4, d5, d6] => { results := [.lit (.bool true)], args := [d1, d2, d3, d4, d5, d6] }
  | _ => none }
def fieldParseRow : OpenClaim := { program := "ytcniajbfgfikjaadoor", sum := "d80044f4dcfe8885d7bb58c4347b775f9da1aa0e5f5954e10cc45899be7dc8c7", func := "canary/canarylaw06.FieldParse", spec := "fieldParse", inPlace := ["internal/bytealg.IndexByteString", "internal/bytealg.IndexString"], unfollowed := true, recurses := true, named := ["internal/bytealg.MaxLen", "unicode/utf8.first", "unicode/utf8.acceptRanges"], apart := false, laid := [("unicode/utf8.acceptRanges", laid_unicode_utf8_acceptRanges), ("unicode/utf8.first", laid_unicode_utf8_first)] }
def FieldParseSaid : Prop := fieldParseRow.holds Tryd.pinned (OpenSpec.ofChange fieldParseSpec)

/-- ITS FALSE NEIGHBOUR: 'it returns false'. Refute it at one input. -/
def fieldParseWrong : ChangeSpec := { name := "fieldParse", fn := fun _ => fun
  | [d1, d2, d3, d4, d5, d6] => { results := [.lit (.bool false)], args := [d1, d2, d3, d4, d5, d6] }
  | _ => none }
def FieldParseWrongFalsely : Prop := fieldParseRow.holds Tryd.pinned (OpenSpec.ofChange fieldParseWrong)

/-- 'canarylaw06.FieldLine': WHATEVER THE INPUT: true; the input reads as it did. -/
def fieldLineSpec : ChangeSpec := { name := "fieldLine", fn := fun _ => fun
  | [d1, d2] => { results := [.lit (.bool true)], args := [d1, d2] }
  | _ => none }
def fieldLineRow : OpenClaim := { program := "ytcniajbfgfikjaadoor", sum := "d80044f4dcfe8885d7bb58c4347b775f9da1aa0e5f5954e10cc45899be7dc8c7", func := "canary/canarylaw06.FieldLine", spec := "fieldLine", inPlace := ["internal/bytealg.IndexByteString", "internal/bytealg.IndexString", "internal/abi.NoEscape"], unfollowed := true, recurses := true, named := ["unicode/utf8.first", "unicode/utf8.acceptRanges", "internal/bytealg.MaxLen"], apart := false, laid := [("unicode/utf8.acceptRanges", laid_unicode_utf8_acceptRanges), ("unicode/utf8.first", laid_unicode_utf8_first)] }
def FieldLineSaid : Prop := fieldLineRow.holds Tryd.pinned (OpenSpec.ofChange fieldLineSpec)

/-- ITS FALSE NEIGHBOUR: 'it returns false'. Refute it at one input. -/
def fieldLineWrong : ChangeSpec := { name := "fieldLine", fn := fun _ => fun
  | [d1, d2] => { results := [.lit (.bool false)], args := [d1, d2] }
  | _ => none }
def FieldLineWrongFalsely : Prop := fieldLineRow.holds Tryd.pinned (OpenSpec.ofChange fieldLineWrong)

/- THE SECOND FORM. 'bulk': how many values and letters a reading holds, each counted each time it is reached (what is shared counts as often as it is met; a slice's spare places count too). A statement '..UptoSaid' is the law's where the arguments, and the package variables that the reading takes, are together of bulk at most 1048576: NARROWER than '..Said'. Prove '..Said' where nothing that the law and all that it calls make is longer than what came in: it says more and counts as full. Else prove '..UptoSaid'. A law counts once. -/
mutual
def uptoBulk {H : Type} : DataW H → Nat
  | .lit (.string bytes) => bytes.length + 1
  | .lit _ => 1
  | .nil => 1
  | .ptr d => uptoBulk d + 1
  | .slice elems spare => uptoBulkAll elems + uptoBulkAll spare + 1
  | .agg parts => uptoBulkAll parts + 1
  | .iface _ d => uptoBulk d + 1
  | .map entries => uptoBulkEntries entries + 1
  | .held _ => 1
def uptoBulkAll {H : Type} : List (DataW H) → Nat
  | [] => 0
  | d :: r => uptoBulk d + uptoBulkAll r
def uptoBulkEntries {H : Type} : List (Lit × DataW H) → Nat
  | [] => 0
  | x :: r => uptoBulkEntry x + uptoBulkEntries r
def uptoBulkEntry {H : Type} : Lit × DataW H → Nat
  | (.string bytes, d) => bytes.length + uptoBulk d + 1
  | (_, d) => uptoBulk d + 1
 end
def uptoSmall : (H : Type) → List (DataW H) → Bool := fun _ ds => decide (uptoBulkAll ds ≤ 1048576)
def OpenSpec.upto (s : _root_.Go.ChangeSpec) : _root_.Go.OpenSpec := { _root_.Go.OpenSpec.ofChange s with cond := some uptoSmall }

/-- 'canarylaw06.FieldValues', WHERE WHAT IT READS IS OF BULK AT MOST 1048576: true; the input reads as it did. -/
def fieldValuesUptoRow : OpenClaim := { program := "ytcniajbfgfikjaadoor", sum := "d80044f4dcfe8885d7bb58c4347b775f9da1aa0e5f5954e10cc45899be7dc8c7", func := "canary/canarylaw06.FieldValues", spec := "fieldValues", inPlace := ["internal/bytealg.IndexByteString", "internal/bytealg.IndexString", "internal/bytealg.CountString"], unfollowed := true, recurses := true, named := ["unicode/utf8.first", "unicode/utf8.acceptRanges", "internal/bytealg.MaxLen"], apart := false, laid := [("unicode/utf8.acceptRanges", laid_unicode_utf8_acceptRanges), ("unicode/utf8.first", laid_unicode_utf8_first)], narrowed := true }
def FieldValuesUptoSaid : Prop := fieldValuesUptoRow.holds Tryd.pinned (OpenSpec.upto fieldValuesSpec)

/-- 'canarylaw06.FieldWithout', WHERE WHAT IT READS IS OF BULK AT MOST 1048576: true; the input reads as it did. -/
def fieldWithoutUptoRow : OpenClaim := { program := "ytcniajbfgfikjaadoor", sum := "d80044f4dcfe8885d7bb58c4347b775f9da1aa0e5f5954e10cc45899be7dc8c7", func := "canary/canarylaw06.FieldWithout", spec := "fieldWithout", inPlace := ["internal/bytealg.IndexByteString", "internal/bytealg.IndexString"], unfollowed := true, recurses := true, named := ["internal/bytealg.MaxLen", "unicode/utf8.first", "unicode/utf8.acceptRanges"], apart := false, laid := [("unicode/utf8.acceptRanges", laid_unicode_utf8_acceptRanges), ("unicode/utf8.first", laid_unicode_utf8_first)], narrowed := true }
def FieldWithoutUptoSaid : Prop := fieldWithoutUptoRow.holds Tryd.pinned (OpenSpec.upto fieldWithoutSpec)

/-- 'canarylaw06.FieldFormat', WHERE WHAT IT READS IS OF BULK AT MOST 1048576: true; the input reads as it did. -/
def fieldFormatUptoRow : OpenClaim := { program := "ytcniajbfgfikjaadoor", sum := "d80044f4dcfe8885d7bb58c4347b775f9da1aa0e5f5954e10cc45899be7dc8c7", func := "canary/canarylaw06.FieldFormat", spec := "fieldFormat", inPlace := ["internal/bytealg.IndexByteString", "internal/bytealg.IndexString", "internal/abi.NoEscape"], unfollowed := true, recurses := true, named := ["unicode/utf8.first", "unicode/utf8.acceptRanges", "internal/bytealg.MaxLen"], apart := false, laid := [("unicode/utf8.acceptRanges", laid_unicode_utf8_acceptRanges), ("unicode/utf8.first", laid_unicode_utf8_first)], narrowed := true }
def FieldFormatUptoSaid : Prop := fieldFormatUptoRow.holds Tryd.pinned (OpenSpec.upto fieldFormatSpec)

/-- 'canarylaw06.FieldParse', WHERE WHAT IT READS IS OF BULK AT MOST 1048576: true; the input reads as it did. -/
def fieldParseUptoRow : OpenClaim := { program := "ytcniajbfgfikjaadoor", sum := "d80044f4dcfe8885d7bb58c4347b775f9da1aa0e5f5954e10cc45899be7dc8c7", func := "canary/canarylaw06.FieldParse", spec := "fieldParse", inPlace := ["internal/bytealg.IndexByteString", "internal/bytealg.IndexString"], unfollowed := true, recurses := true, named := ["internal/bytealg.MaxLen", "unicode/utf8.first", "unicode/utf8.acceptRanges"], apart := false, laid := [("unicode/utf8.acceptRanges", laid_unicode_utf8_acceptRanges), ("unicode/utf8.first", laid_unicode_utf8_first)], narrowed := true }
def FieldParseUptoSaid : Prop := fieldParseUptoRow.holds Tryd.pinned (OpenSpec.upto fieldParseSpec)

/-- 'canarylaw06.FieldLine', WHERE WHAT IT READS IS OF BULK AT MOST 1048576: true; the input reads as it did. -/
def fieldLineUptoRow : OpenClaim := { program := "ytcniajbfgfikjaadoor", sum := "d80044f4dcfe8885d7bb58c4347b775f9da1aa0e5f5954e10cc45899be7dc8c7", func := "canary/canarylaw06.FieldLine", spec := "fieldLine", inPlace := ["internal/bytealg.IndexByteString", "internal/bytealg.IndexString", "internal/abi.NoEscape"], unfollowed := true, recurses := true, named := ["unicode/utf8.first", "unicode/utf8.acceptRanges", "internal/bytealg.MaxLen"], apart := false, laid := [("unicode/utf8.acceptRanges", laid_unicode_utf8_acceptRanges), ("unicode/utf8.first", laid_unicode_utf8_first)], narrowed := true }
def FieldLineUptoSaid : Prop := fieldLineUptoRow.holds Tryd.pinned (OpenSpec.upto fieldLineSpec)

end Rows
end Go.Proofs.YtcniajbfgfikjaaDoor
