/-
  DERIVED. GIVEN WITH THE SEED: THE CARDS: each row of YtkdiifkkhdkpeaaDoorRows.lean that lists a variable, with what it lists TIED to the program's text (the seventh form; the later family's looks); each row that meets fmt, with fmt's text TOLD by the authors' own Lean function (tested against real Go, not proved from fmt's source: count such statements apart). THE CARD IS WHAT COUNTS. Prove the row's statement (the work); the ties are given (YtkdiifkkhdkpeaaDoorTie.lean); close each card by the builder's one call (the guide's Derived/Test/ToyasCard.lean, 'card_holds'). Laid BY PROGRAM, IN A SANDBOX (cutbox-door.mjs). By AI agents, Wed Nov 11 2026. No macro, syntax, notation, axiom, sorry.
-/
import Derived.Test.YtkdiifkkhdkpeaaDoorRows
import GoSem.ClaimSeven
namespace Go.Proofs.YtkdiifkkhdkpeaaDoor
namespace Rows

/-- THE TIED CARD OF 'canarylaw15.BucketID'. -/
def bucketIDCard : Claim7 := { stood := { row := bucketIDRow, standIns := [], harness := (true, "1311ec9140dd7cbb235588bc99261c89a51768240adbbbc81ae9b53607390b39"), looks := false }, kinds := [], alts := [], laidByText := true, laidKinds := [.data, .data, .data], laidTests := true, laidLooks := .later }
def BucketIDCardSaid : Prop := Claim7.holds Tryd.pinned (.plain (OpenSpec.ofChange bucketIDSpec)) bucketIDCard

/-- THE TIED CARD OF 'canarylaw15.BucketOf'. -/
def bucketOfCard : Claim7 := { stood := { row := bucketOfRow, standIns := [], harness := (true, "1311ec9140dd7cbb235588bc99261c89a51768240adbbbc81ae9b53607390b39"), looks := false }, kinds := [], alts := [], laidByText := true, laidKinds := [.data, .data, .data], laidTests := true, laidLooks := .later }
def BucketOfCardSaid : Prop := Claim7.holds Tryd.pinned (.plain (OpenSpec.ofChange bucketOfSpec)) bucketOfCard

/-- THE TIED CARD OF 'canarylaw15.BucketCount'. -/
def bucketCountCard : Claim7 := { stood := { row := bucketCountRow, standIns := [], harness := (true, "1311ec9140dd7cbb235588bc99261c89a51768240adbbbc81ae9b53607390b39"), looks := false }, kinds := [], alts := [], laidByText := true, laidKinds := [.data, .data, .data], laidTests := true, laidLooks := .later }
def BucketCountCardSaid : Prop := Claim7.holds Tryd.pinned (.plain (OpenSpec.ofChange bucketCountSpec)) bucketCountCard

/-- THE TIED CARD OF 'canarylaw15.BucketStays'. -/
def bucketStaysCard : Claim7 := { stood := { row := bucketStaysRow, standIns := [], harness := (true, "1311ec9140dd7cbb235588bc99261c89a51768240adbbbc81ae9b53607390b39"), looks := false }, kinds := [], alts := [], laidByText := true, laidKinds := [.data, .data, .data], laidTests := true, laidLooks := .later }
def BucketStaysCardSaid : Prop := Claim7.holds Tryd.pinned (.plain (OpenSpec.ofChange bucketStaysSpec)) bucketStaysCard

/-- THE SECOND FORM's CARD OF 'canarylaw15.BucketID'. -/
def bucketIDUptoCard : Claim7 := { stood := { row := bucketIDUptoRow, standIns := [], harness := (true, "1311ec9140dd7cbb235588bc99261c89a51768240adbbbc81ae9b53607390b39"), looks := false }, kinds := [], alts := [], laidByText := true, laidKinds := [.data, .data, .data], laidTests := true, laidLooks := .later }
def BucketIDUptoCardSaid : Prop := Claim7.holds Tryd.pinned (.plain (OpenSpec.upto bucketIDSpec)) bucketIDUptoCard

/-- THE SECOND FORM's CARD OF 'canarylaw15.BucketOf'. -/
def bucketOfUptoCard : Claim7 := { stood := { row := bucketOfUptoRow, standIns := [], harness := (true, "1311ec9140dd7cbb235588bc99261c89a51768240adbbbc81ae9b53607390b39"), looks := false }, kinds := [], alts := [], laidByText := true, laidKinds := [.data, .data, .data], laidTests := true, laidLooks := .later }
def BucketOfUptoCardSaid : Prop := Claim7.holds Tryd.pinned (.plain (OpenSpec.upto bucketOfSpec)) bucketOfUptoCard

/-- THE SECOND FORM's CARD OF 'canarylaw15.BucketCount'. -/
def bucketCountUptoCard : Claim7 := { stood := { row := bucketCountUptoRow, standIns := [], harness := (true, "1311ec9140dd7cbb235588bc99261c89a51768240adbbbc81ae9b53607390b39"), looks := false }, kinds := [], alts := [], laidByText := true, laidKinds := [.data, .data, .data], laidTests := true, laidLooks := .later }
def BucketCountUptoCardSaid : Prop := Claim7.holds Tryd.pinned (.plain (OpenSpec.upto bucketCountSpec)) bucketCountUptoCard

/-- THE SECOND FORM's CARD OF 'canarylaw15.BucketStays'. -/
def bucketStaysUptoCard : Claim7 := { stood := { row := bucketStaysUptoRow, standIns := [], harness := (true, "1311ec9140dd7cbb235588bc99261c89a51768240adbbbc81ae9b53607390b39"), looks := false }, kinds := [], alts := [], laidByText := true, laidKinds := [.data, .data, .data], laidTests := true, laidLooks := .later }
def BucketStaysUptoCardSaid : Prop := Claim7.holds Tryd.pinned (.plain (OpenSpec.upto bucketStaysSpec)) bucketStaysUptoCard
end Rows
end Go.Proofs.YtkdiifkkhdkpeaaDoor
