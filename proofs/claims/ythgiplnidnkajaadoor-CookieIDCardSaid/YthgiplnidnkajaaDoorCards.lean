/-
  DERIVED. GIVEN WITH THE SEED: THE CARDS: each row of YthgiplnidnkajaaDoorRows.lean that lists a variable, with what it lists TIED to the program's text (the seventh form; the later family's looks); each row that meets fmt, with fmt's text TOLD by the authors' own Lean function (tested against real Go, not proved from fmt's source: count such statements apart). THE CARD IS WHAT COUNTS. Prove the row's statement (the work); the ties are given (YthgiplnidnkajaaDoorTie.lean); close each card by the builder's one call (the guide's Derived/Test/ToyasCard.lean, 'card_holds'). Laid BY PROGRAM, IN A SANDBOX (cutbox-door.mjs). By AI agents, Wed Nov 11 2026. No macro, syntax, notation, axiom, sorry.
-/
import Derived.Test.YthgiplnidnkajaaDoorRows
import GoSem.ClaimSeven
namespace Go.Proofs.YthgiplnidnkajaaDoor
namespace Rows

/-- THE TIED CARD OF 'canarylaw14.CookiePairs'. -/
def cookiePairsCard : Claim7 := { stood := { row := cookiePairsRow, standIns := [], harness := (true, "a14eba4b6f49d15591650ce64ea63f58c733abf60903e12926c1e2eb528f000d"), looks := false }, kinds := [], alts := [], laidByText := true, laidKinds := [.data, .pinned], laidTests := true, laidLooks := .later }
def CookiePairsCardSaid : Prop := Claim7.holds Tryd.pinned (.plain (OpenSpec.ofChange cookiePairsSpec)) cookiePairsCard

/-- THE TIED CARD OF 'canarylaw14.CookieID'. -/
def cookieIDCard : Claim7 := { stood := { row := cookieIDRow, standIns := [], harness := (true, "a14eba4b6f49d15591650ce64ea63f58c733abf60903e12926c1e2eb528f000d"), looks := false }, kinds := [], alts := [], laidByText := true, laidKinds := [.data, .pinned], laidTests := true, laidLooks := .later }
def CookieIDCardSaid : Prop := Claim7.holds Tryd.pinned (.plain (OpenSpec.ofChange cookieIDSpec)) cookieIDCard

/-- THE TIED CARD OF 'canarylaw14.CookieFound'. -/
def cookieFoundCard : Claim7 := { stood := { row := cookieFoundRow, standIns := [], harness := (true, "a14eba4b6f49d15591650ce64ea63f58c733abf60903e12926c1e2eb528f000d"), looks := false }, kinds := [], alts := [], laidByText := true, laidKinds := [.data, .pinned], laidTests := true, laidLooks := .later }
def CookieFoundCardSaid : Prop := Claim7.holds Tryd.pinned (.plain (OpenSpec.ofChange cookieFoundSpec)) cookieFoundCard

/-- THE TIED CARD OF 'canarylaw14.CookieFirst'. -/
def cookieFirstCard : Claim7 := { stood := { row := cookieFirstRow, standIns := [], harness := (true, "a14eba4b6f49d15591650ce64ea63f58c733abf60903e12926c1e2eb528f000d"), looks := false }, kinds := [], alts := [], laidByText := true, laidKinds := [.data, .pinned], laidTests := true, laidLooks := .later }
def CookieFirstCardSaid : Prop := Claim7.holds Tryd.pinned (.plain (OpenSpec.ofChange cookieFirstSpec)) cookieFirstCard

/-- THE SECOND FORM's CARD OF 'canarylaw14.CookiePairs'. -/
def cookiePairsUptoCard : Claim7 := { stood := { row := cookiePairsUptoRow, standIns := [], harness := (true, "a14eba4b6f49d15591650ce64ea63f58c733abf60903e12926c1e2eb528f000d"), looks := false }, kinds := [], alts := [], laidByText := true, laidKinds := [.data, .pinned], laidTests := true, laidLooks := .later }
def CookiePairsUptoCardSaid : Prop := Claim7.holds Tryd.pinned (.plain (OpenSpec.upto cookiePairsSpec)) cookiePairsUptoCard

/-- THE SECOND FORM's CARD OF 'canarylaw14.CookieID'. -/
def cookieIDUptoCard : Claim7 := { stood := { row := cookieIDUptoRow, standIns := [], harness := (true, "a14eba4b6f49d15591650ce64ea63f58c733abf60903e12926c1e2eb528f000d"), looks := false }, kinds := [], alts := [], laidByText := true, laidKinds := [.data, .pinned], laidTests := true, laidLooks := .later }
def CookieIDUptoCardSaid : Prop := Claim7.holds Tryd.pinned (.plain (OpenSpec.upto cookieIDSpec)) cookieIDUptoCard

/-- THE SECOND FORM's CARD OF 'canarylaw14.CookieFound'. -/
def cookieFoundUptoCard : Claim7 := { stood := { row := cookieFoundUptoRow, standIns := [], harness := (true, "a14eba4b6f49d15591650ce64ea63f58c733abf60903e12926c1e2eb528f000d"), looks := false }, kinds := [], alts := [], laidByText := true, laidKinds := [.data, .pinned], laidTests := true, laidLooks := .later }
def CookieFoundUptoCardSaid : Prop := Claim7.holds Tryd.pinned (.plain (OpenSpec.upto cookieFoundSpec)) cookieFoundUptoCard

/-- THE SECOND FORM's CARD OF 'canarylaw14.CookieFirst'. -/
def cookieFirstUptoCard : Claim7 := { stood := { row := cookieFirstUptoRow, standIns := [], harness := (true, "a14eba4b6f49d15591650ce64ea63f58c733abf60903e12926c1e2eb528f000d"), looks := false }, kinds := [], alts := [], laidByText := true, laidKinds := [.data, .pinned], laidTests := true, laidLooks := .later }
def CookieFirstUptoCardSaid : Prop := Claim7.holds Tryd.pinned (.plain (OpenSpec.upto cookieFirstSpec)) cookieFirstUptoCard
end Rows
end Go.Proofs.YthgiplnidnkajaaDoor
