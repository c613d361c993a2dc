/-
  DERIVED. GIVEN WITH THE SEED: THE CARDS: each row of YtebidnepanogcaaDoorRows.lean that lists a variable, with what it lists TIED to the program's text (the seventh form; the later family's looks); each row that meets fmt, with fmt's text TOLD by the authors' own Lean function (tested against real Go, not proved from fmt's source: count such statements apart). THE CARD IS WHAT COUNTS. Prove the row's statement (the work); the ties are given (YtebidnepanogcaaDoorTie.lean); close each card by the builder's one call (the guide's Derived/Test/ToyasCard.lean, 'card_holds'). Laid BY PROGRAM, IN A SANDBOX (cutbox-door.mjs). By AI agents, Wed Nov 11 2026. No macro, syntax, notation, axiom, sorry.
-/
import Derived.Test.YtebidnepanogcaaDoorRows
import GoSem.ClaimSeven
namespace Go.Proofs.YtebidnepanogcaaDoor
namespace Rows

/-- THE TIED CARD OF 'copselaw10.GlobParts'. -/
def globPartsCard : Claim7 := { stood := { row := globPartsRow, standIns := [], harness := (true, "f49b92f045272e9d4f92f0bd942ab90e505f9bea761c2fa83a051eb42808ecc7"), looks := false }, kinds := [], alts := [], laidByText := true, laidKinds := [.data, .pinned], laidTests := true, laidLooks := .later }
def GlobPartsCardSaid : Prop := Claim7.holds Tryd.pinned (.plain (OpenSpec.ofChange globPartsSpec)) globPartsCard

/-- THE TIED CARD OF 'copselaw10.GlobTexts'. -/
def globTextsCard : Claim7 := { stood := { row := globTextsRow, standIns := [], harness := (true, "f49b92f045272e9d4f92f0bd942ab90e505f9bea761c2fa83a051eb42808ecc7"), looks := false }, kinds := [], alts := [], laidByText := true, laidKinds := [.data, .pinned], laidTests := true, laidLooks := .later }
def GlobTextsCardSaid : Prop := Claim7.holds Tryd.pinned (.plain (OpenSpec.ofChange globTextsSpec)) globTextsCard

/-- THE TIED CARD OF 'copselaw10.GlobExpands'. -/
def globExpandsCard : Claim7 := { stood := { row := globExpandsRow, standIns := [], harness := (true, "f49b92f045272e9d4f92f0bd942ab90e505f9bea761c2fa83a051eb42808ecc7"), looks := false }, kinds := [], alts := [], laidByText := true, laidKinds := [.data, .pinned], laidTests := true, laidLooks := .later }
def GlobExpandsCardSaid : Prop := Claim7.holds Tryd.pinned (.plain (OpenSpec.ofChange globExpandsSpec)) globExpandsCard

/-- THE TIED CARD OF 'copselaw10.GlobFresh'. -/
def globFreshCard : Claim7 := { stood := { row := globFreshRow, standIns := [], harness := (true, "f49b92f045272e9d4f92f0bd942ab90e505f9bea761c2fa83a051eb42808ecc7"), looks := false }, kinds := [], alts := [], laidByText := true, laidKinds := [.data, .pinned], laidTests := true, laidLooks := .later }
def GlobFreshCardSaid : Prop := Claim7.holds Tryd.pinned (.plain (OpenSpec.ofChange globFreshSpec)) globFreshCard

/-- THE SECOND FORM's CARD OF 'copselaw10.GlobParts'. -/
def globPartsUptoCard : Claim7 := { stood := { row := globPartsUptoRow, standIns := [], harness := (true, "f49b92f045272e9d4f92f0bd942ab90e505f9bea761c2fa83a051eb42808ecc7"), looks := false }, kinds := [], alts := [], laidByText := true, laidKinds := [.data, .pinned], laidTests := true, laidLooks := .later }
def GlobPartsUptoCardSaid : Prop := Claim7.holds Tryd.pinned (.plain (OpenSpec.upto globPartsSpec)) globPartsUptoCard

/-- THE SECOND FORM's CARD OF 'copselaw10.GlobTexts'. -/
def globTextsUptoCard : Claim7 := { stood := { row := globTextsUptoRow, standIns := [], harness := (true, "f49b92f045272e9d4f92f0bd942ab90e505f9bea761c2fa83a051eb42808ecc7"), looks := false }, kinds := [], alts := [], laidByText := true, laidKinds := [.data, .pinned], laidTests := true, laidLooks := .later }
def GlobTextsUptoCardSaid : Prop := Claim7.holds Tryd.pinned (.plain (OpenSpec.upto globTextsSpec)) globTextsUptoCard

/-- THE SECOND FORM's CARD OF 'copselaw10.GlobExpands'. -/
def globExpandsUptoCard : Claim7 := { stood := { row := globExpandsUptoRow, standIns := [], harness := (true, "f49b92f045272e9d4f92f0bd942ab90e505f9bea761c2fa83a051eb42808ecc7"), looks := false }, kinds := [], alts := [], laidByText := true, laidKinds := [.data, .pinned], laidTests := true, laidLooks := .later }
def GlobExpandsUptoCardSaid : Prop := Claim7.holds Tryd.pinned (.plain (OpenSpec.upto globExpandsSpec)) globExpandsUptoCard

/-- THE SECOND FORM's CARD OF 'copselaw10.GlobFresh'. -/
def globFreshUptoCard : Claim7 := { stood := { row := globFreshUptoRow, standIns := [], harness := (true, "f49b92f045272e9d4f92f0bd942ab90e505f9bea761c2fa83a051eb42808ecc7"), looks := false }, kinds := [], alts := [], laidByText := true, laidKinds := [.data, .pinned], laidTests := true, laidLooks := .later }
def GlobFreshUptoCardSaid : Prop := Claim7.holds Tryd.pinned (.plain (OpenSpec.upto globFreshSpec)) globFreshUptoCard
end Rows
end Go.Proofs.YtebidnepanogcaaDoor
