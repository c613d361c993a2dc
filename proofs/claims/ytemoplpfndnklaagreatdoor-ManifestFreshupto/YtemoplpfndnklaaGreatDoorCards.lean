/-
  DERIVED. GIVEN WITH THE SEED: THE CARDS: each row of YtemoplpfndnklaaGreatDoorRows.lean that lists a variable, with what it lists TIED to the program's text (the seventh form; the later family's looks); each row that meets fmt, with fmt's text TOLD by the authors' own Lean function (tested against real Go, not proved from fmt's source: count such statements apart). THE CARD IS WHAT COUNTS. Prove the row's statement (the work); the ties are given (YtemoplpfndnklaaGreatDoorTie.lean); close each card by the builder's one call (the guide's Derived/Test/ToyasCard.lean, 'card_holds'). Laid BY PROGRAM, IN A SANDBOX (cutbox-door.mjs). By AI agents, Wed Nov 11 2026. No macro, syntax, notation, axiom, sorry.
-/
import Derived.Test.YtemoplpfndnklaaGreatDoorRows
import GoSem.ClaimSeven
namespace Go.Proofs.YtemoplpfndnklaaGreatDoor
namespace Rows

/-- THE TIED CARD OF 'copselaw09.ManifestBack'. -/
def manifestBackCard : Claim7 := { stood := { row := manifestBackRow, standIns := [], harness := (true, "9fc16f746e90c3332ad19f79d14799fb5cb5b0cc081c9c26e502e73a9dd160ee"), looks := true }, kinds := [], alts := [], laidByText := true, laidKinds := [.data, .handle, .pinned], laidTests := true, laidLooks := .later }
def ManifestBackCardSaid : Prop := Claim7.holds Tryz.pinned (.plain (OpenSpec.ofChange manifestBackSpec)) manifestBackCard

/-- THE TIED CARD OF 'copselaw09.ManifestRefuses'. -/
def manifestRefusesCard : Claim7 := { stood := { row := manifestRefusesRow, standIns := [], harness := (true, "9fc16f746e90c3332ad19f79d14799fb5cb5b0cc081c9c26e502e73a9dd160ee"), looks := true }, kinds := [], alts := [], laidByText := true, laidKinds := [.data, .handle, .pinned], laidTests := true, laidLooks := .later }
def ManifestRefusesCardSaid : Prop := Claim7.holds Tryz.pinned (.plain (OpenSpec.ofChange manifestRefusesSpec)) manifestRefusesCard

/-- THE TIED CARD OF 'copselaw09.ManifestParses'. -/
def manifestParsesCard : Claim7 := { stood := { row := manifestParsesRow, standIns := [], harness := (true, "9fc16f746e90c3332ad19f79d14799fb5cb5b0cc081c9c26e502e73a9dd160ee"), looks := true }, kinds := [], alts := [], laidByText := true, laidKinds := [.data, .handle, .pinned], laidTests := true, laidLooks := .later }
def ManifestParsesCardSaid : Prop := Claim7.holds Tryz.pinned (.plain (OpenSpec.ofChange manifestParsesSpec)) manifestParsesCard

/-- THE TIED CARD OF 'copselaw09.ManifestPrints'. -/
def manifestPrintsCard : Claim7 := { stood := { row := manifestPrintsRow, standIns := [], harness := (true, "9fc16f746e90c3332ad19f79d14799fb5cb5b0cc081c9c26e502e73a9dd160ee"), looks := true }, kinds := [], alts := [], laidByText := true, laidKinds := [.data, .handle, .pinned], laidTests := true, laidLooks := .later }
def ManifestPrintsCardSaid : Prop := Claim7.holds Tryz.pinned (.plain (OpenSpec.ofChange manifestPrintsSpec)) manifestPrintsCard

/-- THE TIED CARD OF 'copselaw09.ManifestFresh'. -/
def manifestFreshCard : Claim7 := { stood := { row := manifestFreshRow, standIns := [], harness := (true, "9fc16f746e90c3332ad19f79d14799fb5cb5b0cc081c9c26e502e73a9dd160ee"), looks := true }, kinds := [], alts := [], laidByText := true, laidKinds := [.data, .handle, .pinned], laidTests := true, laidLooks := .later }
def ManifestFreshCardSaid : Prop := Claim7.holds Tryz.pinned (.plain (OpenSpec.ofChange manifestFreshSpec)) manifestFreshCard

/-- THE SECOND FORM's CARD OF 'copselaw09.ManifestBack'. -/
def manifestBackUptoCard : Claim7 := { stood := { row := manifestBackUptoRow, standIns := [], harness := (true, "9fc16f746e90c3332ad19f79d14799fb5cb5b0cc081c9c26e502e73a9dd160ee"), looks := true }, kinds := [], alts := [], laidByText := true, laidKinds := [.data, .handle, .pinned], laidTests := true, laidLooks := .later }
def ManifestBackUptoCardSaid : Prop := Claim7.holds Tryz.pinned (.plain (OpenSpec.upto manifestBackSpec)) manifestBackUptoCard

/-- THE SECOND FORM's CARD OF 'copselaw09.ManifestRefuses'. -/
def manifestRefusesUptoCard : Claim7 := { stood := { row := manifestRefusesUptoRow, standIns := [], harness := (true, "9fc16f746e90c3332ad19f79d14799fb5cb5b0cc081c9c26e502e73a9dd160ee"), looks := true }, kinds := [], alts := [], laidByText := true, laidKinds := [.data, .handle, .pinned], laidTests := true, laidLooks := .later }
def ManifestRefusesUptoCardSaid : Prop := Claim7.holds Tryz.pinned (.plain (OpenSpec.upto manifestRefusesSpec)) manifestRefusesUptoCard

/-- THE SECOND FORM's CARD OF 'copselaw09.ManifestParses'. -/
def manifestParsesUptoCard : Claim7 := { stood := { row := manifestParsesUptoRow, standIns := [], harness := (true, "9fc16f746e90c3332ad19f79d14799fb5cb5b0cc081c9c26e502e73a9dd160ee"), looks := true }, kinds := [], alts := [], laidByText := true, laidKinds := [.data, .handle, .pinned], laidTests := true, laidLooks := .later }
def ManifestParsesUptoCardSaid : Prop := Claim7.holds Tryz.pinned (.plain (OpenSpec.upto manifestParsesSpec)) manifestParsesUptoCard

/-- THE SECOND FORM's CARD OF 'copselaw09.ManifestPrints'. -/
def manifestPrintsUptoCard : Claim7 := { stood := { row := manifestPrintsUptoRow, standIns := [], harness := (true, "9fc16f746e90c3332ad19f79d14799fb5cb5b0cc081c9c26e502e73a9dd160ee"), looks := true }, kinds := [], alts := [], laidByText := true, laidKinds := [.data, .handle, .pinned], laidTests := true, laidLooks := .later }
def ManifestPrintsUptoCardSaid : Prop := Claim7.holds Tryz.pinned (.plain (OpenSpec.upto manifestPrintsSpec)) manifestPrintsUptoCard

/-- THE SECOND FORM's CARD OF 'copselaw09.ManifestFresh'. -/
def manifestFreshUptoCard : Claim7 := { stood := { row := manifestFreshUptoRow, standIns := [], harness := (true, "9fc16f746e90c3332ad19f79d14799fb5cb5b0cc081c9c26e502e73a9dd160ee"), looks := true }, kinds := [], alts := [], laidByText := true, laidKinds := [.data, .handle, .pinned], laidTests := true, laidLooks := .later }
def ManifestFreshUptoCardSaid : Prop := Claim7.holds Tryz.pinned (.plain (OpenSpec.upto manifestFreshSpec)) manifestFreshUptoCard
end Rows
end Go.Proofs.YtemoplpfndnklaaGreatDoor
