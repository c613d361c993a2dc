/-
  DERIVED. GIVEN WITH THE SEED: THE CARDS: each row of YtlkkmcibjhoneaaGreatDoorRows.lean that lists a variable, with what it lists TIED to the program's text (the seventh form; the later family's looks); each row that meets fmt, with fmt's text TOLD by the authors' own Lean function (tested against real Go, not proved from fmt's source: count such statements apart). THE CARD IS WHAT COUNTS. Prove the row's statement (the work); the ties are given (YtlkkmcibjhoneaaGreatDoorTie.lean); close each card by the builder's one call (the guide's Derived/Test/ToyasCard.lean, 'card_holds'). Laid BY PROGRAM, IN A SANDBOX (cutbox-door.mjs). By AI agents, Wed Nov 11 2026. No macro, syntax, notation, axiom, sorry.
-/
import Derived.Test.YtlkkmcibjhoneaaGreatDoorRows
import GoSem.ClaimSeven
namespace Go.Proofs.YtlkkmcibjhoneaaGreatDoor
namespace Rows

/-- THE TIED CARD OF 'copselaw21.TreeStops'. -/
def treeStopsCard : Claim7 := { stood := { row := treeStopsRow, standIns := [], harness := (true, "80f49c8809e46582157142b9ee9c06102b1b504c715a846a60520b61902d6664"), looks := true }, kinds := [], alts := [], laidByText := true, laidKinds := [.data, .data, .data], laidTests := true, laidLooks := .later }
def TreeStopsCardSaid : Prop := Claim7.holds Tryz.pinned (.plain (OpenSpec.ofChange treeStopsSpec)) treeStopsCard

/-- THE TIED CARD OF 'copselaw21.TreeFresh'. -/
def treeFreshCard : Claim7 := { stood := { row := treeFreshRow, standIns := [], harness := (true, "80f49c8809e46582157142b9ee9c06102b1b504c715a846a60520b61902d6664"), looks := true }, kinds := [], alts := [], laidByText := true, laidKinds := [.data, .data, .data], laidTests := true, laidLooks := .later }
def TreeFreshCardSaid : Prop := Claim7.holds Tryz.pinned (.plain (OpenSpec.ofChange treeFreshSpec)) treeFreshCard

/-- THE TIED CARD OF 'copselaw21.TreeSound'. -/
def treeSoundCard : Claim7 := { stood := { row := treeSoundRow, standIns := [], harness := (true, "80f49c8809e46582157142b9ee9c06102b1b504c715a846a60520b61902d6664"), looks := true }, kinds := [], alts := [], laidByText := true, laidKinds := [.data, .data, .data], laidTests := true, laidLooks := .later }
def TreeSoundCardSaid : Prop := Claim7.holds Tryz.pinned (.plain (OpenSpec.ofChange treeSoundSpec)) treeSoundCard

/-- THE TIED CARD OF 'copselaw21.TreeScripts'. -/
def treeScriptsCard : Claim7 := { stood := { row := treeScriptsRow, standIns := [], harness := (true, "80f49c8809e46582157142b9ee9c06102b1b504c715a846a60520b61902d6664"), looks := true }, kinds := [], alts := [], laidByText := true, laidKinds := [.data, .data, .data], laidTests := true, laidLooks := .later }
def TreeScriptsCardSaid : Prop := Claim7.holds Tryz.pinned (.plain (OpenSpec.ofChange treeScriptsSpec)) treeScriptsCard

/-- THE SECOND FORM's CARD OF 'copselaw21.TreeStops'. -/
def treeStopsUptoCard : Claim7 := { stood := { row := treeStopsUptoRow, standIns := [], harness := (true, "80f49c8809e46582157142b9ee9c06102b1b504c715a846a60520b61902d6664"), looks := true }, kinds := [], alts := [], laidByText := true, laidKinds := [.data, .data, .data], laidTests := true, laidLooks := .later }
def TreeStopsUptoCardSaid : Prop := Claim7.holds Tryz.pinned (.plain (OpenSpec.upto treeStopsSpec)) treeStopsUptoCard

/-- THE SECOND FORM's CARD OF 'copselaw21.TreeFresh'. -/
def treeFreshUptoCard : Claim7 := { stood := { row := treeFreshUptoRow, standIns := [], harness := (true, "80f49c8809e46582157142b9ee9c06102b1b504c715a846a60520b61902d6664"), looks := true }, kinds := [], alts := [], laidByText := true, laidKinds := [.data, .data, .data], laidTests := true, laidLooks := .later }
def TreeFreshUptoCardSaid : Prop := Claim7.holds Tryz.pinned (.plain (OpenSpec.upto treeFreshSpec)) treeFreshUptoCard

/-- THE SECOND FORM's CARD OF 'copselaw21.TreeSound'. -/
def treeSoundUptoCard : Claim7 := { stood := { row := treeSoundUptoRow, standIns := [], harness := (true, "80f49c8809e46582157142b9ee9c06102b1b504c715a846a60520b61902d6664"), looks := true }, kinds := [], alts := [], laidByText := true, laidKinds := [.data, .data, .data], laidTests := true, laidLooks := .later }
def TreeSoundUptoCardSaid : Prop := Claim7.holds Tryz.pinned (.plain (OpenSpec.upto treeSoundSpec)) treeSoundUptoCard

/-- THE SECOND FORM's CARD OF 'copselaw21.TreeScripts'. -/
def treeScriptsUptoCard : Claim7 := { stood := { row := treeScriptsUptoRow, standIns := [], harness := (true, "80f49c8809e46582157142b9ee9c06102b1b504c715a846a60520b61902d6664"), looks := true }, kinds := [], alts := [], laidByText := true, laidKinds := [.data, .data, .data], laidTests := true, laidLooks := .later }
def TreeScriptsUptoCardSaid : Prop := Claim7.holds Tryz.pinned (.plain (OpenSpec.upto treeScriptsSpec)) treeScriptsUptoCard
end Rows
end Go.Proofs.YtlkkmcibjhoneaaGreatDoor
