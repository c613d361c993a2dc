/-
  DERIVED. GIVEN WITH THE SEED: THE CARDS: each row of YtgibjnfaagnbfacGreatDoorRows.lean that lists a variable, with what it lists TIED to the program's text (the seventh form; the later family's looks); each row that meets fmt, with fmt's text TOLD by the authors' own Lean function (tested against real Go, not proved from fmt's source: count such statements apart). THE CARD IS WHAT COUNTS. Prove the row's statement (the work); the ties are given (YtgibjnfaagnbfacGreatDoorTie.lean); close each card by the builder's one call (the guide's Derived/Test/ToyasCard.lean, 'card_holds'). Laid BY PROGRAM, IN A SANDBOX (cutbox-door.mjs). By AI agents, Wed Nov 11 2026. No macro, syntax, notation, axiom, sorry.
-/
import Derived.Test.YtgibjnfaagnbfacGreatDoorRows
import GoSem.ClaimSeven
namespace Go.Proofs.YtgibjnfaagnbfacGreatDoor
namespace Rows

/-- THE TIED CARD OF 'copselaw04.SnapKeeps'. -/
def snapKeepsCard : Claim7 := { stood := { row := snapKeepsRow, standIns := [], harness := (true, "0469466d18e6b59376cc4c54c86dad2eab35cfe394e69f7c105600d0afbc4817"), looks := true }, kinds := [], alts := [], laidByText := true, laidKinds := [.data, .data, .data, .data, .sentinel, .sentinel, .pinned], laidTests := true, laidLooks := .later }
def SnapKeepsCardSaid : Prop := Claim7.holds Tryz.pinned (.plain (OpenSpec.ofChange snapKeepsSpec)) snapKeepsCard

/-- THE TIED CARD OF 'copselaw04.SnapBack'. -/
def snapBackCard : Claim7 := { stood := { row := snapBackRow, standIns := [], harness := (true, "0469466d18e6b59376cc4c54c86dad2eab35cfe394e69f7c105600d0afbc4817"), looks := true }, kinds := [], alts := [], laidByText := true, laidKinds := [.data, .data, .data, .data, .sentinel, .sentinel, .pinned], laidTests := true, laidLooks := .later }
def SnapBackCardSaid : Prop := Claim7.holds Tryz.pinned (.plain (OpenSpec.ofChange snapBackSpec)) snapBackCard

/-- THE TIED CARD OF 'copselaw04.SnapAll'. -/
def snapAllCard : Claim7 := { stood := { row := snapAllRow, standIns := [], harness := (true, "0469466d18e6b59376cc4c54c86dad2eab35cfe394e69f7c105600d0afbc4817"), looks := true }, kinds := [], alts := [], laidByText := true, laidKinds := [.data, .data, .data, .data, .sentinel, .sentinel, .pinned], laidTests := true, laidLooks := .later }
def SnapAllCardSaid : Prop := Claim7.holds Tryz.pinned (.plain (OpenSpec.ofChange snapAllSpec)) snapAllCard

/-- THE SECOND FORM's CARD OF 'copselaw04.SnapKeeps'. -/
def snapKeepsUptoCard : Claim7 := { stood := { row := snapKeepsUptoRow, standIns := [], harness := (true, "0469466d18e6b59376cc4c54c86dad2eab35cfe394e69f7c105600d0afbc4817"), looks := true }, kinds := [], alts := [], laidByText := true, laidKinds := [.data, .data, .data, .data, .sentinel, .sentinel, .pinned], laidTests := true, laidLooks := .later }
def SnapKeepsUptoCardSaid : Prop := Claim7.holds Tryz.pinned (.plain (OpenSpec.upto snapKeepsSpec)) snapKeepsUptoCard

/-- THE SECOND FORM's CARD OF 'copselaw04.SnapBack'. -/
def snapBackUptoCard : Claim7 := { stood := { row := snapBackUptoRow, standIns := [], harness := (true, "0469466d18e6b59376cc4c54c86dad2eab35cfe394e69f7c105600d0afbc4817"), looks := true }, kinds := [], alts := [], laidByText := true, laidKinds := [.data, .data, .data, .data, .sentinel, .sentinel, .pinned], laidTests := true, laidLooks := .later }
def SnapBackUptoCardSaid : Prop := Claim7.holds Tryz.pinned (.plain (OpenSpec.upto snapBackSpec)) snapBackUptoCard

/-- THE SECOND FORM's CARD OF 'copselaw04.SnapAll'. -/
def snapAllUptoCard : Claim7 := { stood := { row := snapAllUptoRow, standIns := [], harness := (true, "0469466d18e6b59376cc4c54c86dad2eab35cfe394e69f7c105600d0afbc4817"), looks := true }, kinds := [], alts := [], laidByText := true, laidKinds := [.data, .data, .data, .data, .sentinel, .sentinel, .pinned], laidTests := true, laidLooks := .later }
def SnapAllUptoCardSaid : Prop := Claim7.holds Tryz.pinned (.plain (OpenSpec.upto snapAllSpec)) snapAllUptoCard
end Rows
end Go.Proofs.YtgibjnfaagnbfacGreatDoor
