/-
  DERIVED. GIVEN WITH THE SEED: THE CARDS: each row of YtkheacknelbcnaaGreatDoorRows.lean that lists a variable, with what it lists TIED to the program's text (the seventh form; the later family's looks); each row that meets fmt, with fmt's text TOLD by the authors' own Lean function (tested against real Go, not proved from fmt's source: count such statements apart). THE CARD IS WHAT COUNTS. Prove the row's statement (the work); the ties are given (YtkheacknelbcnaaGreatDoorTie.lean); close each card by the builder's one call (the guide's Derived/Test/ToyasCard.lean, 'card_holds'). Laid BY PROGRAM, IN A SANDBOX (cutbox-door.mjs). By AI agents, Wed Nov 11 2026. No macro, syntax, notation, axiom, sorry.
-/
import Derived.Test.YtkheacknelbcnaaGreatDoorRows
import GoSem.ClaimSeven
namespace Go.Proofs.YtkheacknelbcnaaGreatDoor
namespace Rows

/-- THE TIED CARD OF 'copselaw13.BuildSet'. -/
def buildSetCard : Claim7 := { stood := { row := buildSetRow, standIns := [], harness := (true, "6d6a25d66ad1c7c1d620328b1290ee4a66e4df3378be552539aed140ce611230"), looks := true }, kinds := [], alts := [], laidByText := true, laidKinds := [.data, .handle, .pinned], laidTests := true, laidLooks := .later }
def BuildSetCardSaid : Prop := Claim7.holds Tryz.pinned (.plain (OpenSpec.ofChange buildSetSpec)) buildSetCard

/-- THE TIED CARD OF 'copselaw13.BuildParts'. -/
def buildPartsCard : Claim7 := { stood := { row := buildPartsRow, standIns := [], harness := (true, "6d6a25d66ad1c7c1d620328b1290ee4a66e4df3378be552539aed140ce611230"), looks := true }, kinds := [], alts := [], laidByText := true, laidKinds := [.data, .handle, .pinned], laidTests := true, laidLooks := .later }
def BuildPartsCardSaid : Prop := Claim7.holds Tryz.pinned (.plain (OpenSpec.ofChange buildPartsSpec)) buildPartsCard

/-- THE TIED CARD OF 'copselaw13.BuildAll'. -/
def buildAllCard : Claim7 := { stood := { row := buildAllRow, standIns := [], harness := (true, "6d6a25d66ad1c7c1d620328b1290ee4a66e4df3378be552539aed140ce611230"), looks := true }, kinds := [], alts := [], laidByText := true, laidKinds := [.data, .handle, .pinned], laidTests := true, laidLooks := .later }
def BuildAllCardSaid : Prop := Claim7.holds Tryz.pinned (.plain (OpenSpec.ofChange buildAllSpec)) buildAllCard

/-- THE TIED CARD OF 'copselaw13.BuildKeeps'. -/
def buildKeepsCard : Claim7 := { stood := { row := buildKeepsRow, standIns := [], harness := (true, "6d6a25d66ad1c7c1d620328b1290ee4a66e4df3378be552539aed140ce611230"), looks := true }, kinds := [], alts := [], laidByText := true, laidKinds := [.data, .handle, .pinned], laidTests := true, laidLooks := .later }
def BuildKeepsCardSaid : Prop := Claim7.holds Tryz.pinned (.plain (OpenSpec.ofChange buildKeepsSpec)) buildKeepsCard

/-- THE SECOND FORM's CARD OF 'copselaw13.BuildSet'. -/
def buildSetUptoCard : Claim7 := { stood := { row := buildSetUptoRow, standIns := [], harness := (true, "6d6a25d66ad1c7c1d620328b1290ee4a66e4df3378be552539aed140ce611230"), looks := true }, kinds := [], alts := [], laidByText := true, laidKinds := [.data, .handle, .pinned], laidTests := true, laidLooks := .later }
def BuildSetUptoCardSaid : Prop := Claim7.holds Tryz.pinned (.plain (OpenSpec.upto buildSetSpec)) buildSetUptoCard

/-- THE SECOND FORM's CARD OF 'copselaw13.BuildParts'. -/
def buildPartsUptoCard : Claim7 := { stood := { row := buildPartsUptoRow, standIns := [], harness := (true, "6d6a25d66ad1c7c1d620328b1290ee4a66e4df3378be552539aed140ce611230"), looks := true }, kinds := [], alts := [], laidByText := true, laidKinds := [.data, .handle, .pinned], laidTests := true, laidLooks := .later }
def BuildPartsUptoCardSaid : Prop := Claim7.holds Tryz.pinned (.plain (OpenSpec.upto buildPartsSpec)) buildPartsUptoCard

/-- THE SECOND FORM's CARD OF 'copselaw13.BuildAll'. -/
def buildAllUptoCard : Claim7 := { stood := { row := buildAllUptoRow, standIns := [], harness := (true, "6d6a25d66ad1c7c1d620328b1290ee4a66e4df3378be552539aed140ce611230"), looks := true }, kinds := [], alts := [], laidByText := true, laidKinds := [.data, .handle, .pinned], laidTests := true, laidLooks := .later }
def BuildAllUptoCardSaid : Prop := Claim7.holds Tryz.pinned (.plain (OpenSpec.upto buildAllSpec)) buildAllUptoCard

/-- THE SECOND FORM's CARD OF 'copselaw13.BuildKeeps'. -/
def buildKeepsUptoCard : Claim7 := { stood := { row := buildKeepsUptoRow, standIns := [], harness := (true, "6d6a25d66ad1c7c1d620328b1290ee4a66e4df3378be552539aed140ce611230"), looks := true }, kinds := [], alts := [], laidByText := true, laidKinds := [.data, .handle, .pinned], laidTests := true, laidLooks := .later }
def BuildKeepsUptoCardSaid : Prop := Claim7.holds Tryz.pinned (.plain (OpenSpec.upto buildKeepsSpec)) buildKeepsUptoCard
end Rows
end Go.Proofs.YtkheacknelbcnaaGreatDoor
