/-
  DERIVED. GIVEN WITH THE SEED: THE CARDS: each row of YtppnbdnpapellaaGreatDoorRows.lean that lists a variable, with what it lists TIED to the program's text (the seventh form; the later family's looks); each row that meets fmt, with fmt's text TOLD by the authors' own Lean function (tested against real Go, not proved from fmt's source: count such statements apart). THE CARD IS WHAT COUNTS. Prove the row's statement (the work); the ties are given (YtppnbdnpapellaaGreatDoorTie.lean); close each card by the builder's one call (the guide's Derived/Test/ToyasCard.lean, 'card_holds'). Laid BY PROGRAM, IN A SANDBOX (cutbox-door.mjs). By AI agents, Wed Nov 11 2026. No macro, syntax, notation, axiom, sorry.
-/
import Derived.Test.YtppnbdnpapellaaGreatDoorRows
import GoSem.ClaimSeven
namespace Go.Proofs.YtppnbdnpapellaaGreatDoor
namespace Rows

/-- THE TIED CARD OF 'copselaw14.ClosureJoins'. -/
def closureJoinsCard : Claim7 := { stood := { row := closureJoinsRow, standIns := [], harness := (true, "ad12b17f85defd7dd1d55558c03d945325b2b157ffbc8631b7f1f482efda8193"), looks := true }, kinds := [], alts := [], laidByText := true, laidKinds := [.data, .handle, .pinned], laidTests := true, laidLooks := .later }
def ClosureJoinsCardSaid : Prop := Claim7.holds Tryz.pinned (.plain (OpenSpec.ofChange closureJoinsSpec)) closureJoinsCard

/-- THE TIED CARD OF 'copselaw14.ClosureEnough'. -/
def closureEnoughCard : Claim7 := { stood := { row := closureEnoughRow, standIns := [], harness := (true, "ad12b17f85defd7dd1d55558c03d945325b2b157ffbc8631b7f1f482efda8193"), looks := true }, kinds := [], alts := [], laidByText := true, laidKinds := [.data, .handle, .pinned], laidTests := true, laidLooks := .later }
def ClosureEnoughCardSaid : Prop := Claim7.holds Tryz.pinned (.plain (OpenSpec.ofChange closureEnoughSpec)) closureEnoughCard

/-- THE TIED CARD OF 'copselaw14.ClosureFresh'. -/
def closureFreshCard : Claim7 := { stood := { row := closureFreshRow, standIns := [], harness := (true, "ad12b17f85defd7dd1d55558c03d945325b2b157ffbc8631b7f1f482efda8193"), looks := true }, kinds := [], alts := [], laidByText := true, laidKinds := [.data, .handle, .pinned], laidTests := true, laidLooks := .later }
def ClosureFreshCardSaid : Prop := Claim7.holds Tryz.pinned (.plain (OpenSpec.ofChange closureFreshSpec)) closureFreshCard

/-- THE TIED CARD OF 'copselaw14.ClosureAll'. -/
def closureAllCard : Claim7 := { stood := { row := closureAllRow, standIns := [], harness := (true, "ad12b17f85defd7dd1d55558c03d945325b2b157ffbc8631b7f1f482efda8193"), looks := true }, kinds := [], alts := [], laidByText := true, laidKinds := [.data, .handle, .pinned], laidTests := true, laidLooks := .later }
def ClosureAllCardSaid : Prop := Claim7.holds Tryz.pinned (.plain (OpenSpec.ofChange closureAllSpec)) closureAllCard

/-- THE SECOND FORM's CARD OF 'copselaw14.ClosureJoins'. -/
def closureJoinsUptoCard : Claim7 := { stood := { row := closureJoinsUptoRow, standIns := [], harness := (true, "ad12b17f85defd7dd1d55558c03d945325b2b157ffbc8631b7f1f482efda8193"), looks := true }, kinds := [], alts := [], laidByText := true, laidKinds := [.data, .handle, .pinned], laidTests := true, laidLooks := .later }
def ClosureJoinsUptoCardSaid : Prop := Claim7.holds Tryz.pinned (.plain (OpenSpec.upto closureJoinsSpec)) closureJoinsUptoCard

/-- THE SECOND FORM's CARD OF 'copselaw14.ClosureEnough'. -/
def closureEnoughUptoCard : Claim7 := { stood := { row := closureEnoughUptoRow, standIns := [], harness := (true, "ad12b17f85defd7dd1d55558c03d945325b2b157ffbc8631b7f1f482efda8193"), looks := true }, kinds := [], alts := [], laidByText := true, laidKinds := [.data, .handle, .pinned], laidTests := true, laidLooks := .later }
def ClosureEnoughUptoCardSaid : Prop := Claim7.holds Tryz.pinned (.plain (OpenSpec.upto closureEnoughSpec)) closureEnoughUptoCard

/-- THE SECOND FORM's CARD OF 'copselaw14.ClosureFresh'. -/
def closureFreshUptoCard : Claim7 := { stood := { row := closureFreshUptoRow, standIns := [], harness := (true, "ad12b17f85defd7dd1d55558c03d945325b2b157ffbc8631b7f1f482efda8193"), looks := true }, kinds := [], alts := [], laidByText := true, laidKinds := [.data, .handle, .pinned], laidTests := true, laidLooks := .later }
def ClosureFreshUptoCardSaid : Prop := Claim7.holds Tryz.pinned (.plain (OpenSpec.upto closureFreshSpec)) closureFreshUptoCard

/-- THE SECOND FORM's CARD OF 'copselaw14.ClosureAll'. -/
def closureAllUptoCard : Claim7 := { stood := { row := closureAllUptoRow, standIns := [], harness := (true, "ad12b17f85defd7dd1d55558c03d945325b2b157ffbc8631b7f1f482efda8193"), looks := true }, kinds := [], alts := [], laidByText := true, laidKinds := [.data, .handle, .pinned], laidTests := true, laidLooks := .later }
def ClosureAllUptoCardSaid : Prop := Claim7.holds Tryz.pinned (.plain (OpenSpec.upto closureAllSpec)) closureAllUptoCard
end Rows
end Go.Proofs.YtppnbdnpapellaaGreatDoor
