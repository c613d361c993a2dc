/-
  DERIVED. GIVEN WITH THE SEED: THE CARDS: each row of YtgibjnfaagnbfadGreatDoorRows.lean that lists a variable, with what it lists TIED to the program's text (the seventh form; the later family's looks); each row that meets fmt, with fmt's text TOLD by the authors' own Lean function (tested against real Go, not proved from fmt's source: count such statements apart). THE CARD IS WHAT COUNTS. Prove the row's statement (the work); the ties are given (YtgibjnfaagnbfadGreatDoorTie.lean); close each card by the builder's one call (the guide's Derived/Test/ToyasCard.lean, 'card_holds'). Laid BY PROGRAM, IN A SANDBOX (cutbox-door.mjs). By AI agents, Wed Nov 11 2026. No macro, syntax, notation, axiom, sorry.
-/
import Derived.Test.YtgibjnfaagnbfadGreatDoorRows
import GoSem.ClaimSeven
namespace Go.Proofs.YtgibjnfaagnbfadGreatDoor
namespace Rows

/-- THE TIED CARD OF 'copselaw04.SnapFresh'. -/
def snapFreshCard : Claim7 := { stood := { row := snapFreshRow, standIns := [], harness := (true, "625b306d38bec3033fbe5472d9cd3a4a944389374266bc868bd33629ff6f81df"), looks := true }, kinds := [], alts := [], laidByText := true, laidKinds := [.data, .data, .data, .data, .sentinel, .sentinel, .pinned], laidTests := true, laidLooks := .later }
def SnapFreshCardSaid : Prop := Claim7.holds Tryz.pinned (.plain (OpenSpec.ofChange snapFreshSpec)) snapFreshCard

/-- THE SECOND FORM's CARD OF 'copselaw04.SnapFresh'. -/
def snapFreshUptoCard : Claim7 := { stood := { row := snapFreshUptoRow, standIns := [], harness := (true, "625b306d38bec3033fbe5472d9cd3a4a944389374266bc868bd33629ff6f81df"), looks := true }, kinds := [], alts := [], laidByText := true, laidKinds := [.data, .data, .data, .data, .sentinel, .sentinel, .pinned], laidTests := true, laidLooks := .later }
def SnapFreshUptoCardSaid : Prop := Claim7.holds Tryz.pinned (.plain (OpenSpec.upto snapFreshSpec)) snapFreshUptoCard
end Rows
end Go.Proofs.YtgibjnfaagnbfadGreatDoor
