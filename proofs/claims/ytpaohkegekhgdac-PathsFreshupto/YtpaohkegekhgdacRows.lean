/-
  No cell of these rows narrows 'for every input' (looked for: loops, veiled, ifaces, maps, wideKeys, modest, calm, conditions, laid).
  DERIVED. THE GIVEN ROWS OF THIS SEAT. 3 by the template 'for every input the law returns true; each argument reads behind the call as it read before'; 0 by the template 'total and deterministic' (their statements: YtpaohkegekhgdacTotals.lean).
  GIVEN WITH THE SEED: the statements are not yours to turn. If you find one false, say at which input.
  Laid BY PROGRAM, IN A SANDBOX (cutbox-rows.mjs): the forced cells as the released guide's own fill.sh prints them over the translation 7e957cdd863c7a6b… (all of the seat's roots in one cut). By AI agents, Wed Nov 11 2026. No macro, syntax, notation, axiom, sorry.
-/
import Derived.Test.YtpaohkegekhgdacChecked
import GoSem.Claim
import GoSem.ClaimJoined
import GoSem.ClaimMapViews
import Derived.JoinedTies
import Derived.KernelRfl
namespace Go.Proofs.Ytpaohkegekhgdac
/- THE CELL 'sum', in the pinned program and in every row, IS THE sha256 OF THE DUMP (.gsa) THAT YtpaohkegekhgdacProg.lean LOADS. Nothing in Lean hashes anything: it is a label: what it is worth is what the hold of that sum in a sandbox is worth. -/
noncomputable def Try.pinned : Pinned := { name := "ytpaohkegekhgdac", sum := "7e957cdd863c7a6b13ee3ace986d8d63829668ed874a9d1ed14b2951bbf6b0a0", checked := Try.checked }
namespace Rows
def none {H : Type} : Left H := { results := [], args := [] }

/-- 'copselaw03.PathsSets': WHATEVER THE INPUT: true; the input reads as it did. -/
def pathsSetsSpec : ChangeSpec := { name := "pathsSets", fn := fun _ => fun
  | [d1, d2] => { results := [.lit (.bool true)], args := [d1, d2] }
  | _ => none }
def pathsSetsRow : OpenClaim := { program := "ytpaohkegekhgdac", sum := "7e957cdd863c7a6b13ee3ace986d8d63829668ed874a9d1ed14b2951bbf6b0a0", func := "copse/copselaw03.PathsSets", spec := "pathsSets", inPlace := ["internal/bytealg.IndexByteString", "internal/bytealg.IndexString", "internal/bytealg.abigen_runtime_cmpstring"], unfollowed := true, recurses := true, named := ["internal/bytealg.MaxLen"], apart := false }
def PathsSetsSaid : Prop := pathsSetsRow.holds Try.pinned (OpenSpec.ofChange pathsSetsSpec)

/-- ITS FALSE NEIGHBOUR: 'it returns false'. Refute it at one input. -/
def pathsSetsWrong : ChangeSpec := { name := "pathsSets", fn := fun _ => fun
  | [d1, d2] => { results := [.lit (.bool false)], args := [d1, d2] }
  | _ => none }
def PathsSetsWrongFalsely : Prop := pathsSetsRow.holds Try.pinned (OpenSpec.ofChange pathsSetsWrong)

/-- 'copselaw03.PathsAll': WHATEVER THE INPUT: true; the input reads as it did. -/
def pathsAllSpec : ChangeSpec := { name := "pathsAll", fn := fun _ => fun
  | [d1, d2, d3] => { results := [.lit (.bool true)], args := [d1, d2, d3] }
  | _ => none }
def pathsAllRow : OpenClaim := { program := "ytpaohkegekhgdac", sum := "7e957cdd863c7a6b13ee3ace986d8d63829668ed874a9d1ed14b2951bbf6b0a0", func := "copse/copselaw03.PathsAll", spec := "pathsAll", inPlace := ["internal/bytealg.IndexByteString", "internal/bytealg.IndexString", "internal/bytealg.abigen_runtime_cmpstring"], unfollowed := true, recurses := true, named := ["internal/bytealg.MaxLen"], apart := false }
def PathsAllSaid : Prop := pathsAllRow.holds Try.pinned (OpenSpec.ofChange pathsAllSpec)

/-- ITS FALSE NEIGHBOUR: 'it returns false'. Refute it at one input. -/
def pathsAllWrong : ChangeSpec := { name := "pathsAll", fn := fun _ => fun
  | [d1, d2, d3] => { results := [.lit (.bool false)], args := [d1, d2, d3] }
  | _ => none }
def PathsAllWrongFalsely : Prop := pathsAllRow.holds Try.pinned (OpenSpec.ofChange pathsAllWrong)

/-- 'copselaw03.PathsFresh': WHATEVER THE INPUT: true; the input reads as it did. -/
def pathsFreshSpec : ChangeSpec := { name := "pathsFresh", fn := fun _ => fun
  | [d1, d2] => { results := [.lit (.bool true)], args := [d1, d2] }
  | _ => none }
def pathsFreshRow : OpenClaim := { program := "ytpaohkegekhgdac", sum := "7e957cdd863c7a6b13ee3ace986d8d63829668ed874a9d1ed14b2951bbf6b0a0", func := "copse/copselaw03.PathsFresh", spec := "pathsFresh", inPlace := ["internal/bytealg.IndexByteString", "internal/bytealg.IndexString", "internal/bytealg.abigen_runtime_cmpstring"], unfollowed := true, recurses := true, named := ["internal/bytealg.MaxLen"], apart := false }
def PathsFreshSaid : Prop := pathsFreshRow.holds Try.pinned (OpenSpec.ofChange pathsFreshSpec)

/-- ITS FALSE NEIGHBOUR: 'it returns false'. Refute it at one input. -/
def pathsFreshWrong : ChangeSpec := { name := "pathsFresh", fn := fun _ => fun
  | [d1, d2] => { results := [.lit (.bool false)], args := [d1, d2] }
  | _ => none }
def PathsFreshWrongFalsely : Prop := pathsFreshRow.holds Try.pinned (OpenSpec.ofChange pathsFreshWrong)

/- THE SECOND FORM. 'bulk': how many values and letters a reading holds, each counted each time it is reached (what is shared counts as often as it is met; a slice's spare places count too). A statement '..UptoSaid' is the law's where the arguments, and the package variables that the reading takes, are together of bulk at most 1048576: NARROWER than '..Said'. Prove '..Said' where nothing that the law and all that it calls make is longer than what came in: it says more and counts as full. Else prove '..UptoSaid'. A law counts once. -/
mutual
def uptoBulk {H : Type} : DataW H → Nat
  | .lit (.string bytes) => bytes.length + 1
  | .lit _ => 1
  | .nil => 1
  | .ptr d => uptoBulk d + 1
  | .slice elems spare => uptoBulkAll elems + uptoBulkAll spare + 1
  | .agg parts => uptoBulkAll parts + 1
  | .iface _ d => uptoBulk d + 1
  | .map entries => uptoBulkEntries entries + 1
  | .held _ => 1
def uptoBulkAll {H : Type} : List (DataW H) → Nat
  | [] => 0
  | d :: r => uptoBulk d + uptoBulkAll r
def uptoBulkEntries {H : Type} : List (Lit × DataW H) → Nat
  | [] => 0
  | x :: r => uptoBulkEntry x + uptoBulkEntries r
def uptoBulkEntry {H : Type} : Lit × DataW H → Nat
  | (.string bytes, d) => bytes.length + uptoBulk d + 1
  | (_, d) => uptoBulk d + 1
 end
def uptoSmall : (H : Type) → List (DataW H) → Bool := fun _ ds => decide (uptoBulkAll ds ≤ 1048576)
def OpenSpec.upto (s : _root_.Go.ChangeSpec) : _root_.Go.OpenSpec := { _root_.Go.OpenSpec.ofChange s with cond := some uptoSmall }

/-- 'copselaw03.PathsSets', WHERE WHAT IT READS IS OF BULK AT MOST 1048576: true; the input reads as it did. -/
def pathsSetsUptoRow : OpenClaim := { program := "ytpaohkegekhgdac", sum := "7e957cdd863c7a6b13ee3ace986d8d63829668ed874a9d1ed14b2951bbf6b0a0", func := "copse/copselaw03.PathsSets", spec := "pathsSets", inPlace := ["internal/bytealg.IndexByteString", "internal/bytealg.IndexString", "internal/bytealg.abigen_runtime_cmpstring"], unfollowed := true, recurses := true, named := ["internal/bytealg.MaxLen"], apart := false, narrowed := true }
def PathsSetsUptoSaid : Prop := pathsSetsUptoRow.holds Try.pinned (OpenSpec.upto pathsSetsSpec)

/-- 'copselaw03.PathsAll', WHERE WHAT IT READS IS OF BULK AT MOST 1048576: true; the input reads as it did. -/
def pathsAllUptoRow : OpenClaim := { program := "ytpaohkegekhgdac", sum := "7e957cdd863c7a6b13ee3ace986d8d63829668ed874a9d1ed14b2951bbf6b0a0", func := "copse/copselaw03.PathsAll", spec := "pathsAll", inPlace := ["internal/bytealg.IndexByteString", "internal/bytealg.IndexString", "internal/bytealg.abigen_runtime_cmpstring"], unfollowed := true, recurses := true, named := ["internal/bytealg.MaxLen"], apart := false, narrowed := true }
def PathsAllUptoSaid : Prop := pathsAllUptoRow.holds Try.pinned (OpenSpec.upto pathsAllSpec)

/-- 'copselaw03.PathsFresh', WHERE WHAT IT READS IS OF BULK AT MOST 1048576: true; the input reads as it did. -/
def pathsFreshUptoRow : OpenClaim := { program := "ytpaohkegekhgdac", sum := "7e957cdd863c7a6b13ee3ace986d8d63829668ed874a9d1ed14b2951bbf6b0a0", func := "copse/copselaw03.PathsFresh", spec := "pathsFresh", inPlace := ["internal/bytealg.IndexByteString", "internal/bytealg.IndexString", "internal/bytealg.abigen_runtime_cmpstring"], unfollowed := true, recurses := true, named := ["internal/bytealg.MaxLen"], apart := false, narrowed := true }
def PathsFreshUptoSaid : Prop := pathsFreshUptoRow.holds Try.pinned (OpenSpec.upto pathsFreshSpec)

end Rows
end Go.Proofs.Ytpaohkegekhgdac
