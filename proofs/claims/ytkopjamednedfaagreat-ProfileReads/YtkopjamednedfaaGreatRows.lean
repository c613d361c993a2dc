/-
  No cell of these rows narrows 'for every input' (looked for: loops, veiled, ifaces, maps, wideKeys, modest, calm, conditions, laid).
  DERIVED. THE GIVEN ROWS OF THIS SEAT. 4 by the template 'for every input the law returns true; each argument reads behind the call as it read before'; 0 by the template 'total and deterministic' (their statements: YtkopjamednedfaaGreatTotals.lean).
  GIVEN WITH THE SEED: the statements are not yours to turn. If you find one false, say at which input.
  Laid BY PROGRAM, IN A SANDBOX (cutbox-rows.mjs): the forced cells as the released guide's own fill.sh prints them over the translation cb1331286eab7f85… (all of the seat's roots in one cut). By AI agents, Wed Nov 11 2026. No macro, syntax, notation, axiom, sorry.
-/
import Derived.Test.YtkopjamednedfaaGreatChecked
import GoSem.Claim
import GoSem.ClaimJoined
import GoSem.ClaimMapViews
import Derived.JoinedTies
import Derived.KernelRfl
namespace Go.Proofs.YtkopjamednedfaaGreat
/- THE CELL 'sum', in the pinned program and in every row, IS THE sha256 OF THE DUMP (.gsa) THAT YtkopjamednedfaaGreatProg.lean LOADS. Nothing in Lean hashes anything: it is a label: what it is worth is what the hold of that sum in a sandbox is worth. -/
noncomputable def Tryz.pinned : Pinned := { name := "ytkopjamednedfaagreat", sum := "cb1331286eab7f85bc50e3412a215cfc817b0e3e768aadf2b454bd5d13a79a0d", checked := Tryz.checked }
namespace Rows
def none {H : Type} : Left H := { results := [], args := [] }

/-- 'copselaw17.ProfileShows': WHATEVER THE INPUT: true; the input reads as it did. -/
def profileShowsSpec : ChangeSpec := { name := "profileShows", fn := fun _ => fun
  | [d1, d2] => { results := [.lit (.bool true)], args := [d1, d2] }
  | _ => none }
def profileShowsRow : OpenClaim := { program := "ytkopjamednedfaagreat", sum := "cb1331286eab7f85bc50e3412a215cfc817b0e3e768aadf2b454bd5d13a79a0d", func := "copse/copselaw17.ProfileShows", spec := "profileShows", inPlace := ["internal/bytealg.CountString", "internal/bytealg.IndexByteString", "internal/bytealg.IndexString", "internal/bytealg.abigen_runtime_cmpstring", "internal/abi.NoEscape", "internal/bytealg.MakeNoZero"], unfollowed := true, recurses := true, named := ["internal/bytealg.MaxLen"], apart := false }
def ProfileShowsSaid : Prop := profileShowsRow.holds Tryz.pinned (OpenSpec.ofChange profileShowsSpec)

/-- ITS FALSE NEIGHBOUR: 'it returns false'. Refute it at one input. -/
def profileShowsWrong : ChangeSpec := { name := "profileShows", fn := fun _ => fun
  | [d1, d2] => { results := [.lit (.bool false)], args := [d1, d2] }
  | _ => none }
def ProfileShowsWrongFalsely : Prop := profileShowsRow.holds Tryz.pinned (OpenSpec.ofChange profileShowsWrong)

/-- 'copselaw17.ProfileWrites': WHATEVER THE INPUT: true; the input reads as it did. -/
def profileWritesSpec : ChangeSpec := { name := "profileWrites", fn := fun _ => fun
  | [d] => { results := [.lit (.bool true)], args := [d] }
  | _ => none }
def profileWritesRow : OpenClaim := { program := "ytkopjamednedfaagreat", sum := "cb1331286eab7f85bc50e3412a215cfc817b0e3e768aadf2b454bd5d13a79a0d", func := "copse/copselaw17.ProfileWrites", spec := "profileWrites", inPlace := ["internal/bytealg.CountString", "internal/bytealg.IndexByteString", "internal/bytealg.IndexString", "internal/bytealg.abigen_runtime_cmpstring", "internal/abi.NoEscape", "internal/bytealg.MakeNoZero"], unfollowed := true, recurses := true, named := ["internal/bytealg.MaxLen"], apart := false }
def ProfileWritesSaid : Prop := profileWritesRow.holds Tryz.pinned (OpenSpec.ofChange profileWritesSpec)

/-- ITS FALSE NEIGHBOUR: 'it returns false'. Refute it at one input. -/
def profileWritesWrong : ChangeSpec := { name := "profileWrites", fn := fun _ => fun
  | [d] => { results := [.lit (.bool false)], args := [d] }
  | _ => none }
def ProfileWritesWrongFalsely : Prop := profileWritesRow.holds Tryz.pinned (OpenSpec.ofChange profileWritesWrong)

/-- 'copselaw17.ProfileReads': WHATEVER THE INPUT: true; the input reads as it did. -/
def profileReadsSpec : ChangeSpec := { name := "profileReads", fn := fun _ => fun
  | [d] => { results := [.lit (.bool true)], args := [d] }
  | _ => none }
def profileReadsRow : OpenClaim := { program := "ytkopjamednedfaagreat", sum := "cb1331286eab7f85bc50e3412a215cfc817b0e3e768aadf2b454bd5d13a79a0d", func := "copse/copselaw17.ProfileReads", spec := "profileReads", inPlace := ["internal/bytealg.IndexByteString", "internal/bytealg.CountString", "internal/bytealg.IndexString", "internal/bytealg.abigen_runtime_cmpstring", "internal/abi.NoEscape", "internal/bytealg.MakeNoZero"], unfollowed := true, recurses := true, named := ["internal/bytealg.MaxLen"], apart := false }
def ProfileReadsSaid : Prop := profileReadsRow.holds Tryz.pinned (OpenSpec.ofChange profileReadsSpec)

/-- ITS FALSE NEIGHBOUR: 'it returns false'. Refute it at one input. -/
def profileReadsWrong : ChangeSpec := { name := "profileReads", fn := fun _ => fun
  | [d] => { results := [.lit (.bool false)], args := [d] }
  | _ => none }
def ProfileReadsWrongFalsely : Prop := profileReadsRow.holds Tryz.pinned (OpenSpec.ofChange profileReadsWrong)

/-- 'copselaw17.ProfileFresh': WHATEVER THE INPUT: true; the input reads as it did. -/
def profileFreshSpec : ChangeSpec := { name := "profileFresh", fn := fun _ => fun
  | [d1, d2] => { results := [.lit (.bool true)], args := [d1, d2] }
  | _ => none }
def profileFreshRow : OpenClaim := { program := "ytkopjamednedfaagreat", sum := "cb1331286eab7f85bc50e3412a215cfc817b0e3e768aadf2b454bd5d13a79a0d", func := "copse/copselaw17.ProfileFresh", spec := "profileFresh", inPlace := ["internal/bytealg.CountString", "internal/bytealg.IndexByteString", "internal/bytealg.IndexString", "internal/bytealg.abigen_runtime_cmpstring", "internal/abi.NoEscape", "internal/bytealg.MakeNoZero"], unfollowed := true, recurses := true, named := ["internal/bytealg.MaxLen"], apart := false }
def ProfileFreshSaid : Prop := profileFreshRow.holds Tryz.pinned (OpenSpec.ofChange profileFreshSpec)

/-- ITS FALSE NEIGHBOUR: 'it returns false'. Refute it at one input. -/
def profileFreshWrong : ChangeSpec := { name := "profileFresh", fn := fun _ => fun
  | [d1, d2] => { results := [.lit (.bool false)], args := [d1, d2] }
  | _ => none }
def ProfileFreshWrongFalsely : Prop := profileFreshRow.holds Tryz.pinned (OpenSpec.ofChange profileFreshWrong)

/- THE SECOND FORM. 'bulk': how many values and letters a reading holds, each counted each time it is reached (what is shared counts as often as it is met; a slice's spare places count too). A statement '..UptoSaid' is the law's where the arguments, and the package variables that the reading takes, are together of bulk at most 1048576: NARROWER than '..Said'. Prove '..Said' where nothing that the law and all that it calls make is longer than what came in: it says more and counts as full. Else prove '..UptoSaid'. A law counts once. -/
mutual
def uptoBulk {H : Type} : DataW H → Nat
  | .lit (.string bytes) => bytes.length + 1
  | .lit _ => 1
  | .nil => 1
  | .ptr d => uptoBulk d + 1
  | .slice elems spare => uptoBulkAll elems + uptoBulkAll spare + 1
  | .agg parts => uptoBulkAll parts + 1
  | .iface _ d => uptoBulk d + 1
  | .map entries => uptoBulkEntries entries + 1
  | .held _ => 1
def uptoBulkAll {H : Type} : List (DataW H) → Nat
  | [] => 0
  | d :: r => uptoBulk d + uptoBulkAll r
def uptoBulkEntries {H : Type} : List (Lit × DataW H) → Nat
  | [] => 0
  | x :: r => uptoBulkEntry x + uptoBulkEntries r
def uptoBulkEntry {H : Type} : Lit × DataW H → Nat
  | (.string bytes, d) => bytes.length + uptoBulk d + 1
  | (_, d) => uptoBulk d + 1
 end
def uptoSmall : (H : Type) → List (DataW H) → Bool := fun _ ds => decide (uptoBulkAll ds ≤ 1048576)
def OpenSpec.upto (s : _root_.Go.ChangeSpec) : _root_.Go.OpenSpec := { _root_.Go.OpenSpec.ofChange s with cond := some uptoSmall }

/-- 'copselaw17.ProfileShows', WHERE WHAT IT READS IS OF BULK AT MOST 1048576: true; the input reads as it did. -/
def profileShowsUptoRow : OpenClaim := { program := "ytkopjamednedfaagreat", sum := "cb1331286eab7f85bc50e3412a215cfc817b0e3e768aadf2b454bd5d13a79a0d", func := "copse/copselaw17.ProfileShows", spec := "profileShows", inPlace := ["internal/bytealg.CountString", "internal/bytealg.IndexByteString", "internal/bytealg.IndexString", "internal/bytealg.abigen_runtime_cmpstring", "internal/abi.NoEscape", "internal/bytealg.MakeNoZero"], unfollowed := true, recurses := true, named := ["internal/bytealg.MaxLen"], apart := false, narrowed := true }
def ProfileShowsUptoSaid : Prop := profileShowsUptoRow.holds Tryz.pinned (OpenSpec.upto profileShowsSpec)

/-- 'copselaw17.ProfileWrites', WHERE WHAT IT READS IS OF BULK AT MOST 1048576: true; the input reads as it did. -/
def profileWritesUptoRow : OpenClaim := { program := "ytkopjamednedfaagreat", sum := "cb1331286eab7f85bc50e3412a215cfc817b0e3e768aadf2b454bd5d13a79a0d", func := "copse/copselaw17.ProfileWrites", spec := "profileWrites", inPlace := ["internal/bytealg.CountString", "internal/bytealg.IndexByteString", "internal/bytealg.IndexString", "internal/bytealg.abigen_runtime_cmpstring", "internal/abi.NoEscape", "internal/bytealg.MakeNoZero"], unfollowed := true, recurses := true, named := ["internal/bytealg.MaxLen"], apart := false, narrowed := true }
def ProfileWritesUptoSaid : Prop := profileWritesUptoRow.holds Tryz.pinned (OpenSpec.upto profileWritesSpec)

/-- 'copselaw17.ProfileReads', WHERE WHAT IT READS IS OF BULK AT MOST 1048576: true; the input reads as it did. -/
def profileReadsUptoRow : OpenClaim := { program := "ytkopjamednedfaagreat", sum := "cb1331286eab7f85bc50e3412a215cfc817b0e3e768aadf2b454bd5d13a79a0d", func := "copse/copselaw17.ProfileReads", spec := "profileReads", inPlace := ["internal/bytealg.IndexByteString", "internal/bytealg.CountString", "internal/bytealg.IndexString", "internal/bytealg.abigen_runtime_cmpstring", "internal/abi.NoEscape", "internal/bytealg.MakeNoZero"], unfollowed := true, recurses := true, named := ["internal/bytealg.MaxLen"], apart := false, narrowed := true }
def ProfileReadsUptoSaid : Prop := profileReadsUptoRow.holds Tryz.pinned (OpenSpec.upto profileReadsSpec)

/-- 'copselaw17.ProfileFresh', WHERE WHAT IT READS IS OF BULK AT MOST 1048576: true; the input reads as it did. -/
def profileFreshUptoRow : OpenClaim := { program := "ytkopjamednedfaagreat", sum := "cb1331286eab7f85bc50e3412a215cfc817b0e3e768aadf2b454bd5d13a79a0d", func := "copse/copselaw17.ProfileFresh", spec := "profileFresh", inPlace := ["internal/bytealg.CountString", "internal/bytealg.IndexByteString", "internal/bytealg.IndexString", "internal/bytealg.abigen_runtime_cmpstring", "internal/abi.NoEscape", "internal/bytealg.MakeNoZero"], unfollowed := true, recurses := true, named := ["internal/bytealg.MaxLen"], apart := false, narrowed := true }
def ProfileFreshUptoSaid : Prop := profileFreshUptoRow.holds Tryz.pinned (OpenSpec.upto profileFreshSpec)

end Rows
end Go.Proofs.YtkopjamednedfaaGreat
