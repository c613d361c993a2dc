/-
  NARROWER THAN 'FOR EVERY INPUT', by the rows' own cells (each row's printed sentence says how): TreeStops: laid · TreeFresh: laid · TreeSound: laid · TreeScripts: laid.
  DERIVED. THE GIVEN ROWS OF THIS SEAT. 4 by the template 'for every input the law returns true; each argument reads behind the call as it read before'; 0 by the template 'total and deterministic' (their statements: YtlkkmcibjhoneaaGreatDoorTotals.lean).
  GIVEN WITH THE SEED: the statements are not yours to turn. If you find one false, say at which input.
  Laid BY PROGRAM, IN A SANDBOX (cutbox-rows.mjs): the forced cells as the released guide's own fill.sh prints them over the translation e26583e268118d54… (all of the seat's roots in one cut). By AI agents, Wed Nov 11 2026. No macro, syntax, notation, axiom, sorry.
-/
import Derived.Test.YtlkkmcibjhoneaaGreatDoorChecked
import GoSem.Claim
import GoSem.ClaimJoined
import GoSem.ClaimMapViews
import Derived.JoinedTies
import Derived.KernelRfl
namespace Go.Proofs.YtlkkmcibjhoneaaGreatDoor
/- THE CELL 'sum', in the pinned program and in every row, IS THE sha256 OF THE DUMP (.gsa) THAT YtlkkmcibjhoneaaGreatDoorProg.lean LOADS. Nothing in Lean hashes anything: it is a label: what it is worth is what the hold of that sum in a sandbox is worth. -/
noncomputable def Tryz.pinned : Pinned := { name := "ytlkkmcibjhoneaagreatdoor", sum := "e26583e268118d54f15b2ab78e1670ddd11043ce6136ba67edacbfe1a8a2f476", checked := Tryz.checked }
namespace Rows
def none {H : Type} : Left H := { results := [], args := [] }

/- WHAT THE LISTED PACKAGE-LEVEL VARIABLES READ AS WHEN THE CALL BEGINS. Each datum BY PROGRAM (the guide's laid-datum.mjs) off the statement by which the dump's own 'gosem.cut.vars' lays the variable. In a bare row this is a premise. The card (YtlkkmcibjhoneaaGreatDoorCards.lean) ties it to the program's text. -/
def laid_copse_tree_nothing {H : Type} : DataW H := .agg [.lit (.bool false), .lit (.bool false)]
def laid_copse_tree_directory {H : Type} : DataW H := .agg [.lit (.bool false), .lit (.bool true)]
def laid_copse_tree_file {H : Type} : DataW H := .agg [.lit (.bool true), .lit (.bool false)]

/-- 'copselaw21.TreeStops': WHATEVER THE INPUT: true; the input reads as it did. -/
def treeStopsSpec : ChangeSpec := { name := "treeStops", fn := fun _ => fun
  | [d1, d2, d3, d4] => { results := [.lit (.bool true)], args := [d1, d2, d3, d4] }
  | _ => none }
def treeStopsRow : OpenClaim := { program := "ytlkkmcibjhoneaagreatdoor", sum := "e26583e268118d54f15b2ab78e1670ddd11043ce6136ba67edacbfe1a8a2f476", func := "copse/copselaw21.TreeStops", spec := "treeStops", inPlace := ["internal/bytealg.CountString", "internal/bytealg.IndexByteString", "internal/bytealg.IndexString", "internal/bytealg.abigen_runtime_cmpstring", "maps.clone"], unfollowed := true, recurses := true, named := ["internal/bytealg.MaxLen", "copse/tree.nothing", "copse/tree.directory", "copse/tree.file"], apart := false, laid := [("copse/tree.nothing", laid_copse_tree_nothing), ("copse/tree.directory", laid_copse_tree_directory), ("copse/tree.file", laid_copse_tree_file)] }
def TreeStopsSaid : Prop := treeStopsRow.holds Tryz.pinned (OpenSpec.ofChange treeStopsSpec)

/-- ITS FALSE NEIGHBOUR: 'it returns false'. Refute it at one input. -/
def treeStopsWrong : ChangeSpec := { name := "treeStops", fn := fun _ => fun
  | [d1, d2, d3, d4] => { results := [.lit (.bool false)], args := [d1, d2, d3, d4] }
  | _ => none }
def TreeStopsWrongFalsely : Prop := treeStopsRow.holds Tryz.pinned (OpenSpec.ofChange treeStopsWrong)

/-- 'copselaw21.TreeFresh': WHATEVER THE INPUT: true; the input reads as it did. -/
def treeFreshSpec : ChangeSpec := { name := "treeFresh", fn := fun _ => fun
  | [d1, d2] => { results := [.lit (.bool true)], args := [d1, d2] }
  | _ => none }
def treeFreshRow : OpenClaim := { program := "ytlkkmcibjhoneaagreatdoor", sum := "e26583e268118d54f15b2ab78e1670ddd11043ce6136ba67edacbfe1a8a2f476", func := "copse/copselaw21.TreeFresh", spec := "treeFresh", inPlace := ["internal/bytealg.CountString", "internal/bytealg.IndexByteString", "internal/bytealg.IndexString", "internal/bytealg.abigen_runtime_cmpstring", "maps.clone"], unfollowed := true, recurses := true, named := ["internal/bytealg.MaxLen", "copse/tree.nothing", "copse/tree.directory", "copse/tree.file"], apart := false, laid := [("copse/tree.nothing", laid_copse_tree_nothing), ("copse/tree.directory", laid_copse_tree_directory), ("copse/tree.file", laid_copse_tree_file)] }
def TreeFreshSaid : Prop := treeFreshRow.holds Tryz.pinned (OpenSpec.ofChange treeFreshSpec)

/-- ITS FALSE NEIGHBOUR: 'it returns false'. Refute it at one input. -/
def treeFreshWrong : ChangeSpec := { name := "treeFresh", fn := fun _ => fun
  | [d1, d2] => { results := [.lit (.bool false)], args := [d1, d2] }
  | _ => none }
def TreeFreshWrongFalsely : Prop := treeFreshRow.holds Tryz.pinned (OpenSpec.ofChange treeFreshWrong)

/-- 'copselaw21.TreeSound': WHATEVER THE INPUT: true; the input reads as it did. -/
def treeSoundSpec : ChangeSpec := { name := "treeSound", fn := fun _ => fun
  | [d1, d2, d3] => { results := [.lit (.bool true)], args := [d1, d2, d3] }
  | _ => none }
def treeSoundRow : OpenClaim := { program := "ytlkkmcibjhoneaagreatdoor", sum := "e26583e268118d54f15b2ab78e1670ddd11043ce6136ba67edacbfe1a8a2f476", func := "copse/copselaw21.TreeSound", spec := "treeSound", inPlace := ["internal/bytealg.CountString", "internal/bytealg.IndexByteString", "internal/bytealg.IndexString", "internal/bytealg.abigen_runtime_cmpstring", "maps.clone"], unfollowed := true, recurses := true, named := ["internal/bytealg.MaxLen", "copse/tree.nothing", "copse/tree.directory", "copse/tree.file"], apart := false, laid := [("copse/tree.nothing", laid_copse_tree_nothing), ("copse/tree.directory", laid_copse_tree_directory), ("copse/tree.file", laid_copse_tree_file)] }
def TreeSoundSaid : Prop := treeSoundRow.holds Tryz.pinned (OpenSpec.ofChange treeSoundSpec)

/-- ITS FALSE NEIGHBOUR: 'it returns false'. Refute it at one input. -/
def treeSoundWrong : ChangeSpec := { name := "treeSound", fn := fun _ => fun
  | [d1, d2, d3] => { results := [.lit (.bool false)], args := [d1, d2, d3] }
  | _ => none }
def TreeSoundWrongFalsely : Prop := treeSoundRow.holds Tryz.pinned (OpenSpec.ofChange treeSoundWrong)

/-- 'copselaw21.TreeScripts': WHATEVER THE INPUT: true; the input reads as it did. -/
def treeScriptsSpec : ChangeSpec := { name := "treeScripts", fn := fun _ => fun
  | [d1, d2] => { results := [.lit (.bool true)], args := [d1, d2] }
  | _ => none }
def treeScriptsRow : OpenClaim := { program := "ytlkkmcibjhoneaagreatdoor", sum := "e26583e268118d54f15b2ab78e1670ddd11043ce6136ba67edacbfe1a8a2f476", func := "copse/copselaw21.TreeScripts", spec := "treeScripts", inPlace := ["internal/bytealg.CountString", "internal/bytealg.IndexByteString", "internal/bytealg.IndexString", "internal/bytealg.abigen_runtime_cmpstring", "maps.clone"], unfollowed := true, recurses := true, named := ["internal/bytealg.MaxLen", "copse/tree.nothing", "copse/tree.directory", "copse/tree.file"], apart := false, laid := [("copse/tree.nothing", laid_copse_tree_nothing), ("copse/tree.directory", laid_copse_tree_directory), ("copse/tree.file", laid_copse_tree_file)] }
def TreeScriptsSaid : Prop := treeScriptsRow.holds Tryz.pinned (OpenSpec.ofChange treeScriptsSpec)

/-- ITS FALSE NEIGHBOUR: 'it returns false'. Refute it at one input. -/
def treeScriptsWrong : ChangeSpec := { name := "treeScripts", fn := fun _ => fun
  | [d1, d2] => { results := [.lit (.bool false)], args := [d1, d2] }
  | _ => none }
def TreeScriptsWrongFalsely : Prop := treeScriptsRow.holds Tryz.pinned (OpenSpec.ofChange treeScriptsWrong)

/- THE SECOND FORM. 'bulk': how many values and letters a reading holds, each counted each time it is reached (what is shared counts as often as it is met; a slice's spare places count too). A statement '..UptoSaid' is the law's where the arguments, and the package variables that the reading takes, are together of bulk at most 1048576: NARROWER than '..Said'. Prove '..Said' where nothing that the law and all that it calls make is longer than what came in: it says more and counts as full. Else prove '..UptoSaid'. A law counts once. -/
mutual
def uptoBulk {H : Type} : DataW H → Nat
  | .lit (.string bytes) => bytes.length + 1
  | .lit _ => 1
  | .nil => 1
  | .ptr d => uptoBulk d + 1
  | .slice elems spare => uptoBulkAll elems + uptoBulkAll spare + 1
  | .agg parts => uptoBulkAll parts + 1
  | .iface _ d => uptoBulk d + 1
  | .map entries => uptoBulkEntries entries + 1
  | .held _ => 1
def uptoBulkAll {H : Type} : List (DataW H) → Nat
  | [] => 0
  | d :: r => uptoBulk d + uptoBulkAll r
def uptoBulkEntries {H : Type} : List (Lit × DataW H) → Nat
  | [] => 0
  | x :: r => uptoBulkEntry x + uptoBulkEntries r
def uptoBulkEntry {H : Type} : Lit × DataW H → Nat
  | (.string bytes, d) => bytes.length + uptoBulk d + 1
  | (_, d) => uptoBulk d + 1
 end
def uptoSmall : (H : Type) → List (DataW H) → Bool := fun _ ds => decide (uptoBulkAll ds ≤ 1048576)
def OpenSpec.upto (s : _root_.Go.ChangeSpec) : _root_.Go.OpenSpec := { _root_.Go.OpenSpec.ofChange s with cond := some uptoSmall }

/-- 'copselaw21.TreeStops', WHERE WHAT IT READS IS OF BULK AT MOST 1048576: true; the input reads as it did. -/
def treeStopsUptoRow : OpenClaim := { program := "ytlkkmcibjhoneaagreatdoor", sum := "e26583e268118d54f15b2ab78e1670ddd11043ce6136ba67edacbfe1a8a2f476", func := "copse/copselaw21.TreeStops", spec := "treeStops", inPlace := ["internal/bytealg.CountString", "internal/bytealg.IndexByteString", "internal/bytealg.IndexString", "internal/bytealg.abigen_runtime_cmpstring", "maps.clone"], unfollowed := true, recurses := true, named := ["internal/bytealg.MaxLen", "copse/tree.nothing", "copse/tree.directory", "copse/tree.file"], apart := false, laid := [("copse/tree.nothing", laid_copse_tree_nothing), ("copse/tree.directory", laid_copse_tree_directory), ("copse/tree.file", laid_copse_tree_file)], narrowed := true }
def TreeStopsUptoSaid : Prop := treeStopsUptoRow.holds Tryz.pinned (OpenSpec.upto treeStopsSpec)

/-- 'copselaw21.TreeFresh', WHERE WHAT IT READS IS OF BULK AT MOST 1048576: true; the input reads as it did. -/
def treeFreshUptoRow : OpenClaim := { program := "ytlkkmcibjhoneaagreatdoor", sum := "e26583e268118d54f15b2ab78e1670ddd11043ce6136ba67edacbfe1a8a2f476", func := "copse/copselaw21.TreeFresh", spec := "treeFresh", inPlace := ["internal/bytealg.CountString", "internal/bytealg.IndexByteString", "internal/bytealg.IndexString", "internal/bytealg.abigen_runtime_cmpstring", "maps.clone"], unfollowed := true, recurses := true, named := ["internal/bytealg.MaxLen", "copse/tree.nothing", "copse/tree.directory", "copse/tree.file"], apart := false, laid := [("copse/tree.nothing", laid_copse_tree_nothing), ("copse/tree.directory", laid_copse_tree_directory), ("copse/tree.file", laid_copse_tree_file)], narrowed := true }
def TreeFreshUptoSaid : Prop := treeFreshUptoRow.holds Tryz.pinned (OpenSpec.upto treeFreshSpec)

/-- 'copselaw21.TreeSound', WHERE WHAT IT READS IS OF BULK AT MOST 1048576: true; the input reads as it did. -/
def treeSoundUptoRow : OpenClaim := { program := "ytlkkmcibjhoneaagreatdoor", sum := "e26583e268118d54f15b2ab78e1670ddd11043ce6136ba67edacbfe1a8a2f476", func := "copse/copselaw21.TreeSound", spec := "treeSound", inPlace := ["internal/bytealg.CountString", "internal/bytealg.IndexByteString", "internal/bytealg.IndexString", "internal/bytealg.abigen_runtime_cmpstring", "maps.clone"], unfollowed := true, recurses := true, named := ["internal/bytealg.MaxLen", "copse/tree.nothing", "copse/tree.directory", "copse/tree.file"], apart := false, laid := [("copse/tree.nothing", laid_copse_tree_nothing), ("copse/tree.directory", laid_copse_tree_directory), ("copse/tree.file", laid_copse_tree_file)], narrowed := true }
def TreeSoundUptoSaid : Prop := treeSoundUptoRow.holds Tryz.pinned (OpenSpec.upto treeSoundSpec)

/-- 'copselaw21.TreeScripts', WHERE WHAT IT READS IS OF BULK AT MOST 1048576: true; the input reads as it did. -/
def treeScriptsUptoRow : OpenClaim := { program := "ytlkkmcibjhoneaagreatdoor", sum := "e26583e268118d54f15b2ab78e1670ddd11043ce6136ba67edacbfe1a8a2f476", func := "copse/copselaw21.TreeScripts", spec := "treeScripts", inPlace := ["internal/bytealg.CountString", "internal/bytealg.IndexByteString", "internal/bytealg.IndexString", "internal/bytealg.abigen_runtime_cmpstring", "maps.clone"], unfollowed := true, recurses := true, named := ["internal/bytealg.MaxLen", "copse/tree.nothing", "copse/tree.directory", "copse/tree.file"], apart := false, laid := [("copse/tree.nothing", laid_copse_tree_nothing), ("copse/tree.directory", laid_copse_tree_directory), ("copse/tree.file", laid_copse_tree_file)], narrowed := true }
def TreeScriptsUptoSaid : Prop := treeScriptsUptoRow.holds Tryz.pinned (OpenSpec.upto treeScriptsSpec)

end Rows
end Go.Proofs.YtlkkmcibjhoneaaGreatDoor
