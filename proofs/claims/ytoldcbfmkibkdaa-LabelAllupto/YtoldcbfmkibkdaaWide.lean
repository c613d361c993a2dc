/-
  What came in: labels.
-/
import Derived.Test.YtoldcbfmkibkdaaRows2
import Derived.Test.YtoldcbfmkibkdaaBkA
import Derived.ProofKit
import Derived.OpenShut
import Derived.ShutString
import Derived.ChangeOld
import Derived.JoinedCond
import Derived.SizedLaws
import Derived.Deep.Strs
import Derived.Deep.SlicePairs
import Derived.Lib.SmallJoins
namespace Go.Proofs.Ytoldcbfmkibkdaa
open Go.ChangeShapes Go.WideShapes Go.ChangeAt Go.RowKit Go.Deep Go.Joins

theorem own0 : ownKnob Try.prog.godebug = none := by kernel_rfl
theorem laidOut : laidOutB Try.prog = true := by kernel_rfl
theorem cells9 : Try.prog.cellsOf 9 = 1 := by kernel_rfl
theorem cells23 : Try.prog.cellsOf 23 = 2 := by kernel_rfl
/-- a label's datum -/
def Lb.datum {H : Type} (l : Lb) : DataW H := .agg [.lit (.string l.pkg), .lit (.string l.name)]
theorem w_label {H : Type} (l : Lb) : l.pkg.length ∈ (Lb.datum (H := H) l).weights Try.prog 23 ∧ l.name.length ∈ (Lb.datum (H := H) l).weights Try.prog 23 := by
  simp [Lb.datum, DataW.weights, Try.underlying23, DataW.weightsEach]
set_option maxRecDepth 100000 in
theorem read_label {H : Type} {enc : TypeId × Value → H} {W : World} {base : Nat} {v : Value} {d : DataW H} {ps : List MemPlace} (hok : Value.okWide Try.prog W .any base 23 v)
    (h : DataW.Trod enc Try.prog W 0 (fun _ => true) true 23 v d ps) : ∃ l : Lb, v = l.val ∧ d = l.datum := by
  obtain ⟨c0, c1, y0, y1, m, rfl, rfl, rfl, hy0, hy1⟩ := open_agg2 Try.underlying23 (by kernel_rfl) cells23 hok h
  obtain ⟨s0, e0, x0, ws0⟩ := DataW.trod_string Try.underlying9 hy0
  obtain ⟨s1, e1, x1, ws1⟩ := DataW.trod_string Try.underlying9 hy1
  simp at e0 e1
  subst e0 e1 x0 x1
  exact ⟨⟨s0.data.toList, s1.data.toList⟩, rfl, rfl⟩
theorem open_label {H : Type} {enc : TypeId × Value → H} {W : World} {base : Nat} {v : Value} {d : DataW H} {ps : List MemPlace} (hok : Value.okWide Try.prog W .any base 23 v)
    (h : DataW.Trod enc Try.prog W 0 (fun _ => true) true 23 v d ps) (hd : ∀ n ∈ d.weights Try.prog 23, n ≤ reachBytes) : ∃ l : Lb, v = l.val ∧ Lw l := by
  obtain ⟨l, rfl, rfl⟩ := read_label hok h
  have b1 := hd _ (w_label l).1
  have b2 := hd _ (w_label l).2
  simp only [reachBytes] at b1 b2
  exact ⟨l, rfl, by omega, by omega⟩
end Go.Proofs.Ytoldcbfmkibkdaa
