import Derived.Test.YtpnlajbcbcheeabRef2
import Derived.Test.YtpnlajbcbcheeabKnown
import Derived.Test.YtpnlajbcbcheeabParts
import Derived.Deep.DeepCutAuto
namespace Go.Proofs.Ytpnlajbcbcheeab
open Go.RowKit

/-- does a statement begin with this region? -/
def beg (n : Nat) : Code → Bool
  | .region m _ _ => m == n
  | .seq a _ => beg n a
  | .block _ c => beg n c
  | .loop c => beg n c
  | .scope c => beg n c
  | _ => false
/-- what stands from there on -/
def suff (n : Nat) : Code → Code
  | .seq a b => if beg n a then .seq a b else suff n b
  | c => c
/-- its first statement -/
def fst1 : Code → Code
  | .seq a _ => a
  | c => c
/-- and the rest -/
def rst1 : Code → Code
  | .seq _ b => b
  | _ => .skip
noncomputable def body4 : Code := Try.f4.body.getD .skip
noncomputable def st11 : Code := fst1 (suff 11 body4)
noncomputable def rs11 : Code := rst1 (suff 11 body4)
noncomputable def cd12 : Code := suff 12 body4
noncomputable def cd14 : Code := suff 14 body4
noncomputable def cd15 : Code := suff 15 body4
noncomputable def cd19 : Code := suff 19 body4
noncomputable def cd21 : Code := suff 21 body4
noncomputable def cd22 : Code := suff 22 body4
noncomputable def cd24 : Code := suff 24 body4
noncomputable def cd27 : Code := suff 27 body4
noncomputable def cd29 : Code := suff 29 body4
noncomputable def cd30 : Code := suff 30 body4
noncomputable def cd31 : Code := suff 31 body4
noncomputable def cd33 : Code := suff 33 body4
noncomputable def cd34 : Code := suff 34 body4
noncomputable def cd35 : Code := suff 35 body4
/-- what PathParts answers -/
def Good (w : World) (e : Ending) (w' : World) : Prop := e = .returned (.bool true) ∧ Below w.heap.size w w'
theorem all_take_snoc (L : List (List UInt8)) (k : Nat) (h : k < L.length) : (L.take (k + 1)).all okC = ((L.take k).all okC && okC (L[k]'h)) := by
  rw [List.take_add_one, List.getElem?_eq_getElem h, Option.toList_some, List.all_append]; simp
end Go.Proofs.Ytpnlajbcbcheeab
