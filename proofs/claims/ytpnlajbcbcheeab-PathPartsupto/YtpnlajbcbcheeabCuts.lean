import Derived.Test.YtpnlajbcbcheeabRef2
import Derived.Test.YtpnlajbcbcheeabKnown
import Derived.Test.YtpnlajbcbcheeabParts
import Derived.Deep.DeepCutAuto
namespace Go.Proofs.Ytpnlajbcbcheeab
open Go.RowKit

/-- does a statement begin with this region? -/
def beg (n : Nat) : Code → Bool
  | .region m _ _ => m == n
  | .seq a _ => beg n a
  | .block _ c => beg n c
  | .loop c => beg n c
  | .scope c => beg n c
  | _ => false
/-- what stands from there on -/
def suff (n : Nat) : Code → Code
  | .seq a b => if beg n a then .seq a b else suff n b
  | c => c
/-- its first statement -/
def fst1 : Code → Code
  | .seq a _ => a
  | c => c
/-- and the rest -/
def rst1 : Code → Code
  | .seq _ b => b
  | _ => .skip
/-- what PathParts answers -/
def Good (w : World) (e : Ending) (w' : World) : Prop := e = .returned (.bool true) ∧ Below w.heap.size w w'
theorem all_take_snoc (L : List (List UInt8)) (k : Nat) (h : k < L.length) : (L.take (k + 1)).all okC = ((L.take k).all okC && okC (L[k]'h)) := by
  rw [List.take_add_one, List.getElem?_eq_getElem h, Option.toList_some, List.all_append]; simp
end Go.Proofs.Ytpnlajbcbcheeab
