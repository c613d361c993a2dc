/-
  GlobParts: words.
-/
import Derived.Test.YtebidnepanogcaaDoorPp
import Derived.Test.YtebidnepanogcaaDoorOpen
namespace Go.Proofs.YtebidnepanogcaaDoor
open Go.RowKit

theorem gw_same {w : World} {f : Nat} {args : Array Value} {v : Value} (h : ∀ W : World, Calls Tryd.prog f args W fun e w' => e = .returned v ∧ w' = W) (X : GW w) :
    Calls Tryd.prog f args X.it fun e w' => e = .returned v ∧ ∃ Y : GW w, w' = Y.it :=
  (h X.it).mono fun _ _ ⟨he, hl⟩ => ⟨he, X, hl⟩
theorem gw_ev {w0 w : World} {f : Nat} {args : Array Value} {v : Value} (h : ∀ W : World, Below w0.heap.size w0 W → Calls Tryd.prog f args W fun e w' => e = .returned v ∧ Below W.heap.size W w') (hB : Below w0.heap.size w0 w) (X : GW w) :
    Calls Tryd.prog f args X.it fun e w' => e = .returned v ∧ ∃ Y : GW w, w' = Y.it :=
  (h X.it (bstep hB X.below)).mono fun _ w' ⟨he, hl⟩ => ⟨he, ⟨w', bstep X.below hl⟩, rfl⟩
theorem FS.row {w : World} {a : Option Addr} {n c : Nat} {l : List Fl} (h : FS w (.slice a n c) l) (hn : l.length = n) : FS w (.slice a l.length c) l := by rw [hn]; exact h
end Go.Proofs.YtebidnepanogcaaDoor
