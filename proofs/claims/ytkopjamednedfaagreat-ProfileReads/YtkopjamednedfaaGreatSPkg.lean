/-
  The package: one file, and files together.
-/
import Derived.Test.YtkopjamednedfaaGreatRows2
import Derived.Deep.RegionHeld3
import Derived.BigQuiet
namespace Go.Proofs.YtkopjamednedfaaGreat
open Go.RowKit

structure GW (w : World) where
  it : World
  below : Below w.heap.size w it
theorem gw_ne (w : World) : Nonempty (GW w) := ⟨⟨w, Below.refl _ _⟩⟩
/-- a region that draws its order, whose operations read and whose callees grow memory -/
theorem wp_region_grow {id : Nat} {Q : Exit → Act → World → Prop} {a : Act} {w : World} {l : List Oper} (hm : Tryz.prog.follows .mixedOrders = true) (hB : Region.lexB .any l.toArray = true)
    (h : wpQuiet Tryz.prog l.toArray (fun w' => ∃ X : GW w, w' = X.it) (fun a' => ∀ w', (∃ X : GW w, w' = X.it) → Q .normal a' w') l a) : (Code.region id l.toArray true).wp Tryz.prog Q a w :=
  wp_region_quiet (C := fun w' => ∃ X : GW w, w' = X.it) hm hB ⟨⟨w.drew, (Below.refl _ _).drew⟩, rfl⟩ (by simpa using h)
theorem GW.cell {w : World} (X : GW w) {p : Addr} {v : Value} (hp : p.block < w.heap.size) (h : w.cell? p = some v) : X.it.cell? p = some v := by rw [X.below.cell hp]; exact h
theorem gw_of {w : World} {f : Nat} {args : Array Value} {v : Value} (h : ∀ W : World, Calls Tryz.prog f args W fun e w' => e = .returned v ∧ Below W.heap.size W w') (X : GW w) :
    Calls Tryz.prog f args X.it fun e w' => e = .returned v ∧ ∃ Y : GW w, w' = Y.it :=
  (h X.it).mono fun _ w' ⟨he, hl⟩ => ⟨he, ⟨w', bstep X.below hl⟩, rfl⟩
theorem bd (w : World) (n : Nat) : Below w.heap.size w (w.drewN n) := ⟨rfl, rfl, rfl, Nat.le_refl _, fun _ _ => rfl⟩
theorem wrap_small (k : Nat) (h : k ≤ 9223372036854775807) : IntKind.i64.wrap (k : Int) = (k : Int) := by rw [IntKind.wrap_i64]; omega
end Go.Proofs.YtkopjamednedfaaGreat
