/-
  What the laws of cone ask of the package: its four answers, as plain lists.
-/
import Derived.Test.YtkbefggjfggdgaaCuts
import Derived.Test.YtkbefggjfggdgaaKn2
import Derived.Test.YtkbefggjfggdgaaSPkg2
namespace Go.Proofs.Ytkbefggjfggdgaa
open Go.RowKit

structure CC : Prop where
  valid : ∀ {w : World} {v : Value} {k : List (List UInt8)}, SS w v k → Sm k → Calls Try.prog 9 #[v] w fun e w' => e = .returned (.int .i64 (coneE k)) ∧ Below w.heap.size w w'
  shows : ∀ {w : World} {v : Value} {k : List (List UInt8)} (p : List UInt8), SS w v k → Sm k → p.length ≤ 1000000000 → Calls Try.prog 10 #[v, .string (bs p)] w fun e w' => e = .returned (.bool (shw k p)) ∧ Below w.heap.size w w'
  view : ∀ {w : World} {v u : Value} {l : List Fl} {k : List (List UInt8)}, FS w v l → FSm l → SS w u k → Sm k → Calls Try.prog 12 #[v, u] w fun e w' => ∃ v', e = .returned (.tuple #[v', .int .i64 (viw l k).2]) ∧ OwnF w.heap.size w' v' (viw l k).1 ∧ Below w.heap.size w w'
  cover : ∀ {w : World} {v : Value} {L : List (List UInt8)}, SS w v L → Sm L → Calls Try.prog 6 #[v] w fun e w' => ∃ v', e = .returned v' ∧ Own w.heap.size w' v' (cov L) ∧ Below w.heap.size w w'

end Go.Proofs.Ytkbefggjfggdgaa
