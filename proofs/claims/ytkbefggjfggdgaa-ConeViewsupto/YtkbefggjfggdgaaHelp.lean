import Derived.Test.YtkbefggjfggdgaaSPkg
import Derived.Test.YtkbefggjfggdgaaPPkg
import Derived.Laws.BitsLemmas
namespace Go.Proofs.Ytkbefggjfggdgaa
open Go.RowKit

theorem ss_lit (w : World) (l : List (List UInt8)) (n : Nat) (hn : n = l.length) : SS (w.alloc (.cells (sc l).toArray 9)) (.slice (some ⟨w.heap.size, 0, none⟩) n n) l := by
  subst hn
  refine .inr ⟨w.heap.size, 0, l.length, rfl, Nat.le_refl _, by simp, fun i u hu => ?_⟩
  simp
  simpa using hu

theorem norm_lit : norm [[97, 45, 98], [97, 47, 98], [97]] = [[97], [97, 47, 98], [97, 45, 98]] := by decide
theorem heads_lit : hds (norm [[97, 47, 98], [97]]) = [[97]] := by decide

end Go.Proofs.Ytkbefggjfggdgaa
