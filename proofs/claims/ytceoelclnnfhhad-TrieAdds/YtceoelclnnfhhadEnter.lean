/-
  Into a directory, made if it is not there.
-/
import Derived.Test.YtceoelclnnfhhadNods
namespace Go.Proofs.Ytceoelclnnfhhad
open Go.RowKit

set_option maxRecDepth 100000 in
set_option maxHeartbeats 1000000 in
theorem enter_some {w : World} {g b c a o N x : Nat} {F : List UInt8 → Option Nat} {n : List UInt8} (h : ND w g (some b) c a o) (hm : MP w N b F) (hF : F n = some x) (hn : n.length ≤ 140737488355328) :
    Calls Try.prog 32 #[.pointer (some ⟨g, 0, none⟩), .string (bs n)] w fun e w' => e = .returned (.pointer (some ⟨x, 0, none⟩)) ∧ w' = w := by
  obtain ⟨c0, _⟩ := h.cells
  have hl := hm.look hn true
  rw [hF] at hl
  simp only [pv, Option.isSome_some, if_true] at hl
  clear h hm
  go_enter Try.func32, Try.ntmps32
  go_wp2_with fail
  go_ret
  exact ⟨rfl, rfl⟩
set_option maxRecDepth 100000 in
set_option maxHeartbeats 1000000 in
theorem enter_none {w : World} {g b c a o N : Nat} {F : List UInt8 → Option Nat} {n : List UInt8} (h : ND w g (some b) c a o) (hm : MP w N b F) (hF : F n = none) (hn : n.length ≤ 140737488355328) (hN : N < 4611686018427387904) :
    Calls Try.prog 32 #[.pointer (some ⟨g, 0, none⟩), .string (bs n)] w fun e w' => ∃ g' b', e = .returned (.pointer (some ⟨g', 0, none⟩)) ∧ ND w' g' (some b') 0 0 0 ∧ MP w' 0 b' (fun _ => none) ∧ MP w' (N + 1) b (fun x => if x = n then some g' else F x) ∧ Only [b] w w' ∧ w.heap.size ≤ g' ∧ w.heap.size ≤ b' := by
  obtain ⟨c0, _⟩ := h.cells
  have hl := hm.look hn true
  rw [hF] at hl
  simp only [pv, Option.isSome_none, if_true] at hl
  have H : Hid (ND w g (some b) c a o ∧ MP w N b F ∧ n.length ≤ 140737488355328 ∧ N < 4611686018427387904) := ⟨h, hm, hn, hN⟩
  clear h hm
  go_enter Try.func32, Try.ntmps32
  go_wp2_with fail
  refine (newDir_any _).mono ?_
  rintro e w1 ⟨g', b', rfl, h1, h2, h3, h4, h5⟩
  have H1 : Hid (ND w1 g' (some b') 0 0 0 ∧ MP w1 0 b' (fun _ => none) ∧ Below w.heap.size w w1 ∧ w.heap.size ≤ g' ∧ w.heap.size ≤ b') := ⟨h1, h2, h3, h4, h5⟩
  have d0 : w1.cell? ⟨g, 0, none⟩ = some (.map (some b)) := (h3.cell (p := ⟨g, 0, none⟩) H.out.1.lt).trans c0
  obtain ⟨w2, hs, hm2, ho2, hz2⟩ := (H.out.2.1.block (h3.block b H.out.2.1.lt)).store H.out.2.2.1 H.out.2.2.2 g'
  have H2 : Hid (MP w2 (N + 1) b (fun x => if x = n then some g' else F x) ∧ Only [b] w1 w2) := ⟨hm2, ho2⟩
  clear h1 h2 h3 h4 h5 c0 hl hm2 ho2 hz2
  go_wp2_with fail
  go_ret
  have hlb := H.out.2.1.lt
  obtain ⟨k1, k2, k3, k4, k5⟩ := H1.out
  refine ⟨g', b', rfl, k1.block (H2.out.2.block _ k1.lt (by simp; omega)), k2.block (H2.out.2.block _ k2.lt (by simp; omega)), H2.out.1, (Only.of_below k3 _).trans H2.out.2, k4, k5⟩
end Go.Proofs.Ytceoelclnnfhhad
