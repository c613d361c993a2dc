import Derived.Test.YtpnlajbcbcheeabSplit
namespace Go.Proofs.Ytpnlajbcbcheeab
open Go.RowKit

theorem bstep {w w1 w2 : World} (h : Below w.heap.size w w1) (k : Below w1.heap.size w1 w2) : Below w.heap.size w w2 := below_trans h (below_mono k h.size)
theorem bdrew {w w1 : World} (h : Below w.heap.size w w1) (n : Nat) : Below w.heap.size w (w1.drewN n) := ⟨h.os, h.tape, h.output, h.size, h.block⟩

set_option maxHeartbeats 2000000 in
set_option maxRecDepth 100000 in
theorem known_any (w : World) :
    Calls Try.prog 8 #[] w fun e w' => e = .returned (.bool true) ∧ Below w.heap.size w w' := by
  go_enter Try.func8, Try.ntmps8
  go_wp2_with fail
  refine (join_any [97, 47, 98] [99] _ (by simp) (by simp)).mono ?_
  rintro e w1 ⟨rfl, b1⟩
  rw [show jn [97, 47, 98] [99] = ([97, 47, 98, 47, 99], 0) from by decide]
  rw [show bs ([97, 47, 98, 47, 99], (0 : Int)).1 = ⟨#[97, 47, 98, 47, 99]⟩ from rfl]
  have B1 : Hid (Below w.heap.size w w1) := b1
  clear b1
  go_wp2_with fail
  refine (join_any [97] [47, 98] _ (by simp) (by simp)).mono ?_
  rintro e w2 ⟨rfl, b2⟩
  rw [show jn [97] [47, 98] = ([], 7) from by decide]
  have B2 : Hid (Below w.heap.size w w2) := bstep B1.out b2
  clear b2
  go_wp2_with fail
  refine (valid_any [97, 47, 98] _ (by simp)).mono ?_
  rintro e w3 ⟨rfl, b3⟩
  rw [show okP [97, 47, 98] = true from by decide]
  have B3 : Hid (Below w.heap.size w w3) := bstep B2.out b3
  clear b3
  go_wp2_with fail
  refine (valid_any [97, 47, 46, 46, 47, 98] _ (by simp)).mono ?_
  rintro e w4 ⟨rfl, b4⟩
  rw [show okP [97, 47, 46, 46, 47, 98] = false from by decide]
  have B4 : Hid (Below w.heap.size w w4) := bstep B3.out b4
  clear b4
  go_wp2_with fail
  refine (cmp_any [97, 47, 98] [97, 45, 98] _ (by simp) (by simp)).mono ?_
  rintro e w5 ⟨rfl, b5⟩
  rw [show cmpP (pcs [97, 47, 98]) (pcs [97, 45, 98]) = -1 from by decide]
  have B5 : Hid (Below w.heap.size w w5) := bstep B4.out b5
  clear b5
  go_wp2_with fail
  refine (above_any [97] [97, 47, 98] _ (by simp) (by simp)).mono ?_
  rintro e w6 ⟨rfl, b6⟩
  rw [show abvV [97] [97, 47, 98] = true from by decide]
  have B6 : Hid (Below w.heap.size w w6) := bstep B5.out b6
  clear b6
  go_wp2_with fail
  refine (common_any [97, 47, 98, 47, 99] [97, 47, 98, 47, 100] _ (by simp) (by simp)).mono ?_
  rintro e w7 ⟨rfl, b7⟩
  rw [show bs (cmn [97, 47, 98, 47, 99] [97, 47, 98, 47, 100]) = ⟨#[97, 47, 98]⟩ from by rw [show cmn [97, 47, 98, 47, 99] [97, 47, 98, 47, 100] = [97, 47, 98] from by decide]; rfl]
  have B7 : Hid (Below w.heap.size w w7) := bstep B6.out b7
  clear b7
  go_wp2_with fail
  refine (dir_any [97, 47, 98, 47, 99] _ (by simp)).mono ?_
  rintro e w8 ⟨rfl, rfl⟩
  rw [show bs (dir [97, 47, 98, 47, 99]) = ⟨#[97, 47, 98]⟩ from by rw [show dir [97, 47, 98, 47, 99] = [97, 47, 98] from by decide]; rfl]
  go_wp2_with fail
  refine (base_any [97, 47, 98, 47, 99] _ (by simp)).mono ?_
  rintro e w9 ⟨rfl, rfl⟩
  rw [show bs (base [97, 47, 98, 47, 99]) = ⟨#[99]⟩ from by rw [show base [97, 47, 98, 47, 99] = [99] from by decide]; rfl]
  go_wp2_with fail
  refine (split_any [97, 47, 98] _ (by simp)).mono ?_
  rintro e wa ⟨va, rfl, oa, ba⟩
  rw [show pcs [97, 47, 98] = [[97], [98]] from by decide] at oa
  have OA : Hid (Own w9.heap.size wa va [[97], [98]]) := oa
  have BA : Hid (Below w.heap.size w wa) := bstep B7.out ba
  clear oa ba
  go_wp2_with fail
  have S2 : SS (wa.alloc (.cells #[.string (bs [97]), .string (bs [98])] 9)) (.slice (some ⟨wa.heap.size, 0, none⟩) 2 2) [[97], [98]] := by
    refine .inr ⟨wa.heap.size, 0, 2, rfl, Nat.le_refl _, by simp, ?_⟩
    intro i u hu
    rw [sc_get] at hu
    rcases i with _ | _ | i
    · simp at hu; subst hu; simp
    · simp at hu; subst hu; simp
    · simp at hu
  refine (same_any (OA.out.later (balloc _ _)).bs S2 (by simp)).mono ?_
  rintro e wb ⟨rfl, n, rfl⟩
  rw [show decide ([[97], [98]] = ([[97], [98]] : List (List UInt8))) = true from by decide]
  go_wp2_with fail
  refine (depth_any [47] _ (by simp)).mono ?_
  rintro e wc ⟨rfl, rfl⟩
  rw [show dep [47] = 2 from by decide]
  go_wp2_with fail
  go_ret
  exact ⟨rfl, bdrew (bstep BA.out (balloc _ _)) n⟩
end Go.Proofs.Ytpnlajbcbcheeab
