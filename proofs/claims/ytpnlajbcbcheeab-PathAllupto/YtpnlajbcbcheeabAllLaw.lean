import Derived.Test.YtpnlajbcbcheeabRef2
import Derived.Test.YtpnlajbcbcheeabKnown
namespace Go.Proofs.Ytpnlajbcbcheeab
open Go.RowKit

set_option maxHeartbeats 4000000 in
set_option maxRecDepth 100000 in
theorem all_any (a b : List UInt8) (w : World) (ha : a.length ≤ 2000000) (hb : b.length ≤ 2000000) :
    Calls Try.prog 6 #[.string (bs a), .string (bs b)] w fun e w' => e = .returned (.bool true) ∧ Below w.heap.size w w' := by
  have W0 : Hid (Below w.heap.size w w) := Below.refl _ _
  have hde := dep_eq a
  obtain ⟨A, hA⟩ : ∃ A, pcs a = A := ⟨_, rfl⟩
  go_enter Try.func6, Try.ntmps6
  go_wp2_with fail
  refine (known_any _).mono ?_
  rintro e w1 ⟨rfl, b1⟩
  have W1 : Hid (Below w.heap.size w w1) := bstep W0.out b1
  clear b1
  go_wp2_with fail
  refine (valid_any a _ (by omega)).mono ?_
  rintro e w2 ⟨rfl, b2⟩
  have W2 : Hid (Below w.heap.size w w2) := bstep W1.out b2
  clear b2
  go_wp2_with fail
  refine (rvalid_any a _ (by omega)).mono ?_
  rintro e w3 ⟨rfl, b3⟩
  have W3 : Hid (Below w.heap.size w w3) := bstep W2.out b3
  clear b3
  go_wp2_with fail
  refine (component_any a _ (by omega)).mono ?_
  rintro e w4 ⟨rfl, e4⟩
  have W4 : Hid (Below w.heap.size w w4) := by rw [e4]; exact W3.out
  clear e4
  go_wp2_with fail
  refine (rcomponent_any a _ (by omega)).mono ?_
  rintro e w5 ⟨rfl, e5⟩
  have W5 : Hid (Below w.heap.size w w5) := by rw [e5]; exact W4.out
  clear e5
  go_wp2_with fail
  refine (cmp_any a b _ (by omega) (by omega)).mono ?_
  rintro e w6 ⟨rfl, b6⟩
  have W6 : Hid (Below w.heap.size w w6) := bstep W5.out b6
  clear b6
  go_wp2_with fail
  refine (rcmp_any a b _ (by omega) (by omega)).mono ?_
  rintro e w7 ⟨rfl, b7⟩
  have W7 : Hid (Below w.heap.size w w7) := bstep W6.out b7
  clear b7
  go_wp2_with fail
  refine (above_any a b _ (by omega) (by omega)).mono ?_
  rintro e w8 ⟨rfl, b8⟩
  rw [abvV_eq]
  have W8 : Hid (Below w.heap.size w w8) := bstep W7.out b8
  clear b8
  go_wp2_with fail
  refine (rabove_any a b _ (by omega) (by omega)).mono ?_
  rintro e w9 ⟨rfl, b9⟩
  have W9 : Hid (Below w.heap.size w w9) := bstep W8.out b9
  clear b9
  go_wp2_with fail
  refine (join_any a b _ (by omega) (by omega)).mono ?_
  rintro e w10 ⟨rfl, b10⟩
  have W10 : Hid (Below w.heap.size w w10) := bstep W9.out b10
  clear b10
  go_wp2_with fail
  refine (rjoin_any a b _ (by omega) (by omega)).mono ?_
  rintro e w11 ⟨rfl, b11⟩
  have W11 : Hid (Below w.heap.size w w11) := bstep W10.out b11
  clear b11
  go_wp2_with fail
  refine (common_any a b _ (by omega) (by omega)).mono ?_
  rintro e w12 ⟨rfl, b12⟩
  have W12 : Hid (Below w.heap.size w w12) := bstep W11.out b12
  clear b12
  go_wp2_with fail
  refine (rcommon_any a b _ (by omega) (by omega)).mono ?_
  rintro e w13 ⟨rfl, b13⟩
  have W13 : Hid (Below w.heap.size w w13) := bstep W12.out b13
  clear b13
  go_wp2_with fail
  refine (dir_any a _ (by omega)).mono ?_
  rintro e w14 ⟨rfl, e14⟩
  have W14 : Hid (Below w.heap.size w w14) := by rw [e14]; exact W13.out
  clear e14
  go_wp2_with fail
  refine (rdir_any a _ (by omega)).mono ?_
  rintro e w15 ⟨rfl, e15⟩
  have W15 : Hid (Below w.heap.size w w15) := by rw [e15]; exact W14.out
  clear e15
  go_wp2_with fail
  refine (base_any a _ (by omega)).mono ?_
  rintro e w16 ⟨rfl, e16⟩
  have W16 : Hid (Below w.heap.size w w16) := by rw [e16]; exact W15.out
  clear e16
  go_wp2_with fail
  refine (rbase_any a _ (by omega)).mono ?_
  rintro e w17 ⟨rfl, e17⟩
  have W17 : Hid (Below w.heap.size w w17) := by rw [e17]; exact W16.out
  clear e17
  go_wp2_with fail
  refine (depth_any a _ (by omega)).mono ?_
  rintro e w18 ⟨rfl, e18⟩
  rw [← hde, hA]
  have W18 : Hid (Below w.heap.size w w18) := by rw [e18]; exact W17.out
  clear e18
  go_wp2_with fail
  refine (rsplit_any a _ (by omega)).mono ?_
  rintro e wa ⟨v1, rfl, o1, b1⟩
  rw [hA] at o1
  obtain ⟨x1, c1, rfl⟩ := o1.len
  have WA : Hid (Below w.heap.size w wa) := bstep W18.out b1
  clear o1 b1
  go_wp2_with fail
  refine (split_any a _ (by omega)).mono ?_
  rintro e wb ⟨v2, rfl, o2, b2⟩
  rw [hA] at o2
  have O2 : Hid (Own wa.heap.size wb v2 A) := o2
  have WB : Hid (Below w.heap.size w wb) := bstep WA.out b2
  clear o2 b2
  go_wp2_with fail
  refine (rsplit_any a _ (by omega)).mono ?_
  rintro e wc ⟨v3, rfl, o3, b3⟩
  rw [hA] at o3
  have O3 : Hid (SS wc v3 A) := o3.bs
  have O4 : Hid (SS wc v2 A) := (O2.out.later b3).bs
  have WC : Hid (Below w.heap.size w wc) := bstep WB.out b3
  have hl : A.length ≤ 9223372036854775807 := by have := pcs_len a (by omega); rw [hA] at this; omega
  clear o3 b3
  go_wp2_with fail
  refine (same_any O4.out O3.out hl).mono ?_
  rintro e wd ⟨rfl, n, rfl⟩
  rw [show decide (A = A) = true from by simp]
  go_wp2_with fail
  go_ret
  exact ⟨rfl, bdrew WC.out n⟩
end Go.Proofs.Ytpnlajbcbcheeab
