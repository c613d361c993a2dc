/-
  GlobTexts.
-/
import Derived.Test.YtebidnepanogcaaDoorAv
import Derived.Test.YtebidnepanogcaaDoorRx
namespace Go.Proofs.YtebidnepanogcaaDoor
open Go.RowKit

set_option maxRecDepth 100000 in
set_option maxHeartbeats 4000000 in
theorem texts_law {w : World} (E : Ev w) (s p n : List UInt8) (hs : s.length ≤ 400000000) (hp : p.length ≤ 400000000) (hn : n.length ≤ 400000000) :
    Calls Tryd.prog 4 #[.string (bs s), .string (bs p), .string (bs n)] w fun e w' => e = .returned (.bool true) ∧ Below w.heap.size w w' := by
  have HA : Hid (Calls Tryd.prog 8 #[] w fun e w' => e = .returned (.bool true) ∧ Below w.heap.size w w') := alive_any E
  have HV1 : Hid (∀ W : World, Below w.heap.size w W → Calls Tryd.prog 9 #[.string (bs s)] W fun e w' => e = .returned (.bool (valP s)) ∧ Below W.heap.size W w') := fun W hW => valP_any s (E.later hW) (by omega)
  have HV2 : Hid (∀ W : World, Below w.heap.size w W → Calls Tryd.prog 15 #[.string (bs s)] W fun e w' => e = .returned (.bool (valP s)) ∧ Below W.heap.size W w') := fun W hW => rval_any s W (by omega)
  have HS1 : Hid (∀ W : World, Below w.heap.size w W → Calls Tryd.prog 10 #[.string (bs s)] W fun e w' => e = .returned (.bool (starP s)) ∧ Below W.heap.size W w') := fun W hW => starP_any s (E.later hW) (by omega)
  have HS2 : Hid (∀ W : World, Below w.heap.size w W → Calls Tryd.prog 16 #[.string (bs s)] W fun e w' => e = .returned (.bool (starP s)) ∧ Below W.heap.size W w') := fun W hW => rstar_any s W (by omega)
  have HV3 : Hid (∀ W : World, Below w.heap.size w W → Calls Tryd.prog 9 #[.string (bs p)] W fun e w' => e = .returned (.bool (valP p)) ∧ Below W.heap.size W w') := fun W hW => valP_any p (E.later hW) (by omega)
  have HV4 : Hid (∀ W : World, Below w.heap.size w W → Calls Tryd.prog 15 #[.string (bs p)] W fun e w' => e = .returned (.bool (valP p)) ∧ Below W.heap.size W w') := fun W hW => rval_any p W (by omega)
  have HM1 : Hid (∀ W : World, Below w.heap.size w W → Calls Tryd.prog 12 #[.string (bs p), .string (bs n)] W fun e w' => e = .returned (.bool (mat p n)) ∧ Below W.heap.size W w') := fun W hW => mat_any p n (E.later hW) (by omega) (by omega)
  have HM2 : Hid (∀ W : World, Below w.heap.size w W → Calls Tryd.prog 17 #[.string (bs p), .string (bs n)] W fun e w' => e = .returned (.bool (mat p n)) ∧ Below W.heap.size W w') := fun W hW => rmat_any p n W (by omega) (by omega)
  have HM3 : Hid (∀ W : World, Below w.heap.size w W → Calls Tryd.prog 12 #[.string (bs s), .string (bs n)] W fun e w' => e = .returned (.bool (mat s n)) ∧ Below W.heap.size W w') := fun W hW => mat_any s n (E.later hW) (by omega) (by omega)
  have HM4 : Hid (∀ W : World, Below w.heap.size w W → Calls Tryd.prog 17 #[.string (bs s), .string (bs n)] W fun e w' => e = .returned (.bool (mat s n)) ∧ Below W.heap.size W w') := fun W hW => rmat_any s n W (by omega) (by omega)
  have HM5 : Hid (∀ W : World, Below w.heap.size w W → Calls Tryd.prog 12 #[.string (bs p), .string (bs s)] W fun e w' => e = .returned (.bool (mat p s)) ∧ Below W.heap.size W w') := fun W hW => mat_any p s (E.later hW) (by omega) (by omega)
  have HM6 : Hid (∀ W : World, Below w.heap.size w W → Calls Tryd.prog 17 #[.string (bs p), .string (bs s)] W fun e w' => e = .returned (.bool (mat p s)) ∧ Below W.heap.size W w') := fun W hW => rmat_any p s W (by omega) (by omega)
  generalize valP s = b1 at *
  generalize starP s = b2 at *
  generalize valP p = b3 at *
  generalize mat p n = b4 at *
  generalize mat s n = b5 at *
  generalize mat p s = b6 at *
  have q1 : (b1 != b1) = false := by cases b1 <;> rfl
  have q2 : (b2 != b2) = false := by cases b2 <;> rfl
  have q3 : (b3 != b3) = false := by cases b3 <;> rfl
  have q4 : (b4 == b4) = true := by cases b4 <;> rfl
  have q5 : (b5 == b5) = true := by cases b5 <;> rfl
  have q6 : (b6 == b6) = true := by cases b6 <;> rfl
  clear hs hp hn
  go_enter Tryd.func4, Tryd.ntmps4
  go_wp2_with fail
  refine HA.out.mono ?_
  rintro e w1 ⟨rfl, hb1⟩
  have HB1 : Hid (Below w.heap.size w w1) := hb1
  clear hb1
  go_wp2_with fail
  refine (HV1.out _ HB1.out).mono ?_
  rintro e w2 ⟨rfl, hb2⟩
  have HB2 : Hid (Below w.heap.size w w2) := bstep HB1.out hb2
  clear hb2
  go_wp2_with fail
  refine (HV2.out _ HB2.out).mono ?_
  rintro e w3 ⟨rfl, hb3⟩
  have HB3 : Hid (Below w.heap.size w w3) := bstep HB2.out hb3
  clear hb3
  go_wp2_with fail
  refine (HS1.out _ HB3.out).mono ?_
  rintro e w4 ⟨rfl, hb4⟩
  have HB4 : Hid (Below w.heap.size w w4) := bstep HB3.out hb4
  clear hb4
  go_wp2_with fail
  refine (HS2.out _ HB4.out).mono ?_
  rintro e w5 ⟨rfl, hb5⟩
  have HB5 : Hid (Below w.heap.size w w5) := bstep HB4.out hb5
  clear hb5
  go_wp2_with fail
  refine (HV3.out _ HB5.out).mono ?_
  rintro e w6 ⟨rfl, hb6⟩
  have HB6 : Hid (Below w.heap.size w w6) := bstep HB5.out hb6
  clear hb6
  go_wp2_with fail
  refine (HV4.out _ HB6.out).mono ?_
  rintro e w7 ⟨rfl, hb7⟩
  have HB7 : Hid (Below w.heap.size w w7) := bstep HB6.out hb7
  clear hb7
  go_wp2_with fail
  refine (HM1.out _ HB7.out).mono ?_
  rintro e w8 ⟨rfl, hb8⟩
  have HB8 : Hid (Below w.heap.size w w8) := bstep HB7.out hb8
  clear hb8
  go_wp2_with fail
  refine (HM2.out _ HB8.out).mono ?_
  rintro e w9 ⟨rfl, hb9⟩
  have HB9 : Hid (Below w.heap.size w w9) := bstep HB8.out hb9
  clear hb9
  go_wp2_with fail
  refine (HM3.out _ HB9.out).mono ?_
  rintro e w10 ⟨rfl, hb10⟩
  have HB10 : Hid (Below w.heap.size w w10) := bstep HB9.out hb10
  clear hb10
  go_wp2_with fail
  refine (HM4.out _ HB10.out).mono ?_
  rintro e w11 ⟨rfl, hb11⟩
  have HB11 : Hid (Below w.heap.size w w11) := bstep HB10.out hb11
  clear hb11
  go_wp2_with fail
  refine (HM5.out _ HB11.out).mono ?_
  rintro e w12 ⟨rfl, hb12⟩
  have HB12 : Hid (Below w.heap.size w w12) := bstep HB11.out hb12
  clear hb12
  go_wp2_with fail
  refine (HM6.out _ HB12.out).mono ?_
  rintro e w13 ⟨rfl, hb13⟩
  have HB13 : Hid (Below w.heap.size w w13) := bstep HB12.out hb13
  clear hb13
  go_wp2_with fail
  go_ret
  exact ⟨rfl, HB13.out⟩
end Go.Proofs.YtebidnepanogcaaDoor
