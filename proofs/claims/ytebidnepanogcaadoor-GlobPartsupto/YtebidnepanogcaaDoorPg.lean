/-
  The program's Valid, Star, literal, isPattern, filled, below.
-/
import Derived.Test.YtebidnepanogcaaDoorSh
namespace Go.Proofs.YtebidnepanogcaaDoor
open Go.RowKit Go.Lib

theorem c_name : (ByteArray.mk #[84, 65, 82, 71, 69, 84, 83]).toList = wName := ByteArray.toList_mk wName
theorem base_len (l : List UInt8) : (base l).length ≤ l.length := by unfold base; simp
theorem dir_len (l : List UInt8) : (dir l).length ≤ l.length := by
  unfold dir; split
  · simp
  · simp; omega

theorem filled_any (l : List UInt8) {w : World} (E : Ev w) (hl : l.length ≤ 1000000000) :
    Calls Tryd.prog 30 #[.string (bs l)] w fun e w' => e = .returned (.string (bs (rep1 l))) ∧ Below w.heap.size w w' := by
  have HR : Hid (Calls Tryd.prog 47 #[.string (bs l), .string (bs [42]), .string (bs [97]), .int .i64 1] w fun e w' => e = .returned (.string (bs (rep1 l))) ∧ Below w.heap.size w w') := replace_any l E hl
  go_enter Tryd.func30, Tryd.ntmps30
  go_wp2_with fail
  refine HR.out.mono ?_
  rintro e w1 ⟨rfl, hb⟩
  have HB : Hid (Below w.heap.size w w1) := hb
  clear hb
  go_wp2_with fail
  go_ret
  exact ⟨rfl, HB.out⟩

set_option maxHeartbeats 1000000 in
theorem pat_any (l : List UInt8) {w : World} (E : Ev w) (hl : l.length ≤ 1000000000) :
    Calls Tryd.prog 31 #[.string (bs l)] w fun e w' => e = .returned (.bool (patP l)) ∧ Below w.heap.size w w' := by
  have HS : Hid (∀ w : World, Calls Tryd.prog 28 #[.string (bs l), .string (bs [42])] w fun e w' => e = .returned (.bool (l.contains 42)) ∧ w' = w) := fun w => star_any l w
  have HF : Hid (Calls Tryd.prog 30 #[.string (bs l)] w fun e w' => e = .returned (.string (bs (rep1 l))) ∧ Below w.heap.size w w') := filled_any l E hl
  have HC : Hid (∀ W : World, Calls Tryd.prog 45 #[.string (bs (rep1 l))] W fun e w' => e = .returned (.bool (okC (rep1 l))) ∧ w' = W) := fun W => component_any (rep1 l) W (by rw [rep1_length]; omega)
  unfold patP
  cases hc : l.contains 42
  · rw [hc] at HS
    go_enter Tryd.func31, Tryd.ntmps31
    go_wp2_with fail
    refine (HS.out _).mono ?_
    rintro e w1 ⟨rfl, rfl⟩
    go_wp2_with fail
    go_ret
    exact ⟨rfl, Below.refl _ _⟩
  · rw [hc] at HS
    generalize okC (rep1 l) = r at *
    go_enter Tryd.func31, Tryd.ntmps31
    go_wp2_with fail
    refine (HS.out _).mono ?_
    rintro e w1 ⟨rfl, hw1⟩
    obtain rfl : w = w1 := hw1.symm
    go_wp2_with fail
    refine HF.out.mono ?_
    rintro e w2 ⟨rfl, hb⟩
    have HB : Hid (Below w.heap.size w w2) := hb
    clear hb
    go_wp2_with fail
    refine (HC.out _).mono ?_
    rintro e w3 ⟨rfl, rfl⟩
    go_wp2_with fail
    go_ret
    exact ⟨by simp, HB.out⟩

set_option maxHeartbeats 1000000 in
theorem starP_any (l : List UInt8) {w : World} (E : Ev w) (hl : l.length ≤ 1000000000) :
    Calls Tryd.prog 10 #[.string (bs l)] w fun e w' => e = .returned (.bool (starP l)) ∧ Below w.heap.size w w' := by
  have HBs : Hid (∀ w : World, Calls Tryd.prog 27 #[.string (bs l)] w fun e w' => e = .returned (.string (bs (base l))) ∧ w' = w) := fun w => base_any l w (by omega)
  have HS : Hid (∀ w : World, Calls Tryd.prog 28 #[.string (bs (base l)), .string (bs [42])] w fun e w' => e = .returned (.bool ((base l).contains 42)) ∧ w' = w) := fun w => star_any (base l) w
  have HF : Hid (Calls Tryd.prog 30 #[.string (bs l)] w fun e w' => e = .returned (.string (bs (rep1 l))) ∧ Below w.heap.size w w') := filled_any l E hl
  have HC : Hid (∀ W : World, Calls Tryd.prog 29 #[.string (bs (rep1 l))] W fun e w' => e = .returned (.bool (okP (rep1 l))) ∧ Below W.heap.size W w') := fun W => valid_any (rep1 l) W (by rw [rep1_length]; omega)
  unfold starP
  generalize base l = b at *
  cases hc : b.contains 42
  · rw [hc] at HS
    go_enter Tryd.func10, Tryd.ntmps10
    go_wp2_with fail
    refine (HBs.out _).mono ?_
    rintro e w0 ⟨rfl, rfl⟩
    go_wp2_with fail
    refine (HS.out _).mono ?_
    rintro e w1 ⟨rfl, rfl⟩
    go_wp2_with fail
    go_ret
    exact ⟨rfl, Below.refl _ _⟩
  · rw [hc] at HS
    generalize okP (rep1 l) = r at *
    go_enter Tryd.func10, Tryd.ntmps10
    go_wp2_with fail
    refine (HBs.out _).mono ?_
    rintro e w0 ⟨rfl, hw0⟩
    obtain rfl : w = w0 := hw0.symm
    go_wp2_with fail
    refine (HS.out _).mono ?_
    rintro e w1 ⟨rfl, hw1⟩
    obtain rfl : w = w1 := hw1.symm
    go_wp2_with fail
    refine HF.out.mono ?_
    rintro e w2 ⟨rfl, hb⟩
    have HB : Hid (Below w.heap.size w w2) := hb
    clear hb
    go_wp2_with fail
    refine (HC.out _).mono ?_
    rintro e w3 ⟨rfl, hb3⟩
    have HB3 : Hid (Below w.heap.size w w3) := bstep HB.out hb3
    clear hb3
    go_wp2_with fail
    go_ret
    exact ⟨by simp, HB3.out⟩

set_option maxHeartbeats 1000000 in
theorem litP_any (l : List UInt8) (w : World) (hl : l.length ≤ 1000000000) :
    Calls Tryd.prog 22 #[.string (bs l)] w fun e w' => e = .returned (.bool (litP l)) ∧ Below w.heap.size w w' := by
  have HBs : Hid (∀ w : World, Calls Tryd.prog 27 #[.string (bs l)] w fun e w' => e = .returned (.string (bs (base l))) ∧ w' = w) := fun w => base_any l w (by omega)
  have HC : Hid (∀ W : World, Calls Tryd.prog 29 #[.string (bs l)] W fun e w' => e = .returned (.bool (okP l)) ∧ Below W.heap.size W w') := fun W => valid_any l W (by omega)
  have e1 := isE l
  have e2 := bs_toList (base l)
  have e3 := c_name
  unfold litP
  generalize base l = b at *
  generalize okP l = r at *
  by_cases h0 : l = []
  · have i0 : l.isEmpty = true := by rw [h0]; rfl
    rw [i0] at e1
    rw [decide_eq_true h0]
    clear h0
    go_enter Tryd.func22, Tryd.ntmps22
    go_wp2_with fail
    go_ret
    exact ⟨rfl, Below.refl _ _⟩
  have i0 : l.isEmpty = false := by cases l; exact absurd rfl h0; rfl
  rw [i0] at e1
  rw [decide_eq_false h0]
  clear h0
  cases r
  · go_enter Tryd.func22, Tryd.ntmps22
    go_wp2_with fail
    refine (HC.out _).mono ?_
    rintro e w1 ⟨rfl, hb⟩
    have HB : Hid (Below w.heap.size w w1) := hb
    clear hb
    go_wp2_with fail
    go_ret
    exact ⟨rfl, HB.out⟩
  · go_enter Tryd.func22, Tryd.ntmps22
    go_wp2_with fail
    refine (HC.out _).mono ?_
    rintro e w1 ⟨rfl, hb⟩
    have HB : Hid (Below w.heap.size w w1) := hb
    clear hb
    go_wp2_with fail
    refine (HBs.out _).mono ?_
    rintro e w2 ⟨rfl, rfl⟩
    go_wp2_with fail
    go_ret
    refine ⟨?_, HB.out⟩
    by_cases hb : b = wName
    · simp [hb]
    · simp [hb]

set_option maxHeartbeats 1000000 in
theorem valP_any (l : List UInt8) {w : World} (E : Ev w) (hl : l.length ≤ 1000000000) :
    Calls Tryd.prog 9 #[.string (bs l)] w fun e w' => e = .returned (.bool (valP l)) ∧ Below w.heap.size w w' := by
  have HL : Hid (Calls Tryd.prog 22 #[.string (bs l)] w fun e w' => e = .returned (.bool (litP l)) ∧ Below w.heap.size w w') := litP_any l w hl
  have HS : Hid (∀ W : World, Below w.heap.size w W → Calls Tryd.prog 10 #[.string (bs l)] W fun e w' => e = .returned (.bool (starP l)) ∧ Below W.heap.size W w') := fun W hW => starP_any l (E.later hW) hl
  unfold valP
  generalize starP l = t at *
  cases hc : litP l
  · rw [hc] at HL
    go_enter Tryd.func9, Tryd.ntmps9
    go_wp2_with fail
    refine HL.out.mono ?_
    rintro e w1 ⟨rfl, hb⟩
    have HB : Hid (Below w.heap.size w w1) := hb
    clear hb
    go_wp2_with fail
    refine (HS.out _ HB.out).mono ?_
    rintro e w3 ⟨rfl, hb3⟩
    have HB3 : Hid (Below w.heap.size w w3) := bstep HB.out hb3
    clear hb3
    go_wp2_with fail
    go_ret
    exact ⟨by simp, HB3.out⟩
  · rw [hc] at HL
    go_enter Tryd.func9, Tryd.ntmps9
    go_wp2_with fail
    refine HL.out.mono ?_
    rintro e w1 ⟨rfl, hb⟩
    have HB : Hid (Below w.heap.size w w1) := hb
    clear hb
    go_wp2_with fail
    go_ret
    exact ⟨by simp, HB.out⟩

set_option maxHeartbeats 1000000 in
theorem below_any (p s : List UInt8) (w : World) (hp : p.length ≤ 1000000000) (hs : s.length ≤ 1000000000) :
    Calls Tryd.prog 21 #[.string (bs p), .string (bs s)] w fun e w' => e = .returned (.string (bs (whl p s))) ∧ w' = w := by
  have e1 := isE p
  have z1 : (bs p).size = p.length := rfl
  have z2 : (bs s).size = s.length := rfl
  unfold whl
  by_cases h0 : p = []
  · have i0 : p.isEmpty = true := by rw [h0]; rfl
    rw [i0] at e1
    rw [if_pos h0]
    clear h0
    go_enter Tryd.func21, Tryd.ntmps21
    go_wp2_with fail
    go_ret
    exact ⟨rfl, rfl⟩
  · have i0 : p.isEmpty = false := by cases p; exact absurd rfl h0; rfl
    rw [i0] at e1
    rw [if_neg h0]
    clear h0
    have HW : Hid (bs p ++ ByteArray.mk #[47] ++ bs s = bs (p ++ 47 :: s)) := by
      show bs p ++ bs [47] ++ bs s = _
      rw [bs_app, bs_app]; simp
    go_enter Tryd.func21, Tryd.ntmps21
    go_wp2_with fail
    go_ret
    exact ⟨by rw [← HW.out]; rfl, rfl⟩
end Go.Proofs.YtebidnepanogcaaDoor
