/-
  The document's literals, globs, sources.
-/
import Derived.Test.YtebidnepanogcaaDoorRm
namespace Go.Proofs.YtebidnepanogcaaDoor
open Go.RowKit

set_option maxHeartbeats 1000000 in
theorem rlit_any (l : List UInt8) (w : World) (hl : l.length ≤ 1000000000) :
    Calls Tryd.prog 33 #[.string (bs l)] w fun e w' => e = .returned (.bool (litP l)) ∧ Below w.heap.size w w' := by
  have HBs : Hid (∀ w : World, Calls Tryd.prog 36 #[.string (bs l)] w fun e w' => e = .returned (.string (bs (base l))) ∧ w' = w) := fun w => rbase_any l w (by omega)
  have HC : Hid (∀ W : World, Calls Tryd.prog 38 #[.string (bs l)] W fun e w' => e = .returned (.bool (okP l)) ∧ Below W.heap.size W w') := fun W => rvalid_any l W (by omega)
  have e1 := isE l
  have e2 := bs_toList (base l)
  have e3 := c_name
  unfold litP
  generalize base l = b at *
  generalize okP l = r at *
  by_cases h0 : l = []
  · have i0 : l.isEmpty = true := by rw [h0]; rfl
    rw [i0] at e1
    rw [decide_eq_true h0]
    clear h0
    go_enter Tryd.func33, Tryd.ntmps33
    go_wp2_with fail
    go_ret
    exact ⟨rfl, Below.refl _ _⟩
  have i0 : l.isEmpty = false := by cases l; exact absurd rfl h0; rfl
  rw [i0] at e1
  rw [decide_eq_false h0]
  clear h0
  cases r
  · go_enter Tryd.func33, Tryd.ntmps33
    go_wp2_with fail
    refine (HC.out _).mono ?_
    rintro e w1 ⟨rfl, hb⟩
    have HB : Hid (Below w.heap.size w w1) := hb
    clear hb
    go_wp2_with fail
    go_ret
    exact ⟨rfl, HB.out⟩
  · go_enter Tryd.func33, Tryd.ntmps33
    go_wp2_with fail
    refine (HC.out _).mono ?_
    rintro e w1 ⟨rfl, hb⟩
    have HB : Hid (Below w.heap.size w w1) := hb
    clear hb
    go_wp2_with fail
    refine (HBs.out _).mono ?_
    rintro e w2 ⟨rfl, rfl⟩
    go_wp2_with fail
    go_ret
    refine ⟨?_, HB.out⟩
    by_cases hb : b = wName
    · simp [hb]
    · simp [hb]


set_option maxHeartbeats 4000000 in
theorem rstar_any (l : List UInt8) (w : World) (hl : l.length ≤ 1000000000) :
    Calls Tryd.prog 16 #[.string (bs l)] w fun e w' => e = .returned (.bool (starP l)) ∧ Below w.heap.size w w' := by
  have HSp : Hid (Calls Tryd.prog 34 #[.string (bs l)] w fun e w' => ∃ v, e = .returned v ∧ Own w.heap.size w' v (pcs l) ∧ Below w.heap.size w w') := rsplit_any l w hl
  have HBs : Hid (∀ W : World, Calls Tryd.prog 36 #[.string (bs l)] W fun e w' => e = .returned (.string (bs (base l))) ∧ w' = W) := fun W => rbase_any l W (by omega)
  have HD : Hid (∀ W : World, Calls Tryd.prog 37 #[.string (bs l)] W fun e w' => e = .returned (.string (bs (dir l))) ∧ w' = W) := fun W => rdir_any l W (by omega)
  have hbl := base_len l
  have hdl := dir_len l
  have HP : Hid (∀ W : World, Calls Tryd.prog 35 #[.string (bs (base l))] W fun e w' => e = .returned (.bool (patP (base l))) ∧ w' = W) := fun W => rpat_any (base l) W (by omega)
  have HV : Hid (∀ W : World, Calls Tryd.prog 38 #[.string (bs (dir l))] W fun e w' => e = .returned (.bool (okP (dir l))) ∧ Below W.heap.size W w') := fun W => rvalid_any (dir l) W (by omega)
  rw [star_eq]
  obtain ⟨R, hR⟩ : ∃ R, rStar l = R := ⟨_, rfl⟩
  rw [hR]
  have HR : Hid ((decide (l.length ≤ 120) && decide ((pcs l).length ≤ 12) && patP (base l) && (decide ((pcs l).length = 1) || (!decide (dir l = []) && okP (dir l)))) = R) := by
    show _ = R
    rw [← hR, pat_eq]; rfl
  have hnpl := pcs_len l hl
  have e4 := isE (dir l)
  have hz : (bs l).size = l.length := rfl
  obtain ⟨L, hL⟩ : ∃ L, pcs l = L := ⟨_, rfl⟩
  rw [hL] at HSp HR hnpl
  obtain ⟨np, hnp⟩ : ∃ np, L.length = np := ⟨_, rfl⟩
  rw [hnp] at HR hnpl
  have HNP : Hid (L.length = np) := hnp
  clear hR hL hnp hbl hdl
  generalize base l = b at *
  generalize dir l = d at *
  generalize patP b = pb at *
  generalize okP d = od at *
  go_enter Tryd.func16, Tryd.ntmps16
  go_wp2_with fail
  refine HSp.out.mono ?_
  rintro e w1 ⟨u, rfl, hu, hb1⟩
  obtain ⟨au, cu, hfu⟩ := hu.len
  rw [HNP.out] at hfu
  subst hfu
  have B1 : Hid (Below w.heap.size w w1) := hb1
  clear hb1 hu
  by_cases h1 : l.length ≤ 120
  rotate_left
  · obtain rfl : R = false := by rw [← HR.out, decide_eq_false h1]; rfl
    have q1 : (120 : Int) < (l.length : Int) := by omega
    clear h1 HR
    go_wp2_with fail
    go_ret
    exact ⟨rfl, B1.out⟩
  have q1 : ¬ (120 : Int) < (l.length : Int) := by omega
  by_cases h2 : np ≤ 12
  rotate_left
  · obtain rfl : R = false := by rw [← HR.out, decide_eq_false h2]; simp
    have q2 : (12 : Int) < (np : Int) := by omega
    clear h1 h2 HR
    go_wp2_with fail
    go_ret
    exact ⟨rfl, B1.out⟩
  have q2 : ¬ (12 : Int) < (np : Int) := by omega
  cases pb
  · obtain rfl : R = false := by rw [← HR.out]; simp
    clear h1 h2 HR
    go_wp2_with fail
    refine (HBs.out _).mono ?_
    rintro e w2 ⟨rfl, hw2⟩
    obtain rfl : w1 = w2 := hw2.symm
    go_wp2_with fail
    refine (HP.out _).mono ?_
    rintro e w2 ⟨rfl, hw2⟩
    obtain rfl : w1 = w2 := hw2.symm
    go_wp2_with fail
    go_ret
    exact ⟨rfl, B1.out⟩
  have HR2 : Hid ((decide (np = 1) || (!decide (d = []) && od)) = R) := by
    show _ = R
    rw [← HR.out, decide_eq_true h1, decide_eq_true h2]; simp
  clear h1 h2 HR
  go_wp2_with fail
  refine (HBs.out _).mono ?_
  rintro e w2 ⟨rfl, hw2⟩
  obtain rfl : w1 = w2 := hw2.symm
  go_wp2_with fail
  refine (HP.out _).mono ?_
  rintro e w2 ⟨rfl, hw2⟩
  obtain rfl : w1 = w2 := hw2.symm
  go_wp2_with fail
  refine (HD.out _).mono ?_
  rintro e w2 ⟨rfl, hw2⟩
  obtain rfl : w1 = w2 := hw2.symm
  by_cases h3 : np = 1
  · obtain rfl : R = true := by rw [← HR2.out, decide_eq_true h3]; rfl
    subst h3
    go_wp2_with fail
    go_ret
    exact ⟨rfl, B1.out⟩
  have q3 : (((np : Nat) : Int) == 1) = false := by simp; omega
  by_cases h4 : d = []
  · obtain rfl : R = false := by rw [← HR2.out, decide_eq_false h3, decide_eq_true h4]; simp
    have i0 : d.isEmpty = true := by rw [h4]; rfl
    rw [i0] at e4
    clear h3 h4 HR2
    go_wp2_with fail
    go_ret
    exact ⟨rfl, B1.out⟩
  · obtain rfl : R = od := by rw [← HR2.out, decide_eq_false h3, decide_eq_false h4]; simp
    have i0 : d.isEmpty = false := by cases d; exact absurd rfl h4; rfl
    rw [i0] at e4
    clear h3 h4 HR2
    go_wp2_with fail
    refine (HV.out _).mono ?_
    rintro e w3 ⟨rfl, hb3⟩
    have B3 : Hid (Below w.heap.size w w3) := bstep B1.out hb3
    clear hb3
    go_wp2_with fail
    go_ret
    exact ⟨by simp, B3.out⟩

set_option maxHeartbeats 1000000 in
theorem rval_any (l : List UInt8) (w : World) (hl : l.length ≤ 1000000000) :
    Calls Tryd.prog 15 #[.string (bs l)] w fun e w' => e = .returned (.bool (valP l)) ∧ Below w.heap.size w w' := by
  have HL : Hid (Calls Tryd.prog 33 #[.string (bs l)] w fun e w' => e = .returned (.bool (litP l)) ∧ Below w.heap.size w w') := rlit_any l w hl
  have HS : Hid (∀ W : World, Below w.heap.size w W → Calls Tryd.prog 16 #[.string (bs l)] W fun e w' => e = .returned (.bool (starP l)) ∧ Below W.heap.size W w') := fun W hW => rstar_any l W hl
  unfold valP
  generalize starP l = t at *
  cases hc : litP l
  · rw [hc] at HL
    go_enter Tryd.func15, Tryd.ntmps15
    go_wp2_with fail
    refine HL.out.mono ?_
    rintro e w1 ⟨rfl, hb⟩
    have HB : Hid (Below w.heap.size w w1) := hb
    clear hb
    go_wp2_with fail
    refine (HS.out _ HB.out).mono ?_
    rintro e w3 ⟨rfl, hb3⟩
    have HB3 : Hid (Below w.heap.size w w3) := bstep HB.out hb3
    clear hb3
    go_wp2_with fail
    go_ret
    exact ⟨by simp, HB3.out⟩
  · rw [hc] at HL
    go_enter Tryd.func15, Tryd.ntmps15
    go_wp2_with fail
    refine HL.out.mono ?_
    rintro e w1 ⟨rfl, hb⟩
    have HB : Hid (Below w.heap.size w w1) := hb
    clear hb
    go_wp2_with fail
    go_ret
    exact ⟨by simp, HB.out⟩

end Go.Proofs.YtebidnepanogcaaDoor
