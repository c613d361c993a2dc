/-
  Expand.
-/
import Derived.Test.YtebidnepanogcaaDoorEx
namespace Go.Proofs.YtebidnepanogcaaDoor
open Go.RowKit

theorem exl_lit {l : List Fl} {J : List UInt8} (h : litP J = true) : exl l J = ((fnd l J).toList, (fnd l J).isSome) := by
  unfold exl
  rw [if_pos h]
  cases fnd l J <;> rfl
theorem exl_star {l : List Fl} {J : List UInt8} (h1 : litP J = false) (h : starP J = true) : exl l J = (l.filter (sel J), true) := by
  unfold exl
  rw [if_neg (by rw [h1]; simp), if_pos h]
theorem exl_none {l : List Fl} {J : List UInt8} (h1 : litP J = false) (h : starP J = false) : exl l J = ([], false) := by
  unfold exl
  rw [if_neg (by rw [h1]; simp), if_neg (by rw [h]; simp)]
theorem whl_len (p s : List UInt8) : (whl p s).length ≤ p.length + s.length + 1 := by
  unfold whl; split
  · omega
  · simp; omega

set_option maxHeartbeats 4000000 in
theorem expand_any {w : World} {v : Value} {l : List Fl} (p s : List UInt8) (h : FS w v l) (sm : FQ l) (E : Ev w) (hp : p.length ≤ 400000000) (hs : s.length ≤ 400000000) :
    Calls Tryd.prog 7 #[v, .string (bs p), .string (bs s)] w fun e w' => ∃ u, e = .returned (.tuple #[u, .bool (exl l (whl p s)).2]) ∧ OwnF w.heap.size w' u (exl l (whl p s)).1 ∧ Below w.heap.size w w' := by
  have HJ : Hid (Calls Tryd.prog 21 #[.string (bs p), .string (bs s)] w fun e w' => e = .returned (.string (bs (whl p s))) ∧ w' = w) := below_any p s w (by omega) (by omega)
  have hJl := whl_len p s
  generalize whl p s = J at *
  have hJ : J.length ≤ 1000000000 := by omega
  have HL : Hid (Calls Tryd.prog 22 #[.string (bs J)] w fun e w' => e = .returned (.bool (litP J)) ∧ Below w.heap.size w w') := litP_any J w hJ
  have HS : Hid (∀ W : World, Below w.heap.size w W → Calls Tryd.prog 10 #[.string (bs J)] W fun e w' => e = .returned (.bool (starP J)) ∧ Below W.heap.size W w') := fun W hW => starP_any J (E.later hW) hJ
  have H : Hid (FS w v l) := h
  have SM : Hid (FQ l) := sm
  clear h sm hJl hp hs
  cases hl : litP J
  · rw [hl] at HL
    cases hst : starP J
    · rw [hst] at HS
      rw [exl_none hl hst]
      clear hl hst
      go_enter Tryd.func7, Tryd.ntmps7
      go_wp2_with fail
      refine HJ.out.mono ?_
      rintro e w0 ⟨rfl, hw0⟩
      obtain rfl : w = w0 := hw0.symm
      go_wp2_with fail
      refine HL.out.mono ?_
      rintro e w1 ⟨rfl, hb1⟩
      have HB1 : Hid (Below w.heap.size w w1) := hb1
      clear hb1
      go_wp2_with fail
      refine (HS.out _ HB1.out).mono ?_
      rintro e w2 ⟨rfl, hb2⟩
      have HB2 : Hid (Below w.heap.size w w2) := bstep HB1.out hb2
      clear hb2
      go_wp2_with fail
      go_ret2
      exact ⟨_, rfl, OwnF.nil _ _, HB2.out⟩
    · rw [hst] at HS
      rw [exl_star hl hst]
      have hb42 : (42 : UInt8) ∈ base J := star_42 hst
      have hbl := base_len J
      have HD : Hid (∀ W : World, Calls Tryd.prog 25 #[.string (bs J)] W fun e w' => e = .returned (.string (bs (dir J))) ∧ w' = W) := fun W => dir_any J W (by omega)
      have HBs : Hid (∀ W : World, Calls Tryd.prog 27 #[.string (bs J)] W fun e w' => e = .returned (.string (bs (base J))) ∧ w' = W) := fun W => base_any J W (by omega)
      have HC : Hid (∀ W : World, Calls Tryd.prog 26 #[.string (bs (base J))] W fun e w' => ∃ v, e = .returned v ∧ PC w' v (hd42 (base J)) (tl42 (base J)) ∧ Below W.heap.size W w') := fun W => gcut_any (base J) W hb42 (by omega)
      have HM : Hid (∀ (W : World) (u : Value), Below w.heap.size w W → PC W u (hd42 (base J)) (tl42 (base J)) → Calls Tryd.prog 24 #[v, .string (bs (dir J)), u] W fun e w' => ∃ r, e = .returned r ∧ OwnF W.heap.size w' r (l.filter (sel J)) ∧ Below W.heap.size W w') := fun W u hW hu =>
        matched_any (dir J) (H.out.later hW) SM.out hu (by have := hd42_len (base J); omega) (by have := tl42_len (base J); omega)
      clear hl hst hb42 hbl
      go_enter Tryd.func7, Tryd.ntmps7
      go_wp2_with fail
      refine HJ.out.mono ?_
      rintro e w0 ⟨rfl, hw0⟩
      obtain rfl : w = w0 := hw0.symm
      go_wp2_with fail
      refine HL.out.mono ?_
      rintro e w1 ⟨rfl, hb1⟩
      have HB1 : Hid (Below w.heap.size w w1) := hb1
      clear hb1
      go_wp2_with fail
      refine (HS.out _ HB1.out).mono ?_
      rintro e w2 ⟨rfl, hb2⟩
      have HB2 : Hid (Below w.heap.size w w2) := bstep HB1.out hb2
      clear hb2
      go_wp2_with fail
      refine (HD.out _).mono ?_
      rintro e w3 ⟨rfl, hw3⟩
      obtain rfl : w2 = w3 := hw3.symm
      go_wp2_with fail
      refine (HBs.out _).mono ?_
      rintro e w3 ⟨rfl, hw3⟩
      obtain rfl : w2 = w3 := hw3.symm
      go_wp2_with fail
      refine (HC.out _).mono ?_
      rintro e w4 ⟨u, rfl, hu, hb4⟩
      have HU : Hid (PC w4 u (hd42 (base J)) (tl42 (base J))) := hu
      have HB4 : Hid (Below w.heap.size w w4) := bstep HB2.out hb4
      clear hu hb4
      go_wp2_with fail
      refine (HM.out _ _ HB4.out HU.out).mono ?_
      rintro e w5 ⟨r, rfl, hr, hb5⟩
      have HR : Hid (OwnF w.heap.size w5 r (l.filter (sel J))) := hr.mono HB4.out.size
      have HB5 : Hid (Below w.heap.size w w5) := bstep HB4.out hb5
      clear hr hb5
      go_wp2_with fail
      go_ret2
      exact ⟨_, rfl, HR.out, HB5.out⟩
  · rw [hl] at HL
    rw [exl_lit hl]
    have HN : Hid (∀ W : World, Below w.heap.size w W → Calls Tryd.prog 23 #[v, .string (bs J)] W fun e w' => ∃ u, e = .returned (.tuple #[u, .bool (fnd l J).isSome]) ∧ OwnF W.heap.size w' u (fnd l J).toList ∧ Below W.heap.size W w') := fun W hW => named_any J (H.out.later hW) SM.out
    clear hl
    go_enter Tryd.func7, Tryd.ntmps7
    go_wp2_with fail
    refine HJ.out.mono ?_
    rintro e w0 ⟨rfl, hw0⟩
    obtain rfl : w = w0 := hw0.symm
    go_wp2_with fail
    refine HL.out.mono ?_
    rintro e w1 ⟨rfl, hb1⟩
    have HB1 : Hid (Below w.heap.size w w1) := hb1
    clear hb1
    go_wp2_with fail
    refine (HN.out _ HB1.out).mono ?_
    rintro e w2 ⟨u, rfl, hu, hb2⟩
    have HU : Hid (OwnF w.heap.size w2 u (fnd l J).toList) := hu.mono HB1.out.size
    have HB2 : Hid (Below w.heap.size w w2) := bstep HB1.out hb2
    clear hu hb2
    go_wp2_with fail
    go_ret2
    exact ⟨_, rfl, HU.out, HB2.out⟩
end Go.Proofs.YtebidnepanogcaaDoor
