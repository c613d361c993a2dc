/-
  The law CycleAll.
-/
import Derived.Test.YtclbnjfmipifnaaJHe
namespace Go.Proofs.Ytclbnjfmipifnaa
open Go.RowKit Go.Maps

/-- what is at hand: both graphs -/
structure HW (w : World) (g d : Nat) (N : List Lb) (E : List Ee) : Prop where
  pz : Pz 0 w g d N E
  nl : N.length ≤ 120
  el : E.length ≤ 60
theorem HW.later {w w' : World} {g d : Nat} {N : List Lb} {E : List Ee} (h : HW w g d N E) (hb : Below w.heap.size w w') : HW w' g d N E := ⟨h.pz.later hb, h.nl, h.el⟩
theorem HW.dcell {w : World} {g d : Nat} {N : List Lb} {E : List Ee} (h : HW w g d N E) : ∃ an cn, w.cell? ⟨d, 0, none⟩ = some (.slice an N.length cn) ∧ OwnL 0 w (.slice an N.length cn) N ∧ d < w.heap.size := by
  obtain ⟨D, hD, _⟩ := h.pz.dg
  obtain ⟨an, cn, ae, ce, h0, h1, _, _, hoN, _⟩ := hD.rows
  exact ⟨an, cn, h0, hoN, hD.lt d hD.own⟩
theorem HW.lu {w : World} {g d : Nat} {N : List Lb} {E : List Ee} (h : HW w g d N E) : ∀ x ∈ N, Lu x := by
  obtain ⟨D, hD, _⟩ := h.pz.dg
  exact hD.lu
theorem pz_zero {B : Nat} {w : World} {g d : Nat} {N : List Lb} {E : List Ee} (h : Pz B w g d N E) : Pz 0 w g d N E := by
  obtain ⟨F, D, ns, out, h1, h2, h3, h4⟩ := h
  exact ⟨F, D, ns, out, h1, h2, fun _ _ => Nat.zero_le _, fun _ _ => Nat.zero_le _⟩
set_option maxRecDepth 100000 in
set_option maxHeartbeats 16000000 in
theorem call_law {w : World} {v : Value} {l : List Ein} (h : TE w v l) (hm : EEm l) : Calls Try.prog 4 #[v] w fun e w' => e = .returned (.bool true) ∧ Below w.heap.size w w' := by
  have HHD : Hid (Calls Try.prog 6 #[] w fun e w' => e = .returned (.bool true) ∧ Below w.heap.size w w') := head_any w
  have HMD : Hid (∀ W, Below w.heap.size w W → Calls Try.prog 7 #[v] W fun e w' => ∃ g d, e = .returned (.tuple #[.pointer (some ⟨g, 0, none⟩), .pointer (some ⟨d, 0, none⟩)]) ∧ HW w' g d (mg (l.take 60)).1 (mg (l.take 60)).2 ∧ Below W.heap.size W w') := fun W hW => (made_any (h.later hW) hm).mono fun _ _ ⟨g, d, k1, k2, k3, k4, k5⟩ => ⟨g, d, k1, ⟨pz_zero k2, k3, k4⟩, k5⟩
  obtain ⟨N, hN⟩ : ∃ N, (mg (l.take 60)).1 = N := ⟨_, rfl⟩
  obtain ⟨E, hE⟩ : ∃ E, (mg (l.take 60)).2 = E := ⟨_, rfl⟩
  rw [hN, hE] at HMD
  obtain ⟨av, cv, hvv⟩ := h.form
  subst hvv
  generalize l.length = ll at *
  clear h hm hN hE
  go_enter Try.func4, Try.ntmps4
  go_wp2_with fail
  refine HHD.out.mono ?_
  rintro e w1 ⟨rfl, hb⟩
  have HB1 : Hid (Below w.heap.size w w1) := hb
  clear hb HHD
  go_wp2_with fail
  refine (HMD.out _ HB1.out).mono ?_
  rintro e w2 ⟨g, d, rfl, hh, hb⟩
  have H2 : Hid (HW w2 g d N E ∧ Below w.heap.size w w2) := ⟨hh, bstep HB1.out hb⟩
  clear hb hh HMD HB1
  have HPT : Hid (∀ W, Below w2.heap.size w2 W → Calls Try.prog 8 #[.pointer (some ⟨g, 0, none⟩)] W fun e w' => ∃ v V, e = .returned v ∧ PR W.heap.size w' v V (Gs.pts ltL N E) ∧ Gs.Pts ltL N E (Gs.pts ltL N E) ∧ Below W.heap.size W w') := fun W hW => ((H2.out.1.later hW).pz.pg.parts (by have := H2.out.1.nl; omega)).mono fun _ _ ⟨v, V, P, k1, k2, k3, k4, k5⟩ => by
    subst k4
    exact ⟨v, V, k1, k2.pr, k3, k5⟩
  have HFI : Hid (∀ W, Below w2.heap.size w2 W → Calls Try.prog 14 #[.pointer (some ⟨g, 0, none⟩)] W fun e w' => ∃ v, e = .returned (.tuple #[v, .bool (frs E (Gs.pts ltL N E)).isSome]) ∧ OwnL W.heap.size w' v ((frs E (Gs.pts ltL N E)).getD []) ∧ Below W.heap.size W w') := fun W hW => (H2.out.1.later hW).pz.pg.first (by have := H2.out.1.nl; omega) H2.out.1.lu (by have := H2.out.1.el; omega)
  have HDF : Hid (∀ W, Below w2.heap.size w2 W → Calls Try.prog 16 #[.pointer (some ⟨d, 0, none⟩)] W fun e w' => ∃ v, e = .returned (.tuple #[v, .bool (frs E (Gs.pts ltL N E)).isSome]) ∧ OwnL W.heap.size w' v ((frs E (Gs.pts ltL N E)).getD []) ∧ Below W.heap.size W w') := fun W hW => by
    obtain ⟨D, hD, _⟩ := (H2.out.1.later hW).pz.dg
    exact dfirst_any hD (by have := H2.out.1.nl; omega)
  have HDP : Hid (∀ W, Below w2.heap.size w2 W → Calls Try.prog 17 #[.pointer (some ⟨d, 0, none⟩)] W fun e w' => ∃ v V, e = .returned v ∧ PR W.heap.size w' v V (Gs.pts ltL N E) ∧ Below W.heap.size W w') := fun W hW => by
    obtain ⟨D, hD, _⟩ := (H2.out.1.later hW).pz.dg
    refine (dparts_any hD (by have := H2.out.1.nl; omega)).mono fun _ _ ⟨v, V, P, k1, k2, k3, k4, k5⟩ => ?_
    subst k4
    exact ⟨v, V, k1, k2, k5⟩
  obtain ⟨P, hP⟩ : ∃ P, Gs.pts ltL N E = P := ⟨_, rfl⟩
  rw [hP] at HPT HFI HDF HDP
  clear hP
  obtain ⟨fl, hfl⟩ : ∃ fl, (frs E P).getD [] = fl := ⟨_, rfl⟩
  obtain ⟨fb, hfb⟩ : ∃ fb, (frs E P).isSome = fb := ⟨_, rfl⟩
  rw [hfl, hfb] at HFI HDF
  have HFL : Hid ((frs E P).getD [] = fl) := hfl
  clear hfl hfb
  obtain ⟨an, cn, hdc, hdo, hdl⟩ := H2.out.1.dcell
  obtain ⟨nl, hnl⟩ : ∃ nl, N.length = nl := ⟨_, rfl⟩
  rw [hnl] at hdc hdo
  have HDC : Hid (w2.cell? ⟨d, 0, none⟩ = some (.slice an nl cn) ∧ OwnL 0 w2 (.slice an nl cn) N ∧ d < w2.heap.size ∧ N.length = nl ∧ nl ≤ 120) := ⟨hdc, hdo, hdl, hnl, by have := H2.out.1.nl; omega⟩
  clear hdc hdo hdl hnl
  go_wp2_with fail
  refine (HPT.out _ (Below.refl _ _)).mono ?_
  rintro e w3 ⟨v5, V5, rfl, hp, hpt, hb⟩
  have H3 : Hid (PR w2.heap.size w3 v5 V5 P ∧ Gs.Pts ltL N E P ∧ Below w2.heap.size w2 w3) := ⟨hp, hpt, hb⟩
  have HLN : Hid ((∀ p ∈ P, p.length ≤ 100000000) ∧ P.length ≤ 1000000 ∧ fl.length ≤ 100000000) := by
    obtain ⟨q1, q2⟩ := pts_len hpt
    have hn := H2.out.1.nl
    refine ⟨fun p hp => by have := q2 p hp; omega, by omega, ?_⟩
    rw [← HFL.out]
    cases hf : frs E P with
    | none => simp
    | some q =>
      have := q2 q (List.mem_of_find?_eq_some hf)
      show q.length ≤ _
      omega
  obtain ⟨a5, c5, hv5⟩ := row_form hp.row
  generalize V5.length = vl at hv5
  subst hv5
  clear hp hpt hb
  go_wp2_with fail
  refine (HFI.out _ H3.out.2.2).mono ?_
  rintro e w4 ⟨v6, rfl, ho6, hb⟩
  obtain ⟨a6, c6, hv6⟩ := ho6.form
  obtain ⟨fn, hfn⟩ : ∃ fn, fl.length = fn := ⟨_, rfl⟩
  rw [hfn] at hv6
  subst hv6
  have H4 : Hid (LS w4 (.slice a6 fn c6) fl ∧ Below w3.heap.size w3 w4 ∧ Below w2.heap.size w2 w4) := ⟨ho6.rs, hb, bstep H3.out.2.2 hb⟩
  clear ho6 hb
  go_wp2_with fail
  refine (HDF.out _ H4.out.2.2).mono ?_
  rintro e W0 ⟨v8, rfl, ho8, hb⟩
  obtain ⟨a8, c8, hv8⟩ := ho8.form
  rw [hfn] at hv8
  subst hv8
  have H5 : Hid (LS W0 (.slice a6 fn c6) fl ∧ LS W0 (.slice a8 fn c8) fl ∧ PR w2.heap.size W0 (.slice a5 vl c5) V5 P ∧ Below w2.heap.size w2 W0) := ⟨H4.out.1.later hb, ho8.rs, H3.out.1.later (bstep H4.out.2.1 hb), bstep H4.out.2.2 hb⟩
  clear ho8 hb hfn
  have HS1 : Hid (∀ W, Below W0.heap.size W0 W → Calls Try.prog 18 #[.slice a6 fn c6, .slice a8 fn c8] W fun e w' => e = .returned (.bool true) ∧ Below W.heap.size W w') := fun W hW => same_true (H5.out.1.later hW) (H5.out.2.1.later hW) HLN.out.2.2
  have HND : Hid (∀ W, Below W0.heap.size W0 W → Calls Try.prog 19 #[.pointer (some ⟨g, 0, none⟩)] W fun e w' => ∃ v, e = .returned v ∧ OwnL W.heap.size w' v (rs N) ∧ Below W.heap.size W w') := fun W hW => (H2.out.1.later (bstep H5.out.2.2.2 hW)).pz.pg.nodes
  have HRI : Hid (∀ W, Below W0.heap.size W0 W → Calls Try.prog 20 #[.slice an nl cn] W fun e w' => ∃ v, e = .returned v ∧ OwnL W.heap.size w' v (rs N) ∧ Below W.heap.size W w') := fun W hW => drising_any (HDC.out.2.1.rs.later (bstep H5.out.2.2.2 hW)) (by have := HDC.out.2.2.2; omega) H2.out.1.lu
  have HDP0 : Hid (∀ W, Below W0.heap.size W0 W → Calls Try.prog 17 #[.pointer (some ⟨d, 0, none⟩)] W fun e w' => ∃ v V, e = .returned v ∧ PR W.heap.size w' v V P ∧ Below W.heap.size W w') := fun W hW => HDP.out W (bstep H5.out.2.2.2 hW)
  have HSA : Hid (∀ W v V B, Below W0.heap.size W0 W → PR B W v V P → Calls Try.prog 10 #[.slice a5 vl c5, v] W fun e w' => e = .returned (.bool true) ∧ Below W.heap.size W w') := fun W v V B hW hv => sameAll_true (H5.out.2.2.1.later hW) hv HLN.out.1 HLN.out.2.1
  have hrn : (rs N).length ≤ 100000000 := by
    have h9 : (rs N).length ≤ N.length := Gs.ris_le _
    have := HDC.out.2.2.2
    omega
  have HSS : Hid (∀ W u v, LS W u (rs N) → LS W v (rs N) → Calls Try.prog 18 #[u, v] W fun e w' => e = .returned (.bool true) ∧ Below W.heap.size W w') := fun W u v hu hv => same_true hu hv hrn
  clear hrn
  have d0 : W0.cell? ⟨d, 0, none⟩ = some (.slice an nl cn) := (H5.out.2.2.2.cell (p := ⟨d, 0, none⟩) HDC.out.2.2.1).trans HDC.out.1
  have hdW : d < W0.heap.size := Nat.lt_of_lt_of_le HDC.out.2.2.1 H5.out.2.2.2.size
  go_wp2_with fail
  go_region_held3 (fun w' => w'.cell? ⟨d, 0, none⟩ = some (.slice an nl cn)) (first | (with_reducible exact d0) | (with_reducible exact KSf.out) | (with_reducible exact KSe.out) | (with_reducible exact KSd.out) | (with_reducible exact KSc.out) | (with_reducible exact KSb.out) | (with_reducible exact KSa.out) | go_keep) (first | (go_at_call 17; (with_reducible refine (HDP0.out _ (by first | exact Below.refl _ _ | exact (Below.refl _ _).drew | exact HBa.out | exact HBb.out | exact HBc.out | exact HBd.out | exact HBe.out | exact HBf.out)).mono ?_); rintro e x1 ⟨va, Va, rfl, hpa, hb9⟩; have HBa : Hid (Below W0.heap.size W0 x1) := bstep (by first | exact Below.refl _ _ | exact (Below.refl _ _).drew | exact HBa.out | exact HBb.out | exact HBc.out | exact HBd.out | exact HBe.out | exact HBf.out) hb9; have HPa := hpa; obtain ⟨aa, ca, rfl⟩ := row_form hpa.row; clear hpa; have KSa : Hid (x1.cell? ⟨d, 0, none⟩ = some (.slice an nl cn)) := (HBa.out.cell (p := ⟨d, 0, none⟩) hdW).trans d0; clear hb9) | (go_at_call 10; (with_reducible refine (HSA.out _ _ _ _ (by first | exact Below.refl _ _ | exact (Below.refl _ _).drew | exact HBa.out | exact HBb.out | exact HBc.out | exact HBd.out | exact HBe.out | exact HBf.out) HPa).mono ?_); rintro e x2 ⟨rfl, hb9⟩; have HBb : Hid (Below W0.heap.size W0 x2) := bstep (by first | exact Below.refl _ _ | exact (Below.refl _ _).drew | exact HBa.out | exact HBb.out | exact HBc.out | exact HBd.out | exact HBe.out | exact HBf.out) hb9; have KSb : Hid (x2.cell? ⟨d, 0, none⟩ = some (.slice an nl cn)) := (HBb.out.cell (p := ⟨d, 0, none⟩) hdW).trans d0; clear hb9) | (go_at_call 18; (with_reducible refine (HS1.out _ (by first | exact Below.refl _ _ | exact (Below.refl _ _).drew | exact HBa.out | exact HBb.out | exact HBc.out | exact HBd.out | exact HBe.out | exact HBf.out)).mono ?_); rintro e x3 ⟨rfl, hb9⟩; have HBc : Hid (Below W0.heap.size W0 x3) := bstep (by first | exact Below.refl _ _ | exact (Below.refl _ _).drew | exact HBa.out | exact HBb.out | exact HBc.out | exact HBd.out | exact HBe.out | exact HBf.out) hb9; have KSc : Hid (x3.cell? ⟨d, 0, none⟩ = some (.slice an nl cn)) := (HBc.out.cell (p := ⟨d, 0, none⟩) hdW).trans d0; clear hb9) | (go_at_call 19; (with_reducible refine (HND.out _ (by first | exact Below.refl _ _ | exact (Below.refl _ _).drew | exact HBa.out | exact HBb.out | exact HBc.out | exact HBd.out | exact HBe.out | exact HBf.out)).mono ?_); rintro e x4 ⟨vd, rfl, hod, hb9⟩; have HBd : Hid (Below W0.heap.size W0 x4) := bstep (by first | exact Below.refl _ _ | exact (Below.refl _ _).drew | exact HBa.out | exact HBb.out | exact HBc.out | exact HBd.out | exact HBe.out | exact HBf.out) hb9; have HOd := hod.rs; (first | (have HOe2 := HOe.later hb9) | skip); obtain ⟨ad, cd, rfl⟩ := hod.form; clear hod; have KSd : Hid (x4.cell? ⟨d, 0, none⟩ = some (.slice an nl cn)) := (HBd.out.cell (p := ⟨d, 0, none⟩) hdW).trans d0; clear hb9) | (go_at_call 20; (with_reducible refine (HRI.out _ (by first | exact Below.refl _ _ | exact (Below.refl _ _).drew | exact HBa.out | exact HBb.out | exact HBc.out | exact HBd.out | exact HBe.out | exact HBf.out)).mono ?_); rintro e x5 ⟨ve, rfl, hoe, hb9⟩; have HBe : Hid (Below W0.heap.size W0 x5) := bstep (by first | exact Below.refl _ _ | exact (Below.refl _ _).drew | exact HBa.out | exact HBb.out | exact HBc.out | exact HBd.out | exact HBe.out | exact HBf.out) hb9; have HOe := hoe.rs; (first | (have HOd2 := HOd.later hb9) | skip); obtain ⟨ae, ce, rfl⟩ := hoe.form; clear hoe; have KSe : Hid (x5.cell? ⟨d, 0, none⟩ = some (.slice an nl cn)) := (HBe.out.cell (p := ⟨d, 0, none⟩) hdW).trans d0; clear hb9) | (go_at_call 18; (with_reducible refine (HSS.out _ _ _ (by first | exact HOd | exact HOd2) (by first | exact HOe | exact HOe2)).mono ?_); rintro e x6 ⟨rfl, hb9⟩; have HBf : Hid (Below W0.heap.size W0 x6) := bstep (by first | exact Below.refl _ _ | exact (Below.refl _ _).drew | exact HBa.out | exact HBb.out | exact HBc.out | exact HBd.out | exact HBe.out | exact HBf.out) hb9; have KSf : Hid (x6.cell? ⟨d, 0, none⟩ = some (.slice an nl cn)) := (HBf.out.cell (p := ⟨d, 0, none⟩) hdW).trans d0; clear hb9))
  all_goals
    have HBX : Hid (Below W0.heap.size W0 x6) := HBf.out
    clear KSa KSb KSc KSd KSe KSf HBa HBb HBc HBd HBe HBf
    try clear HPa HOd HOe
    try clear HOd2
    try clear HOe2
    try clear HPa
    try clear HOd HOe
    clear HS1 HND HRI HDP0 HSA HSS HPT HFI HDF HDP
    go_wp2_with fail
    go_loopw [10] (fun s10 wr => ∃ i : Nat, s10 = .int .i64 (i : Int) ∧ i ≤ nl ∧ Below W0.heap.size W0 wr) (fun s10 _ => nl - (intOf s10).toNat)
    case atStart => exact ⟨0, rfl, by omega, HBX.out⟩
    case round =>
      obtain ⟨i, rfl, hi, hbr⟩ := hrel
      have HR : Hid (Below W0.heap.size W0 wr ∧ Below w2.heap.size w2 wr) := ⟨hbr, bstep H5.out.2.2.2 hbr⟩
      have q0 := (hbr.cell (p := ⟨d, 0, none⟩) hdW).trans d0
      have hdl2 : d < wr.heap.size := Nat.lt_of_lt_of_le hdW hbr.size
      have hnl1 : nl ≤ 120 := HDC.out.2.2.2.2
      clear hbr
      by_cases hlt : i < nl
      · have hil : i < N.length := by rw [HDC.out.2.2.2.1]; exact hlt
        obtain ⟨b, off, ea, hbw, e0, e1⟩ := LS.at HDC.out.2.1.rs HR.out.2 hil
        subst ea
        obtain ⟨x, hx⟩ : ∃ x, N[i] = x := ⟨_, rfl⟩
        rw [hx] at e0 e1
        have hxN : x ∈ N := by rw [← hx]; exact List.getElem_mem hil
        have hxu := H2.out.1.lu x hxN
        have hbl : b < wr.heap.size := Nat.lt_of_lt_of_le hbw HR.out.2.size
        have HOU : Hid (∀ W, Below wr.heap.size wr W → Calls Try.prog 21 #[.pointer (some ⟨g, 0, none⟩), x.val] W fun e w' => ∃ v, e = .returned v ∧ OwnL W.heap.size w' v (rs (oE E x)) ∧ Below W.heap.size W w') := fun W hW => (H2.out.1.later (bstep HR.out.2 hW)).pz.pg.outs x hxu
        have HDO : Hid (∀ W, Below wr.heap.size wr W → Calls Try.prog 22 #[.pointer (some ⟨d, 0, none⟩), x.val] W fun e w' => ∃ v, e = .returned v ∧ OwnL W.heap.size w' v (rs (oE E x)) ∧ Below W.heap.size W w') := fun W hW => by
          obtain ⟨D, hD, _⟩ := (H2.out.1.later (bstep HR.out.2 hW)).pz.dg
          exact dout_any hD x
        have hol : (rs (oE E x)).length ≤ 100000000 := by
          have h4 : (rs (oE E x)).length ≤ (oE E x).length := Gs.ris_le _
          have h5 := oE_len E x
          have := H2.out.1.el
          omega
        have HSS : Hid (∀ W u v, LS W u (rs (oE E x)) → LS W v (rs (oE E x)) → Calls Try.prog 18 #[u, v] W fun e w' => e = .returned (.bool true) ∧ Below W.heap.size W w') := fun W u v hu hv => same_true hu hv hol
        have i1 : (i : Int) < (nl : Int) := by omega
        have i0 : (0 : Int) ≤ (i : Int) := by omega
        obtain ⟨pk, nm⟩ := x
        simp only [Lb.val] at e0 e1 HOU HDO
        clear hx hxN hxu hol
        go_wp2_with fail
        go_region_held3 (fun w' => w'.cell? ⟨d, 0, none⟩ = some (.slice (some ⟨b, off, none⟩) nl cn) ∧ w'.cell? ⟨b, off + i * 2, none⟩ = some (.string (bs pk)) ∧ w'.cell? ⟨b, off + i * 2 + 1, none⟩ = some (.string (bs nm))) (first | (with_reducible exact ⟨q0, e0, e1⟩) | (with_reducible exact KSf.out) | (with_reducible exact KSe.out) | (with_reducible exact KSd.out) | go_keep) (first | (go_at_call 21; (with_reducible refine (HOU.out _ (by first | exact Below.refl _ _ | exact (Below.refl _ _).drew | exact HBd.out | exact HBe.out)).mono ?_); rintro e x4 ⟨vd, rfl, hod, hb9⟩; have HBd : Hid (Below wr.heap.size wr x4) := bstep (by first | exact Below.refl _ _ | exact (Below.refl _ _).drew | exact HBd.out | exact HBe.out) hb9; have HOd := hod.rs; (first | (have HOe2 := HOe.later hb9) | skip); obtain ⟨ad, cd, rfl⟩ := hod.form; clear hod; have KSd : Hid (x4.cell? ⟨d, 0, none⟩ = some (.slice (some ⟨b, off, none⟩) nl cn) ∧ x4.cell? ⟨b, off + i * 2, none⟩ = some (.string (bs pk)) ∧ x4.cell? ⟨b, off + i * 2 + 1, none⟩ = some (.string (bs nm))) := ⟨(HBd.out.cell (p := ⟨d, 0, none⟩) hdl2).trans q0, (HBd.out.cell (p := ⟨b, off + i * 2, none⟩) hbl).trans e0, (HBd.out.cell (p := ⟨b, off + i * 2 + 1, none⟩) hbl).trans e1⟩; clear hb9) | (go_at_call 22; (with_reducible refine (HDO.out _ (by first | exact Below.refl _ _ | exact (Below.refl _ _).drew | exact HBd.out | exact HBe.out)).mono ?_); rintro e x5 ⟨ve, rfl, hoe, hb9⟩; have HBe : Hid (Below wr.heap.size wr x5) := bstep (by first | exact Below.refl _ _ | exact (Below.refl _ _).drew | exact HBd.out | exact HBe.out) hb9; have HOe := hoe.rs; (first | (have HOd2 := HOd.later hb9) | skip); obtain ⟨ae, ce, rfl⟩ := hoe.form; clear hoe; have KSe : Hid (x5.cell? ⟨d, 0, none⟩ = some (.slice (some ⟨b, off, none⟩) nl cn) ∧ x5.cell? ⟨b, off + i * 2, none⟩ = some (.string (bs pk)) ∧ x5.cell? ⟨b, off + i * 2 + 1, none⟩ = some (.string (bs nm))) := ⟨(HBe.out.cell (p := ⟨d, 0, none⟩) hdl2).trans q0, (HBe.out.cell (p := ⟨b, off + i * 2, none⟩) hbl).trans e0, (HBe.out.cell (p := ⟨b, off + i * 2 + 1, none⟩) hbl).trans e1⟩; clear hb9) | (go_at_call 18; (with_reducible refine (HSS.out _ _ _ (by first | exact HOd | exact HOd2) (by first | exact HOe | exact HOe2)).mono ?_); rintro e x6 ⟨rfl, hb9⟩; have HBf : Hid (Below wr.heap.size wr x6) := bstep (by first | exact Below.refl _ _ | exact (Below.refl _ _).drew | exact HBd.out | exact HBe.out) hb9; have KSf : Hid (x6.cell? ⟨d, 0, none⟩ = some (.slice (some ⟨b, off, none⟩) nl cn) ∧ x6.cell? ⟨b, off + i * 2, none⟩ = some (.string (bs pk)) ∧ x6.cell? ⟨b, off + i * 2 + 1, none⟩ = some (.string (bs nm))) := ⟨(HBf.out.cell (p := ⟨d, 0, none⟩) hdl2).trans q0, (HBf.out.cell (p := ⟨b, off + i * 2, none⟩) hbl).trans e0, (HBf.out.cell (p := ⟨b, off + i * 2 + 1, none⟩) hbl).trans e1⟩; clear hb9))
        all_goals
          have HBY : Hid (Below W0.heap.size W0 x6) := bstep HR.out.1 HBf.out
          clear KSd KSe KSf HBd HBe HBf
          go_wp2_with fail
          go_roundw
          case rel => exact ⟨i + 1, by go_num, by omega, HBY.out⟩
          case measure => simp [intOf]; omega
      · obtain rfl : nl = i := by omega
        go_wp2_with fail
        go_ret
        exact ⟨rfl, bstep H2.out.2 HR.out.2⟩
end Go.Proofs.Ytclbnjfmipifnaa
