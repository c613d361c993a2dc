/-
  The law CycleParts.
-/
import Derived.Test.YtclbnjfmipifnaaJPy
import Derived.Test.YtclbnjfmipifnaaCl
namespace Go.Proofs.Ytclbnjfmipifnaa
open Go.RowKit Go.Maps

theorem PR.cell {base : Nat} {w wr : World} {gp n c : Nat} {V : List Value} {P : List (List Lb)} (h : PR base w (.slice (some ⟨gp, 0, none⟩) n c) V P) (hn : V.length = n) (hb : Below w.heap.size w wr) {i : Nat} (hi : i < P.length) : ∃ ai ci, wr.cell? ⟨gp, i, none⟩ = some (.slice ai P[i].length ci) ∧ OwnL base wr (.slice ai P[i].length ci) P[i] := by
  have hiV : i < V.length := by rw [h.len]; exact hi
  obtain ⟨vi, hvi⟩ : ∃ vi, V[i]? = some vi := ⟨_, List.getElem?_eq_getElem hiV⟩
  have ho := h.own i vi P[i] hvi (List.getElem?_eq_getElem hi)
  obtain ⟨ai, ci, e⟩ := ho.form
  subst e
  have hr := h.row
  rw [hn] at hr
  obtain ⟨_, hl, _⟩ := row_tag h.row (g := gp) rfl
  exact ⟨ai, ci, (hb.cell (p := ⟨gp, i, none⟩) hl).trans (row_cell hr hvi), ho.later hb⟩
/-- what is gone through: all of the parts ahead of i, and the first k of the i-th -/
structure GT (N : List Lb) (P : List (List Lb)) (i k : Nat) (L : List Lb) : Prop where
  nd : L.Nodup
  mem : ∀ x, x ∈ L ↔ (∃ j, ∃ hj : j < P.length, j < i ∧ x ∈ P[j]) ∨ (∃ hi : i < P.length, x ∈ P[i].take k)
theorem GT.nil (N : List Lb) (P : List (List Lb)) : GT N P 0 0 [] := ⟨List.nodup_nil, fun x => by simp⟩
section
variable {N : List Lb} {E : List Ee} {P : List (List Lb)} {i k : Nat} {L : List Lb}
theorem GT.len (h : GT N P i k L) (hp : Gs.Pts ltL N E P) : L.length ≤ N.length := Gs.nodup_sub L N h.nd (fun x hx => by
  rcases (h.mem x).1 hx with ⟨j, hj, _, hx⟩ | ⟨hi, hx⟩
  · exact (hp.one _ (List.getElem_mem hj) x hx).1
  · exact (hp.one _ (List.getElem_mem hi) x (List.mem_of_mem_take hx)).1)
theorem GT.fresh (h : GT N P i k L) (hp : Gs.Pts ltL N E P) (hi : i < P.length) (hk : k < P[i].length) : P[i][k] ∉ L := fun hx => by
  rcases (h.mem _).1 hx with ⟨j, hj, hji, hx⟩ | ⟨_, hx⟩
  · have := pts_disj hp hi hj (List.getElem_mem hk) hx
    omega
  · exact nd_take (Gs.Ris.nodup stoL (hp.up _ (List.getElem_mem hi))) hk hx
theorem GT.step (h : GT N P i k L) (hp : Gs.Pts ltL N E P) (hi : i < P.length) (hk : k < P[i].length) : GT N P i (k + 1) (L ++ [P[i][k]]) := by
  have hf := h.fresh hp hi hk
  refine ⟨?_, fun x => ?_⟩
  · rw [List.nodup_append]
    refine ⟨h.nd, by simp, fun a ha b hb e => ?_⟩
    rw [List.mem_singleton.1 hb] at e
    exact hf (e ▸ ha)
  · rw [List.mem_append, List.mem_singleton, h.mem]
    constructor
    · rintro ((h1 | ⟨hi, h1⟩) | h1)
      · exact .inl h1
      · exact .inr ⟨hi, by rw [List.take_succ_eq_append_getElem hk]; exact List.mem_append_left _ h1⟩
      · exact .inr ⟨hi, by rw [List.take_succ_eq_append_getElem hk]; exact List.mem_append_right _ (by rw [h1]; exact List.mem_singleton.2 rfl)⟩
    · rintro (h1 | ⟨hi, h1⟩)
      · exact .inl (.inl h1)
      · rw [List.take_succ_eq_append_getElem hk] at h1
        rcases List.mem_append.1 h1 with h2 | h2
        · exact .inl (.inr ⟨hi, h2⟩)
        · exact .inr (List.mem_singleton.1 h2)
theorem GT.next (h : GT N P i k L) (hi : i < P.length) (hk : P[i].length ≤ k) : GT N P (i + 1) 0 L := by
  refine ⟨h.nd, fun x => ?_⟩
  rw [h.mem]
  constructor
  · rintro (⟨j, hj, h1, h2⟩ | ⟨hi, h1⟩)
    · exact .inl ⟨j, hj, by omega, h2⟩
    · exact .inl ⟨i, hi, by omega, List.mem_of_mem_take h1⟩
  · rintro (⟨j, hj, h1, h2⟩ | ⟨_, h1⟩)
    · by_cases e : j = i
      · subst e
        exact .inr ⟨hj, by rw [List.take_of_length_le hk]; exact h2⟩
      · exact .inl ⟨j, hj, by omega, h2⟩
    · simp at h1
theorem GT.all (h : GT N P i 0 L) (hp : Gs.Pts ltL N E P) (hN : N.Nodup) (hi : P.length ≤ i) : L.length = N.length := by
  have h1 := h.len hp
  have h2 := Gs.nodup_sub N L hN (fun x hx => by
    obtain ⟨p, hp1, hx1⟩ := hp.cov x hx
    obtain ⟨j, hj, e⟩ := List.getElem_of_mem hp1
    exact (h.mem x).2 (.inl ⟨j, hj, by omega, by rw [e]; exact hx1⟩))
  omega
end
set_option maxRecDepth 100000 in
set_option maxHeartbeats 16000000 in
theorem cprt_law {w : World} {v : Value} {l : List Ein} (h : TE w v l) (hm : EEm l) : Calls Try.prog 3 #[v] w fun e w' => e = .returned (.bool true) ∧ Below w.heap.size w w' := by
  have HHD : Hid (Calls Try.prog 6 #[] w fun e w' => e = .returned (.bool true) ∧ Below w.heap.size w w') := head_any w
  have HMD : Hid (∀ W, Below w.heap.size w W → Calls Try.prog 7 #[v] W fun e w' => ∃ g d, e = .returned (.tuple #[.pointer (some ⟨g, 0, none⟩), .pointer (some ⟨d, 0, none⟩)]) ∧ HW w' g d (mg (l.take 60)).1 (mg (l.take 60)).2 ∧ Below W.heap.size W w') := fun W hW => (made_any (h.later hW) hm).mono fun _ _ ⟨g, d, k1, k2, k3, k4, k5⟩ => ⟨g, d, k1, ⟨pz_zero k2, k3, k4⟩, k5⟩
  obtain ⟨N, hN⟩ : ∃ N, (mg (l.take 60)).1 = N := ⟨_, rfl⟩
  obtain ⟨E, hE⟩ : ∃ E, (mg (l.take 60)).2 = E := ⟨_, rfl⟩
  rw [hN, hE] at HMD
  obtain ⟨av, cv, hvv⟩ := h.form
  subst hvv
  generalize l.length = ll at *
  clear h hm hN hE
  go_enter Try.func3, Try.ntmps3
  go_wp2_with fail
  refine HHD.out.mono ?_
  rintro e w1 ⟨rfl, hb⟩
  have HB1 : Hid (Below w.heap.size w w1) := hb
  clear hb HHD
  go_wp2_with fail
  refine (HMD.out _ HB1.out).mono ?_
  rintro e w2 ⟨g, d, rfl, hh, hb⟩
  have H2 : Hid (HW w2 g d N E ∧ Below w.heap.size w w2) := ⟨hh, bstep HB1.out hb⟩
  clear hb hh HMD HB1
  have HPT : Hid (Calls Try.prog 8 #[.pointer (some ⟨g, 0, none⟩)] w2 fun e w' => ∃ v V P, e = .returned v ∧ PR w2.heap.size w' v V P ∧ Gs.Pts ltL N E P ∧ P = Gs.pts ltL N E ∧ Below w2.heap.size w2 w') := (H2.out.1.pz.pg.parts (by have := H2.out.1.nl; omega)).mono fun _ _ ⟨v, V, P, k1, k2, k3, k4, k5⟩ => ⟨v, V, P, k1, k2.pr, k3, k4, k5⟩
  go_wp2_with fail
  refine HPT.out.mono ?_
  rintro e w3 ⟨v5, V5, P, rfl, hp, hpt, hpe, hb⟩
  obtain ⟨vl, hvl⟩ : ∃ vl, V5.length = vl := ⟨_, rfl⟩
  obtain ⟨a5, c5, hv5⟩ := row_form hp.row
  rw [hvl] at hv5
  subst hv5
  have H3 : Hid (PR w2.heap.size w3 (.slice a5 vl c5) V5 P ∧ Gs.Pts ltL N E P ∧ P = Gs.pts ltL N E ∧ Below w2.heap.size w2 w3 ∧ V5.length = vl ∧ P.length = vl) := ⟨hp, hpt, hpe, hb, hvl, hp.len.symm.trans hvl⟩
  have HLN : Hid ((∀ p ∈ P, p.length ≤ 120) ∧ P.length ≤ 120) := by
    obtain ⟨q1, q2⟩ := pts_len hpt
    have hn := H2.out.1.nl
    exact ⟨fun p hp => by have := q2 p hp; omega, by omega⟩
  have HBK : Hid (Calls Try.prog 9 #[.pointer (some ⟨g, 0, none⟩)] w3 fun e w' => ∃ gb, e = .returned (.pointer (some ⟨gb, 0, none⟩)) ∧ PG w3.heap.size w' gb N (Gs.flp E) ∧ Below w3.heap.size w3 w') := (H2.out.1.later hb).pz.pg.back (by have := H2.out.1.nl; omega)
  clear hp hpt hpe hb hvl HPT
  go_wp2_with fail
  refine HBK.out.mono ?_
  rintro e w4 ⟨gb, rfl, hgb, hb⟩
  have HPT : Hid (Calls Try.prog 8 #[.pointer (some ⟨gb, 0, none⟩)] w4 fun e w' => ∃ v V, e = .returned v ∧ PR w4.heap.size w' v V P ∧ Below w4.heap.size w4 w') := (hgb.parts (by have := H2.out.1.nl; omega)).mono fun _ _ ⟨v, V, P', k1, k2, k3, k4, k5⟩ => by
    have e9 : P' = P := ((pts_flp k3).eq stoL).trans H3.out.2.2.1.symm
    subst e9
    exact ⟨v, V, k1, k2.pr, k5⟩
  have H4 : Hid (PR w2.heap.size w4 (.slice a5 vl c5) V5 P ∧ Below w2.heap.size w2 w4) := ⟨H3.out.1.later hb, bstep H3.out.2.2.2.1 hb⟩
  clear hgb hb HBK
  go_wp2_with fail
  refine HPT.out.mono ?_
  rintro e w5 ⟨v34, V34, rfl, hp, hb⟩
  have HSA : Hid (Calls Try.prog 10 #[v34, .slice a5 vl c5] w5 fun e w' => e = .returned (.bool true) ∧ Below w5.heap.size w5 w') := sameAll_true hp (H4.out.1.later hb) (fun p hp => by have := HLN.out.1 p hp; omega) (by have := HLN.out.2; omega)
  obtain ⟨a34, c34, hv34⟩ := row_form hp.row
  generalize V34.length = vl34 at hv34
  subst hv34
  have H5 : Hid (PR w2.heap.size w5 (.slice a5 vl c5) V5 P ∧ Below w2.heap.size w2 w5) := ⟨H4.out.1.later hb, bstep H4.out.2 hb⟩
  clear hp hb HPT
  go_wp2_with fail
  refine HSA.out.mono ?_
  rintro e W0 ⟨rfl, hb⟩
  have HP0 : Hid (PR w2.heap.size W0 (.slice a5 vl c5) V5 P ∧ Gs.Pts ltL N E P ∧ V5.length = vl ∧ P.length = vl ∧ HW W0 g d N E ∧ Below w2.heap.size w2 W0) := ⟨H5.out.1.later hb, H3.out.2.1, H3.out.2.2.2.2.1, H3.out.2.2.2.2.2, H2.out.1.later (bstep H5.out.2 hb), bstep H5.out.2 hb⟩
  have HPE : Hid (P = Gs.pts ltL N E) := H3.out.2.2.1
  clear hb HSA H5 H4 H3
  have hvl : vl ≤ 120 := by have := HLN.out.2; have := HP0.out.2.2.2.1; omega
  have HRE : Hid (∀ (W : World) (y : Lb), y ∈ N → Below W0.heap.size W0 W → Calls Try.prog 13 #[.pointer (some ⟨d, 0, none⟩), .slice (some ⟨W.heap.size, 0, none⟩) 1 1] (W.alloc (.cells #[.string (bs y.pkg), .string (bs y.name)] 35)) fun e w' => ∃ u R, e = .returned u ∧ LS w' u R ∧ R.length ≤ 120 ∧ (∀ z, z ∈ R ↔ Gs.Way E y z) ∧ Below W.heap.size W w') := fun W y hy hW => by
    obtain ⟨D, hD, _⟩ := (HP0.out.2.2.2.2.1.later (bstep hW (balloc W (.cells #[.string (bs y.pkg), .string (bs y.name)] 35)))).pz.dg
    refine (dreach_any hD (ls_one W y) (by simp)).mono fun e w' ⟨u, R, k1, k2, k3, k4, k5⟩ => ⟨u, R, k1, k2.rs, ?_, fun z => by rw [k4, rch_one hy], bstep (balloc _ _) k5⟩
    have h9 := Gs.nodup_sub R N (Gs.Ris.nodup stoL k3) (fun z hz => rch_in hD.sub ((k4 z).1 hz))
    have := HP0.out.2.2.2.2.1.nl
    omega
  go_wp2_with fail
  go_loopw [7, 8] (fun s7 s8 wr => ∃ (i : Nat) (L : List Lb), s8 = .int .i64 (i : Int) ∧ i ≤ vl ∧ OwnL W0.heap.size wr s7 L ∧ GT N P i 0 L ∧ Below W0.heap.size W0 wr) (fun _ s8 _ => vl - (intOf s8).toNat)
  case atStart => exact ⟨0, [], rfl, by omega, OwnL.nil _ _, GT.nil _ _, Below.refl _ _⟩
  case round =>
    obtain ⟨i, L, rfl, hi, hL, hG, hb⟩ := hrel
    obtain ⟨a7, c7, hv7⟩ := hL.form
    obtain ⟨ln, hln⟩ : ∃ ln, L.length = ln := ⟨_, rfl⟩
    rw [hln] at hv7
    subst hv7
    have HX : Hid (OwnL W0.heap.size wr (.slice a7 ln c7) L ∧ GT N P i 0 L ∧ Below W0.heap.size W0 wr ∧ L.length = ln) := ⟨hL, hG, hb, hln⟩
    have hln2 : ln ≤ 120 := by have h9 := hG.len HP0.out.2.1; have := HP0.out.2.2.2.2.1.nl; omega
    clear hL hG hb hln
    by_cases hlt : i < vl
    · have hiP : i < P.length := by rw [HP0.out.2.2.2.1]; exact hlt
      obtain ⟨gp, cc, hvv, _, _, hg2⟩ := row_place HP0.out.1.row (by rw [HP0.out.2.2.1]; omega)
      rw [HP0.out.2.2.1] at hvv
      injection hvv with hv1 hv2 hv3
      subst hv1 hv3
      clear hv2
      obtain ⟨ai, ci, cvi, hoi⟩ := HP0.out.1.cell HP0.out.2.2.1 HX.out.2.2.1 hiP
      obtain ⟨pn, hpn⟩ : ∃ pn, P[i].length = pn := ⟨_, rfl⟩
      rw [hpn] at cvi hoi
      have hpos : 0 < pn := by rw [← hpn]; exact List.length_pos_iff.2 (HP0.out.2.1.ne _ (List.getElem_mem hiP))
      have hpn2 : pn ≤ 120 := by rw [← hpn]; exact HLN.out.1 _ (List.getElem_mem hiP)
      have HI : Hid (OwnL w2.heap.size wr (.slice ai pn ci) P[i] ∧ P[i].length = pn) := ⟨hoi, hpn⟩
      have h0i : 0 < P[i].length := by omega
      obtain ⟨b, off, ea, hbw, e0, e1⟩ := LS.at hoi.rs (Below.refl _ wr) h0i
      subst ea
      simp only [Nat.zero_mul, Nat.add_zero] at e0 e1
      obtain ⟨x0, hx0⟩ : ∃ x0, P[i][0] = x0 := ⟨_, rfl⟩
      rw [hx0] at e0 e1
      have hgl : gp < wr.heap.size := Nat.lt_of_lt_of_le hg2 HX.out.2.2.1.size
      have i1 : (i : Int) < (vl : Int) := by omega
      have i0 : (0 : Int) ≤ (i : Int) := by omega
      have pn0' : ((pn : Int) == 0) = false := by simp; omega
      clear hoi hpn
      have HHD0 : Hid (P[i].head? = some x0 ∧ x0 ∈ P[i] ∧ Lu x0) := by
        have hm0 : x0 ∈ P[i] := by rw [← hx0]; exact List.getElem_mem h0i
        refine ⟨?_, hm0, HP0.out.2.2.2.2.1.lu x0 (HP0.out.2.1.one _ (List.getElem_mem hiP) x0 hm0).1⟩
        rw [List.head?_eq_getElem?, List.getElem?_eq_getElem h0i, hx0]
      clear hx0
      obtain ⟨pk, nm⟩ := x0
      simp only at e0 e1
      have xg : ∀ Y : GW wr, Y.it.cell? ⟨gp, i, none⟩ = some (.slice (some ⟨b, off, none⟩) pn ci) := fun Y => Y.cell hgl cvi
      have xne := gw_ne wr
      rcases Nat.eq_zero_or_pos i with hz | hz
      case' inl =>
        have g1 : decide (0 < i) = false := by simp; omega
        clear hz
        go_wp2_with fail
        refine wp_region_grow (by kernel_rfl) (by kernel_rfl) ?_
        repeat (go_big_quiet_step (fail))
        refine wpQuiet_nil ?_
        rintro wB ⟨⟨wB, bx⟩, rfl⟩
        have HBB : Hid (Below wr.heap.size wr wB) := bx
        clear g1 bx xg xne
      case' inr =>
        obtain ⟨i', hi'⟩ : ∃ i', i = i' + 1 := ⟨i - 1, by omega⟩
        have hi'P : i' < P.length := by omega
        obtain ⟨aj, cj, cvj, hoj⟩ := HP0.out.1.cell HP0.out.2.2.1 HX.out.2.2.1 hi'P
        obtain ⟨pj, hpj⟩ : ∃ pj, P[i'].length = pj := ⟨_, rfl⟩
        rw [hpj] at cvj hoj
        have h0j : 0 < P[i'].length := List.length_pos_iff.2 (HP0.out.2.1.ne _ (List.getElem_mem hi'P))
        have hpj0 : (0 : Int) < (pj : Int) := by omega
        obtain ⟨b', off', ea, hbw', f0, f1⟩ := LS.at hoj.rs (Below.refl _ wr) h0j
        subst ea
        simp only [Nat.zero_mul, Nat.add_zero] at f0 f1
        obtain ⟨y0, hy0⟩ : ∃ y0, P[i'][0] = y0 := ⟨_, rfl⟩
        rw [hy0] at f0 f1
        have hmy : y0 ∈ P[i'] := by rw [← hy0]; exact List.getElem_mem h0j
        have hly : Lu y0 := HP0.out.2.2.2.2.1.lu y0 (HP0.out.2.1.one _ (List.getElem_mem hi'P) y0 hmy).1
        have hlt0 : ltL y0 ⟨pk, nm⟩ = true := hd_lt (i := i') (j := i) HP0.out.2.1 (by omega) hiP (by rw [List.head?_eq_getElem?, List.getElem?_eq_getElem h0j, hy0]) HHD0.out.1
        have k0 : Hid (∀ Y : GW wr, Calls Try.prog 11 #[y0.val, .agg #[.string (bs pk), .string (bs nm)]] Y.it fun e w' => e = .returned (.bool true) ∧ ∃ X : GW wr, w' = X.it) := fun Y => by
          have h9 := gw_of (fun W => less_any y0 ⟨pk, nm⟩ W hly HHD0.out.2.2) Y
          rw [hlt0] at h9
          exact h9
        obtain ⟨qk, qm⟩ := y0
        simp only [Lb.val] at f0 f1 k0
        have g1 : decide (0 < i) = true := by simp; omega
        have g2 : (i : Int) - 1 = (i' : Int) := by omega
        have g3 : (i' : Int) < (vl : Int) := by omega
        have g4 : (0 : Int) ≤ (i' : Int) := by omega
        have pn1 : (0 : Int) < (pn : Int) := by omega
        have xj : ∀ Y : GW wr, Y.it.cell? ⟨gp, i', none⟩ = some (.slice (some ⟨b', off', none⟩) pj cj) := fun Y => Y.cell hgl cvj
        have y0' : ∀ Y : GW wr, Y.it.cell? ⟨b, off, none⟩ = some (.string (bs pk)) := fun Y => Y.cell hbw e0
        have y1' : ∀ Y : GW wr, Y.it.cell? ⟨b, off + 1, none⟩ = some (.string (bs nm)) := fun Y => Y.cell hbw e1
        have z0' : ∀ Y : GW wr, Y.it.cell? ⟨b', off', none⟩ = some (.string (bs qk)) := fun Y => Y.cell hbw' f0
        have z1' : ∀ Y : GW wr, Y.it.cell? ⟨b', off' + 1, none⟩ = some (.string (bs qm)) := fun Y => Y.cell hbw' f1
        clear hy0 hmy hly hlt0 hoj hpj h0j hi' hi'P hz
        go_wp2_with fail
        refine wp_region_grow (by kernel_rfl) (by kernel_rfl) ?_
        repeat (go_big_quiet_step (with_reducible exact k0.out _))
        refine wpQuiet_nil ?_
        rintro wB ⟨⟨wB, bx⟩, rfl⟩
        have HBB : Hid (Below wr.heap.size wr wB) := bx
        clear bx g1 g2 g3 g4 cvj f0 f1 k0 hpj0 pn1 xg xj y0' y1' z0' z1' xne
      all_goals as_aux_lemma =>
        clear e0 e1 cvi
        have HXB : Hid (OwnL W0.heap.size wB (.slice a7 ln c7) L ∧ Below W0.heap.size W0 wB) := ⟨HX.out.1.later HBB.out, bstep HX.out.2.2.1 HBB.out⟩
        go_wp2_with fail
        go_loopw [7, 9] (fun s7 s9 wr => ∃ (k : Nat) (L2 : List Lb), s9 = .int .i64 (k : Int) ∧ k ≤ pn ∧ OwnL W0.heap.size wr s7 L2 ∧ GT N P i k L2 ∧ Below W0.heap.size W0 wr) (fun _ s9 _ => pn - (intOf s9).toNat)
        case atStart => exact ⟨0, L, rfl, by omega, HXB.out.1, HX.out.2.1, HXB.out.2⟩
        case round =>
          rename World => wq
          obtain ⟨k, L2, rfl, hk, hL2, hG2, hb2⟩ := hrel
          obtain ⟨a7', c7', hv7⟩ := hL2.form
          obtain ⟨ln', hln'⟩ : ∃ ln', L2.length = ln' := ⟨_, rfl⟩
          rw [hln'] at hv7
          subst hv7
          have HY : Hid (OwnL W0.heap.size wq (.slice a7' ln' c7') L2 ∧ GT N P i k L2 ∧ Below W0.heap.size W0 wq ∧ L2.length = ln') := ⟨hL2, hG2, hb2, hln'⟩
          have hln3 : ln' ≤ 120 := by have h9 := hG2.len HP0.out.2.1; have := HP0.out.2.2.2.2.1.nl; omega
          obtain ⟨ai2, ci2, cvi2, hoi2⟩ := HP0.out.1.cell HP0.out.2.2.1 hb2 hiP
          rw [HI.out.2] at cvi2 hoi2
          have hgq : gp < wq.heap.size := Nat.lt_of_lt_of_le hg2 hb2.size
          clear hL2 hG2 hb2 hln'
          by_cases hkl : k < pn
          · have hkP : k < P[i].length := by rw [HI.out.2]; exact hkl
            obtain ⟨b2, off2, ea, hbw2, e0, e1⟩ := LS.at hoi2.rs (Below.refl _ wq) hkP
            subst ea
            obtain ⟨x, hx⟩ : ∃ x, P[i][k] = x := ⟨_, rfl⟩
            rw [hx] at e0 e1
            have HXX : Hid (P[i][k] = x ∧ x ∈ P[i] ∧ x ∈ N ∧ Lu x ∧ x ∉ L2) := by
              have h1 : x ∈ P[i] := by rw [← hx]; exact List.getElem_mem hkP
              have h2 := (HP0.out.2.1.one _ (List.getElem_mem hiP) x h1).1
              exact ⟨hx, h1, h2, HP0.out.2.2.2.2.1.lu x h2, by rw [← hx]; exact HY.out.2.1.fresh HP0.out.2.1 hiP hkP⟩
            have HCI : Hid (∀ W, Below W0.heap.size W0 W → W.cell? ⟨gp, i, none⟩ = some (.slice (some ⟨b2, off2, none⟩) pn ci2)) := fun W hW => by
              obtain ⟨A1, A2, A3, _⟩ := HP0.out.1.cell HP0.out.2.2.1 hW hiP
              obtain ⟨B1, B2, B3, _⟩ := HP0.out.1.cell HP0.out.2.2.1 HY.out.2.2.1 hiP
              rw [HI.out.2] at A3 B3
              have h1 := (hW.cell (p := ⟨gp, i, none⟩) hg2).symm.trans A3
              have h2 := (HY.out.2.2.1.cell (p := ⟨gp, i, none⟩) hg2).symm.trans cvi2
              exact (hW.cell (p := ⟨gp, i, none⟩) hg2).trans h2
            have HLB : Hid (∀ W, Below W0.heap.size W0 W → W.cell? ⟨b2, off2 + k * 2, none⟩ = some (.string (bs x.pkg)) ∧ W.cell? ⟨b2, off2 + k * 2 + 1, none⟩ = some (.string (bs x.name))) := fun W hW => by
              obtain ⟨A1, A2, A3, A4⟩ := HP0.out.1.cell HP0.out.2.2.1 hW hiP
              rw [HI.out.2] at A3 A4
              have h3 := A3.symm.trans (HCI.out W hW)
              injection h3 with h3
              injection h3 with h3 _ h4
              subst h3 h4
              obtain ⟨C1, C2, C3, C4, C5, C6⟩ := LS.at A4.rs (Below.refl _ W) hkP
              injection C3 with C3
              injection C3 with C31 C32 _
              subst C31 C32
              rw [hx] at C5 C6
              exact ⟨C5, C6⟩
            have q1 : (k : Int) < (pn : Int) := by omega
            have q0 : (0 : Int) ≤ (k : Int) := by omega
            have xg : ∀ Y : GW wq, Y.it.cell? ⟨gp, i, none⟩ = some (.slice (some ⟨b2, off2, none⟩) pn ci2) := fun Y => Y.cell hgq cvi2
            have xne := gw_ne wq
            have y0' : ∀ Y : GW wq, Y.it.cell? ⟨b2, off2 + k * 2, none⟩ = some (.string (bs x.pkg)) := fun Y => Y.cell hbw2 e0
            have y1' : ∀ Y : GW wq, Y.it.cell? ⟨b2, off2 + k * 2 + 1, none⟩ = some (.string (bs x.name)) := fun Y => Y.cell hbw2 e1
            have k1 : Hid (∀ Y : GW wq, Calls Try.prog 12 #[.slice a7' ln' c7', x.val] Y.it fun e w' => e = .returned (.bool false) ∧ ∃ X : GW wq, w' = X.it) := fun Y => (in_any (HY.out.1.later Y.below).rs (by have := HY.out.2.2.2; omega) x).mono fun e w' ⟨h1, h2⟩ => ⟨by rw [h1]; simp [HXX.out.2.2.2.2], ⟨w', bstep Y.below h2⟩, rfl⟩
            rcases Nat.eq_zero_or_pos k with hz | hz
            case' inl =>
              have g1 : decide (0 < k) = false := by simp; omega
              obtain ⟨pk2, nm2⟩ := x
              simp only [Lb.val] at e0 e1 y0' y1' k1 HLB
              clear hz hx
              go_wp2_with fail
              refine wp_region_grow (by kernel_rfl) (by kernel_rfl) ?_
              repeat (go_big_quiet_step (with_reducible exact k1.out _))
              refine wpQuiet_nil ?_
              rintro wC ⟨⟨wC, bx⟩, rfl⟩
              have HBC : Hid (Below wq.heap.size wq wC) := bx
              clear g1 bx xg xne y0' y1' k1
            case' inr =>
              obtain ⟨k', hk'⟩ : ∃ k', k = k' + 1 := ⟨k - 1, by omega⟩
              have hk'P : k' < P[i].length := by omega
              obtain ⟨b3, off3, ea, hbw3, f0, f1⟩ := LS.at hoi2.rs (Below.refl _ wq) hk'P
              injection ea with ea
              injection ea with ea1 ea2 _
              subst ea1 ea2
              obtain ⟨y, hy⟩ : ∃ y, P[i][k'] = y := ⟨_, rfl⟩
              rw [hy] at f0 f1
              have hmy : y ∈ P[i] := by rw [← hy]; exact List.getElem_mem hk'P
              have hly : Lu y := HP0.out.2.2.2.2.1.lu y (HP0.out.2.1.one _ (List.getElem_mem hiP) y hmy).1
              have hlt0 : ltL y x = true := by
                have h9 := (List.pairwise_iff_getElem.1 (HP0.out.2.1.up _ (List.getElem_mem hiP))) k' k hk'P hkP (by omega)
                rw [hy, hx] at h9
                exact h9
              have k0 : Hid (∀ Y : GW wq, Calls Try.prog 11 #[y.val, x.val] Y.it fun e w' => e = .returned (.bool true) ∧ ∃ X : GW wq, w' = X.it) := fun Y => by
                have h9 := gw_of (fun W => less_any y x W hly HXX.out.2.2.2.1) Y
                rw [hlt0] at h9
                exact h9
              have z0' : ∀ Y : GW wq, Y.it.cell? ⟨b2, off2 + k' * 2, none⟩ = some (.string (bs y.pkg)) := fun Y => Y.cell hbw2 f0
              have z1' : ∀ Y : GW wq, Y.it.cell? ⟨b2, off2 + k' * 2 + 1, none⟩ = some (.string (bs y.name)) := fun Y => Y.cell hbw2 f1
              have g1 : decide (0 < k) = true := by simp; omega
              have g2 : (k : Int) - 1 = (k' : Int) := by omega
              have g3 : (k' : Int) < (pn : Int) := by omega
              have g4 : (0 : Int) ≤ (k' : Int) := by omega
              clear hx hy hlt0
              obtain ⟨pk2, nm2⟩ := x
              obtain ⟨qk2, qm2⟩ := y
              simp only [Lb.val] at e0 e1 y0' y1' k1 f0 f1 z0' z1' k0 HLB
              clear hmy hly hk' hk'P hz hbw3
              go_wp2_with fail
              refine wp_region_grow (by kernel_rfl) (by kernel_rfl) ?_
              repeat (go_big_quiet_step (first | (with_reducible exact k0.out _) | (with_reducible exact k1.out _)))
              refine wpQuiet_nil ?_
              rintro wC ⟨⟨wC, bx⟩, rfl⟩
              have HBC : Hid (Below wq.heap.size wq wC) := bx
              clear bx g1 g2 g3 g4 f0 f1 k0 k1 xg xne y0' y1' z0' z1'
            all_goals as_aux_lemma =>
              have HBD : Hid (Below W0.heap.size W0 wC ∧ OwnL W0.heap.size wC (.slice a7' ln' c7') L2) := ⟨bstep HY.out.2.2.1 HBC.out, HY.out.1.later HBC.out⟩
              have cvi3 := (HBC.out.cell (p := ⟨gp, i, none⟩) hgq).trans cvi2
              have e0c := (HBC.out.cell (p := ⟨b2, off2 + k * 2, none⟩) hbw2).trans e0
              have e1c := (HBC.out.cell (p := ⟨b2, off2 + k * 2 + 1, none⟩) hbw2).trans e1
              have HBL : Hid (L2.length + 1 ≤ 100000000 ∧ W0.heap.size ≤ wC.heap.size) := ⟨by have := HY.out.2.2.2; omega, HBD.out.1.size⟩
              clear e0 e1 cvi2
              go_wp2_with (first | (at_builtin; refine app_L1 und_L ⟨pk2, nm2⟩ HBD.out.2 HBL.out.1 HBL.out.2 rfl (.tmp 113) (.tmp 121) rfl rfl rfl ?_; intro v7 w7 ho7 hb7 hon7 hs7 hwh7; obtain ⟨a9, c9, rfl⟩ := ho7.form; have HO7 : Hid (OwnL W0.heap.size w7 (.slice a9 (L2 ++ [(⟨pk2, nm2⟩ : Lb)]).length c9) (L2 ++ [⟨pk2, nm2⟩]) ∧ Below W0.heap.size W0 w7) := ⟨ho7, below_trans HBD.out.1 hb7⟩; have HS7 : Hid (wC.heap.size ≤ w7.heap.size) := hon7.size; have cvi4 : w7.cell? ⟨gp, i, none⟩ = some (.slice (some ⟨b2, off2, none⟩) pn ci2) := HCI.out w7 HO7.out.2; have e0d := (HLB.out w7 HO7.out.2).1; have e1d := (HLB.out w7 HO7.out.2).2; clear ho7 hb7 hon7 hs7 hwh7))
              refine (HRE.out w7 ⟨pk2, nm2⟩ HXX.out.2.2.1 HO7.out.2).mono ?_
              rintro e w8 ⟨v10, R, rfl, hR1, hR2, hR3, hb8⟩
              obtain ⟨rl, hrl⟩ : ∃ rl, R.length = rl := ⟨_, rfl⟩
              obtain ⟨a10, c10, hv10, _⟩ := hR1.form
              rw [hrl] at hv10
              subst hv10
              have H8 : Hid (LS w8 (.slice a10 rl c10) R ∧ R.length ≤ 120 ∧ (∀ z, z ∈ R ↔ Gs.Way E ⟨pk2, nm2⟩ z) ∧ Below W0.heap.size W0 w8 ∧ OwnL W0.heap.size w8 (.slice a9 (L2 ++ [(⟨pk2, nm2⟩ : Lb)]).length c9) (L2 ++ [⟨pk2, nm2⟩])) := ⟨hR1, hR2, hR3, bstep HO7.out.2 hb8, HO7.out.1.later hb8⟩
              have HB2Q : Hid (wq.heap.size ≤ w7.heap.size) := Nat.le_trans HBC.out.size HS7.out
              have H8Q : Hid (Below w7.heap.size w7 w8) := hb8
              clear hR1 hR2 hR3 hb8 hrl cvi4 e0d e1d cvi3 e0c e1c
              go_wp2_with fail
              go_loopw [11] (fun s11 wr => ∃ j : Nat, s11 = .int .i64 (j : Int) ∧ j ≤ vl ∧ Below w8.heap.size w8 wr) (fun s11 _ => vl - (intOf s11).toNat)
              case atStart => exact ⟨0, rfl, by omega, Below.refl _ _⟩
              case round => as_aux_lemma =>
                rename World => wt
                obtain ⟨j, rfl, hj, hbt⟩ := hrel
                have HT : Hid (Below w8.heap.size w8 wt ∧ Below W0.heap.size W0 wt) := ⟨hbt, bstep H8.out.2.2.2.1 hbt⟩
                clear hbt
                by_cases hjl : j < vl
                · have hjP : j < P.length := by rw [HP0.out.2.2.2.1]; exact hjl
                  obtain ⟨aj, cj, cvj, hoj⟩ := HP0.out.1.cell HP0.out.2.2.1 HT.out.2 hjP
                  obtain ⟨pj, hpj⟩ : ∃ pj, P[j].length = pj := ⟨_, rfl⟩
                  rw [hpj] at cvj hoj
                  have h0j : 0 < P[j].length := List.length_pos_iff.2 (HP0.out.2.1.ne _ (List.getElem_mem hjP))
                  have hpj0 : (0 : Int) < (pj : Int) := by omega
                  obtain ⟨b5, off5, ea, hbw5, f0, f1⟩ := LS.at hoj.rs (Below.refl _ wt) h0j
                  subst ea
                  simp only [Nat.zero_mul, Nat.add_zero] at f0 f1
                  obtain ⟨y, hy⟩ : ∃ y, P[j][0] = y := ⟨_, rfl⟩
                  rw [hy] at f0 f1
                  have HYY : Hid (y ∈ P[j] ∧ y ∈ N) := by
                    have h1 : y ∈ P[j] := by rw [← hy]; exact List.getElem_mem h0j
                    exact ⟨h1, (HP0.out.2.1.one _ (List.getElem_mem hjP) y h1).1⟩
                  have HMU : Hid (Gs.Mut E ⟨pk2, nm2⟩ y ↔ i = j) := pts_mut HP0.out.2.1 hiP hjP HXX.out.2.1 HYY.out.1
                  have HIN : Hid (Calls Try.prog 12 #[.slice a10 rl c10, y.val] wt fun e w' => e = .returned (.bool (decide (y ∈ R))) ∧ Below wt.heap.size wt w') := in_any (H8.out.1.later HT.out.1) (by have := H8.out.2.1; omega) y
                  obtain ⟨th, hth⟩ : ∃ th, decide (y ∈ R) = th := ⟨_, rfl⟩
                  rw [hth] at HIN
                  have HTH : Hid (th = true ↔ Gs.Way E ⟨pk2, nm2⟩ y) := by
                    show th = true ↔ _
                    rw [← hth, decide_eq_true_eq]
                    exact H8.out.2.2.1 y
                  have hgt : gp < wt.heap.size := Nat.lt_of_lt_of_le hg2 HT.out.2.size
                  have j1 : (j : Int) < (vl : Int) := by omega
                  have j0 : (0 : Int) ≤ (j : Int) := by omega
                  clear hy hoj hpj h0j hth
                  obtain ⟨qk, qm⟩ := y
                  simp only [Lb.val] at f0 f1 HIN
                  go_wp2_with fail
                  refine HIN.out.mono ?_
                  rintro e w9 ⟨rfl, hb9⟩
                  have HB9 : Hid (Below wt.heap.size wt w9 ∧ Below w8.heap.size w8 w9 ∧ Below W0.heap.size W0 w9) := ⟨hb9, bstep HT.out.1 hb9, bstep HT.out.2 hb9⟩
                  have cvj9 := (hb9.cell (p := ⟨gp, j, none⟩) hgt).trans cvj
                  have f09 := (hb9.cell (p := ⟨b5, off5, none⟩) hbw5).trans f0
                  have f19 := (hb9.cell (p := ⟨b5, off5 + 1, none⟩) hbw5).trans f1
                  have cvi9 := HCI.out w9 HB9.out.2.2
                  have e09 := (HLB.out w9 HB9.out.2.2).1
                  have e19 := (HLB.out w9 HB9.out.2.2).2
                  clear hb9 HIN cvj f0 f1
                  have xne := gw_ne w9
                  by_cases hij : j = i
                  · have hthT : th = true := HTH.out.2 (HMU.out.2 hij.symm).1
                    subst hthT
                    have g1 : ((j : Int) == (i : Int)) = true := by simp; omega
                    have g2 : ((j : Int) != (i : Int)) = false := by simp; omega
                    clear hij
                    go_wp2_with fail
                    refine wp_region_grow (by kernel_rfl) (by kernel_rfl) ?_
                    repeat (go_big_quiet_step (fail))
                    refine wpQuiet_nil ?_
                    rintro wD ⟨⟨wD, bx⟩, rfl⟩
                    have HBE : Hid (Below w8.heap.size w8 wD) := bstep HB9.out.2.1 bx
                    clear bx
                    go_wp2_with fail
                    go_roundw
                    case rel => exact ⟨j + 1, by go_num, by omega, HBE.out⟩
                    case measure => simp [intOf]; omega
                  · have g1 : ((j : Int) == (i : Int)) = false := by simp; omega
                    have g2 : ((j : Int) != (i : Int)) = true := by simp; omega
                    have HNW : Hid (th = true → ¬ Gs.Way E ⟨qk, qm⟩ ⟨pk2, nm2⟩) := fun h1 h2 => hij (HMU.out.1 ⟨HTH.out.1 h1, h2⟩).symm
                    have HIJ : Hid (¬ j = i) := hij
                    clear hij
                    cases th with
                    | false =>
                      go_wp2_with fail
                      refine wp_region_grow (by kernel_rfl) (by kernel_rfl) ?_
                      repeat (go_big_quiet_step (fail))
                      refine wpQuiet_nil ?_
                      rintro wD ⟨⟨wD, bx⟩, rfl⟩
                      have HBE : Hid (Below w8.heap.size w8 wD) := bstep HB9.out.2.1 bx
                      clear bx
                      go_wp2_with fail
                      go_roundw
                      case rel => exact ⟨j + 1, by go_num, by omega, HBE.out⟩
                      case measure => simp [intOf]; omega
                    | true =>
                      have hgt9 : gp < w9.heap.size := Nat.lt_of_lt_of_le hgt HB9.out.1.size
                      have hb59 : b5 < w9.heap.size := Nat.lt_of_lt_of_le hbw5 HB9.out.1.size
                      have hb29 : b2 < w9.heap.size := Nat.lt_of_lt_of_le hbw2 (Nat.le_trans HB2Q.out (Nat.le_trans (bstep H8Q.out HB9.out.2.1).size (Nat.le_refl _)))
                      have HRE2 : Hid (Calls Try.prog 13 #[.pointer (some ⟨d, 0, none⟩), .slice (some ⟨w9.heap.size, 0, none⟩) 1 1] (w9.alloc (.cells #[.string (bs qk), .string (bs qm)] 35)).drew fun e w' => ∃ u R, e = .returned u ∧ LS w' u R ∧ R.length ≤ 120 ∧ (∀ z, z ∈ R ↔ Gs.Way E ⟨qk, qm⟩ z) ∧ Below w9.heap.size w9 w') := by
                        obtain ⟨D, hD, _⟩ := (HP0.out.2.2.2.2.1.later (bstep HB9.out.2.2 (balloc w9 (.cells #[.string (bs qk), .string (bs qm)] 35)).drew)).pz.dg
                        refine (dreach_any hD ((ls_one w9 ⟨qk, qm⟩).later (Below.refl _ _).drew) (by simp)).mono fun e w' ⟨u, R, k1, k2, k3, k4, k5⟩ => ⟨u, R, k1, k2.rs, ?_, fun z => by rw [k4, rch_one HYY.out.2], bstep (balloc _ _).drew k5⟩
                        have h9 := Gs.nodup_sub R N (Gs.Ris.nodup stoL k3) (fun z hz => rch_in hD.sub ((k4 z).1 hz))
                        have := HP0.out.2.2.2.2.1.nl
                        omega
                      have HIN2 : Hid (∀ W v R2, LS W v R2 → R2.length ≤ 120 → (∀ z, z ∈ R2 ↔ Gs.Way E ⟨qk, qm⟩ z) → Calls Try.prog 12 #[v, .agg #[.string (bs pk2), .string (bs nm2)]] W fun e w' => e = .returned (.bool false) ∧ Below W.heap.size W w') := fun W v R2 h1 h2 h3 => (in_any h1 (by omega) ⟨pk2, nm2⟩).mono fun e w' ⟨k1, k2⟩ => ⟨by rw [k1]; simp [h3, HNW.out rfl], k2⟩
                      have hpjn : 0 < pj := by omega
                      have n1 : ¬ j = i := HIJ.out
                      have n2 : ¬ (j : Int) = (i : Int) := by have := HIJ.out; omega
                      have n3 : decide ((j : Int) = (i : Int)) = false := by have := HIJ.out; simp; omega
                      have n4 : decide (j = i) = false := by simp; exact HIJ.out
                      have n5 : (j == i) = false := by simp; exact HIJ.out
                      have n6 : (j != i) = true := by simp; exact HIJ.out
                      have HNO : Hid (¬ Gs.Way E ⟨qk, qm⟩ ⟨pk2, nm2⟩) := HNW.out rfl
                      go_wp2_with fail
                      have HSD : Hid (∀ W, Below w9.heap.size w9 W → (W.cell? ⟨gp, j, none⟩ = some (.slice (some ⟨b5, off5, none⟩) pj cj) ∧ W.cell? ⟨b5, off5, none⟩ = some (.string (bs qk)) ∧ W.cell? ⟨b5, off5 + 1, none⟩ = some (.string (bs qm)) ∧ W.cell? ⟨gp, i, none⟩ = some (.slice (some ⟨b2, off2, none⟩) pn ci2) ∧ W.cell? ⟨b2, off2 + k * 2, none⟩ = some (.string (bs pk2)) ∧ W.cell? ⟨b2, off2 + k * 2 + 1, none⟩ = some (.string (bs nm2)))) := fun W hW => ⟨(hW.cell (p := ⟨gp, j, none⟩) hgt9).trans cvj9, (hW.cell (p := ⟨b5, off5, none⟩) hb59).trans f09, (hW.cell (p := ⟨b5, off5 + 1, none⟩) hb59).trans f19, (hW.cell (p := ⟨gp, i, none⟩) hgt9).trans cvi9, (hW.cell (p := ⟨b2, off2 + k * 2, none⟩) hb29).trans e09, (hW.cell (p := ⟨b2, off2 + k * 2 + 1, none⟩) hb29).trans e19⟩
                      refine wp_region_noPanic ?_
                      refine wp_region_held_drew (S := fun W => (W.cell? ⟨gp, j, none⟩ = some (.slice (some ⟨b5, off5, none⟩) pj cj) ∧ W.cell? ⟨b5, off5, none⟩ = some (.string (bs qk)) ∧ W.cell? ⟨b5, off5 + 1, none⟩ = some (.string (bs qm)) ∧ W.cell? ⟨gp, i, none⟩ = some (.slice (some ⟨b2, off2, none⟩) pn ci2) ∧ W.cell? ⟨b2, off2 + k * 2, none⟩ = some (.string (bs pk2)) ∧ W.cell? ⟨b2, off2 + k * 2 + 1, none⟩ = some (.string (bs nm2)))) (by kernel_rfl) ⟨cvj9, f09, f19, cvi9, e09, e19⟩ (fun hHeld => ?_)
                      refine wpAnyH_take (i := 0) (oi := { dst := some 147, op := _, type := _, pos := _, after := _, guard := _ }) (v := ?_) rfl (by kernel_rfl) (by kernel_rfl) (by kernel_rfl) (fun _ _ _ h => h) (Or.inl ⟨by rfl, ?_⟩) (by assumption) ?_
                      rotate_left
                      · (intro w hSw; (try dsimp only at hSw); go_simp; try with_reducible rfl)
                      try simp only [Act.put, List.setIfInBounds_toArray, List.set_cons_zero, List.set_cons_succ]
                      refine wpAnyH_take (i := 1) (oi := { dst := some 148, op := _, type := _, pos := _, after := _, guard := _ }) (v := ?_) rfl (by kernel_rfl) (by kernel_rfl) (by kernel_rfl) (fun _ _ _ h => h) (Or.inl ⟨by rfl, ?_⟩) (by assumption) ?_
                      rotate_left
                      · (intro w hSw; (try dsimp only at hSw); go_simp; try with_reducible rfl)
                      try simp only [Act.put, List.setIfInBounds_toArray, List.set_cons_zero, List.set_cons_succ]
                      refine wpAnyH_take (i := 2) (oi := { dst := some 149, op := _, type := _, pos := _, after := _, guard := _ }) (v := ?_) rfl (by kernel_rfl) (by kernel_rfl) (by kernel_rfl) (fun _ _ _ h => h) (Or.inl ⟨by rfl, ?_⟩) (by assumption) ?_
                      rotate_left
                      · (intro w hSw; (try dsimp only at hSw); go_simp; try with_reducible rfl)
                      try simp only [Act.put, List.setIfInBounds_toArray, List.set_cons_zero, List.set_cons_succ]
                      refine wpAnyH_take (i := 3) (oi := { dst := some 150, op := _, type := _, pos := _, after := _, guard := _ }) (v := ?_) rfl (by kernel_rfl) (by kernel_rfl) (by kernel_rfl) (fun _ _ _ h => h) (Or.inl ⟨by rfl, ?_⟩) (by assumption) ?_
                      rotate_left
                      · (intro w hSw; (try dsimp only at hSw); go_simp; try with_reducible rfl)
                      try simp only [Act.put, List.setIfInBounds_toArray, List.set_cons_zero, List.set_cons_succ]
                      refine wpAnyH_take (i := 4) (oi := { dst := some 151, op := _, type := _, pos := _, after := _, guard := _ }) (v := undef) rfl (by kernel_rfl) (by kernel_rfl) (by kernel_rfl) (fun _ _ _ h => h) (Or.inr ⟨by rfl, rfl⟩) (by assumption) ?_
                      try simp only [Act.put, List.setIfInBounds_toArray, List.set_cons_zero, List.set_cons_succ]
                      refine wpAnyH_take (i := 5) (oi := { dst := some 152, op := _, type := _, pos := _, after := _, guard := _ }) (v := undef) rfl (by kernel_rfl) (by kernel_rfl) (by kernel_rfl) (fun _ _ _ h => h) (Or.inr ⟨by rfl, rfl⟩) (by assumption) ?_
                      try simp only [Act.put, List.setIfInBounds_toArray, List.set_cons_zero, List.set_cons_succ]
                      refine wpAnyH_take (i := 6) (oi := { dst := some 153, op := _, type := _, pos := _, after := _, guard := _ }) (v := ?_) rfl (by kernel_rfl) (by kernel_rfl) (by kernel_rfl) (fun _ _ _ h => h) (Or.inl ⟨by rfl, ?_⟩) (by assumption) ?_
                      rotate_left
                      · (intro w hSw; (try dsimp only at hSw); go_simp; try with_reducible rfl)
                      try simp only [Act.put, List.setIfInBounds_toArray, List.set_cons_zero, List.set_cons_succ]
                      refine wpAnyH_take (i := 7) (oi := { dst := some 154, op := _, type := _, pos := _, after := _, guard := _ }) (v := ?_) rfl (by kernel_rfl) (by kernel_rfl) (by kernel_rfl) (fun _ _ _ h => h) (Or.inl ⟨by rfl, ?_⟩) (by assumption) ?_
                      rotate_left
                      · (intro w hSw; (try dsimp only at hSw); go_simp; try with_reducible rfl)
                      try simp only [Act.put, List.setIfInBounds_toArray, List.set_cons_zero, List.set_cons_succ]
                      refine wpAnyH_take (i := 8) (oi := { dst := some 155, op := _, type := _, pos := _, after := _, guard := _ }) (v := ?_) rfl (by kernel_rfl) (by kernel_rfl) (by kernel_rfl) (fun _ _ _ h => h) (Or.inl ⟨by rfl, ?_⟩) (by assumption) ?_
                      rotate_left
                      · (intro w hSw; (try dsimp only at hSw); go_simp; try with_reducible rfl)
                      try simp only [Act.put, List.setIfInBounds_toArray, List.set_cons_zero, List.set_cons_succ]
                      refine wpAnyH_take (i := 9) (oi := { dst := some 156, op := _, type := _, pos := _, after := _, guard := _ }) (v := ?_) rfl (by kernel_rfl) (by kernel_rfl) (by kernel_rfl) (fun _ _ _ h => h) (Or.inl ⟨by rfl, ?_⟩) (by assumption) ?_
                      rotate_left
                      · (intro w hSw; (try dsimp only at hSw); go_simp; try with_reducible rfl)
                      try simp only [Act.put, List.setIfInBounds_toArray, List.set_cons_zero, List.set_cons_succ]
                      refine wpAnyH_take (i := 10) (oi := { dst := some 157, op := _, type := _, pos := _, after := _, guard := _ }) (v := ?_) rfl (by kernel_rfl) (by kernel_rfl) (by kernel_rfl) (fun _ _ _ h => h) (Or.inl ⟨by rfl, ?_⟩) (by assumption) ?_
                      rotate_left
                      · (intro w hSw; (try dsimp only at hSw); go_simp; try with_reducible rfl)
                      try simp only [Act.put, List.setIfInBounds_toArray, List.set_cons_zero, List.set_cons_succ]
                      refine wpAnyH_take (i := 11) (oi := { dst := some 158, op := _, type := _, pos := _, after := _, guard := _ }) (v := ?_) rfl (by kernel_rfl) (by kernel_rfl) (by kernel_rfl) (fun _ _ _ h => h) (Or.inl ⟨by rfl, ?_⟩) (by assumption) ?_
                      rotate_left
                      · (intro w hSw; (try dsimp only at hSw); go_simp; try with_reducible rfl)
                      try simp only [Act.put, List.setIfInBounds_toArray, List.set_cons_zero, List.set_cons_succ]
                      refine wpAnyH_take (i := 12) (oi := { dst := some 159, op := _, type := _, pos := _, after := _, guard := _ }) (v := ?_) rfl (by kernel_rfl) (by kernel_rfl) (by kernel_rfl) (fun _ _ _ h => h) (Or.inl ⟨by rfl, ?_⟩) (by assumption) ?_
                      rotate_left
                      · (intro w hSw; (try dsimp only at hSw); go_simp; try with_reducible rfl)
                      try simp only [Act.put, List.setIfInBounds_toArray, List.set_cons_zero, List.set_cons_succ]
                      refine wpAnyH_take (i := 13) (oi := { dst := some 160, op := _, type := _, pos := _, after := _, guard := _ }) (v := ?_) rfl (by kernel_rfl) (by kernel_rfl) (by kernel_rfl) (fun _ _ _ h => h) (Or.inl ⟨by rfl, ?_⟩) (by assumption) ?_
                      rotate_left
                      · (intro w hSw; (try dsimp only at hSw); go_simp; try with_reducible rfl)
                      try simp only [Act.put, List.setIfInBounds_toArray, List.set_cons_zero, List.set_cons_succ]
                      refine wpAnyH_take (i := 14) (oi := { dst := some 161, op := _, type := _, pos := _, after := _, guard := _ }) (v := ?_) rfl (by kernel_rfl) (by kernel_rfl) (by kernel_rfl) (fun _ _ _ h => h) (Or.inl ⟨by rfl, ?_⟩) (by assumption) ?_
                      rotate_left
                      · (intro w hSw; (try dsimp only at hSw); go_simp; try with_reducible rfl)
                      try simp only [Act.put, List.setIfInBounds_toArray, List.set_cons_zero, List.set_cons_succ]
                      refine wpAnyH_take (i := 15) (oi := { dst := some 162, op := _, type := _, pos := _, after := _, guard := _ }) (v := ?_) rfl (by kernel_rfl) (by kernel_rfl) (by kernel_rfl) (fun _ _ _ h => h) (Or.inl ⟨by rfl, ?_⟩) (by assumption) ?_
                      rotate_left
                      · (intro w hSw; (try dsimp only at hSw); go_simp; try with_reducible rfl)
                      try simp only [Act.put, List.setIfInBounds_toArray, List.set_cons_zero, List.set_cons_succ]
                      refine wpAnyH_take (i := 16) (oi := { dst := some 163, op := _, type := _, pos := _, after := _, guard := _ }) (v := ?_) rfl (by kernel_rfl) (by kernel_rfl) (by kernel_rfl) (fun _ _ _ h => h) (Or.inl ⟨by rfl, ?_⟩) (by assumption) ?_
                      rotate_left
                      · (intro w hSw; (try dsimp only at hSw); go_simp; try with_reducible rfl)
                      try simp only [Act.put, List.setIfInBounds_toArray, List.set_cons_zero, List.set_cons_succ]
                      refine wpAnyH_take (i := 17) (oi := { dst := some 164, op := _, type := _, pos := _, after := _, guard := _ }) (v := ?_) rfl (by kernel_rfl) (by kernel_rfl) (by kernel_rfl) (fun _ _ _ h => h) (Or.inl ⟨by rfl, ?_⟩) (by assumption) ?_
                      rotate_left
                      · (intro w hSw; (try dsimp only at hSw); go_simp; try with_reducible rfl)
                      try simp only [Act.put, List.setIfInBounds_toArray, List.set_cons_zero, List.set_cons_succ]
                      refine wpAnyH_take (i := 18) (oi := { dst := some 165, op := _, type := _, pos := _, after := _, guard := _ }) (v := ?_) rfl (by kernel_rfl) (by kernel_rfl) (by kernel_rfl) (fun _ _ _ h => h) (Or.inl ⟨by rfl, ?_⟩) (by assumption) ?_
                      rotate_left
                      · (intro w hSw; (try dsimp only at hSw); go_simp; try with_reducible rfl)
                      try simp only [Act.put, List.setIfInBounds_toArray, List.set_cons_zero, List.set_cons_succ]
                      refine wpAnyH_take (i := 19) (oi := { dst := some 166, op := _, type := _, pos := _, after := _, guard := _ }) (v := ?_) rfl (by kernel_rfl) (by kernel_rfl) (by kernel_rfl) (fun _ _ _ h => h) (Or.inl ⟨by rfl, ?_⟩) (by assumption) ?_
                      rotate_left
                      · (intro w hSw; (try dsimp only at hSw); go_simp; try with_reducible rfl)
                      try simp only [Act.put, List.setIfInBounds_toArray, List.set_cons_zero, List.set_cons_succ]
                      refine wpAnyH_take (i := 20) (oi := { dst := some 167, op := _, type := _, pos := _, after := _, guard := _ }) (v := ?_) rfl (by kernel_rfl) (by kernel_rfl) (by kernel_rfl) (fun _ _ _ h => h) (Or.inl ⟨by rfl, ?_⟩) (by assumption) ?_
                      rotate_left
                      · (intro w hSw; (try dsimp only at hSw); go_simp; try with_reducible rfl)
                      try simp only [Act.put, List.setIfInBounds_toArray, List.set_cons_zero, List.set_cons_succ]
                      refine wpAnyH_take (i := 21) (oi := { dst := some 168, op := _, type := _, pos := _, after := _, guard := _ }) (v := ?_) rfl (by kernel_rfl) (by kernel_rfl) (by kernel_rfl) (fun _ _ _ h => h) (Or.inl ⟨by rfl, ?_⟩) (by assumption) ?_
                      rotate_left
                      · (intro w hSw; (try dsimp only at hSw); go_simp; try with_reducible rfl)
                      try simp only [Act.put, List.setIfInBounds_toArray, List.set_cons_zero, List.set_cons_succ]
                      refine wpAnyH_take (i := 24) (oi := { dst := some 171, op := _, type := _, pos := _, after := _, guard := _ }) (v := ?_) rfl (by kernel_rfl) (by kernel_rfl) (by kernel_rfl) (fun _ _ _ h => h) (Or.inl ⟨by rfl, ?_⟩) (by assumption) ?_
                      rotate_left
                      · (intro w hSw; (try dsimp only at hSw); go_simp; try with_reducible rfl)
                      try simp only [Act.put, List.setIfInBounds_toArray, List.set_cons_zero, List.set_cons_succ]
                      refine wpAnyH_take (i := 25) (oi := { dst := some 172, op := _, type := _, pos := _, after := _, guard := _ }) (v := ?_) rfl (by kernel_rfl) (by kernel_rfl) (by kernel_rfl) (fun _ _ _ h => h) (Or.inl ⟨by rfl, ?_⟩) (by assumption) ?_
                      rotate_left
                      · (intro w hSw; (try dsimp only at hSw); go_simp; try with_reducible rfl)
                      try simp only [Act.put, List.setIfInBounds_toArray, List.set_cons_zero, List.set_cons_succ]
                      refine wpAnyH_take (i := 26) (oi := { dst := some 173, op := _, type := _, pos := _, after := _, guard := _ }) (v := ?_) rfl (by kernel_rfl) (by kernel_rfl) (by kernel_rfl) (fun _ _ _ h => h) (Or.inl ⟨by rfl, ?_⟩) (by assumption) ?_
                      rotate_left
                      · (intro w hSw; (try dsimp only at hSw); go_simp; try with_reducible rfl)
                      try simp only [Act.put, List.setIfInBounds_toArray, List.set_cons_zero, List.set_cons_succ]
                      refine wpAnyH_take (i := 27) (oi := { dst := some 174, op := _, type := _, pos := _, after := _, guard := _ }) (v := ?_) rfl (by kernel_rfl) (by kernel_rfl) (by kernel_rfl) (fun _ _ _ h => h) (Or.inl ⟨by rfl, ?_⟩) (by assumption) ?_
                      rotate_left
                      · (intro w hSw; (try dsimp only at hSw); go_simp; try with_reducible rfl)
                      try simp only [Act.put, List.setIfInBounds_toArray, List.set_cons_zero, List.set_cons_succ]
                      refine wpAnyH_take (i := 28) (oi := { dst := some 175, op := _, type := _, pos := _, after := _, guard := _ }) (v := ?_) rfl (by kernel_rfl) (by kernel_rfl) (by kernel_rfl) (fun _ _ _ h => h) (Or.inl ⟨by rfl, ?_⟩) (by assumption) ?_
                      rotate_left
                      · (intro w hSw; (try dsimp only at hSw); go_simp; try with_reducible rfl)
                      try simp only [Act.put, List.setIfInBounds_toArray, List.set_cons_zero, List.set_cons_succ]
                      refine wpAnyH_take (i := 29) (oi := { dst := some 176, op := _, type := _, pos := _, after := _, guard := _ }) (v := ?_) rfl (by kernel_rfl) (by kernel_rfl) (by kernel_rfl) (fun _ _ _ h => h) (Or.inl ⟨by rfl, ?_⟩) (by assumption) ?_
                      rotate_left
                      · (intro w hSw; (try dsimp only at hSw); go_simp; try with_reducible rfl)
                      try simp only [Act.put, List.setIfInBounds_toArray, List.set_cons_zero, List.set_cons_succ]
                      refine wpAnyH_take (i := 30) (oi := { dst := some 177, op := _, type := _, pos := _, after := _, guard := _ }) (v := ?_) rfl (by kernel_rfl) (by kernel_rfl) (by kernel_rfl) (fun _ _ _ h => h) (Or.inl ⟨by rfl, ?_⟩) (by assumption) ?_
                      rotate_left
                      · (intro w hSw; (try dsimp only at hSw); go_simp; try with_reducible rfl)
                      try simp only [Act.put, List.setIfInBounds_toArray, List.set_cons_zero, List.set_cons_succ]
                      refine wpAnyH_ready (rs := [22]) (by kernel_rfl) (by simp) ?_
                      refine AllReadyH.cons (o := { dst := some 169, op := _, type := _, pos := _, after := _, guard := _ }) rfl (fun K hK => ?_) AllReadyH.nil
                      go_simp
                      refine hK.out _ _ (HSD.out _ (balloc _ _).drew) (fun hHeld => ?_)
                      clear hK K
                      try simp only [Act.put, List.setIfInBounds_toArray, List.set_cons_zero, List.set_cons_succ]
                      refine wpAnyH_ready (rs := [23]) (by kernel_rfl) (by simp) ?_
                      refine AllReadyH.cons (o := { dst := some 170, op := _, type := _, pos := _, after := _, guard := _ }) rfl (fun K hK => ?_) AllReadyH.nil
                      go_simp
                      with_reducible refine HRE2.out.mono ?_
                      rintro e w10 ⟨v11, R2, rfl, hq1, hq2, hq3, hb10⟩
                      have HB10 : Hid (Below w9.heap.size w9 w10) := hb10
                      have HR2 : Hid (LS w10 v11 R2 ∧ R2.length ≤ 120 ∧ (∀ z, z ∈ R2 ↔ Gs.Way E ⟨qk, qm⟩ z)) := ⟨hq1, hq2, hq3⟩
                      obtain ⟨a11, c11, hv11, _⟩ := hq1.form
                      obtain ⟨rl2, hrl2⟩ : ∃ rl2, R2.length = rl2 := ⟨_, rfl⟩
                      rw [hrl2] at hv11
                      subst hv11
                      clear hq1 hq2 hq3 hb10
                      refine hK.out _ _ (HSD.out _ HB10.out) (fun hHeld => ?_)
                      clear hK K
                      try simp only [Act.put, List.setIfInBounds_toArray, List.set_cons_zero, List.set_cons_succ]
                      refine wpAnyH_ready (rs := [31]) (by kernel_rfl) (by simp) ?_
                      refine AllReadyH.cons (o := { dst := some 178, op := _, type := _, pos := _, after := _, guard := _ }) rfl (fun K hK => ?_) AllReadyH.nil
                      go_simp
                      with_reducible refine (HIN2.out _ _ _ HR2.out.1 HR2.out.2.1 HR2.out.2.2).mono ?_
                      rintro e w11 ⟨rfl, hb11⟩
                      have HB11 : Hid (Below w9.heap.size w9 w11) := bstep HB10.out hb11
                      clear hb11
                      refine hK.out _ _ (HSD.out _ HB11.out) (fun hHeld => ?_)
                      clear hK K
                      try simp only [Act.put, List.setIfInBounds_toArray, List.set_cons_zero, List.set_cons_succ]
                      refine wpAnyH_take (i := 32) (oi := { dst := some 179, op := _, type := _, pos := _, after := _, guard := _ }) (v := ?_) rfl (by kernel_rfl) (by kernel_rfl) (by kernel_rfl) (fun _ _ _ h => h) (Or.inl ⟨by rfl, ?_⟩) (by assumption) ?_
                      rotate_left
                      · (intro w hSw; (try dsimp only at hSw); go_simp; try with_reducible rfl)
                      try simp only [Act.put, List.setIfInBounds_toArray, List.set_cons_zero, List.set_cons_succ]
                      refine wpAnyH_take (i := 33) (oi := { dst := some 180, op := _, type := _, pos := _, after := _, guard := _ }) (v := ?_) rfl (by kernel_rfl) (by kernel_rfl) (by kernel_rfl) (fun _ _ _ h => h) (Or.inl ⟨by rfl, ?_⟩) (by assumption) ?_
                      rotate_left
                      · (intro w hSw; (try dsimp only at hSw); go_simp; try with_reducible rfl)
                      try simp only [Act.put, List.setIfInBounds_toArray, List.set_cons_zero, List.set_cons_succ]
                      refine wpAnyH_done (by kernel_rfl) ?_ _
                      refine NoPanic.normal ?_
                      clear hHeld
                      all_goals
                        have HBE : Hid (Below w8.heap.size w8 w11) := bstep HB9.out.2.1 HB11.out
                        go_wp2_with fail
                        go_roundw
                        case rel => exact ⟨j + 1, by go_num, by omega, HBE.out⟩
                        case measure => simp [intOf]; omega
                · obtain rfl : vl = j := by omega
                  go_wp2_with fail
                  go_roundw
                  case rel =>
                    have h9 := H8.out.2.2.2.2.later HT.out.1
                    rw [show (L2 ++ [(⟨pk2, nm2⟩ : Lb)]).length = L2.length + 1 by simp] at h9
                    refine ⟨k + 1, L2 ++ [⟨pk2, nm2⟩], by go_num, by omega, h9, ?_, HT.out.2⟩
                    have h10 := HY.out.2.1.step HP0.out.2.1 hiP hkP
                    rw [HXX.out.1] at h10
                    exact h10
                  case measure => simp [intOf]; omega
          · obtain rfl : pn = k := by omega
            go_wp2_with fail
            go_roundw
            case rel => exact ⟨i + 1, L2, by go_num, by omega, HY.out.1, HY.out.2.1.next hiP (by rw [HI.out.2]; exact Nat.le_refl _), HY.out.2.2.1⟩
            case measure => simp [intOf]; omega
    · obtain rfl : vl = i := by omega
      have HFI : Hid (∀ W, Below W0.heap.size W0 W → Calls Try.prog 14 #[.pointer (some ⟨g, 0, none⟩)] W fun e w' => ∃ v, e = .returned (.tuple #[v, .bool (frs E P).isSome]) ∧ OwnL W.heap.size w' v ((frs E P).getD []) ∧ Below W.heap.size W w') := fun W hW => by
        rw [HPE.out]
        exact (HP0.out.2.2.2.2.1.later hW).pz.pg.first (by have := HP0.out.2.2.2.2.1.nl; omega) HP0.out.2.2.2.2.1.lu (by have := HP0.out.2.2.2.2.1.el; omega)
      have HOR : Hid (∀ W, Below W0.heap.size W0 W → Calls Try.prog 15 #[.pointer (some ⟨d, 0, none⟩)] W fun e w' => ∃ u, e = .returned (.tuple #[u, .bool (!(frs E P).isSome)]) ∧ OwnL W.heap.size w' u ((Gs.ord (rs N) E).getD []) ∧ Below W.heap.size W w') := fun W hW => by
        obtain ⟨D, hD, _⟩ := (HP0.out.2.2.2.2.1.later hW).pz.dg
        have h9 := dorder_any hD
        have e9 : (Gs.ord (rs N) E).isSome = !(frs E P).isSome := by
          have hs : ∀ a b, (a, b) ∈ E → a ∈ N ∧ b ∈ N := fun a b h => hD.sub _ h
          have h1 := frs_isSome HP0.out.2.1
          have h2 := HP0.out.2.1.free stoL hs
          have h3 := Gs.ord_some_iff (E := E) (rs_nd N) (fun a b h => ⟨(Gs.mem_ris _ _).2 (hs a b h).1, (Gs.mem_ris _ _).2 (hs a b h).2⟩)
          rw [h2, ← h3] at h1
          cases hf : (frs E P).isSome with
          | false =>
            obtain ⟨L9, hL9⟩ := h1.1 hf
            rw [hL9]; rfl
          | true =>
            cases ho : Gs.ord (rs N) E with
            | none => rfl
            | some L9 =>
              have := h1.2 ⟨L9, ho⟩
              rw [hf] at this
              cases this
        rw [e9] at h9
        exact h9
      obtain ⟨an, cn, hdc, hdo, hdl⟩ := HP0.out.2.2.2.2.1.dcell
      have HLEN : Hid (L.length = N.length) := by
        obtain ⟨D, hD, _⟩ := HP0.out.2.2.2.2.1.pz.dg
        exact HX.out.2.1.all HP0.out.2.1 hD.nd (by rw [HP0.out.2.2.2.1]; exact Nat.le_refl _)
      have hNl : N.length = ln := by rw [← HLEN.out]; exact HX.out.2.2.2
      rw [hNl] at hdc
      have HDC : Hid (W0.cell? ⟨d, 0, none⟩ = some (.slice an ln cn) ∧ d < W0.heap.size) := ⟨hdc, hdl⟩
      obtain ⟨fl, hfl⟩ : ∃ fl, (frs E P).getD [] = fl := ⟨_, rfl⟩
      obtain ⟨fb, hfb⟩ : ∃ fb, (frs E P).isSome = fb := ⟨_, rfl⟩
      have HFB : Hid (fb = false → fl = []) := by
        intro h1
        rw [← hfl]
        cases hf : frs E P with
        | none => rfl
        | some q => rw [hf] at hfb; rw [← hfb] at h1; cases h1
      rw [hfl, hfb] at HFI
      rw [hfb] at HOR
      clear hfl hfb hdc hdo hdl hNl
      go_wp2_with fail
      refine (HFI.out _ HX.out.2.2.1).mono ?_
      rintro e w6 ⟨v13, rfl, ho13, hb6⟩
      obtain ⟨a13, c13, hv13⟩ := ho13.form
      obtain ⟨fn, hfn⟩ : ∃ fn, fl.length = fn := ⟨_, rfl⟩
      rw [hfn] at hv13
      subst hv13
      have HB6 : Hid (Below W0.heap.size W0 w6) := bstep HX.out.2.2.1 hb6
      clear ho13 hb6
      go_wp2_with fail
      refine (HOR.out _ HB6.out).mono ?_
      rintro e w7 ⟨v15, rfl, ho15, hb7⟩
      obtain ⟨a15, c15, hv15⟩ := ho15.form
      generalize ((Gs.ord (rs N) E).getD []).length = on at hv15
      subst hv15
      have HB7 : Hid (Below W0.heap.size W0 w7) := bstep HB6.out hb7
      have d7 := (HB7.out.cell (p := ⟨d, 0, none⟩) HDC.out.2).trans HDC.out.1
      have HLAST : Hid (Below w.heap.size w w7) := bstep H2.out.2 (bstep HP0.out.2.2.2.2.2 HB7.out)
      clear ho15 hb7
      cases fb with
      | true =>
        go_wp2_with fail
        go_ret
        exact ⟨rfl, HLAST.out⟩
      | false =>
        have hf0 : fn = 0 := by rw [← hfn, HFB.out rfl]; rfl
        subst hf0
        go_wp2_with fail
        go_ret
        exact ⟨rfl, HLAST.out⟩
end Go.Proofs.Ytclbnjfmipifnaa
