/-
  The document's First; are two lists of lists the same?
-/
import Derived.Test.YtclbnjfmipifnaaDp
namespace Go.Proofs.Ytclbnjfmipifnaa
open Go.RowKit Go.Maps

set_option maxRecDepth 100000 in
set_option maxHeartbeats 8000000 in
theorem dfirst_any {w : World} {F : Nat → Prop} {g : Nat} {N : List Lb} {E : List Ee} (h : DG w F g N E) (hz : N.length ≤ 1000) : Ow2 16 #[.pointer (some ⟨g, 0, none⟩)] w ((frs E (Gs.pts ltL N E)).getD []) (frs E (Gs.pts ltL N E)).isSome := by
  have HPA : Hid (Calls Try.prog 17 #[.pointer (some ⟨g, 0, none⟩)] w fun e w' => ∃ v V P, e = .returned v ∧ PR w.heap.size w' v V P ∧ Gs.Pts ltL N E P ∧ P = Gs.pts ltL N E ∧ Below w.heap.size w w') := dparts_any h hz
  have H : Hid (DG w F g N E ∧ N.length ≤ 1000 ∧ (∀ x ∈ N, Lu x) ∧ E.length ≤ 1000000) := ⟨h, hz, h.lu, h.ez⟩
  generalize Gs.pts ltL N E = PP at *
  clear h hz
  go_enter Try.func16, Try.ntmps16
  go_wp2_with fail
  refine HPA.out.mono ?_
  rintro e w1 ⟨v, V, P, rfl, hPL, hPt, rfl, hb1⟩
  obtain ⟨pl, hpl⟩ : ∃ pl, V.length = pl := ⟨_, rfl⟩
  obtain ⟨av, cv, hvv⟩ := row_form hPL.row
  rw [hpl] at hvv
  subst hvv
  have HW : Hid (PR w.heap.size w1 (.slice av pl cv) V P ∧ Gs.Pts ltL N E P ∧ Below w.heap.size w w1 ∧ V.length = pl ∧ P.length = pl) := ⟨hPL, hPt, hb1, hpl, by rw [← hPL.len]; exact hpl⟩
  have hpz : pl ≤ 100000 := by
    have h1 := (pts_len hPt).1
    have := hPL.len
    have := H.out.2.1
    omega
  clear hPL hPt hb1 hpl HPA
  have l0 : (0 : Int) ≤ (pl : Int) := by omega
  go_wp2_with fail
  go_loopw [5] (fun s5 wr => ∃ i : Nat, s5 = .int .i64 (i : Int) ∧ i ≤ pl ∧ (∀ p ∈ P.take i, crcB E p = false) ∧ Below w1.heap.size w1 wr) (fun s5 _ => pl - (intOf s5).toNat)
  case atStart => exact ⟨0, rfl, by omega, by simp, Below.refl _ _⟩
  case round =>
    obtain ⟨i, rfl, hi, hno, hb⟩ := hrel
    have HX : Hid ((∀ p ∈ P.take i, crcB E p = false) ∧ Below w1.heap.size w1 wr) := ⟨hno, hb⟩
    clear hno hb
    by_cases hlt : i < pl
    · have hiP : i < P.length := by rw [HW.out.2.2.2.2]; exact hlt
      have hiV : i < V.length := by rw [HW.out.2.2.2.1]; exact hlt
      obtain ⟨gp, cc, hvv, hcc, hg1, hg2⟩ := row_place HW.out.1.row (by omega)
      injection hvv with hv1 hv2 hv3
      clear hv2
      subst hv1 hv3
      obtain ⟨vi, hvi⟩ : ∃ vi, V[i]? = some vi := ⟨_, List.getElem?_eq_getElem hiV⟩
      obtain ⟨p, hp⟩ : ∃ p, P[i] = p := ⟨_, rfl⟩
      have hpm : p ∈ P := by rw [← hp]; exact List.getElem_mem hiP
      have hown := HW.out.1.own i vi p hvi (by rw [List.getElem?_eq_getElem hiP, hp])
      have hrow := HW.out.1.row
      rw [HW.out.2.2.2.1] at hrow
      have cvi := (HX.out.2.cell (p := ⟨gp, i, none⟩) hg2).trans (row_cell hrow hvi)
      obtain ⟨pn, hpn⟩ : ∃ pn, p.length = pn := ⟨_, rfl⟩
      obtain ⟨ai, ci, hvv⟩ := hown.form
      rw [hpn] at hvv
      subst hvv
      have HO : Hid (OwnL w.heap.size w1 (.slice ai pn ci) p ∧ P[i] = p ∧ p ∈ P ∧ p.length = pn ∧ p ≠ []) := ⟨hown, hp, hpm, hpn, HW.out.2.1.ne p hpm⟩
      have hpn2 : pn ≤ 100000 := by
        have h1 := (pts_len HW.out.2.1).2 p hpm
        have := H.out.2.1
        omega
      have i1 : (i : Int) < (pl : Int) := by omega
      have i0 : (0 : Int) ≤ (i : Int) := by omega
      clear hvi hp hpm hown hrow hpn
      by_cases hone : 1 < pn
      · have g1 : decide ((1 : Int) < (pn : Int)) = true := by simp; omega
        have g1' : (1 : Int) < (pn : Int) := by omega
        go_wp2_with fail
        go_quiet (fail)
        go_wp2_with fail
        go_returns
        have hc : crcB E P[i] = true := by unfold crcB; rw [HO.out.2.1, HO.out.2.2.2.1]; simp [hone]
        rw [frs_take hiP HX.out.1 hc, HO.out.2.1]
        exact ⟨_, rfl, (HO.out.1.later HX.out.2).later (bd _ _), bstep HW.out.2.2.1 (bstep HX.out.2 (bd _ _))⟩
      · have g1 : decide ((1 : Int) < (pn : Int)) = false := by simp; omega
        have g1' : ¬ (1 : Int) < (pn : Int) := by omega
        have hp0 : 0 < p.length := List.length_pos_iff.2 HO.out.2.2.2.2
        obtain ⟨b, off, ea, hbw, d0, d1⟩ := LS.at HO.out.1.rs HX.out.2 hp0
        subst ea
        obtain ⟨x, hx⟩ : ∃ x, p[0] = x := ⟨_, rfl⟩
        rw [hx] at d0 d1
        simp only [Nat.zero_mul, Nat.add_zero] at d0 d1
        have HXX : Hid (p = [x] ∧ x ∈ N ∧ Lu x) := by
          have e1 : p.length = 1 := by have := HO.out.2.2.2.1; omega
          have e2 : p = [x] := by
            obtain ⟨y, rfl⟩ := List.length_eq_one_iff.1 e1
            simpa using hx
          have e3 := (HW.out.2.1.one p HO.out.2.2.1 x (by rw [e2]; simp)).1
          exact ⟨e2, e3, H.out.2.2.1 x e3⟩
        have hpn1 : pn = 1 := by have := HO.out.2.2.2.1; omega
        subst hpn1
        have HOUT : Hid (∀ W, Below wr.heap.size wr W → Calls Try.prog 22 #[.pointer (some ⟨g, 0, none⟩), x.val] W fun e w' => ∃ v, e = .returned v ∧ OwnL W.heap.size w' v (rs (oE E x)) ∧ Below W.heap.size W w') := fun W hW => dout_any (((H.out.1.later HW.out.2.2.1).later HX.out.2).later hW) x
        have hlo : (rs (oE E x)).length ≤ 100000000 := by
          have h4 : (rs (oE E x)).length ≤ (oE E x).length := Gs.ris_le _
          have h5 := oE_len E x
          have := H.out.2.2.2
          omega
        have HCON : Hid (∀ W v, LS W v (rs (oE E x)) → Calls Try.prog 12 #[v, x.val] W fun e w' => e = .returned (.bool (decide ((x, x) ∈ E))) ∧ Below W.heap.size W w') := fun W v hv => by
          have h9 := in_any hv hlo x
          have e9 : decide (x ∈ rs (oE E x)) = decide ((x, x) ∈ E) := by
            congr 1
            rw [show (x ∈ rs (oE E x) ↔ x ∈ oE E x) from Gs.mem_ris _ _, mem_oE]
          rw [e9] at h9
          exact h9
        obtain ⟨cb, hcb⟩ : ∃ cb, decide ((x, x) ∈ E) = cb := ⟨_, rfl⟩
        rw [hcb] at HCON
        have HCB : Hid (decide ((x, x) ∈ E) = cb) := hcb
        have hgpl : gp < wr.heap.size := Nat.lt_of_lt_of_le hg2 HX.out.2.size
        have hbl : b < wr.heap.size := Nat.lt_of_lt_of_le hbw HX.out.2.size
        obtain ⟨pk, nm⟩ := x
        simp only [Lb.val] at d0 d1 HOUT HCON
        clear hx hcb hlo hp0
        go_wp2_with fail
        go_region_held3 (fun w' => w'.cell? ⟨gp, i, none⟩ = some (.slice (some ⟨b, off, none⟩) 1 ci) ∧ w'.cell? ⟨b, off, none⟩ = some (.string (bs pk)) ∧ w'.cell? ⟨b, off + 1, none⟩ = some (.string (bs nm))) (first | (with_reducible exact ⟨cvi, d0, d1⟩) | (with_reducible exact KS1.out) | (with_reducible exact KS2.out) | go_keep) (first | (go_at_call 22; (with_reducible refine (HOUT.out _ (by first | exact Below.refl _ _ | exact (Below.refl _ _).drew)).mono ?_); rintro e w2 ⟨v2, rfl, ho2, hb2⟩; obtain ⟨a2, c2, rfl⟩ := ho2.form; have HB2 : Hid (Below wr.heap.size wr w2 ∧ LS w2 (.slice a2 (rs (oE E ⟨pk, nm⟩)).length c2) (rs (oE E ⟨pk, nm⟩))) := ⟨bstep (Below.refl _ _).drew hb2, ho2.rs⟩; have KS1 : Hid (w2.cell? ⟨gp, i, none⟩ = some (.slice (some ⟨b, off, none⟩) 1 ci) ∧ w2.cell? ⟨b, off, none⟩ = some (.string (bs pk)) ∧ w2.cell? ⟨b, off + 1, none⟩ = some (.string (bs nm))) := ⟨(HB2.out.1.cell (p := ⟨gp, i, none⟩) hgpl).trans cvi, (HB2.out.1.cell (p := ⟨b, off, none⟩) hbl).trans d0, (HB2.out.1.cell (p := ⟨b, off + 1, none⟩) hbl).trans d1⟩; clear hb2 ho2) | (go_at_call 12; (with_reducible refine (HCON.out _ _ HB2.out.2).mono ?_); rintro e w3 ⟨rfl, hb3⟩; have HB3 : Hid (Below wr.heap.size wr w3) := bstep HB2.out.1 hb3; have KS2 : Hid (w3.cell? ⟨gp, i, none⟩ = some (.slice (some ⟨b, off, none⟩) 1 ci) ∧ w3.cell? ⟨b, off, none⟩ = some (.string (bs pk)) ∧ w3.cell? ⟨b, off + 1, none⟩ = some (.string (bs nm))) := ⟨(HB3.out.cell (p := ⟨gp, i, none⟩) hgpl).trans cvi, (HB3.out.cell (p := ⟨b, off, none⟩) hbl).trans d0, (HB3.out.cell (p := ⟨b, off + 1, none⟩) hbl).trans d1⟩; clear hb3))
        all_goals clear KS1 KS2
        all_goals
          have HCR : Hid (crcB E P[i] = cb) := by
            show crcB E P[i] = cb
            unfold crcB
            rw [HO.out.2.1, HXX.out.1]
            simpa using HCB.out
          cases cb with
          | true =>
            go_wp2_with fail
            go_returns
            rw [frs_take hiP HX.out.1 HCR.out, HO.out.2.1]
            exact ⟨_, rfl, (HO.out.1.later HX.out.2).later HB3.out, bstep HW.out.2.2.1 (bstep HX.out.2 HB3.out)⟩
          | false =>
            go_wp2_with fail
            go_roundw
            case rel =>
              refine ⟨i + 1, by go_num, by omega, fun q hq => ?_, bstep HX.out.2 HB3.out⟩
              rw [List.take_succ_eq_append_getElem hiP, List.mem_append] at hq
              rcases hq with hq | hq
              · exact HX.out.1 q hq
              · rw [List.mem_singleton.1 hq]; exact HCR.out
            case measure => simp [intOf]; omega
    · obtain rfl : pl = i := by omega
      go_wp2_with fail
      go_returns
      rw [frs_none (by
        have h9 := HX.out.1
        rw [List.take_of_length_le (by rw [HW.out.2.2.2.2]; omega)] at h9
        exact h9)]
      exact ⟨_, rfl, OwnL.nil _ _, bstep HW.out.2.2.1 HX.out.2⟩
set_option maxRecDepth 100000 in
set_option maxHeartbeats 8000000 in
theorem sameAll_true {w : World} {B B' : Nat} {u v : Value} {U V : List Value} {P : List (List Lb)} (h : PR B w u U P) (h' : PR B' w v V P) (hl : ∀ p ∈ P, p.length ≤ 100000000) (hn : P.length ≤ 1000000) :
    Calls Try.prog 10 #[u, v] w fun e w' => e = .returned (.bool true) ∧ Below w.heap.size w w' := by
  have H : Hid (PR B w u U P ∧ PR B' w v V P ∧ ∀ p ∈ P, p.length ≤ 100000000) := ⟨h, h', hl⟩
  obtain ⟨n, hnn⟩ : ∃ n, P.length = n := ⟨_, rfl⟩
  obtain ⟨au, cu, hvv⟩ := row_form h.row
  rw [h.len, hnn] at hvv
  subst hvv
  obtain ⟨av, cv, hvv⟩ := row_form h'.row
  rw [h'.len, hnn] at hvv
  subst hvv
  have HN : Hid (P.length = n ∧ U.length = n ∧ V.length = n) := ⟨hnn, h.len.trans hnn, h'.len.trans hnn⟩
  rw [hnn] at hn
  clear h h' hl hnn
  go_enter Try.func10, Try.ntmps10
  go_wp2_with fail
  go_loopw [5] (fun s5 wr => ∃ i : Nat, s5 = .int .i64 (i : Int) ∧ i ≤ n ∧ Below w.heap.size w wr) (fun s5 _ => n - (intOf s5).toNat)
  case atStart => exact ⟨0, rfl, by omega, Below.refl _ _⟩
  case round =>
    obtain ⟨i, rfl, hi, hb⟩ := hrel
    have HX : Hid (Below w.heap.size w wr) := hb
    clear hb
    by_cases hlt : i < n
    · have hiU : i < U.length := by rw [HN.out.2.1]; exact hlt
      have hiV : i < V.length := by rw [HN.out.2.2]; exact hlt
      have hiP : i < P.length := by rw [HN.out.1]; exact hlt
      obtain ⟨gu, c1, e1, _, _, hg1⟩ := row_place H.out.1.row (by omega)
      obtain ⟨gv, c2, e2, _, _, hg2⟩ := row_place H.out.2.1.row (by omega)
      injection e1 with e1 e1' e1''
      injection e2 with e2 e2' e2''
      subst e1 e1'' e2 e2''
      clear e1' e2'
      obtain ⟨x, hx⟩ : ∃ x, U[i]? = some x := ⟨_, List.getElem?_eq_getElem hiU⟩
      obtain ⟨y, hy⟩ : ∃ y, V[i]? = some y := ⟨_, List.getElem?_eq_getElem hiV⟩
      obtain ⟨q, hq⟩ : ∃ q, P[i] = q := ⟨_, rfl⟩
      have hqm : q ∈ P := by rw [← hq]; exact List.getElem_mem hiP
      have hqs : P[i]? = some q := by rw [List.getElem?_eq_getElem hiP, hq]
      have ox := H.out.1.own i x q hx hqs
      have oy := H.out.2.1.own i y q hy hqs
      have r1 := H.out.1.row
      have r2 := H.out.2.1.row
      rw [HN.out.2.1] at r1
      rw [HN.out.2.2] at r2
      have cx := (HX.out.cell (p := ⟨gu, i, none⟩) hg1).trans (row_cell r1 hx)
      have cy := (HX.out.cell (p := ⟨gv, i, none⟩) hg2).trans (row_cell r2 hy)
      have HC : Hid (∀ W, Below wr.heap.size wr W → Calls Try.prog 18 #[x, y] W fun e w' => e = .returned (.bool true) ∧ Below W.heap.size W w') := fun W hW => same_true ((ox.later HX.out).later hW).rs ((oy.later HX.out).later hW).rs (H.out.2.2 q hqm)
      have i1 : (i : Int) < (n : Int) := by omega
      have i0 : (0 : Int) ≤ (i : Int) := by omega
      have hl1 : gu < wr.heap.size := Nat.lt_of_lt_of_le hg1 HX.out.size
      have hl2 : gv < wr.heap.size := Nat.lt_of_lt_of_le hg2 HX.out.size
      obtain ⟨ax, kx, hxx⟩ := ox.form
      obtain ⟨ay, ky, hyy⟩ := oy.form
      obtain ⟨ql, hql⟩ : ∃ ql, q.length = ql := ⟨_, rfl⟩
      rw [hql] at hxx hyy
      subst hxx hyy
      clear hx hy hq hqm hqs ox oy r1 r2 hql
      go_wp2_with fail
      go_region_held3 (fun w' => w'.cell? ⟨gu, i, none⟩ = some (.slice ax ql kx) ∧ w'.cell? ⟨gv, i, none⟩ = some (.slice ay ql ky)) (first | (with_reducible exact ⟨cx, cy⟩) | (with_reducible exact KS1.out) | go_keep) (first | (go_at_call 18; (with_reducible refine (HC.out _ (by first | exact Below.refl _ _ | exact (Below.refl _ _).drew)).mono ?_); rintro e w2 ⟨rfl, hb2⟩; have HB2 : Hid (Below wr.heap.size wr w2) := bstep (Below.refl _ _).drew hb2; have KS1 : Hid (w2.cell? ⟨gu, i, none⟩ = some (.slice ax ql kx) ∧ w2.cell? ⟨gv, i, none⟩ = some (.slice ay ql ky)) := ⟨(HB2.out.cell (p := ⟨gu, i, none⟩) hl1).trans cx, (HB2.out.cell (p := ⟨gv, i, none⟩) hl2).trans cy⟩; clear hb2))
      all_goals
        clear KS1
        go_wp2_with fail
        go_roundw
        case rel => exact ⟨i + 1, by go_num, by omega, bstep HX.out HB2.out⟩
        case measure => simp [intOf]; omega
    · obtain rfl : n = i := by omega
      go_wp2_with fail
      go_ret
      exact ⟨rfl, HX.out⟩
end Go.Proofs.Ytclbnjfmipifnaa
