/-
  First.
-/
import Derived.Test.YtclbnjfmipifnaaPq
import Derived.Test.YtclbnjfmipifnaaJCt
namespace Go.Proofs.Ytclbnjfmipifnaa
open Go.RowKit Go.Maps

namespace Gs
theorem Pts.ext {α : Type} {lt : α → α → Bool} {N N' : List α} {E E' : List (α × α)} {P : List (List α)} (h : Pts lt N E P) (hn : ∀ x, x ∈ N ↔ x ∈ N') (he : ∀ e, e ∈ E ↔ e ∈ E') : Pts lt N' E' P := by
  have hw : ∀ a b, Mut E a b ↔ Mut E' a b := fun a b => ⟨fun k => ⟨k.1.mono (fun e h => (he e).1 h), k.2.mono (fun e h => (he e).1 h)⟩, fun k => ⟨k.1.mono (fun e h => (he e).2 h), k.2.mono (fun e h => (he e).2 h)⟩⟩
  refine ⟨h.up, h.ne, h.hd, fun x hx => h.cov x ((hn x).2 hx), fun p hp x hx => ?_⟩
  obtain ⟨h1, h2⟩ := h.one p hp x hx
  exact ⟨(hn x).1 h1, fun y => by rw [h2, hn, hw]⟩
end Gs
/-- does it hold a circle? -/
def crcB (E : List Ee) (p : List Lb) : Bool := decide (1 < p.length) || (match p with | a :: _ => decide ((a, a) ∈ E) | [] => false)
/-- the first that holds one -/
def frs (E : List Ee) (P : List (List Lb)) : Option (List Lb) := P.find? (crcB E)
theorem frs_take {E : List Ee} {P : List (List Lb)} {i : Nat} (hi : i < P.length) (h : ∀ p ∈ P.take i, crcB E p = false) (hc : crcB E P[i] = true) : frs E P = some P[i] := by
  unfold frs
  have e : P = P.take i ++ P[i] :: P.drop (i + 1) := by rw [List.getElem_cons_drop, List.take_append_drop]
  conv => lhs; rw [e]
  rw [List.find?_append]
  have h1 : (P.take i).find? (crcB E) = none := by
    rw [List.find?_eq_none]
    intro x hx
    rw [h x hx]; decide
  rw [h1, List.find?_cons_of_pos hc]
  rfl
theorem frs_none {E : List Ee} {P : List (List Lb)} (h : ∀ p ∈ P, crcB E p = false) : frs E P = none := by
  unfold frs
  rw [List.find?_eq_none]
  intro x hx
  rw [h x hx]; decide
theorem PL.len_P {base : Nat} {w : World} {v : Value} {V : List Value} {P : List (List Lb)} (h : PL base w v V P) : V.length = P.length := h.len
theorem pts_len {ns : List Lb} {E : List Ee} {P : List (List Lb)} (h : Gs.Pts ltL ns E P) : P.length ≤ ns.length ∧ ∀ p ∈ P, p.length ≤ ns.length := by
  refine ⟨?_, fun p hp => Gs.nodup_sub p ns (Gs.Ris.nodup stoL (h.up p hp)) (fun x hx => (h.one p hp x hx).1)⟩
  have hh : ∀ p ∈ P, ∃ a, p.head? = some a ∧ a ∈ ns := fun p hp => by
    cases e : p with
    | nil => exact absurd e (h.ne p hp)
    | cons a r => exact ⟨a, rfl, (h.one p hp a (by rw [e]; simp)).1⟩
  have h1 : (P.filterMap List.head?).length = P.length := by
    clear h
    induction P with
    | nil => rfl
    | cons p r ih =>
      obtain ⟨a, ha, _⟩ := hh p (by simp)
      rw [List.filterMap_cons, ha]
      simp [ih (fun q hq => hh q (by simp [hq]))]
  rw [← h1]
  refine Gs.nodup_sub _ ns ?_ (fun x hx => ?_)
  · refine Gs.Ris.nodup stoL ?_
    unfold Gs.Ris
    rw [List.pairwise_filterMap]
    exact h.hd.imp (fun hab a ha b hb => hab a b ha hb)
  · obtain ⟨p, hp, e⟩ := List.mem_filterMap.1 hx
    obtain ⟨a, ha, hn⟩ := hh p hp
    rw [ha] at e
    injection e with e
    rw [← e]; exact hn
/-- Parts, by the document's nodes and edges -/
theorem PG.parts {B : Nat} {w : World} {g : Nat} {N : List Lb} {E : List Ee} (h : PG B w g N E) (hz : N.length ≤ 100000) :
    Calls Try.prog 8 #[.pointer (some ⟨g, 0, none⟩)] w fun e w' => ∃ v V P, e = .returned v ∧ PL w.heap.size w' v V P ∧ Gs.Pts ltL N E P ∧ P = Gs.pts ltL N E ∧ Below w.heap.size w w' := by
  obtain ⟨⟨F, ns, out, h1, h2, h3⟩, h4⟩ := h
  have hl := h1.nlen h2
  exact (parts_any h1 (by omega)).mono fun e w' ⟨v, V, P, k1, k2, k3, k4⟩ => by
    have k5 := k3.ext h2.nm (h2.eg h1.gf)
    exact ⟨v, V, P, k1, k2, k5, k5.eq stoL, k4⟩
set_option maxRecDepth 100000 in
set_option maxHeartbeats 8000000 in
theorem PG.first {B : Nat} {w : World} {g : Nat} {N : List Lb} {E : List Ee} (h : PG B w g N E) (hz : N.length ≤ 100000) (hu : ∀ x ∈ N, Lu x) (hez : E.length ≤ 1000000) : Ow2 14 #[.pointer (some ⟨g, 0, none⟩)] w ((frs E (Gs.pts ltL N E)).getD []) (frs E (Gs.pts ltL N E)).isSome := by
  have HPA : Hid (Calls Try.prog 8 #[.pointer (some ⟨g, 0, none⟩)] w fun e w' => ∃ v V P, e = .returned v ∧ PL w.heap.size w' v V P ∧ Gs.Pts ltL N E P ∧ P = Gs.pts ltL N E ∧ Below w.heap.size w w') := h.parts hz
  have H : Hid (PG B w g N E ∧ N.length ≤ 100000 ∧ (∀ x ∈ N, Lu x) ∧ E.length ≤ 1000000) := ⟨h, hz, hu, hez⟩
  generalize Gs.pts ltL N E = PP at *
  clear h hz hu hez
  go_enter Try.func14, Try.ntmps14
  go_wp2_with fail
  refine HPA.out.mono ?_
  rintro e w1 ⟨v, V, P, rfl, hPL, hPt, rfl, hb1⟩
  obtain ⟨pl, hpl⟩ : ∃ pl, V.length = pl := ⟨_, rfl⟩
  obtain ⟨av, cv, hvv⟩ := row_form hPL.row
  rw [hpl] at hvv
  subst hvv
  have HW : Hid (PL w.heap.size w1 (.slice av pl cv) V P ∧ Gs.Pts ltL N E P ∧ Below w.heap.size w w1 ∧ V.length = pl ∧ P.length = pl) := ⟨hPL, hPt, hb1, hpl, by rw [← hPL.len]; exact hpl⟩
  have hpz : pl ≤ 100000 := by
    have h1 := (pts_len hPt).1
    have := hPL.len
    have := H.out.2.1
    omega
  clear hPL hPt hb1 hpl HPA
  have l0 : (0 : Int) ≤ (pl : Int) := by omega
  go_wp2_with fail
  go_loopw [9] (fun s9 wr => ∃ i : Nat, s9 = .int .i64 (i : Int) ∧ i ≤ pl ∧ (∀ p ∈ P.take i, crcB E p = false) ∧ Below w1.heap.size w1 wr) (fun s9 _ => pl - (intOf s9).toNat)
  case atStart => exact ⟨0, rfl, by omega, by simp, Below.refl _ _⟩
  case round =>
    obtain ⟨i, rfl, hi, hno, hb⟩ := hrel
    have HX : Hid ((∀ p ∈ P.take i, crcB E p = false) ∧ Below w1.heap.size w1 wr) := ⟨hno, hb⟩
    clear hno hb
    by_cases hlt : i < pl
    · have hiP : i < P.length := by rw [HW.out.2.2.2.2]; exact hlt
      have hiV : i < V.length := by rw [HW.out.2.2.2.1]; exact hlt
      obtain ⟨gp, cc, hvv, hcc, hg1, hg2⟩ := row_place HW.out.1.row (by omega)
      injection hvv with hv1 hv2 hv3
      clear hv2
      subst hv1 hv3
      obtain ⟨vi, hvi⟩ : ∃ vi, V[i]? = some vi := ⟨_, List.getElem?_eq_getElem hiV⟩
      obtain ⟨p, hp⟩ : ∃ p, P[i] = p := ⟨_, rfl⟩
      have hpm : p ∈ P := by rw [← hp]; exact List.getElem_mem hiP
      have hown := HW.out.1.own i vi p hvi (by rw [List.getElem?_eq_getElem hiP, hp])
      have hrow := HW.out.1.row
      rw [HW.out.2.2.2.1] at hrow
      have cvi := (HX.out.2.cell (p := ⟨gp, i, none⟩) hg2).trans (row_cell hrow hvi)
      obtain ⟨pn, hpn⟩ : ∃ pn, p.length = pn := ⟨_, rfl⟩
      obtain ⟨ai, ci, hvv⟩ := hown.form
      rw [hpn] at hvv
      subst hvv
      have HO : Hid (OwnL w.heap.size w1 (.slice ai pn ci) p ∧ P[i] = p ∧ p ∈ P ∧ p.length = pn ∧ p ≠ []) := ⟨hown, hp, hpm, hpn, HW.out.2.1.ne p hpm⟩
      have hpn2 : pn ≤ 100000 := by
        have h1 := (pts_len HW.out.2.1).2 p hpm
        have := H.out.2.1
        omega
      have i1 : (i : Int) < (pl : Int) := by omega
      have i0 : (0 : Int) ≤ (i : Int) := by omega
      clear hvi hp hpm hown hrow hpn
      by_cases hone : 1 < pn
      · have g1 : decide ((1 : Int) < (pn : Int)) = true := by simp; omega
        have g1' : (1 : Int) < (pn : Int) := by omega
        go_wp2_with fail
        go_quiet (fail)
        go_wp2_with fail
        go_returns
        have hc : crcB E P[i] = true := by unfold crcB; rw [HO.out.2.1, HO.out.2.2.2.1]; simp [hone]
        rw [frs_take hiP HX.out.1 hc, HO.out.2.1]
        exact ⟨_, rfl, (HO.out.1.later HX.out.2).later (bd _ _), bstep HW.out.2.2.1 (bstep HX.out.2 (bd _ _))⟩
      · have g1 : decide ((1 : Int) < (pn : Int)) = false := by simp; omega
        have g1' : ¬ (1 : Int) < (pn : Int) := by omega
        have hp0 : 0 < p.length := List.length_pos_iff.2 HO.out.2.2.2.2
        obtain ⟨b, off, ea, hbw, d0, d1⟩ := LS.at HO.out.1.rs HX.out.2 hp0
        subst ea
        obtain ⟨x, hx⟩ : ∃ x, p[0] = x := ⟨_, rfl⟩
        rw [hx] at d0 d1
        simp only [Nat.zero_mul, Nat.add_zero] at d0 d1
        have HXX : Hid (p = [x] ∧ x ∈ N ∧ Lu x) := by
          have e1 : p.length = 1 := by have := HO.out.2.2.2.1; omega
          have e2 : p = [x] := by
            obtain ⟨y, rfl⟩ := List.length_eq_one_iff.1 e1
            simpa using hx
          have e3 := (HW.out.2.1.one p HO.out.2.2.1 x (by rw [e2]; simp)).1
          exact ⟨e2, e3, H.out.2.2.1 x e3⟩
        have hpn1 : pn = 1 := by have := HO.out.2.2.2.1; omega
        subst hpn1
        have HOUT : Hid (∀ W, Below wr.heap.size wr W → Calls Try.prog 21 #[.pointer (some ⟨g, 0, none⟩), x.val] W fun e w' => ∃ v, e = .returned v ∧ OwnL W.heap.size w' v (rs (oE E x)) ∧ Below W.heap.size W w') := fun W hW => (((H.out.1.later HW.out.2.2.1).later HX.out.2).later hW).outs x HXX.out.2.2
        have hlo : (rs (oE E x)).length ≤ 100000000 := by
          have h4 : (rs (oE E x)).length ≤ (oE E x).length := Gs.ris_le _
          have h5 := oE_len E x
          have := H.out.2.2.2
          omega
        have HCON : Hid (∀ W v, LS W v (rs (oE E x)) → Calls Try.prog 32 #[v, x.val] W fun e w' => e = .returned (.bool (decide ((x, x) ∈ E))) ∧ Below W.heap.size W w') := fun W v hv => by
          have h9 := lcontains_any hv hlo x
          have e9 : decide (x ∈ rs (oE E x)) = decide ((x, x) ∈ E) := by
            congr 1
            rw [show (x ∈ rs (oE E x) ↔ x ∈ oE E x) from Gs.mem_ris _ _, mem_oE]
          rw [e9] at h9
          exact h9
        obtain ⟨cb, hcb⟩ : ∃ cb, decide ((x, x) ∈ E) = cb := ⟨_, rfl⟩
        rw [hcb] at HCON
        have HCB : Hid (decide ((x, x) ∈ E) = cb) := hcb
        have hbl : b < wr.heap.size := Nat.lt_of_lt_of_le hbw HX.out.2.size
        obtain ⟨pk, nm⟩ := x
        simp only [Lb.val] at d0 d1 HOUT HCON
        clear hx hcb hlo hp0
        go_wp2_with fail
        go_region_held3 (fun w' => w'.cell? ⟨b, off, none⟩ = some (.string (bs pk)) ∧ w'.cell? ⟨b, off + 1, none⟩ = some (.string (bs nm))) (first | (with_reducible exact ⟨d0, d1⟩) | (with_reducible exact KS1.out) | (with_reducible exact KS2.out) | go_keep) (first | (go_at_call 21; (with_reducible refine (HOUT.out _ (by first | exact Below.refl _ _ | exact (Below.refl _ _).drew)).mono ?_); rintro e w2 ⟨v2, rfl, ho2, hb2⟩; obtain ⟨a2, c2, rfl⟩ := ho2.form; have HB2 : Hid (Below wr.heap.size wr w2 ∧ LS w2 (.slice a2 (rs (oE E ⟨pk, nm⟩)).length c2) (rs (oE E ⟨pk, nm⟩))) := ⟨bstep (Below.refl _ _).drew hb2, ho2.rs⟩; have KS1 : Hid (w2.cell? ⟨b, off, none⟩ = some (.string (bs pk)) ∧ w2.cell? ⟨b, off + 1, none⟩ = some (.string (bs nm))) := ⟨(HB2.out.1.cell (p := ⟨b, off, none⟩) hbl).trans d0, (HB2.out.1.cell (p := ⟨b, off + 1, none⟩) hbl).trans d1⟩; clear hb2 ho2) | (go_at_call 32; (with_reducible refine (HCON.out _ _ HB2.out.2).mono ?_); rintro e w3 ⟨rfl, hb3⟩; have HB3 : Hid (Below wr.heap.size wr w3) := bstep HB2.out.1 hb3; have KS2 : Hid (w3.cell? ⟨b, off, none⟩ = some (.string (bs pk)) ∧ w3.cell? ⟨b, off + 1, none⟩ = some (.string (bs nm))) := ⟨(HB3.out.cell (p := ⟨b, off, none⟩) hbl).trans d0, (HB3.out.cell (p := ⟨b, off + 1, none⟩) hbl).trans d1⟩; clear hb3))
        all_goals clear KS1 KS2
        all_goals
          have HCR : Hid (crcB E P[i] = cb) := by
            show crcB E P[i] = cb
            unfold crcB
            rw [HO.out.2.1, HXX.out.1]
            simpa using HCB.out
          cases cb with
          | true =>
            go_wp2_with fail
            go_returns
            rw [frs_take hiP HX.out.1 HCR.out, HO.out.2.1]
            exact ⟨_, rfl, (HO.out.1.later HX.out.2).later HB3.out, bstep HW.out.2.2.1 (bstep HX.out.2 HB3.out)⟩
          | false =>
            go_wp2_with fail
            go_roundw
            case rel =>
              refine ⟨i + 1, by go_num, by omega, fun q hq => ?_, bstep HX.out.2 HB3.out⟩
              rw [List.take_succ_eq_append_getElem hiP, List.mem_append] at hq
              rcases hq with hq | hq
              · exact HX.out.1 q hq
              · rw [List.mem_singleton.1 hq]; exact HCR.out
            case measure => simp [intOf]; omega
    · obtain rfl : pl = i := by omega
      go_wp2_with fail
      go_returns
      rw [frs_none (by
        have h9 := HX.out.1
        rw [List.take_of_length_le (by rw [HW.out.2.2.2.2]; omega)] at h9
        exact h9)]
      exact ⟨_, rfl, OwnL.nil _ _, bstep HW.out.2.2.1 HX.out.2⟩
end Go.Proofs.Ytclbnjfmipifnaa
