/-
  Two deltas made one.
-/
import Derived.Test.YtinhdjoidbcfaaaJnR
namespace Go.Proofs.Ytinhdjoidbcfaaa
open Go.RowKit

theorem CS.tail {w : World} {v : Value} {x : Ch} {l : List Ch} (h : CS w v (x :: l)) : ∃ A C, (∀ W, (Instr.slice 23 v (some (.int .i64 1)) none none).run Try.prog W = .ok (.slice A l.length C) W) ∧ CS w (.slice A l.length C) l := by
  rcases h with ⟨_, h⟩ | ⟨b, off, cap, rfl, hc, hlt, hcell⟩
  · simp at h
  · simp only [List.length_cons] at hc
    have hr : ∀ W, (Instr.slice 23 (.slice (some ⟨b, off, none⟩) (l.length + 1) cap) (some (.int .i64 1)) none none).run Try.prog W = .ok (sliced (some ⟨b, off, none⟩) 1 (l.length + 1) cap 11) W := fun W => by
      have hel : Try.prog.elem 23 = 42 := by kernel_rfl
      rw [run_slice_l (P := Try.prog) (w := W) 23 (some ⟨b, off, none⟩) (l.length + 1) cap (by kernel_rfl) .i64 1 (by omega) (by omega), hel, Try.sizeOf42]
      rfl
    refine ⟨if cap = 1 then some ⟨b, off, none⟩ else some ⟨b, off + 11, none⟩, cap - 1, fun W => ?_, ?_⟩
    · simp only [List.length_cons]
      rw [hr]
      simp only [sliced, Option.map_some, Addr.add_lit, Nat.one_mul, Nat.add_sub_cancel]
    · by_cases h0 : l = []
      · subst h0; exact .inl ⟨⟨_, _, rfl⟩, rfl⟩
      · have hl : 0 < l.length := List.length_pos_iff.2 h0
        rw [if_neg (by omega)]
        refine .inr ⟨b, off + 11, cap - 1, rfl, by omega, hlt, fun i u hu => ?_⟩
        have := hcell (i + 11) u (by simpa [cc] using hu)
        rw [show off + (i + 11) = off + 11 + i by omega] at this; exact this
theorem CS.head {w : World} {A : Option Addr} {n c : Nat} {x : Ch} {l : List Ch} (h : CS w (.slice A n c) (x :: l)) {wr : World} (hb : Below w.heap.size w wr) : ∃ b off, A = some ⟨b, off, none⟩ ∧ b < w.heap.size ∧ CB wr b off x := by
  obtain ⟨a', c', e⟩ := h.shape
  injection e with e1 e2 e3
  subst e1 e2 e3
  obtain ⟨b, off, ea, hlt, _, hcb⟩ := CS.at h hb (k := 0) (by simp)
  exact ⟨b, off, ea, hlt, hcb.off (by omega)⟩
theorem CS.len {w : World} {A : Option Addr} {n c : Nat} {l : List Ch} (h : CS w (.slice A n c) l) : n = l.length := by
  obtain ⟨a', c', e⟩ := h.shape
  injection e with e1 e2 e3
def jnO (d e : List Ch) : Option (List Ch) := if vd d && vd e then mrg d e else none
def jnE (d e : List Ch) : Int := if (jnO d e).isSome then 0 else 9

theorem gw_valid {w : World} {v : Value} {l : List Ch} (h : CS w v l) (sm : CSm l) (X : GW w) : Calls Try.prog 18 #[v] X.it fun e w' => e = .returned (.bool (vd l)) ∧ ∃ Y : GW w, w' = Y.it :=
  (valid_d (h.later X.below) sm).mono fun _ w' ⟨he, hl⟩ => ⟨he, ⟨w', bstep X.below hl⟩, rfl⟩
set_option maxRecDepth 100000 in
set_option maxHeartbeats 8000000 in
theorem join_any {w : World} {va vb : Value} {d e : List Ch} (hd : CS w va d) (he : CS w vb e) (sd : CSm d) (se : CSm e) (hl : (d.length + e.length) * 120 ≤ 140737488355328) :
    Calls Try.prog 8 #[va, vb] w fun x w' => ∃ v', x = .returned (.tuple #[v', .int .i64 (jnE d e)]) ∧ OwnC w.heap.size w' v' ((jnO d e).getD []) ∧ Below w.heap.size w w' := by
  obtain ⟨R, hR⟩ : ∃ R, jnO d e = R := ⟨_, rfl⟩
  obtain ⟨er, her⟩ : ∃ er, jnE d e = er := ⟨_, rfl⟩
  rw [hR, her]
  have HER : Hid (er = if R.isSome then 0 else 9) := by show er = _; rw [← her, ← hR]; rfl
  clear her
  have H : Hid (CS w va d ∧ CS w vb e ∧ CSm d ∧ CSm e) := ⟨hd, he, sd, se⟩
  have HV1 : Hid (∀ W, Below w.heap.size w W → Calls Try.prog 18 #[va] W fun x w' => x = .returned (.bool (vd d)) ∧ Below w.heap.size w w') := fun W hW => (valid_d (hd.later hW) sd).mono fun _ _ h => ⟨h.1, bstep hW h.2⟩
  have HV2 : Hid (∀ W, Below w.heap.size w W → Calls Try.prog 18 #[vb] W fun x w' => x = .returned (.bool (vd e)) ∧ Below w.heap.size w w') := fun W hW => (valid_d (he.later hW) se).mono fun _ _ h => ⟨h.1, bstep hW h.2⟩
  have HL : Hid ((d.length + e.length) * 120 ≤ 140737488355328) := hl
  obtain ⟨a1, c1, hva⟩ := hd.shape
  obtain ⟨a2, c2, hvb⟩ := he.shape
  obtain ⟨n1, hn1⟩ : ∃ n, d.length = n := ⟨_, rfl⟩
  obtain ⟨n2, hn2⟩ : ∃ n, e.length = n := ⟨_, rfl⟩
  rw [hn1] at hva
  rw [hn2] at hvb
  subst hva hvb
  clear hd he sd se hl hn1 hn2
  cases h1 : vd d
  · rw [h1] at HV1
    have HR : Hid (R = none) := by show R = none; rw [← hR]; unfold jnO; rw [h1]; rfl
    clear hR h1
    go_enter Try.func8, Try.ntmps8
    go_wp2_with fail
    refine (HV1.out _ (Below.refl _ _)).mono ?_
    rintro x w1 ⟨rfl, hb1⟩
    have HB : Hid (Below w.heap.size w w1) := hb1
    clear hb1
    go_wp2_with fail
    go_ret2
    refine ⟨.slice none 0 0, ?_, ?_, HB.out⟩
    · rw [HER.out, HR.out]; rfl
    · rw [HR.out]; exact OwnC.nil _ _
  cases h2 : vd e
  · rw [h1] at HV1
    rw [h2] at HV2
    have HR : Hid (R = none) := by show R = none; rw [← hR]; unfold jnO; rw [h1, h2]; rfl
    clear hR h1 h2
    go_enter Try.func8, Try.ntmps8
    go_wp2_with fail
    refine (HV1.out _ (Below.refl _ _)).mono ?_
    rintro x w1 ⟨rfl, hb1⟩
    have HB : Hid (Below w.heap.size w w1) := hb1
    clear hb1
    go_wp2_with fail
    refine (HV2.out _ HB.out).mono ?_
    rintro x w2 ⟨rfl, hb1⟩
    have HB2 : Hid (Below w.heap.size w w2) := hb1
    clear hb1
    go_wp2_with fail
    go_ret2
    refine ⟨.slice none 0 0, ?_, ?_, HB2.out⟩
    · rw [HER.out, HR.out]; rfl
    · rw [HR.out]; exact OwnC.nil _ _
  rw [h1] at HV1
  rw [h2] at HV2
  have HR : Hid ((mrg d e).map ([] ++ ·) = R) := by
    show (mrg d e).map ([] ++ ·) = R
    rw [← hR]; unfold jnO; rw [h1, h2]; simp
  clear hR h1 h2
  go_enter Try.func8, Try.ntmps8
  go_wp2_with fail
  refine (HV1.out _ (Below.refl _ _)).mono ?_
  rintro x w1 ⟨rfl, hb1⟩
  have HB : Hid (Below w.heap.size w w1) := hb1
  clear hb1
  go_wp2_with fail
  refine (HV2.out _ HB.out).mono ?_
  rintro x w2 ⟨rfl, hb1⟩
  have HB2 : Hid (Below w.heap.size w w2) := hb1
  clear hb1
  go_wp2_with fail
  go_loopg [0, 1, 6] (d.length + e.length) (fun g u v o wr => ∃ (D E J : List Ch), CS w u D ∧ CS w v E ∧ CSm D ∧ CSm E ∧ OwnC w.heap.size wr o J ∧ Below w.heap.size w wr ∧ (mrg D E).map (J ++ ·) = R ∧ D.length + E.length ≤ g ∧ (J.length + D.length + E.length) * 120 ≤ 140737488355328)
  case atStart => exact ⟨d, e, [], H.out.1, H.out.2.1, H.out.2.2.1, H.out.2.2.2, OwnC.nil _ _, HB2.out, HR.out, Nat.le_refl _, by simpa using HL.out⟩
  case round =>
    obtain ⟨D, E, J, hD, hE, sD, sE, hO, hB, hM, hg, hZ⟩ := hrel
    obtain ⟨A1, C1, e1⟩ := hD.shape
    obtain ⟨A2, C2, e2⟩ := hE.shape
    have HH : Hid (CS w u0 D ∧ CS w u1 E ∧ CSm D ∧ CSm E ∧ OwnC w.heap.size wr u6 J ∧ Below w.heap.size w wr ∧ (mrg D E).map (J ++ ·) = R ∧ D.length + E.length ≤ gk ∧ (J.length + D.length + E.length) * 120 ≤ 140737488355328) := ⟨hD, hE, sD, sE, hO, hB, hM, hg, hZ⟩
    clear hD hE sD sE hO hB hM hg hZ
    subst e1 e2
    by_cases hend : D = [] ∨ E = []
    · have HX : Hid (R = some (J ++ D ++ E)) := by
        show R = some (J ++ D ++ E)
        rw [← HH.out.2.2.2.2.2.2.1]
        rcases hend with rfl | rfl
        · rw [mrg_nil]; simp
        · rw [mrg_nil']; simp
      have HE : Hid (D.length = 0 ∨ E.length = 0) := by
        rcases hend with rfl | rfl
        · exact .inl rfl
        · exact .inr rfl
      have H1 : Hid (Src Try.prog 11 23 (.slice A1 D.length C1) D.length (cc D) wr ∧ w.heap.size ≤ wr.heap.size) := ⟨(HH.out.1.later HH.out.2.2.2.2.2.1).src, HH.out.2.2.2.2.2.1.size⟩
      have H2 : Hid (∀ W, Below w.heap.size w W → Src Try.prog 11 23 (.slice A2 E.length C2) E.length (cc E) W) := fun W hW => (HH.out.2.1.later hW).src
      obtain ⟨m1, hm1⟩ : ∃ n, D.length = n := ⟨_, rfl⟩
      obtain ⟨m2, hm2⟩ : ∃ n, E.length = n := ⟨_, rfl⟩
      have HM : Hid (D.length = m1 ∧ E.length = m2) := ⟨hm1, hm2⟩
      rw [hm1, hm2] at HE
      rw [hm1] at H1 ⊢
      rw [hm2] at H2 ⊢
      clear hend hm1 hm2
      have hle : (m1 : Int) ≤ 9223372036854775807 ∧ (m2 : Int) ≤ 9223372036854775807 := by
        have h0 := HH.out.2.2.2.2.2.2.2.2
        have h1 := HM.out
        omega
      have h5 : (0 : Int) ≤ (m1 : Int) ∧ (0 : Int) ≤ (m2 : Int) := by omega
      have hcond : ¬ 0 < m1 ∨ 0 < m1 ∧ ¬ 0 < m2 := by have := HE.out; omega
      rcases hcond with h0 | ⟨h0, h0'⟩
      · go_wp2_with (first
          | (at_builtin; refine app_chs (base := w.heap.size) (l := J) (k := D) HH.out.2.2.2.2.1 (by rw [HM.out.1]; exact H1.out.1) (by have := HH.out.2.2.2.2.2.2.2.2; omega) H1.out.2 rfl (.tmp 79) (.tmp 80) rfl rfl rfl ?_; intro v3 w3 ho3 hg3 hv3; have H3 : Hid (OwnC w.heap.size w3 v3 (J ++ D) ∧ Below w.heap.size w w3) := ⟨ho3, HH.out.2.2.2.2.2.1.grown hg3 H1.out.2 (fun j hj => (HH.out.2.2.2.2.1.lt hj).1)⟩; clear ho3 hg3 hv3)
          | (at_builtin; refine app_chs (base := w.heap.size) (l := J ++ D) (k := E) H3.out.1 (by rw [HM.out.2]; exact H2.out _ H3.out.2) (by have := HH.out.2.2.2.2.2.2.2.2; simp; omega) H3.out.2.size rfl (.tmp 82) (.tmp 83) rfl rfl rfl ?_; intro v4 w4 ho4 hg4 hv4; have H4 : Hid (OwnC w.heap.size w4 v4 (J ++ D ++ E) ∧ Below w.heap.size w w4) := ⟨ho4, H3.out.2.grown hg4 H3.out.2.size (fun j hj => (H3.out.1.lt hj).1)⟩; clear ho4 hg4 hv4))
        go_ret2
        refine ⟨v4, ?_, ?_, H4.out.2⟩
        · rw [HER.out, HX.out]; rfl
        · rw [HX.out]; exact H4.out.1
      · go_wp2_with (first
          | (at_builtin; refine app_chs (base := w.heap.size) (l := J) (k := D) HH.out.2.2.2.2.1 (by rw [HM.out.1]; exact H1.out.1) (by have := HH.out.2.2.2.2.2.2.2.2; omega) H1.out.2 rfl (.tmp 79) (.tmp 80) rfl rfl rfl ?_; intro v3 w3 ho3 hg3 hv3; have H3 : Hid (OwnC w.heap.size w3 v3 (J ++ D) ∧ Below w.heap.size w w3) := ⟨ho3, HH.out.2.2.2.2.2.1.grown hg3 H1.out.2 (fun j hj => (HH.out.2.2.2.2.1.lt hj).1)⟩; clear ho3 hg3 hv3)
          | (at_builtin; refine app_chs (base := w.heap.size) (l := J ++ D) (k := E) H3.out.1 (by rw [HM.out.2]; exact H2.out _ H3.out.2) (by have := HH.out.2.2.2.2.2.2.2.2; simp; omega) H3.out.2.size rfl (.tmp 82) (.tmp 83) rfl rfl rfl ?_; intro v4 w4 ho4 hg4 hv4; have H4 : Hid (OwnC w.heap.size w4 v4 (J ++ D ++ E) ∧ Below w.heap.size w w4) := ⟨ho4, H3.out.2.grown hg4 H3.out.2.size (fun j hj => (H3.out.1.lt hj).1)⟩; clear ho4 hg4 hv4))
        go_ret2
        refine ⟨v4, ?_, ?_, H4.out.2⟩
        · rw [HER.out, HX.out]; rfl
        · rw [HX.out]; exact H4.out.1
    · obtain ⟨x, D, rfl⟩ : ∃ x D', D = x :: D' := by
        cases D with
        | nil => exact absurd (.inl rfl) hend
        | cons x D => exact ⟨x, D, rfl⟩
      obtain ⟨y, E, rfl⟩ : ∃ y E', E = y :: E' := by
        cases E with
        | nil => exact absurd (.inr rfl) hend
        | cons y E => exact ⟨y, E, rfl⟩
      clear hend
      obtain ⟨TA, TC, ht1, ht2⟩ := CS.tail HH.out.1
      obtain ⟨TA2, TC2, ht3, ht4⟩ := CS.tail HH.out.2.1
      obtain ⟨b, off, eA, hbw, hx⟩ := CS.head HH.out.1 HH.out.2.2.2.2.2.1
      obtain ⟨b2, off2, eA2, hbw2, hy⟩ := CS.head HH.out.2.1 HH.out.2.2.2.2.2.1
      obtain ⟨m1, hm1⟩ : ∃ n, (x :: D).length = n := ⟨_, rfl⟩
      obtain ⟨m2, hm2⟩ : ∃ n, (y :: E).length = n := ⟨_, rfl⟩
      obtain ⟨n1', hn1'⟩ : ∃ n, D.length = n := ⟨_, rfl⟩
      obtain ⟨n2', hn2'⟩ : ∃ n, E.length = n := ⟨_, rfl⟩
      have hp1 : 0 < m1 := by rw [← hm1]; simp
      have hp2 : 0 < m2 := by rw [← hm2]; simp
      have hq1 : (m1 : Int) ≤ 9223372036854775807 := by have := HH.out.2.2.2.2.2.2.2.2; omega
      have hq2 : (m2 : Int) ≤ 9223372036854775807 := by have := HH.out.2.2.2.2.2.2.2.2; omega
      have hi1 : (0 : Int) < (m1 : Int) := by omega
      have hi2 : (0 : Int) < (m2 : Int) := by omega
      have HT : Hid (CS w (.slice TA n1' TC) D ∧ CS w (.slice TA2 n2' TC2) E) := by rw [hn1'] at ht2; rw [hn2'] at ht4; exact ⟨ht2, ht4⟩
      subst eA eA2
      rw [hm1] at ht1 ⊢
      rw [hm2] at ht3 ⊢
      rw [hn1'] at ht1
      rw [hn2'] at ht3
      have HT1 : Hid (∀ W, (Instr.slice 23 (.slice (some ⟨b, off, none⟩) m1 C1) (some (.int .i64 1)) none none).run Try.prog W = .ok (.slice TA n1' TC) W) := ht1
      have HT3 : Hid (∀ W, (Instr.slice 23 (.slice (some ⟨b2, off2, none⟩) m2 C2) (some (.int .i64 1)) none none).run Try.prog W = .ok (.slice TA2 n2' TC2) W) := ht3
      have HH1 : Hid (CS w (.slice (some ⟨b, off, none⟩) m1 C1) (x :: D) ∧ CS w (.slice (some ⟨b2, off2, none⟩) m2 C2) (y :: E)) := by rw [← hm1, ← hm2]; exact ⟨HH.out.1, HH.out.2.1⟩
      have HS : Hid (Cok x ∧ Cok y) := ⟨HH.out.2.2.1.each x (by simp), HH.out.2.2.2.1.each y (by simp)⟩
      have HS2 : Hid (CSm D ∧ CSm E) := ⟨⟨by have := HH.out.2.2.1.len; simp at this; omega, fun c hc => HH.out.2.2.1.each c (by simp [hc])⟩, ⟨by have := HH.out.2.2.2.1.len; simp at this; omega, fun c hc => HH.out.2.2.2.1.each c (by simp [hc])⟩⟩
      have HXY : Hid (CB wr b off x ∧ CB wr b2 off2 y) := ⟨hx, hy⟩
      obtain ⟨o, ho⟩ : ∃ o, cf x.path y.path = o := ⟨_, rfl⟩
      have HO : Hid (cf x.path y.path = o) := ho
      have HC : Hid (∀ (W : World) (X : GW W), Calls Try.prog 31 #[.string (bs x.path), .string (bs y.path)] X.it fun x w' => x = .returned (.int .i64 o) ∧ ∃ Y : GW W, w' = Y.it) := fun _ X => gw_cmp HS.out.1.path HS.out.2.path ho X
      have hbr : b < wr.heap.size := Nat.lt_of_lt_of_le hbw HH.out.2.2.2.2.2.1.size
      have hbr2 : b2 < wr.heap.size := Nat.lt_of_lt_of_le hbw2 HH.out.2.2.2.2.2.1.size
      have c0 := hx.c0
      have c1' := hy.c0
      clear ht1 ht2 ht3 ht4 hx hy hm1 hm2 hn1' hn2' ho
      go_wp2_with fail
      have y0 : ∀ X : GW wr, X.it.cell? ⟨b, off, none⟩ = some (.string (bs x.path)) := fun X => X.cell (p := ⟨b, off, none⟩) hbr c0
      have y1 : ∀ X : GW wr, X.it.cell? ⟨b2, off2, none⟩ = some (.string (bs y.path)) := fun X => X.cell (p := ⟨b2, off2, none⟩) hbr2 c1'
      have xne := gw_ne wr
      clear c0 c1'
      refine wp_region_grow (by kernel_rfl) (by kernel_rfl) ?_
      repeat (go_big_quiet_step (fail))
      go_big_quiet_step (exact HC.out _ _)
      repeat (go_big_quiet_step (fail))
      refine wpQuiet_nil ?_
      rintro w3 ⟨⟨w3, bx⟩, rfl⟩
      have HB3 : Hid (Below w.heap.size w w3) := bstep HH.out.2.2.2.2.2.1 bx
      have HO3 : Hid (OwnC w.heap.size w3 u6 J) := HH.out.2.2.2.2.1.later bx
      have HX3 : Hid (CB w3 b off x ∧ CB w3 b2 off2 y) := ⟨HXY.out.1.later hbr bx, HXY.out.2.later hbr2 bx⟩
      have hs3 : wr.heap.size ≤ w3.heap.size := bx.size
      have hs4 : w.heap.size ≤ w3.heap.size := HB3.out.size
      have hr1 : b < w3.heap.size := by omega
      have hr2 : b2 < w3.heap.size := by omega
      clear bx y0 y1 hbr hbr2
      have HZ : Hid ((J.length + (D.length + 1) + (E.length + 1)) * 120 ≤ 140737488355328) := by have := HH.out.2.2.2.2.2.2.2.2; simp only [List.length_cons] at this; exact this
      have HG : Hid (D.length + 1 + (E.length + 1) ≤ gk) := by have := HH.out.2.2.2.2.2.2.2.1; simp only [List.length_cons] at this; exact this
      have hgk : 0 < gk := by have := HG.out; omega
      have HM : Hid ((mrg (x :: D) (y :: E)).map (J ++ ·) = R) := HH.out.2.2.2.2.2.2.1
      rcases Int.lt_trichotomy o 0 with h | h | h
      · obtain ⟨c0, c1, c2, c3, c4, c5, c6, c7, c8, c9, c10⟩ := HX3.out.1
        have hsl := HT1.out
        have HJ : Hid (R = ((mrg D (y :: E)).map (x :: ·)).map (J ++ ·)) := by
          show R = _
          rw [← HM.out, mrg_lt D E (by have := HO.out; omega)]
        obtain ⟨p, ha, hb, ⟨q, t, bl, s⟩, ⟨r, y', dd, z⟩⟩ := x
        simp only at c0 c1 c2 c3 c4 c5 c6 c7 c8 c9 c10
        have HJ2 : Hid (R = ((mrg D (y :: E)).map ((J ++ [⟨p, ha, hb, ⟨q, t, bl, s⟩, ⟨r, y', dd, z⟩⟩]) ++ ·))) := by
          show R = _
          rw [HJ.out]
          cases mrg D (y :: E) <;> simp
        go_wp2_with (first
          | (at_builtin; refine app_chs (base := w.heap.size) (l := J) (k := [⟨p, ha, hb, ⟨q, t, bl, s⟩, ⟨r, y', dd, z⟩⟩]) (HO3.out.later (balloc _ _)) (src_ch w3 ⟨p, ha, hb, ⟨q, t, bl, s⟩, ⟨r, y', dd, z⟩⟩) (by have := HZ.out; simp; omega) (by simp; omega) rfl (.tmp 60) (.tmp 64) rfl rfl rfl ?_; intro v4 w4 ho4 hg4 hv4; have H4 : Hid (OwnC w.heap.size w4 v4 (J ++ [⟨p, ha, hb, ⟨q, t, bl, s⟩, ⟨r, y', dd, z⟩⟩]) ∧ Below w.heap.size w w4) := ⟨ho4, (bstep HB3.out (balloc _ _)).grown hg4 (by simp; omega) (fun j hj => (HO3.out.lt hj).1)⟩; clear ho4 hg4 hv4))
        go_roundg (gk - 1)
        case measure => omega
        case rel => exact ⟨D, y :: E, _, HT.out.1, HH1.out.2, HS2.out.1, HH.out.2.2.2.1, H4.out.1, H4.out.2, HJ2.out.symm, by have := HG.out; simp; omega, by have := HZ.out; simp; omega⟩
      · obtain ⟨F, hF⟩ : ∃ F, fo x y = F := ⟨_, rfl⟩
        have HFo : Hid (∀ W, Calls Try.prog 32 #[x.val, y.val] W fun e w' => e = .returned (.tuple #[(F.getD zc).val, .bool F.isSome]) ∧ Below W.heap.size W w') := fun W => by rw [← hF]; exact follow_any x y W
        have HJ : Hid (R = (F.bind fun c => (mrg D E).map fun r => if feq c.old c.new then r else c :: r).map (J ++ ·)) := by
          show R = _
          rw [← HM.out, mrg_eq D E (by have := HO.out; omega), hF]
        clear hF
        subst h
        have hsl1 := HT1.out
        have hsl2 := HT3.out
        go_wp2_with fail
        refine jr6 hp1 hp2 hr1 hr2 HX3 HFo _ ?_
        intro s35 s36 s37 s38 s39 s40 s41 s42 s43 s44 g w4 hrc hb4
        have HB4 : Hid (Below w3.heap.size w3 w4 ∧ RC w4 g (F.getD zc)) := ⟨hb4, hrc⟩
        clear hrc hb4
        cases F with
        | none =>
          have HR0 : Hid (R = none) := by show R = none; rw [HJ.out]; rfl
          go_wp2_with fail
          go_ret2
          refine ⟨.slice none 0 0, ?_, ?_, bstep HB3.out HB4.out.1⟩
          · rw [HER.out, HR0.out]; rfl
          · rw [HR0.out]; exact OwnC.nil _ _
        | some c =>
          have HP : Hid (∀ W, Calls Try.prog 33 #[c.val] W fun e w' => e = .returned (.bool (!feq c.old c.new)) ∧ Below W.heap.size W w') := fun W => parts_any c W
          obtain ⟨fe, hfe⟩ : ∃ fe, feq c.old c.new = fe := ⟨_, rfl⟩
          have HJ2 : Hid (R = (mrg D E).map ((if fe then J else J ++ [c]) ++ ·)) := by
            show R = _
            rw [HJ.out]
            simp only [Option.bind_some, hfe]
            cases fe <;> cases mrg D E <;> simp
          rw [hfe] at HP
          clear hfe
          have HC4 : Hid (RC w4 g c) := HB4.out.2
          have hg4 := HC4.out.lt
          obtain ⟨c0, c1, c2, c3, c4, c5, c6, c7, c8, c9, c10⟩ := HC4.out.cb
          obtain ⟨cp, ch1, ch2, ⟨cq, ct, cb1, cs1⟩, ⟨cr, cy, cd, cz⟩⟩ := c
          simp only [Nat.zero_add] at c0 c1 c2 c3 c4 c5 c6 c7 c8 c9 c10
          simp only [Ch.val] at HP
          go_wp2_with fail
          refine (HP.out _).mono ?_
          rintro e w5 ⟨rfl, hb5⟩
          have HB5 : Hid (Below w3.heap.size w3 w5) := bstep HB4.out.1 hb5
          have HC5 : Hid (RC w5 g ⟨cp, ch1, ch2, ⟨cq, ct, cb1, cs1⟩, ⟨cr, cy, cd, cz⟩⟩) := HC4.out.later hb5
          have hw6 : w.heap.size ≤ w5.heap.size := by have := HB5.out.size; omega
          clear hb5 c0 c1 c2 c3 c4 c5 c6 c7 c8 c9 c10
          cases fe
          · obtain ⟨c0, c1, c2, c3, c4, c5, c6, c7, c8, c9, c10⟩ := HC5.out.cb
            simp only [Nat.zero_add] at c0 c1 c2 c3 c4 c5 c6 c7 c8 c9 c10
            go_wp2_with (first
              | (at_builtin; refine app_chs (base := w.heap.size) (l := J) (k := [⟨cp, ch1, ch2, ⟨cq, ct, cb1, cs1⟩, ⟨cr, cy, cd, cz⟩⟩]) (HO3.out.later (bstep HB5.out (balloc _ _))) (src_ch w5 ⟨cp, ch1, ch2, ⟨cq, ct, cb1, cs1⟩, ⟨cr, cy, cd, cz⟩⟩) (by have := HZ.out; simp; omega) (by simp; omega) rfl (.tmp 49) (.tmp 51) rfl rfl rfl ?_; intro v6 w6 ho6 hg6 hv6; have H6 : Hid (OwnC w.heap.size w6 v6 (J ++ [⟨cp, ch1, ch2, ⟨cq, ct, cb1, cs1⟩, ⟨cr, cy, cd, cz⟩⟩]) ∧ Below w.heap.size w w6) := ⟨ho6, (bstep HB3.out (bstep HB5.out (balloc _ _))).grown hg6 (by simp; omega) (fun j hj => (HO3.out.lt hj).1)⟩; clear ho6 hg6 hv6 c0 c1 c2 c3 c4 c5 c6 c7 c8 c9 c10))
            go_region
            go_wp2_with fail
            go_roundg (gk - 1)
            case measure => omega
            case rel => exact ⟨D, E, _, HT.out.1, HT.out.2, HS2.out.1, HS2.out.2, H6.out.1, H6.out.2.drew, HJ2.out.symm, by have := HG.out; omega, by have := HZ.out; simp; omega⟩
          · go_wp2_with fail
            go_region
            go_wp2_with fail
            go_roundg (gk - 1)
            case measure => omega
            case rel => exact ⟨D, E, J, HT.out.1, HT.out.2, HS2.out.1, HS2.out.2, HO3.out.later HB5.out.drew, bstep HB3.out HB5.out.drew, HJ2.out.symm, by have := HG.out; omega, by have := HZ.out; omega⟩
      · obtain ⟨c0, c1, c2, c3, c4, c5, c6, c7, c8, c9, c10⟩ := HX3.out.2
        have hsl := HT3.out
        have HJ : Hid (R = ((mrg (x :: D) E).map (y :: ·)).map (J ++ ·)) := by
          show R = _
          rw [← HM.out, mrg_gt D E (by have := HO.out; omega)]
        obtain ⟨p, ha, hb, ⟨q, t, bl, s⟩, ⟨r, y', dd, z⟩⟩ := y
        simp only at c0 c1 c2 c3 c4 c5 c6 c7 c8 c9 c10
        have HJ2 : Hid (R = ((mrg (x :: D) E).map ((J ++ [⟨p, ha, hb, ⟨q, t, bl, s⟩, ⟨r, y', dd, z⟩⟩]) ++ ·))) := by
          show R = _
          rw [HJ.out]
          cases mrg (x :: D) E <;> simp
        go_wp2_with (first
          | (at_builtin; refine app_chs (base := w.heap.size) (l := J) (k := [⟨p, ha, hb, ⟨q, t, bl, s⟩, ⟨r, y', dd, z⟩⟩]) (HO3.out.later (balloc _ _)) (src_ch w3 ⟨p, ha, hb, ⟨q, t, bl, s⟩, ⟨r, y', dd, z⟩⟩) (by have := HZ.out; simp; omega) (by simp; omega) rfl (.tmp 71) (.tmp 75) rfl rfl rfl ?_; intro v4 w4 ho4 hg4 hv4; have H4 : Hid (OwnC w.heap.size w4 v4 (J ++ [⟨p, ha, hb, ⟨q, t, bl, s⟩, ⟨r, y', dd, z⟩⟩]) ∧ Below w.heap.size w w4) := ⟨ho4, (bstep HB3.out (balloc _ _)).grown hg4 (by simp; omega) (fun j hj => (HO3.out.lt hj).1)⟩; clear ho4 hg4 hv4))
        go_roundg (gk - 1)
        case measure => omega
        case rel => exact ⟨x :: D, E, _, HH1.out.1, HT.out.2, HH.out.2.2.1, HS2.out.2, H4.out.1, H4.out.2, HJ2.out.symm, by have := HG.out; simp; omega, by have := HZ.out; simp; omega⟩
end Go.Proofs.Ytinhdjoidbcfaaa
