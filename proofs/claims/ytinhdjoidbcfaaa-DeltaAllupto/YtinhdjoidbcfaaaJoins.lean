/-
  One behind the other: the law, walked.
-/
import Derived.Test.YtinhdjoidbcfaaaAlive
namespace Go.Proofs.Ytinhdjoidbcfaaa
open Go.RowKit

theorem fsm_apl {a : List Fl} {d : List Ch} (ha : FSm a) (hd : CSm d) : FSm (apl a d).1 := by
  unfold apl
  cases h1 : stand a
  · exact ⟨by simp, fun f hf => by simp at hf⟩
  · simp only [if_true]
    split
    · rename_i hc
      simp only [Bool.and_eq_true] at hc
      refine ⟨by have := stand_len hc.2; show (res a d).length ≤ _; omega, ?_⟩
      show ∀ f ∈ res a d, Fok f
      rw [← runs_dds]
      exact runs_ok _ _ (dds_ok hd.each) ha.each
    · exact ⟨by simp, fun f hf => by simp at hf⟩
/-- what the law stands on -/
structure JS (w : World) (va vd' ve : Value) (a : List Fl) (d e : List Ch) : Prop where
  a : FS w va a
  d : CS w vd' d
  e : CS w ve e
theorem JS.later {w w' : World} {va vd' ve : Value} {a : List Fl} {d e : List Ch} (h : JS w va vd' ve a d e) (k : Below w.heap.size w w') : JS w' va vd' ve a d e := ⟨h.1.later k, h.2.later k, h.3.later k⟩

set_option maxRecDepth 100000 in
set_option maxHeartbeats 16000000 in
theorem joins_any {w : World} {va vd' ve : Value} {a : List Fl} {d e : List Ch} (ha : FS w va a) (hd : CS w vd' d) (he : CS w ve e) (sa : FSm a) (sd : CSm d) (se : CSm e) (hl : (d.length + e.length) * 120 ≤ 140737488355328) :
    Calls Try.prog 3 #[va, vd', ve] w fun x w' => x = .returned (.bool true) ∧ Below w.heap.size w w' := by
  have H : Hid (JS w va vd' ve a d e) := ⟨ha, hd, he⟩
  have HM : Hid (FSm a ∧ CSm d ∧ CSm e ∧ FSm (apl a d).1 ∧ CSm ((jnO d e).getD [])) := ⟨sa, sd, se, fsm_apl sa sd, csm_jn sd se (by omega)⟩
  have HL : Hid ((d.length + e.length) * 120 ≤ 140737488355328) := hl
  clear ha hd he sa sd se hl
  obtain ⟨B, hB⟩ : ∃ B, (apl a d).1 = B := ⟨_, rfl⟩
  obtain ⟨f, hf⟩ : ∃ f, (apl a d).2 = f := ⟨_, rfl⟩
  obtain ⟨J, hJ⟩ : ∃ J, (jnO d e).getD [] = J := ⟨_, rfl⟩
  obtain ⟨g, hg⟩ : ∃ g, jnE d e = g := ⟨_, rfl⟩
  have HE : Hid ((apl a d).1 = B ∧ (apl a d).2 = f ∧ (jnO d e).getD [] = J ∧ jnE d e = g) := ⟨hB, hf, hJ, hg⟩
  rw [hB, hJ] at HM
  have hbad : f ≠ 0 → B = [] ∧ (f = 7 ∨ f = 8 ∨ f = 9) := by rw [← hB, ← hf]; exact apl_bad
  have hgood : f = 0 → apl a d = (B, 0) := fun h0 => by rw [← hB, ← h0, ← hf]
  clear hB hf hJ hg
  go_enter Try.func3, Try.ntmps3
  go_wp2_with fail
  refine (apply_any H.out.1 H.out.2 HM.out.1 HM.out.2.1).mono ?_
  rintro x w1 ⟨v1, rfl, ho, hb⟩
  rw [HE.out.1] at ho
  rw [HE.out.2.1]
  obtain ⟨b1, b2, hv1⟩ := ho.form
  obtain ⟨nb, hnb⟩ : ∃ n, B.length = n := ⟨_, rfl⟩
  rw [hnb] at hv1
  subst hv1
  have H1 : Hid (Below w.heap.size w w1 ∧ FS w1 (.slice b1 nb b2) B ∧ B.length = nb) := ⟨hb, ho.fs, hnb⟩
  clear ho hb hnb
  go_wp2_with fail
  refine (join_any (H.out.later H1.out.1).2 (H.out.later H1.out.1).3 HM.out.2.1 HM.out.2.2.1 HL.out).mono ?_
  rintro x w2 ⟨v2, rfl, ho, hb⟩
  rw [HE.out.2.2.1] at ho
  rw [HE.out.2.2.2]
  have H2 : Hid (Below w.heap.size w w2 ∧ FS w2 (.slice b1 nb b2) B ∧ CS w2 v2 J) := ⟨bstep H1.out.1 hb, H1.out.2.1.later hb, ho.cs⟩
  clear ho hb
  go_wp2_with fail
  refine (alive_any _).mono ?_
  rintro x w3 ⟨rfl, hb⟩
  have H3 : Hid (Below w.heap.size w w3 ∧ FS w3 (.slice b1 nb b2) B ∧ CS w3 v2 J) := ⟨bstep H2.out.1 hb, H2.out.2.1.later hb, H2.out.2.2.later hb⟩
  clear hb
  go_wp2_with fail
  refine (num_any _ _).mono ?_
  rintro x wn ⟨rfl, hwn⟩
  subst hwn
  by_cases hf0 : f = 0
  · subst hf0
    have HA : Hid (apl a d = (B, 0)) := hgood rfl
    have hz := apl_zero HA.out
    have HD : Hid (dif a B = d ∧ stand a = true ∧ stand B = true) := ⟨leads_dif HA.out, hz.1, hz.2.2.2.1⟩
    have hdl : d.length ≤ 1024 := by rw [← HD.out.1]; exact dif_len a B
    have HDL : Hid (d.length ≤ 1024) := hdl
    clear hbad hgood hz hdl
    go_wp2_with fail
    refine (invert_any (H.out.later H3.out.1).2 (by have := HDL.out; omega)).mono ?_
    rintro x w4 ⟨v4, rfl, ho, hb⟩
    have H4 : Hid (Below w.heap.size w w4 ∧ FS w4 (.slice b1 nb b2) B ∧ CS w4 v2 J ∧ CS w4 v4 (inv d)) := ⟨bstep H3.out.1 hb, H3.out.2.1.later hb, H3.out.2.2.later hb, ho.cs⟩
    clear ho hb
    go_wp2_with fail
    refine (apply_any H4.out.2.1 H4.out.2.2.2 HM.out.2.2.2.1 (csm_inv HM.out.2.1)).mono ?_
    rintro x w5 ⟨v5, rfl, ho, hb⟩
    have hbk : apl B (inv d) = (a, 0) := by
      rw [← HD.out.1, dif_inv HD.out.2.1 HD.out.2.2]
      exact dif_leads HD.out.2.2 HD.out.2.1
    rw [hbk] at ho ⊢
    have H5 : Hid (Below w.heap.size w w5 ∧ FS w5 (.slice b1 nb b2) B ∧ CS w5 v2 J ∧ FS w5 v5 a) := ⟨bstep H4.out.1 hb, H4.out.2.1.later hb, H4.out.2.2.1.later hb, ho.fs⟩
    clear ho hb hbk
    simp only
    go_wp2_with fail
    refine (diff_any (H.out.later H5.out.1).1 H5.out.2.1 HM.out.1 HM.out.2.2.2.1).mono ?_
    rintro x w6 ⟨v6, rfl, ho, hb⟩
    rw [HD.out.1] at ho
    have H6 : Hid (Below w5.heap.size w5 w6 ∧ CS w6 v6 d) := ⟨hb, ho.cs⟩
    clear ho hb
    go_wp2_with fail
    refine (changes_any H6.out.2 (H.out.later (bstep H5.out.1 H6.out.1)).2 (by have := HDL.out; omega)).mono ?_
    rintro x w7 ⟨rfl, hb⟩
    rw [lceq_self]
    have H7 : Hid (Below w5.heap.size w5 w7) := bstep H6.out.1 hb
    clear hb
    go_wp2_with fail
    refine (num_any _ _).mono ?_
    rintro x wn ⟨rfl, hwn⟩
    subst hwn
    go_wp2_with fail
    refine (files_any (H5.out.2.2.2.later H7.out) (H.out.later (bstep H5.out.1 H7.out)).1 HM.out.1.len).mono ?_
    rintro x w8 ⟨rfl, hb⟩
    rw [leq_self]
    have H8 : Hid (Below w5.heap.size w5 w8) := bstep H7.out hb
    clear hb
    go_wp2_with fail
    refine (valid2_any (H5.out.2.1.later H8.out) HM.out.2.2.2.1).mono ?_
    rintro x w9 ⟨rfl, hb⟩
    rw [(validE_zero B).2 HD.out.2.2]
    have H9 : Hid (Below w5.heap.size w5 w9) := bstep H8.out hb
    clear hb
    go_wp2_with fail
    refine (num_any _ _).mono ?_
    rintro x wn ⟨rfl, hwn⟩
    subst hwn
    go_wp2_with fail
    obtain ⟨C, hC⟩ : ∃ C, (apl B e).1 = C := ⟨_, rfl⟩
    obtain ⟨i, hi⟩ : ∃ i, (apl B e).2 = i := ⟨_, rfl⟩
    refine (apply_any (H5.out.2.1.later H9.out) (H.out.later (bstep H5.out.1 H9.out)).3 HM.out.2.2.2.1 HM.out.2.2.1).mono ?_
    rintro x w10 ⟨v10, rfl, ho, hb⟩
    have hmc : FSm C := by rw [← hC]; exact fsm_apl HM.out.2.2.2.1 HM.out.2.2.1
    have HCI : Hid (i = 0 → apl B e = (C, 0)) := fun h0 => by rw [← hC, ← h0, ← hi]
    rw [hC] at ho
    rw [hi]
    have H10 : Hid (Below w5.heap.size w5 w10 ∧ FS w10 v10 C ∧ FSm C) := ⟨bstep H9.out hb, ho.fs, hmc⟩
    clear ho hb hC hi hmc
    go_wp2_with fail
    refine (num_any _ _).mono ?_
    rintro x wn ⟨rfl, hwn⟩
    subst hwn
    by_cases hi0 : i = 0
    · subst hi0
      have HBE : Hid (apl B e = (C, 0)) := HCI.out rfl
      have hz2 := apl_zero HBE.out
      have hJ : jnO d e = some (dif a C) := by
        unfold jnO
        rw [(vd_iff d).2 (apl_zero HA.out).2.1, (vd_iff e).2 hz2.2.1]
        show mrg d e = _
        rw [← HD.out.1, ← leads_dif HBE.out]
        exact dif_join HD.out.2.1 HD.out.2.2 hz2.2.2.2.1
      have HJJ : Hid (J = dif a C ∧ g = 0 ∧ stand C = true) := ⟨by rw [← HE.out.2.2.1, hJ]; rfl, by rw [← HE.out.2.2.2]; unfold jnE; rw [hJ]; rfl, hz2.2.2.2.1⟩
      clear hz2 hJ
      have hg0 := HJJ.out.2.1
      have HMJ : Hid (CSm J) := HM.out.2.2.2.2
      go_wp2_with fail
      refine (apply_any (H.out.later (bstep H5.out.1 H10.out.1)).1 (H5.out.2.2.1.later H10.out.1) HM.out.1 HMJ.out).mono ?_
      rintro x w11 ⟨v11, rfl, ho, hb⟩
      have hap : apl a J = (C, 0) := by rw [HJJ.out.1]; exact dif_leads HD.out.2.1 HJJ.out.2.2
      rw [hap] at ho ⊢
      have H11 : Hid (Below w5.heap.size w5 w11 ∧ FS w11 v10 C ∧ FS w11 v11 C) := ⟨bstep H10.out.1 hb, H10.out.2.1.later hb, ho.fs⟩
      clear ho hb hap
      simp only
      go_wp2_with fail
      refine (num_any _ _).mono ?_
      rintro x wn ⟨rfl, hwn⟩
      subst hwn
      subst hg0
      go_wp2_with fail
      refine (num_any _ _).mono ?_
      rintro x wn ⟨rfl, hwn⟩
      subst hwn
      go_wp2_with fail
      refine (files_any H11.out.2.2 H11.out.2.1 H10.out.2.2.len).mono ?_
      rintro x w12 ⟨rfl, hb⟩
      rw [leq_self]
      have H12 : Hid (Below w5.heap.size w5 w12 ∧ FS w12 v10 C) := ⟨bstep H11.out.1 hb, H11.out.2.1.later hb⟩
      clear hb
      go_wp2_with fail
      refine (diff_any (H.out.later (bstep H5.out.1 H12.out.1)).1 H12.out.2 HM.out.1 H10.out.2.2).mono ?_
      rintro x w13 ⟨v13, rfl, ho, hb⟩
      have H13 : Hid (Below w5.heap.size w5 w13 ∧ CS w13 v13 (dif a C)) := ⟨bstep H12.out.1 hb, ho.cs⟩
      clear ho hb
      go_wp2_with fail
      refine (changes_any (H5.out.2.2.1.later H13.out.1) H13.out.2 (by rw [HJJ.out.1]; have := dif_len a C; omega)).mono ?_
      rintro x w14 ⟨rfl, hb⟩
      rw [HJJ.out.1, lceq_self]
      have H14 : Hid (Below w5.heap.size w5 w14) := bstep H13.out.1 hb
      clear hb
      go_wp2_with fail
      go_ret
      exact ⟨rfl, bstep H5.out.1 H14.out⟩
    · go_wp2_with fail
      go_ret
      exact ⟨rfl, bstep H5.out.1 H10.out.1⟩
  · obtain ⟨hB0, hff⟩ := hbad hf0
    have hnb0 : nb = 0 := by rw [← H1.out.2.2, hB0]; rfl
    subst hnb0
    clear hbad hgood hB0
    rcases hff with rfl | rfl | rfl
    · go_wp2_with fail
      refine (num_any _ _).mono ?_
      rintro x wn ⟨rfl, hwn⟩
      subst hwn
      go_wp2_with fail
      go_ret
      exact ⟨rfl, H3.out.1⟩
    · go_wp2_with fail
      refine (num_any _ _).mono ?_
      rintro x wn ⟨rfl, hwn⟩
      subst hwn
      go_wp2_with fail
      refine (num_any _ _).mono ?_
      rintro x wn ⟨rfl, hwn⟩
      subst hwn
      go_wp2_with fail
      go_ret
      exact ⟨rfl, H3.out.1⟩
    · go_wp2_with fail
      refine (num_any _ _).mono ?_
      rintro x wn ⟨rfl, hwn⟩
      subst hwn
      go_wp2_with fail
      refine (num_any _ _).mono ?_
      rintro x wn ⟨rfl, hwn⟩
      subst hwn
      go_wp2_with fail
      refine (num_any _ _).mono ?_
      rintro x wn ⟨rfl, hwn⟩
      subst hwn
      go_wp2_with fail
      go_ret
      exact ⟨rfl, H3.out.1⟩
end Go.Proofs.Ytinhdjoidbcfaaa
