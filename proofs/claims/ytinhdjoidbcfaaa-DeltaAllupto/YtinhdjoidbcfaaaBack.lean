/-
  There and back: the law, walked.
-/
import Derived.Test.YtinhdjoidbcfaaaAlive
namespace Go.Proofs.Ytinhdjoidbcfaaa
open Go.RowKit

structure Fin (w : World) (va vb vc : Value) (a b c : List Fl) : Prop where
  fa : FS w va a
  fb : FS w vb b
  fc : FS w vc c
  sa : FSm a
  sb : FSm b
  sc : FSm c
theorem Fin.later {w w' : World} {va vb vc : Value} {a b c : List Fl} (h : Fin w va vb vc a b c) (hb : Below w.heap.size w w') : Fin w' va vb vc a b c := ⟨h.fa.later hb, h.fb.later hb, h.fc.later hb, h.sa, h.sb, h.sc⟩
theorem Fin.v {w : World} {va vb vc : Value} {a b c : List Fl} (h : Fin w va vb vc a b c) (W : World) (hW : Below w.heap.size w W) :
    (Calls Try.prog 15 #[va] W fun x w' => x = .returned (.int .i64 (validE a)) ∧ Below w.heap.size w w') ∧ (Calls Try.prog 15 #[vb] W fun x w' => x = .returned (.int .i64 (validE b)) ∧ Below w.heap.size w w') ∧ (Calls Try.prog 15 #[vc] W fun x w' => x = .returned (.int .i64 (validE c)) ∧ Below w.heap.size w w') :=
  ⟨(valid2_any (h.fa.later hW) h.sa).mono fun _ _ k => ⟨k.1, bstep hW k.2⟩, (valid2_any (h.fb.later hW) h.sb).mono fun _ _ k => ⟨k.1, bstep hW k.2⟩, (valid2_any (h.fc.later hW) h.sc).mono fun _ _ k => ⟨k.1, bstep hW k.2⟩⟩

set_option maxRecDepth 100000 in
set_option maxHeartbeats 8000000 in
theorem back_bad {w : World} {va vb vc : Value} {a b c : List Fl} (h : Fin w va vb vc a b c) (hn : ¬ (stand a = true ∧ stand b = true ∧ stand c = true)) :
    Calls Try.prog 5 #[va, vb, vc] w fun e w' => e = .returned (.bool true) ∧ Below w.heap.size w w' := by
  have HV : Hid (∀ W, Below w.heap.size w W → (Calls Try.prog 15 #[va] W fun x w' => x = .returned (.int .i64 (validE a)) ∧ Below w.heap.size w w') ∧ (Calls Try.prog 15 #[vb] W fun x w' => x = .returned (.int .i64 (validE b)) ∧ Below w.heap.size w w') ∧ (Calls Try.prog 15 #[vc] W fun x w' => x = .returned (.int .i64 (validE c)) ∧ Below w.heap.size w w')) := h.v
  clear h
  cases h1 : stand a
  · have hE := valid_no h1
    generalize validE a = E at *
    clear h1 hn
    go_enter Try.func5, Try.ntmps5
    go_wp2_with fail
    refine (alive_any _).mono ?_
    rintro x w1 ⟨rfl, hb1⟩
    have HB : Hid (Below w.heap.size w w1) := hb1
    clear hb1
    go_wp2_with fail
    refine ((HV.out _ HB.out).1).mono ?_
    rintro x v0 ⟨rfl, hb1⟩
    have HB0 : Hid (Below w.heap.size w v0) := hb1
    clear hb1
    go_wp2_with fail
    refine (num_any _ _).mono ?_
    rintro x wn ⟨rfl, hwn⟩
    subst hwn
    go_wp2_with fail
    go_ret
    exact ⟨rfl, HB0.out⟩
  cases h2 : stand b
  · have hE := valid_no h2
    rw [(validE_zero a).2 h1] at HV
    generalize validE b = E at *
    clear h1 h2 hn
    go_enter Try.func5, Try.ntmps5
    go_wp2_with fail
    refine (alive_any _).mono ?_
    rintro x w1 ⟨rfl, hb1⟩
    have HB : Hid (Below w.heap.size w w1) := hb1
    clear hb1
    go_wp2_with fail
    refine ((HV.out _ HB.out).1).mono ?_
    rintro x v0 ⟨rfl, hb1⟩
    have HB0 : Hid (Below w.heap.size w v0) := hb1
    clear hb1
    go_wp2_with fail
    refine (num_any _ _).mono ?_
    rintro x wn ⟨rfl, hwn⟩
    subst hwn
    go_wp2_with fail
    refine ((HV.out _ HB0.out).2.1).mono ?_
    rintro x v1 ⟨rfl, hb1⟩
    have HB1 : Hid (Below w.heap.size w v1) := hb1
    clear hb1
    go_wp2_with fail
    refine (num_any _ _).mono ?_
    rintro x wn ⟨rfl, hwn⟩
    subst hwn
    go_wp2_with fail
    go_ret
    exact ⟨rfl, HB1.out⟩
  have h3 : stand c = false := by
    cases h3 : stand c
    · rfl
    · exact absurd ⟨h1, h2, h3⟩ hn
  have hE := valid_no h3
  rw [(validE_zero a).2 h1, (validE_zero b).2 h2] at HV
  generalize validE c = E at *
  clear h1 h2 h3 hn
  go_enter Try.func5, Try.ntmps5
  go_wp2_with fail
  refine (alive_any _).mono ?_
  rintro x w1 ⟨rfl, hb1⟩
  have HB : Hid (Below w.heap.size w w1) := hb1
  clear hb1
  go_wp2_with fail
  refine ((HV.out _ HB.out).1).mono ?_
  rintro x v0 ⟨rfl, hb1⟩
  have HB0 : Hid (Below w.heap.size w v0) := hb1
  clear hb1
  go_wp2_with fail
  refine (num_any _ _).mono ?_
  rintro x wn ⟨rfl, hwn⟩
  subst hwn
  go_wp2_with fail
  refine ((HV.out _ HB0.out).2.1).mono ?_
  rintro x v1 ⟨rfl, hb1⟩
  have HB1 : Hid (Below w.heap.size w v1) := hb1
  clear hb1
  go_wp2_with fail
  refine (num_any _ _).mono ?_
  rintro x wn ⟨rfl, hwn⟩
  subst hwn
  go_wp2_with fail
  refine ((HV.out _ HB1.out).2.2).mono ?_
  rintro x v2 ⟨rfl, hb1⟩
  have HB2 : Hid (Below w.heap.size w v2) := hb1
  clear hb1
  go_wp2_with fail
  refine (num_any _ _).mono ?_
  rintro x wn ⟨rfl, hwn⟩
  subst hwn
  go_wp2_with fail
  go_ret
  exact ⟨rfl, HB2.out⟩


/-- what the rest of the law stands on -/
structure BR (w : World) (vd vj va vb : Value) (a b c : List Fl) : Prop where
  d : CS w vd (dif a b)
  j : CS w vj (dif a c)
  fa : FS w va a
  fb : FS w vb b
  sa : FSm a
  sb : FSm b
  ha : stand a = true
  hb : stand b = true
  hc : stand c = true
  cm : CSm (dif a b)
  jm : CSm (dif a c)
theorem BR.later {w w' : World} {vd vj va vb : Value} {a b c : List Fl} (h : BR w vd vj va vb a b c) (k : Below w.heap.size w w') : BR w' vd vj va vb a b c := ⟨h.d.later k, h.j.later k, h.fa.later k, h.fb.later k, h.sa, h.sb, h.ha, h.hb, h.hc, h.cm, h.jm⟩

set_option maxRecDepth 100000 in
set_option maxHeartbeats 16000000 in
theorem back_good {w : World} {va vb vc : Value} {a b c : List Fl} (h : Fin w va vb vc a b c) (h1 : stand a = true) (h2 : stand b = true) (h3 : stand c = true) :
    Calls Try.prog 5 #[va, vb, vc] w fun e w' => e = .returned (.bool true) ∧ Below w.heap.size w w' := by
  have HV : Hid (∀ W, Below w.heap.size w W → (Calls Try.prog 15 #[va] W fun x w' => x = .returned (.int .i64 0) ∧ Below w.heap.size w w') ∧ (Calls Try.prog 15 #[vb] W fun x w' => x = .returned (.int .i64 0) ∧ Below w.heap.size w w') ∧ (Calls Try.prog 15 #[vc] W fun x w' => x = .returned (.int .i64 0) ∧ Below w.heap.size w w')) := by
    have h0 := h.v
    rw [(validE_zero a).2 h1, (validE_zero b).2 h2, (validE_zero c).2 h3] at h0; exact h0
  have HF : Hid (Fin w va vb vc a b c) := h
  have HS : Hid (stand a = true ∧ stand b = true ∧ stand c = true) := ⟨h1, h2, h3⟩
  have HM : Hid (CSm (dif a b) ∧ CSm (dif b c) ∧ CSm (dif a c)) := ⟨csm_dif h.sa h.sb, csm_dif h.sb h.sc, csm_dif h.sa h.sc⟩
  obtain ⟨aa, ac, hva, _⟩ := h.fa.form
  rename_i qq
  obtain ⟨na, hna⟩ : ∃ n, a.length = n := ⟨_, rfl⟩
  rw [hna] at hva
  subst hva
  have HNA : Hid (a.length = na) := hna
  have hna5 : na ≤ 512 := by rw [← hna]; exact stand_len h1
  clear qq h h1 h2 h3 hna
  go_enter Try.func5, Try.ntmps5
  go_wp2_with fail
  refine (alive_any _).mono ?_
  rintro x w1 ⟨rfl, hb1⟩
  have HB : Hid (Below w.heap.size w w1) := hb1
  clear hb1
  go_wp2_with fail
  refine ((HV.out _ HB.out).1).mono ?_
  rintro x v0 ⟨rfl, hb1⟩
  have HB0 : Hid (Below w.heap.size w v0) := hb1
  clear hb1
  go_wp2_with fail
  refine (num_any _ _).mono ?_
  rintro x wn ⟨rfl, hwn⟩
  subst hwn
  go_wp2_with fail
  refine ((HV.out _ HB0.out).2.1).mono ?_
  rintro x v1 ⟨rfl, hb1⟩
  have HB1 : Hid (Below w.heap.size w v1) := hb1
  clear hb1
  go_wp2_with fail
  refine (num_any _ _).mono ?_
  rintro x wn ⟨rfl, hwn⟩
  subst hwn
  go_wp2_with fail
  refine ((HV.out _ HB1.out).2.2).mono ?_
  rintro x v2 ⟨rfl, hb1⟩
  have HB2 : Hid (Below w.heap.size w v2) := hb1
  clear hb1
  go_wp2_with fail
  refine (num_any _ _).mono ?_
  rintro x wn ⟨rfl, hwn⟩
  subst hwn

  go_wp2_with fail
  refine (diff_any (HF.out.later HB2.out).fa (HF.out.later HB2.out).fb HF.out.sa HF.out.sb).mono ?_
  rintro x w3 ⟨vd3, rfl, ho, hb⟩
  obtain ⟨da, dc, hvd⟩ := ho.cs.shape
  obtain ⟨nd, hnd⟩ : ∃ n, (dif a b).length = n := ⟨_, rfl⟩
  rw [hnd] at hvd
  have HND : Hid ((dif a b).length = nd) := hnd
  subst hvd
  have H3 : Hid (Below w.heap.size w w3 ∧ CS w3 (.slice da nd dc) (dif a b)) := ⟨bstep HB2.out hb, ho.cs⟩
  clear ho hb hnd
  go_wp2_with fail
  refine (diff_any (HF.out.later H3.out.1).fb (HF.out.later H3.out.1).fc HF.out.sb HF.out.sc).mono ?_
  rintro x w4 ⟨ve, rfl, ho, hb⟩
  have H4 : Hid (Below w.heap.size w w4 ∧ CS w4 (.slice da nd dc) (dif a b) ∧ CS w4 ve (dif b c)) := ⟨bstep H3.out.1 hb, H3.out.2.later hb, ho.cs⟩
  clear ho hb
  go_wp2_with fail
  refine (apply_any (HF.out.later H4.out.1).fa H4.out.2.1 HF.out.sa HM.out.1).mono ?_
  rintro x w5 ⟨vl, rfl, ho, hb⟩
  rw [dif_leads HS.out.1 HS.out.2.1] at ho ⊢
  have H5 : Hid (Below w.heap.size w w5 ∧ CS w5 (.slice da nd dc) (dif a b) ∧ CS w5 ve (dif b c) ∧ FS w5 vl b) := ⟨bstep H4.out.1 hb, H4.out.2.1.later hb, H4.out.2.2.later hb, ho.fs⟩
  clear ho hb
  simp only
  go_wp2_with fail
  refine (invert_any H5.out.2.1 (by have := dif_len a b; omega)).mono ?_
  rintro x w6 ⟨vi, rfl, ho, hb⟩
  rw [dif_inv HS.out.1 HS.out.2.1] at ho
  have H6 : Hid (Below w.heap.size w w6 ∧ CS w6 (.slice da nd dc) (dif a b) ∧ CS w6 ve (dif b c) ∧ FS w6 vl b ∧ CS w6 vi (dif b a)) := ⟨bstep H5.out.1 hb, H5.out.2.1.later hb, H5.out.2.2.1.later hb, H5.out.2.2.2.later hb, ho.cs⟩
  clear ho hb
  go_wp2_with fail
  refine (apply_any (HF.out.later H6.out.1).fb H6.out.2.2.2.2 HF.out.sb (csm_dif HF.out.sb HF.out.sa)).mono ?_
  rintro x w7 ⟨vm, rfl, ho, hb⟩
  rw [dif_leads HS.out.2.1 HS.out.1] at ho ⊢
  have H7 : Hid (Below w.heap.size w w7 ∧ CS w7 (.slice da nd dc) (dif a b) ∧ CS w7 ve (dif b c) ∧ FS w7 vl b ∧ FS w7 vm a) := ⟨bstep H6.out.1 hb, H6.out.2.1.later hb, H6.out.2.2.1.later hb, H6.out.2.2.2.1.later hb, ho.fs⟩
  clear ho hb
  simp only
  go_wp2_with fail
  refine (join_any H7.out.2.1 H7.out.2.2.1 HM.out.1 HM.out.2.1 (by have := dif_len a b; have := dif_len b c; omega)).mono ?_
  rintro x w8 ⟨vj, rfl, ho, hb⟩
  have hjo : jnO (dif a b) (dif b c) = some (dif a c) := by
    unfold jnO
    rw [(vd_iff _).2 (dif_spec HS.out.1 HS.out.2.1).2.1, (vd_iff _).2 (dif_spec HS.out.2.1 HS.out.2.2).2.1]
    exact dif_join HS.out.1 HS.out.2.1 HS.out.2.2
  have hje : jnE (dif a b) (dif b c) = 0 := by unfold jnE; rw [hjo]; rfl
  rw [hjo] at ho
  rw [hje]
  have H8 : Hid (Below w.heap.size w w8 ∧ CS w8 (.slice da nd dc) (dif a b) ∧ CS w8 ve (dif b c) ∧ FS w8 vl b ∧ FS w8 vm a ∧ CS w8 vj (dif a c)) := ⟨bstep H7.out.1 hb, H7.out.2.1.later hb, H7.out.2.2.1.later hb, H7.out.2.2.2.1.later hb, H7.out.2.2.2.2.later hb, ho.cs⟩
  clear ho hb hjo hje
  go_wp2_with fail
  refine (apply_any (HF.out.later H8.out.1).fa H8.out.2.2.2.2.2 HF.out.sa HM.out.2.2).mono ?_
  rintro x w9 ⟨vn, rfl, ho, hb⟩
  rw [dif_leads HS.out.1 HS.out.2.2] at ho ⊢
  have H9 : Hid (Below w.heap.size w w9 ∧ CS w9 (.slice da nd dc) (dif a b) ∧ CS w9 ve (dif b c) ∧ FS w9 vl b ∧ FS w9 vm a ∧ CS w9 vj (dif a c) ∧ FS w9 vn c) := ⟨bstep H8.out.1 hb, H8.out.2.1.later hb, H8.out.2.2.1.later hb, H8.out.2.2.2.1.later hb, H8.out.2.2.2.2.1.later hb, H8.out.2.2.2.2.2.later hb, ho.fs⟩
  clear ho hb
  simp only
  go_wp2_with fail
  refine (valid_d H9.out.2.1 HM.out.1).mono ?_
  rintro x w10 ⟨rfl, hb⟩
  rw [(vd_iff _).2 (dif_spec HS.out.1 HS.out.2.1).2.1]
  have B10 : Hid (Below w9.heap.size w9 w10) := hb
  clear hb
  go_wp2_with fail
  refine (valid_d (H9.out.2.2.1.later B10.out) HM.out.2.1).mono ?_
  rintro x w11 ⟨rfl, hb⟩
  rw [(vd_iff _).2 (dif_spec HS.out.2.1 HS.out.2.2).2.1]
  have B11 : Hid (Below w9.heap.size w9 w11) := bstep B10.out hb
  clear hb
  go_wp2_with fail
  refine (num_any _ _).mono ?_
  rintro x wn ⟨rfl, hwn⟩
  subst hwn
  go_wp2_with fail
  refine (num_any _ _).mono ?_
  rintro x wn ⟨rfl, hwn⟩
  subst hwn
  go_wp2_with fail
  refine (num_any _ _).mono ?_
  rintro x wn ⟨rfl, hwn⟩
  subst hwn
  go_wp2_with fail
  refine (num_any _ _).mono ?_
  rintro x wn ⟨rfl, hwn⟩
  subst hwn
  go_wp2_with fail
  refine (files_any (H9.out.2.2.2.1.later B11.out) (HF.out.later (bstep H9.out.1 B11.out)).fb HF.out.sb.len).mono ?_
  rintro x w12 ⟨rfl, hb⟩
  rw [leq_self]
  have B12 : Hid (Below w9.heap.size w9 w12) := bstep B11.out hb
  clear hb
  go_wp2_with fail
  refine (files_any (H9.out.2.2.2.2.1.later B12.out) (HF.out.later (bstep H9.out.1 B12.out)).fa HF.out.sa.len).mono ?_
  rintro x w13 ⟨rfl, hb⟩
  rw [leq_self]
  have B13 : Hid (Below w9.heap.size w9 w13) := bstep B12.out hb
  clear hb
  go_wp2_with fail
  refine (files_any (H9.out.2.2.2.2.2.2.later B13.out) (HF.out.later (bstep H9.out.1 B13.out)).fc HF.out.sc.len).mono ?_
  rintro x w14 ⟨rfl, hb⟩
  rw [leq_self]
  have B14 : Hid (Below w9.heap.size w9 w14) := bstep B13.out hb
  clear hb
  go_wp2_with fail
  refine (diff_any (HF.out.later (bstep H9.out.1 B14.out)).fa (HF.out.later (bstep H9.out.1 B14.out)).fc HF.out.sa HF.out.sc).mono ?_
  rintro x w15 ⟨vx, rfl, ho, hb⟩
  have B15 : Hid (Below w9.heap.size w9 w15 ∧ CS w15 vx (dif a c)) := ⟨bstep B14.out hb, ho.cs⟩
  clear ho hb
  go_wp2_with fail
  refine (changes_any (H9.out.2.2.2.2.2.1.later B15.out.1) B15.out.2 (by have := dif_len a c; omega)).mono ?_
  rintro x w16 ⟨rfl, hb⟩
  rw [lceq_self]
  have B16 : Hid (Below w9.heap.size w9 w16) := bstep B15.out.1 hb
  clear hb
  go_wp2_with fail
  refine (files_any (HF.out.later (bstep H9.out.1 B16.out)).fa (HF.out.later (bstep H9.out.1 B16.out)).fb HF.out.sa.len).mono ?_
  rintro x w17 ⟨rfl, hb⟩
  have B17 : Hid (Below w9.heap.size w9 w17) := bstep B16.out hb
  clear hb
  have hab : (leq a b = true ∧ nd = 0) ∨ (leq a b = false ∧ nd ≠ 0) := by
    cases hl : leq a b
    · refine .inr ⟨rfl, fun e => ?_⟩
      rw [← HND.out] at e
      have := (dif_none HS.out.1 HS.out.2.1).1 (List.eq_nil_of_length_eq_zero e)
      rw [(leq_iff a b).2 this] at hl; simp at hl
    · have := (dif_none HS.out.1 HS.out.2.1).2 ((leq_iff a b).1 hl)
      exact .inl ⟨rfl, by rw [← HND.out, this]; rfl⟩
  have HREST : Hid (BR w9 (.slice da nd dc) vj (.slice aa na ac) vb a b c) := ⟨H9.out.2.1, H9.out.2.2.2.2.2.1, (HF.out.later H9.out.1).fa, (HF.out.later H9.out.1).fb, HF.out.sa, HF.out.sb, HS.out.1, HS.out.2.1, HS.out.2.2, HM.out.1, HM.out.2.2⟩
  rcases hab with ⟨hab, hnd0⟩ | ⟨hab, hnd0⟩
  · rw [hab]
    have hnz : ((nd : Int) == 0) = true := by rw [hnd0]; rfl
    clear hab hnd0
    go_wp2_with fail
    refine (invert_any (HREST.out.later B17.out).d (by have := dif_len a b; omega)).mono ?_
    rintro x w18 ⟨v18, rfl, ho, hb⟩
    have B18 : Hid (Below w9.heap.size w9 w18 ∧ CS w18 v18 (inv (dif a b))) := ⟨bstep B17.out hb, ho.cs⟩
    clear ho hb
    go_wp2_with fail
    refine (invert_any B18.out.2 (by rw [invert_len]; have := dif_len a b; omega)).mono ?_
    rintro x w19 ⟨v19, rfl, ho, hb⟩
    rw [inv_inv] at ho
    have B19 : Hid (Below w9.heap.size w9 w19 ∧ CS w19 v19 (dif a b)) := ⟨bstep B18.out.1 hb, ho.cs⟩
    clear ho hb
    go_wp2_with fail
    refine (changes_any B19.out.2 (HREST.out.later B19.out.1).d (by have := dif_len a b; omega)).mono ?_
    rintro x w20 ⟨rfl, hb⟩
    rw [lceq_self]
    have B20 : Hid (Below w9.heap.size w9 w20) := bstep B19.out.1 hb
    clear hb
    go_wp2_with fail
    refine (paths_any (HREST.out.later B20.out).d (by have := dif_len a b; omega)).mono ?_
    rintro x w21 ⟨vp, rfl, ho, hb⟩
    have B21 : Hid (Below w9.heap.size w9 w21 ∧ SS w21 vp (pths (dif a b))) := ⟨bstep B20.out hb, ho.bs⟩
    clear ho hb
    go_wp2_with fail
    go_loopw [18] (fun s wr => ∃ k : Nat, k ≤ na ∧ s = .int .i64 k ∧ Below w21.heap.size w21 wr) (fun s _ => na - (intOf s).toNat)
    case atStart => exact ⟨0, by omega, rfl, Below.refl _ _⟩
    case round =>
      obtain ⟨k, hk, rfl, hb⟩ := hrel
      have HBk : Hid (Below w21.heap.size w21 wr) := hb
      have HBk9 : Hid (Below w9.heap.size w9 wr) := bstep B21.out.1 hb
      clear hb
      by_cases hlt : k < na
      · have hka : k < a.length := by have := HNA.out; omega
        have hfs := (HREST.out.later HBk9.out).fa
        have hfs2 : FS wr (.slice aa a.length ac) a := by rw [HNA.out]; exact hfs
        obtain ⟨bb, off, ea, hbw, d0, d1, d2, d3⟩ := hfs2.at (Below.refl _ wr) hka
        subst ea
        have HMM : Hid ((decide ((a[k]'hka).path ∈ pths (dif a b))) = true ∨ lk Fl.path b (a[k]'hka).path = some (a[k]'hka)) := by
          by_cases hm : (a[k]'hka).path ∈ pths (dif a b)
          · exact .inl (by simpa using hm)
          · exact .inr (dif_out HREST.out.ha HREST.out.hb (List.getElem_mem hka) hm)
        have HFN : Hid (∀ W, Below wr.heap.size wr W → Calls Try.prog 19 #[vb, .string (bs (a[k]'hka).path)] W fun x w' => x = .returned (.tuple #[((lk Fl.path b (a[k]'hka).path).getD zf).val, .bool (lk Fl.path b (a[k]'hka).path).isSome]) ∧ Below W.heap.size W w') := fun W hW => find_any _ ((HREST.out.later HBk9.out).fb.later hW) HREST.out.sb
        have HAM : Hid (∀ (W : World) (_ : Below wr.heap.size wr W) (X : GW W), Calls Try.prog 20 #[vp, .string (bs (a[k]'hka).path)] X.it fun x w' => x = .returned (.bool (decide ((a[k]'hka).path ∈ pths (dif a b)))) ∧ ∃ Y : GW W, w' = Y.it) := fun W hW X =>
          (among_any _ (B21.out.2.later (bstep HBk.out (bstep hW X.below))) (by unfold pths; have := dif_len a b; simp; omega)).mono fun _ w' ⟨he, hl⟩ => ⟨he, ⟨w', bstep X.below hl⟩, rfl⟩
        generalize a[k] = f at d0 d1 d2 d3 HMM HFN HAM
        generalize decide (f.path ∈ pths (dif a b)) = mm at HMM HAM
        obtain ⟨F, hF⟩ : ∃ F, (lk Fl.path b f.path).getD zf = F := ⟨_, rfl⟩
        obtain ⟨th, hth⟩ : ∃ th, (lk Fl.path b f.path).isSome = th := ⟨_, rfl⟩
        have HFT : Hid (mm = true ∨ (F = f ∧ th = true)) := by
          rcases HMM.out with h | h
          · exact .inl h
          · refine .inr ⟨?_, ?_⟩
            · rw [← hF, h]; rfl
            · rw [← hth, h]; rfl
        rw [hF, hth] at HFN
        clear hF hth HMM hfs hfs2
        obtain ⟨p, t, bl, s⟩ := f
        obtain ⟨fp, ft, fb, fs⟩ := F
        simp only [Fl.val] at d0 d1 d2 d3 HFN HAM
        have k1 : (0 : Int) ≤ (k : Int) := by omega
        have k2 : (k : Int) < (na : Int) := by omega
        go_wp2_with fail
        refine (HFN.out _ (Below.refl _ _)).mono ?_
        rintro x w22 ⟨rfl, hb22⟩
        have B22 : Hid (Below wr.heap.size wr w22) := hb22
        have hbr : bb < w22.heap.size := Nat.lt_of_lt_of_le hbw hb22.size
        have e0 := (hb22.cell (p := ⟨bb, off + k * 4, none⟩) hbw).trans d0
        have e1 := (hb22.cell (p := ⟨bb, off + k * 4 + 1, none⟩) hbw).trans d1
        have e2 := (hb22.cell (p := ⟨bb, off + k * 4 + 2, none⟩) hbw).trans d2
        have e3 := (hb22.cell (p := ⟨bb, off + k * 4 + 3, none⟩) hbw).trans d3
        clear hb22 d0 d1 d2 d3
        go_wp2_with fail
        obtain ⟨w23, hw23⟩ : ∃ w23, w22.alloc (.cells #[.string (bs fp), .string (bs ft), .int .i64 fb, .int .i64 fs] 40) = w23 := ⟨_, rfl⟩
        have FBn : Hid (FB w23 w22.heap.size ⟨fp, ft, fb, fs⟩) := by rw [← hw23]; exact FB.new w22 ⟨fp, ft, fb, fs⟩ 40
        have HB23 : Hid (Below w22.heap.size w22 w23) := by rw [← hw23]; exact balloc _ _
        rw [hw23]
        clear hw23
        obtain ⟨g0, g1, g2, g3, hgl⟩ := FBn.out
        simp only at g0 g1 g2 g3
        have y0 : ∀ X : GW w23, X.it.cell? ⟨w22.heap.size, 0, none⟩ = some (.string (bs fp)) := fun X => X.cell hgl g0
        have y1 : ∀ X : GW w23, X.it.cell? ⟨w22.heap.size, 1, none⟩ = some (.string (bs ft)) := fun X => X.cell hgl g1
        have y2 : ∀ X : GW w23, X.it.cell? ⟨w22.heap.size, 2, none⟩ = some (.int .i64 fb) := fun X => X.cell hgl g2
        have y3 : ∀ X : GW w23, X.it.cell? ⟨w22.heap.size, 3, none⟩ = some (.int .i64 fs) := fun X => X.cell hgl g3
        have hbr3 : bb < w23.heap.size := Nat.lt_of_lt_of_le hbr HB23.out.size
        have z0 : ∀ X : GW w23, X.it.cell? ⟨bb, off + k * 4, none⟩ = some (.string (bs p)) := fun X => X.cell (p := ⟨bb, off + k * 4, none⟩) hbr3 ((HB23.out.cell (p := ⟨bb, off + k * 4, none⟩) hbr).trans e0)
        have z1 : ∀ X : GW w23, X.it.cell? ⟨bb, off + k * 4 + 1, none⟩ = some (.string (bs t)) := fun X => X.cell (p := ⟨bb, off + k * 4 + 1, none⟩) hbr3 ((HB23.out.cell (p := ⟨bb, off + k * 4 + 1, none⟩) hbr).trans e1)
        have z2 : ∀ X : GW w23, X.it.cell? ⟨bb, off + k * 4 + 2, none⟩ = some (.int .i64 bl) := fun X => X.cell (p := ⟨bb, off + k * 4 + 2, none⟩) hbr3 ((HB23.out.cell (p := ⟨bb, off + k * 4 + 2, none⟩) hbr).trans e2)
        have z3 : ∀ X : GW w23, X.it.cell? ⟨bb, off + k * 4 + 3, none⟩ = some (.int .i64 s) := fun X => X.cell (p := ⟨bb, off + k * 4 + 3, none⟩) hbr3 ((HB23.out.cell (p := ⟨bb, off + k * 4 + 3, none⟩) hbr).trans e3)
        have xne := gw_ne w23
        have HAM2 : Hid (∀ X : GW w23, Calls Try.prog 20 #[vp, .string (bs p)] X.it fun x w' => x = .returned (.bool mm) ∧ ∃ Y : GW w23, w' = Y.it) := fun X => HAM.out w23 (bstep B22.out HB23.out) X
        clear g0 g1 g2 g3 e0 e1 e2 e3
        have q1 := neq_run
        have q2 := guard_run
        cases mm
        · have hff : (⟨fp, ft, fb, fs⟩ : Fl) = ⟨p, t, bl, s⟩ ∧ th = true := by rcases HFT.out with h | h; simp at h; exact h
          obtain ⟨hf1, hth1⟩ := hff
          injection hf1 with i1 i2 i3 i4
          subst i1 i2 i3 i4 hth1
          have hse : feq ⟨fp, ft, fb, fs⟩ ⟨fp, ft, fb, fs⟩ = true := feq_self _
          refine wp_region_grow (by kernel_rfl) (by kernel_rfl) ?_
          repeat (go_big_quiet_step (fail))
          go_big_quiet_step (exact HAM2.out _)
          repeat (go_big_quiet_step (fail))
          refine wpQuiet_nil ?_
          rintro w24 ⟨⟨w24, bx⟩, rfl⟩
          have B24 : Hid (Below w21.heap.size w21 w24) := bstep (bstep HBk.out (bstep B22.out HB23.out)) bx
          clear bx y0 y1 y2 y3 z0 z1 z2 z3
          go_wp2_with fail
          go_roundw
          case rel => exact ⟨k + 1, by omega, by go_num, B24.out⟩
          case measure => simp [intOf]; omega
        · refine wp_region_grow (by kernel_rfl) (by kernel_rfl) ?_
          repeat (go_big_quiet_step (fail))
          go_big_quiet_step (exact HAM2.out _)
          repeat (go_big_quiet_step (fail))
          refine wpQuiet_nil ?_
          rintro w24 ⟨⟨w24, bx⟩, rfl⟩
          have B24 : Hid (Below w21.heap.size w21 w24) := bstep (bstep HBk.out (bstep B22.out HB23.out)) bx
          clear bx y0 y1 y2 y3 z0 z1 z2 z3
          go_wp2_with fail
          go_roundw
          case rel => exact ⟨k + 1, by omega, by go_num, B24.out⟩
          case measure => simp [intOf]; omega
      · obtain rfl : k = na := by omega
        go_wp2_with fail
        refine (invert_any (HREST.out.later HBk9.out).d (by have := dif_len a b; omega)).mono ?_
        rintro x w25 ⟨v25, rfl, ho, hb⟩
        rw [dif_inv HREST.out.ha HREST.out.hb] at ho
        have B25 : Hid (Below w9.heap.size w9 w25 ∧ CS w25 v25 (dif b a)) := ⟨bstep HBk9.out hb, ho.cs⟩
        clear ho hb
        go_wp2_with fail
        refine (join_any (HREST.out.later B25.out.1).d B25.out.2 HREST.out.cm (csm_dif HREST.out.sb HREST.out.sa) (by have := dif_len a b; have := dif_len b a; omega)).mono ?_
        rintro x w26 ⟨v26, rfl, ho, hb⟩
        have hjo : jnO (dif a b) (dif b a) = some [] := by
          unfold jnO
          rw [(vd_iff _).2 (dif_spec HREST.out.ha HREST.out.hb).2.1, (vd_iff _).2 (dif_spec HREST.out.hb HREST.out.ha).2.1]
          rw [← dif_same HREST.out.ha]
          exact dif_join HREST.out.ha HREST.out.hb HREST.out.ha
        rw [hjo] at ho
        obtain ⟨xa, xc, hvx⟩ := ho.cs.shape
        have hvx2 : v26 = .slice xa 0 xc := hvx
        subst hvx2
        have B26 : Hid (Below w9.heap.size w9 w26) := bstep B25.out.1 hb
        clear ho hb hjo hvx
        generalize jnE (dif a b) (dif b a) = er at *
        go_wp2_with fail
        refine (valid_d (HREST.out.later B26.out).j HREST.out.jm).mono ?_
        rintro x w27 ⟨rfl, hb⟩
        rw [(vd_iff _).2 (dif_spec HREST.out.ha HREST.out.hc).2.1]
        have B27 : Hid (Below w9.heap.size w9 w27) := bstep B26.out hb
        clear hb
        go_wp2_with fail
        go_ret
        exact ⟨rfl, bstep H9.out.1 B27.out⟩
  · rw [hab]
    have hnz : ((nd : Int) == 0) = false := by simpa using hnd0
    clear hab hnd0
    go_wp2_with fail
    refine (invert_any (HREST.out.later B17.out).d (by have := dif_len a b; omega)).mono ?_
    rintro x w18 ⟨v18, rfl, ho, hb⟩
    have B18 : Hid (Below w9.heap.size w9 w18 ∧ CS w18 v18 (inv (dif a b))) := ⟨bstep B17.out hb, ho.cs⟩
    clear ho hb
    go_wp2_with fail
    refine (invert_any B18.out.2 (by rw [invert_len]; have := dif_len a b; omega)).mono ?_
    rintro x w19 ⟨v19, rfl, ho, hb⟩
    rw [inv_inv] at ho
    have B19 : Hid (Below w9.heap.size w9 w19 ∧ CS w19 v19 (dif a b)) := ⟨bstep B18.out.1 hb, ho.cs⟩
    clear ho hb
    go_wp2_with fail
    refine (changes_any B19.out.2 (HREST.out.later B19.out.1).d (by have := dif_len a b; omega)).mono ?_
    rintro x w20 ⟨rfl, hb⟩
    rw [lceq_self]
    have B20 : Hid (Below w9.heap.size w9 w20) := bstep B19.out.1 hb
    clear hb
    go_wp2_with fail
    refine (paths_any (HREST.out.later B20.out).d (by have := dif_len a b; omega)).mono ?_
    rintro x w21 ⟨vp, rfl, ho, hb⟩
    have B21 : Hid (Below w9.heap.size w9 w21 ∧ SS w21 vp (pths (dif a b))) := ⟨bstep B20.out hb, ho.bs⟩
    clear ho hb
    go_wp2_with fail
    go_loopw [18] (fun s wr => ∃ k : Nat, k ≤ na ∧ s = .int .i64 k ∧ Below w21.heap.size w21 wr) (fun s _ => na - (intOf s).toNat)
    case atStart => exact ⟨0, by omega, rfl, Below.refl _ _⟩
    case round =>
      obtain ⟨k, hk, rfl, hb⟩ := hrel
      have HBk : Hid (Below w21.heap.size w21 wr) := hb
      have HBk9 : Hid (Below w9.heap.size w9 wr) := bstep B21.out.1 hb
      clear hb
      by_cases hlt : k < na
      · have hka : k < a.length := by have := HNA.out; omega
        have hfs := (HREST.out.later HBk9.out).fa
        have hfs2 : FS wr (.slice aa a.length ac) a := by rw [HNA.out]; exact hfs
        obtain ⟨bb, off, ea, hbw, d0, d1, d2, d3⟩ := hfs2.at (Below.refl _ wr) hka
        subst ea
        have HMM : Hid ((decide ((a[k]'hka).path ∈ pths (dif a b))) = true ∨ lk Fl.path b (a[k]'hka).path = some (a[k]'hka)) := by
          by_cases hm : (a[k]'hka).path ∈ pths (dif a b)
          · exact .inl (by simpa using hm)
          · exact .inr (dif_out HREST.out.ha HREST.out.hb (List.getElem_mem hka) hm)
        have HFN : Hid (∀ W, Below wr.heap.size wr W → Calls Try.prog 19 #[vb, .string (bs (a[k]'hka).path)] W fun x w' => x = .returned (.tuple #[((lk Fl.path b (a[k]'hka).path).getD zf).val, .bool (lk Fl.path b (a[k]'hka).path).isSome]) ∧ Below W.heap.size W w') := fun W hW => find_any _ ((HREST.out.later HBk9.out).fb.later hW) HREST.out.sb
        have HAM : Hid (∀ (W : World) (_ : Below wr.heap.size wr W) (X : GW W), Calls Try.prog 20 #[vp, .string (bs (a[k]'hka).path)] X.it fun x w' => x = .returned (.bool (decide ((a[k]'hka).path ∈ pths (dif a b)))) ∧ ∃ Y : GW W, w' = Y.it) := fun W hW X =>
          (among_any _ (B21.out.2.later (bstep HBk.out (bstep hW X.below))) (by unfold pths; have := dif_len a b; simp; omega)).mono fun _ w' ⟨he, hl⟩ => ⟨he, ⟨w', bstep X.below hl⟩, rfl⟩
        generalize a[k] = f at d0 d1 d2 d3 HMM HFN HAM
        generalize decide (f.path ∈ pths (dif a b)) = mm at HMM HAM
        obtain ⟨F, hF⟩ : ∃ F, (lk Fl.path b f.path).getD zf = F := ⟨_, rfl⟩
        obtain ⟨th, hth⟩ : ∃ th, (lk Fl.path b f.path).isSome = th := ⟨_, rfl⟩
        have HFT : Hid (mm = true ∨ (F = f ∧ th = true)) := by
          rcases HMM.out with h | h
          · exact .inl h
          · refine .inr ⟨?_, ?_⟩
            · rw [← hF, h]; rfl
            · rw [← hth, h]; rfl
        rw [hF, hth] at HFN
        clear hF hth HMM hfs hfs2
        obtain ⟨p, t, bl, s⟩ := f
        obtain ⟨fp, ft, fb, fs⟩ := F
        simp only [Fl.val] at d0 d1 d2 d3 HFN HAM
        have k1 : (0 : Int) ≤ (k : Int) := by omega
        have k2 : (k : Int) < (na : Int) := by omega
        go_wp2_with fail
        refine (HFN.out _ (Below.refl _ _)).mono ?_
        rintro x w22 ⟨rfl, hb22⟩
        have B22 : Hid (Below wr.heap.size wr w22) := hb22
        have hbr : bb < w22.heap.size := Nat.lt_of_lt_of_le hbw hb22.size
        have e0 := (hb22.cell (p := ⟨bb, off + k * 4, none⟩) hbw).trans d0
        have e1 := (hb22.cell (p := ⟨bb, off + k * 4 + 1, none⟩) hbw).trans d1
        have e2 := (hb22.cell (p := ⟨bb, off + k * 4 + 2, none⟩) hbw).trans d2
        have e3 := (hb22.cell (p := ⟨bb, off + k * 4 + 3, none⟩) hbw).trans d3
        clear hb22 d0 d1 d2 d3
        go_wp2_with fail
        obtain ⟨w23, hw23⟩ : ∃ w23, w22.alloc (.cells #[.string (bs fp), .string (bs ft), .int .i64 fb, .int .i64 fs] 40) = w23 := ⟨_, rfl⟩
        have FBn : Hid (FB w23 w22.heap.size ⟨fp, ft, fb, fs⟩) := by rw [← hw23]; exact FB.new w22 ⟨fp, ft, fb, fs⟩ 40
        have HB23 : Hid (Below w22.heap.size w22 w23) := by rw [← hw23]; exact balloc _ _
        rw [hw23]
        clear hw23
        obtain ⟨g0, g1, g2, g3, hgl⟩ := FBn.out
        simp only at g0 g1 g2 g3
        have y0 : ∀ X : GW w23, X.it.cell? ⟨w22.heap.size, 0, none⟩ = some (.string (bs fp)) := fun X => X.cell hgl g0
        have y1 : ∀ X : GW w23, X.it.cell? ⟨w22.heap.size, 1, none⟩ = some (.string (bs ft)) := fun X => X.cell hgl g1
        have y2 : ∀ X : GW w23, X.it.cell? ⟨w22.heap.size, 2, none⟩ = some (.int .i64 fb) := fun X => X.cell hgl g2
        have y3 : ∀ X : GW w23, X.it.cell? ⟨w22.heap.size, 3, none⟩ = some (.int .i64 fs) := fun X => X.cell hgl g3
        have hbr3 : bb < w23.heap.size := Nat.lt_of_lt_of_le hbr HB23.out.size
        have z0 : ∀ X : GW w23, X.it.cell? ⟨bb, off + k * 4, none⟩ = some (.string (bs p)) := fun X => X.cell (p := ⟨bb, off + k * 4, none⟩) hbr3 ((HB23.out.cell (p := ⟨bb, off + k * 4, none⟩) hbr).trans e0)
        have z1 : ∀ X : GW w23, X.it.cell? ⟨bb, off + k * 4 + 1, none⟩ = some (.string (bs t)) := fun X => X.cell (p := ⟨bb, off + k * 4 + 1, none⟩) hbr3 ((HB23.out.cell (p := ⟨bb, off + k * 4 + 1, none⟩) hbr).trans e1)
        have z2 : ∀ X : GW w23, X.it.cell? ⟨bb, off + k * 4 + 2, none⟩ = some (.int .i64 bl) := fun X => X.cell (p := ⟨bb, off + k * 4 + 2, none⟩) hbr3 ((HB23.out.cell (p := ⟨bb, off + k * 4 + 2, none⟩) hbr).trans e2)
        have z3 : ∀ X : GW w23, X.it.cell? ⟨bb, off + k * 4 + 3, none⟩ = some (.int .i64 s) := fun X => X.cell (p := ⟨bb, off + k * 4 + 3, none⟩) hbr3 ((HB23.out.cell (p := ⟨bb, off + k * 4 + 3, none⟩) hbr).trans e3)
        have xne := gw_ne w23
        have HAM2 : Hid (∀ X : GW w23, Calls Try.prog 20 #[vp, .string (bs p)] X.it fun x w' => x = .returned (.bool mm) ∧ ∃ Y : GW w23, w' = Y.it) := fun X => HAM.out w23 (bstep B22.out HB23.out) X
        clear g0 g1 g2 g3 e0 e1 e2 e3
        have q1 := neq_run
        have q2 := guard_run
        cases mm
        · have hff : (⟨fp, ft, fb, fs⟩ : Fl) = ⟨p, t, bl, s⟩ ∧ th = true := by rcases HFT.out with h | h; simp at h; exact h
          obtain ⟨hf1, hth1⟩ := hff
          injection hf1 with i1 i2 i3 i4
          subst i1 i2 i3 i4 hth1
          have hse : feq ⟨fp, ft, fb, fs⟩ ⟨fp, ft, fb, fs⟩ = true := feq_self _
          refine wp_region_grow (by kernel_rfl) (by kernel_rfl) ?_
          repeat (go_big_quiet_step (fail))
          go_big_quiet_step (exact HAM2.out _)
          repeat (go_big_quiet_step (fail))
          refine wpQuiet_nil ?_
          rintro w24 ⟨⟨w24, bx⟩, rfl⟩
          have B24 : Hid (Below w21.heap.size w21 w24) := bstep (bstep HBk.out (bstep B22.out HB23.out)) bx
          clear bx y0 y1 y2 y3 z0 z1 z2 z3
          go_wp2_with fail
          go_roundw
          case rel => exact ⟨k + 1, by omega, by go_num, B24.out⟩
          case measure => simp [intOf]; omega
        · refine wp_region_grow (by kernel_rfl) (by kernel_rfl) ?_
          repeat (go_big_quiet_step (fail))
          go_big_quiet_step (exact HAM2.out _)
          repeat (go_big_quiet_step (fail))
          refine wpQuiet_nil ?_
          rintro w24 ⟨⟨w24, bx⟩, rfl⟩
          have B24 : Hid (Below w21.heap.size w21 w24) := bstep (bstep HBk.out (bstep B22.out HB23.out)) bx
          clear bx y0 y1 y2 y3 z0 z1 z2 z3
          go_wp2_with fail
          go_roundw
          case rel => exact ⟨k + 1, by omega, by go_num, B24.out⟩
          case measure => simp [intOf]; omega
      · obtain rfl : k = na := by omega
        go_wp2_with fail
        refine (invert_any (HREST.out.later HBk9.out).d (by have := dif_len a b; omega)).mono ?_
        rintro x w25 ⟨v25, rfl, ho, hb⟩
        rw [dif_inv HREST.out.ha HREST.out.hb] at ho
        have B25 : Hid (Below w9.heap.size w9 w25 ∧ CS w25 v25 (dif b a)) := ⟨bstep HBk9.out hb, ho.cs⟩
        clear ho hb
        go_wp2_with fail
        refine (join_any (HREST.out.later B25.out.1).d B25.out.2 HREST.out.cm (csm_dif HREST.out.sb HREST.out.sa) (by have := dif_len a b; have := dif_len b a; omega)).mono ?_
        rintro x w26 ⟨v26, rfl, ho, hb⟩
        have hjo : jnO (dif a b) (dif b a) = some [] := by
          unfold jnO
          rw [(vd_iff _).2 (dif_spec HREST.out.ha HREST.out.hb).2.1, (vd_iff _).2 (dif_spec HREST.out.hb HREST.out.ha).2.1]
          rw [← dif_same HREST.out.ha]
          exact dif_join HREST.out.ha HREST.out.hb HREST.out.ha
        rw [hjo] at ho
        obtain ⟨xa, xc, hvx⟩ := ho.cs.shape
        have hvx2 : v26 = .slice xa 0 xc := hvx
        subst hvx2
        have B26 : Hid (Below w9.heap.size w9 w26) := bstep B25.out.1 hb
        clear ho hb hjo hvx
        generalize jnE (dif a b) (dif b a) = er at *
        go_wp2_with fail
        refine (valid_d (HREST.out.later B26.out).j HREST.out.jm).mono ?_
        rintro x w27 ⟨rfl, hb⟩
        rw [(vd_iff _).2 (dif_spec HREST.out.ha HREST.out.hc).2.1]
        have B27 : Hid (Below w9.heap.size w9 w27) := bstep B26.out hb
        clear hb
        go_wp2_with fail
        go_ret
        exact ⟨rfl, bstep H9.out.1 B27.out⟩

theorem back_any {w : World} {va vb vc : Value} {a b c : List Fl} (h : Fin w va vb vc a b c) : Calls Try.prog 5 #[va, vb, vc] w fun e w' => e = .returned (.bool true) ∧ Below w.heap.size w w' := by
  by_cases hs : stand a = true ∧ stand b = true ∧ stand c = true
  · exact back_good h hs.1 hs.2.1 hs.2.2
  · exact back_bad h hs
end Go.Proofs.Ytinhdjoidbcfaaa
