/-
  What parts two snapshots.
-/
import Derived.Test.YtinhdjoidbcfaaaJn
namespace Go.Proofs.Ytinhdjoidbcfaaa
open Go.RowKit

theorem cok_frm {f : Fl} (h : Fok f) : Cok ⟨f.path, false, true, zf, f⟩ := ⟨h.path, zf_ok, h⟩
theorem cok_cv {c : Ch} (h : Cok c) : Cok (cv c) := ⟨h.path, h.new, h.old⟩
theorem csm_frm {l : List Fl} (h : FSm l) : CSm (frm l) := by
  refine ⟨by rw [from_len]; exact h.len, fun c hc => ?_⟩
  obtain ⟨f, hf, rfl⟩ := List.mem_map.1 hc
  exact cok_frm (h.each f hf)
theorem csm_inv {d : List Ch} (h : CSm d) : CSm (inv d) := by
  refine ⟨by rw [invert_len]; exact h.len, fun c hc => ?_⟩
  obtain ⟨f, hf, rfl⟩ := List.mem_map.1 hc
  exact cok_cv (h.each f hf)
theorem cok_fo {x y c : Ch} (hx : Cok x) (hy : Cok y) (h : fo x y = some c) : Cok c := by
  unfold fo at h
  split at h
  · injection h with h; subst h; exact ⟨hx.path, hx.old, hy.new⟩
  · simp at h
theorem cok_mrg : ∀ (n : Nat) (d e r : List Ch), d.length + e.length ≤ n → (∀ c ∈ d, Cok c) → (∀ c ∈ e, Cok c) → mrg d e = some r → ∀ c ∈ r, Cok c := by
  intro n
  induction n with
  | zero =>
    intro d e r hn hd he h
    have h1 : d = [] := List.eq_nil_of_length_eq_zero (by omega)
    subst h1
    rw [mrg_nil] at h; injection h with h; subst h; exact he
  | succ n ih =>
    intro d e r hn hd he h
    cases d with
    | nil => rw [mrg_nil] at h; injection h with h; subst h; exact he
    | cons x d =>
      cases e with
      | nil => rw [mrg_nil'] at h; injection h with h; subst h; exact hd
      | cons y e =>
        simp only [List.length_cons] at hn
        have hd' : ∀ c ∈ d, Cok c := fun c hc => hd c (by simp [hc])
        have he' : ∀ c ∈ e, Cok c := fun c hc => he c (by simp [hc])
        rcases cf_range x.path y.path with hc | hc | hc
        · rw [mrg_lt d e (by omega)] at h
          obtain ⟨r', h1, rfl⟩ := Option.map_eq_some_iff.1 h
          intro c hc
          rcases List.mem_cons.1 hc with rfl | hc
          · exact hd _ (by simp)
          · exact ih d (y :: e) r' (by simp only [List.length_cons]; omega) hd' he h1 c hc
        · rw [mrg_eq d e hc] at h
          obtain ⟨z, hz, h⟩ := Option.bind_eq_some_iff.1 h
          obtain ⟨r', h1, rfl⟩ := Option.map_eq_some_iff.1 h
          have hr := ih d e r' (by omega) hd' he' h1
          intro c hc
          split at hc
          · exact hr c hc
          · rcases List.mem_cons.1 hc with rfl | hc
            · exact cok_fo (hd x (by simp)) (he y (by simp)) hz
            · exact hr c hc
        · rw [mrg_gt d e (by omega)] at h
          obtain ⟨r', h1, rfl⟩ := Option.map_eq_some_iff.1 h
          intro c hc
          rcases List.mem_cons.1 hc with rfl | hc
          · exact he _ (by simp)
          · exact ih (x :: d) e r' (by simp only [List.length_cons]; omega) hd he' h1 c hc
theorem csm_dif {a b : List Fl} (ha : FSm a) (hb : FSm b) : CSm (dif a b) := by
  refine ⟨by have := dif_len a b; omega, ?_⟩
  by_cases h : stand a = true ∧ stand b = true
  · obtain ⟨h1, _⟩ := dif_spec h.1 h.2
    exact cok_mrg _ _ _ _ (Nat.le_refl _) (csm_inv (csm_frm ha)).each (csm_frm hb).each h1
  · have : dif a b = [] := by unfold dif; rw [if_neg (by simpa using h)]
    rw [this]; intro c hc; simp at hc
theorem csm_jn {d e : List Ch} (hd : CSm d) (he : CSm e) (hl : (d.length + e.length) ≤ 140737488355328) : CSm ((jnO d e).getD []) := by
  cases h : jnO d e with
  | none => exact ⟨by simp, fun c hc => by simp at hc⟩
  | some r =>
    unfold jnO at h
    split at h
    · exact ⟨by have := mrg_len _ _ _ _ (Nat.le_refl _) h; simp only [Option.getD_some]; omega, cok_mrg _ _ _ _ (Nat.le_refl _) hd.each he.each h⟩
    · simp at h
theorem dif_bad {a b : List Fl} (h : stand a = false ∨ stand b = false) : dif a b = [] := by
  unfold dif
  rw [if_neg]
  rcases h with h | h <;> simp [h]
theorem jn_dif {a b : List Fl} (ha : stand a = true) (hb : stand b = true) : jnO (inv (frm a)) (frm b) = some (dif a b) := by
  obtain ⟨h1, _⟩ := dif_spec ha hb
  unfold jnO
  rw [(vd_iff _).2 (frm_dl ha).inv, (vd_iff _).2 (frm_dl hb)]
  exact h1
theorem valid_no {l : List Fl} (h : stand l = false) : validE l ≠ 0 := fun e => by rw [(validE_zero l).1 e] at h; simp at h

set_option maxRecDepth 100000 in
set_option maxHeartbeats 4000000 in
theorem diff_any {w : World} {va vb : Value} {a b : List Fl} (ha : FS w va a) (hb : FS w vb b) (sa : FSm a) (sb : FSm b) :
    Calls Try.prog 13 #[va, vb] w fun e w' => ∃ v', e = .returned v' ∧ OwnC w.heap.size w' v' (dif a b) ∧ Below w.heap.size w w' := by
  have H : Hid (FS w va a ∧ FS w vb b ∧ FSm a ∧ FSm b) := ⟨ha, hb, sa, sb⟩
  have HV1 : Hid (∀ W, Below w.heap.size w W → Calls Try.prog 15 #[va] W fun x w' => x = .returned (.int .i64 (validE a)) ∧ Below w.heap.size w w') := fun W hW => (valid2_any (ha.later hW) sa).mono fun _ _ h => ⟨h.1, bstep hW h.2⟩
  have HV2 : Hid (∀ W, Below w.heap.size w W → Calls Try.prog 15 #[vb] W fun x w' => x = .returned (.int .i64 (validE b)) ∧ Below w.heap.size w w') := fun W hW => (valid2_any (hb.later hW) sb).mono fun _ _ h => ⟨h.1, bstep hW h.2⟩
  obtain ⟨a1, c1, hva, _⟩ := ha.form
  obtain ⟨a2, c2, hvb, _⟩ := hb.form
  rename_i q1 q2
  obtain ⟨n1, hn1⟩ : ∃ n, a.length = n := ⟨_, rfl⟩
  obtain ⟨n2, hn2⟩ : ∃ n, b.length = n := ⟨_, rfl⟩
  rw [hn1] at hva
  rw [hn2] at hvb
  clear q1 q2
  subst hva hvb
  clear ha hb sa sb hn1 hn2
  cases h1 : stand a
  · have hE := valid_no h1
    have HR : Hid (dif a b = []) := dif_bad (.inl h1)
    generalize validE a = E at *
    clear h1
    go_enter Try.func13, Try.ntmps13
    go_wp2_with fail
    refine (HV1.out _ (Below.refl _ _)).mono ?_
    rintro x w1 ⟨rfl, hb1⟩
    have HB : Hid (Below w.heap.size w w1) := hb1
    clear hb1
    go_wp2_with fail
    go_ret
    exact ⟨.slice none 0 0, rfl, by rw [HR.out]; exact OwnC.nil _ _, HB.out⟩
  cases h2 : stand b
  · have hE := valid_no h2
    have HR : Hid (dif a b = []) := dif_bad (.inr h2)
    rw [(validE_zero a).2 h1] at HV1
    generalize validE b = E at *
    clear h1 h2
    go_enter Try.func13, Try.ntmps13
    go_wp2_with fail
    refine (HV1.out _ (Below.refl _ _)).mono ?_
    rintro x w1 ⟨rfl, hb1⟩
    have HB : Hid (Below w.heap.size w w1) := hb1
    clear hb1
    go_wp2_with fail
    refine (HV2.out _ HB.out).mono ?_
    rintro x w2 ⟨rfl, hb1⟩
    have HB2 : Hid (Below w.heap.size w w2) := hb1
    clear hb1
    go_wp2_with fail
    go_ret
    exact ⟨.slice none 0 0, rfl, by rw [HR.out]; exact OwnC.nil _ _, HB2.out⟩
  rw [(validE_zero a).2 h1] at HV1
  rw [(validE_zero b).2 h2] at HV2
  have HJ : Hid (jnO (inv (frm a)) (frm b) = some (dif a b) ∧ a.length ≤ 512 ∧ b.length ≤ 512) := ⟨jn_dif h1 h2, stand_len h1, stand_len h2⟩
  clear h1 h2
  go_enter Try.func13, Try.ntmps13
  go_wp2_with fail
  refine (HV1.out _ (Below.refl _ _)).mono ?_
  rintro x w1 ⟨rfl, hb1⟩
  have HB : Hid (Below w.heap.size w w1) := hb1
  clear hb1
  go_wp2_with fail
  refine (HV2.out _ HB.out).mono ?_
  rintro x w2 ⟨rfl, hb1⟩
  have HB2 : Hid (Below w.heap.size w w2) := hb1
  clear hb1
  go_wp2_with fail
  refine (from_any (H.out.1.later HB2.out) (by have := HJ.out.2.1; omega)).mono ?_
  rintro x w3 ⟨v3, rfl, ho3, hb3⟩
  have H3 : Hid (OwnC w.heap.size w3 v3 (frm a) ∧ Below w.heap.size w w3) := ⟨ho3.mono HB2.out.size, bstep HB2.out hb3⟩
  clear ho3 hb3
  go_wp2_with fail
  refine (invert_any H3.out.1.cs (by rw [from_len]; have := HJ.out.2.1; omega)).mono ?_
  rintro x w4 ⟨v4, rfl, ho4, hb4⟩
  have H4 : Hid (OwnC w.heap.size w4 v4 (inv (frm a)) ∧ Below w.heap.size w w4) := ⟨ho4.mono H3.out.2.size, bstep H3.out.2 hb4⟩
  clear ho4 hb4
  go_wp2_with fail
  refine (from_any (H.out.2.1.later H4.out.2) (by have := HJ.out.2.2; omega)).mono ?_
  rintro x w5 ⟨v5, rfl, ho5, hb5⟩
  have H5 : Hid (OwnC w.heap.size w5 v4 (inv (frm a)) ∧ OwnC w.heap.size w5 v5 (frm b) ∧ Below w.heap.size w w5) := ⟨H4.out.1.later hb5, ho5.mono H4.out.2.size, bstep H4.out.2 hb5⟩
  clear ho5 hb5
  go_wp2_with fail
  refine (join_any H5.out.1.cs H5.out.2.1.cs (csm_inv (csm_frm H.out.2.2.1)) (csm_frm H.out.2.2.2) (by rw [invert_len, from_len, from_len]; have := HJ.out; omega)).mono ?_
  rintro x w6 ⟨v6, rfl, ho6, hb6⟩
  have H6 : Hid (OwnC w.heap.size w6 v6 (dif a b) ∧ Below w.heap.size w w6) := ⟨by rw [HJ.out.1] at ho6; exact ho6.mono H5.out.2.2.size, bstep H5.out.2.2 hb6⟩
  clear ho6 hb6
  generalize jnE (inv (frm a)) (frm b) = er at *
  go_wp2_with fail
  go_ret
  exact ⟨v6, rfl, H6.out.1, H6.out.2⟩
end Go.Proofs.Ytinhdjoidbcfaaa
