/-
  Views of snapshots, as plain lists.
-/
import Derived.Test.YtfdcfcalbongeaaKn1
namespace Go.Proofs.Ytfdcfcalbongeaa

theorem abv_dir {c : List UInt8} (h : okP c = true) (hn : c ≠ []) : abvV (dir c) c = true := by
  by_cases h1 : 1 < (pcs c).length
  · have e := dir_base c h1
    have hall := okP_all h
    have hnd : dir c ≠ [] := fun e0 => by
      rw [e0] at e
      have : [] ∈ pcs c := by
        rw [← e]
        show [] ∈ pcs (47 :: base c)
        unfold pcs
        rw [if_neg (by simp)]
        simp [sp]
      have := List.all_eq_true.1 hall [] this
      revert this
      decide
    have hp : pcs c = pcs (dir c) ++ sp (base c) := by
      conv => lhs; rw [← e, List.append_assoc]
      unfold pcs
      rw [if_neg (by simp), if_neg hnd]
      exact sp_append _ _
    exact (abvV_iff _ _).2 ⟨_, sp_ne _, hp⟩
  · rw [(dir_base0 c h1).1]
    exact (abvV_iff _ _).2 ⟨pcs c, fun e => hn ((pcs_eq_nil c).1 e), rfl⟩
theorem abv_irr (a : List UInt8) : abvV a a = false := by
  cases e : abvV a a with
  | false => rfl
  | true =>
    have := abv_cf e
    rw [cf_self] at this
    omega
theorem abv_asym {a b : List UInt8} (h : cf b a < 0) : abvV a b = false := by
  cases e : abvV a b with
  | false => rfl
  | true =>
    have h1 := cf_trans (abv_cf e) h
    rw [cf_self] at h1
    omega
theorem pw_anti : ∀ {k : List (List UInt8)}, k.Pairwise (fun a b => fol a b = true) → ∀ a ∈ k, ∀ b ∈ k, abvV a b = false
  | [], _, a, ha, _, _ => by cases ha
  | x :: r, h, a, ha, b, hb => by
    obtain ⟨h1, h2⟩ := List.pairwise_cons.1 h
    rcases List.mem_cons.1 ha with rfl | ha'
    · rcases List.mem_cons.1 hb with rfl | hb'
      · exact abv_irr _
      · exact (fol_iff.1 (h1 b hb')).2
    · rcases List.mem_cons.1 hb with rfl | hb'
      · exact abv_asym (fol_lt (h1 a ha'))
      · exact pw_anti h2 a ha' b hb'
/-- no cone is above another -/
theorem cone_anti {k : List (List UInt8)} (h : coneE k = 0) {a b : List UInt8} (ha : a ∈ k) (hb : b ∈ k) : abvV a b = false :=
  pw_anti (coneB_iff.1 (coneE_zero.1 h)).2 a ha b hb
theorem abv_nil (a : List UInt8) : abvV a [] = false := by
  cases e : abvV a [] with
  | false => rfl
  | true =>
    obtain ⟨r, hr, e1⟩ := (abvV_iff a []).1 e
    rw [pcs_nil] at e1
    have := List.append_eq_nil_iff.1 e1.symm
    exact absurd this.2 hr
/-- a cone gives way to the directory above it -/
theorem wid_ok {k : List (List UInt8)} {c : List UInt8} (h : coneE k = 0) (hc : c ∈ k) : coneE (wid (dir c) false k) = 0 := by
  have hok := (coneB_iff.1 (coneE_zero.1 h)).1
  refine wid_cones h (okP_dir (hok c hc)) (fun x hx => ?_)
  by_cases hn : c = []
  · subst hn
    rw [show dir ([] : List UInt8) = [] from by decide]
    exact abv_nil x
  · cases e : abvV x (dir c) with
    | false => rfl
    | true =>
      have h1 := abv_trans e (abv_dir (hok c hc) hn)
      rw [cone_anti h hx hc] at h1
      cases h1
theorem fchain_pw : ∀ l : List Fl, chain l = true ↔ l.Pairwise (fun a b => fol a.path b.path = true)
  | [] => by simp [chain]
  | [a] => by simp [chain]
  | a :: b :: r => by
    have ih := fchain_pw (b :: r)
    rw [List.pairwise_cons]
    simp only [chain, Bool.and_eq_true]
    rw [ih]
    constructor
    · rintro ⟨h, h1⟩
      refine ⟨fun x hx => ?_, h1⟩
      rcases List.mem_cons.1 hx with rfl | hx
      · exact h
      · exact fol_tr h ((List.pairwise_cons.1 h1).1 x hx)
    · rintro ⟨h, h1⟩
      exact ⟨h b (by simp), h1⟩
/-- a part of a snapshot is one -/
theorem snap_sub {l p : List Fl} (hs : p.Sublist l) (h : validE l = 0) : validE p = 0 := by
  have h1 := (validE_zero l).1 h
  rw [validE_zero]
  unfold stand at h1 ⊢
  simp only [Bool.and_eq_true, decide_eq_true_eq, List.all_eq_true] at h1 ⊢
  refine ⟨⟨Nat.le_trans hs.length_le h1.1.1, fun f hf => h1.1.2 f (hs.subset hf)⟩, ?_⟩
  exact (fchain_pw p).2 (((fchain_pw l).1 h1.2).sublist hs)
theorem viw_ok {l : List Fl} {k : List (List UInt8)} (h : validE l = 0) (hk : coneE k = 0) : viw l k = (l.filter (fun f => shw k f.path), 0) := by
  unfold viw
  rw [if_pos h, if_pos hk]
theorem viw_err (l : List Fl) (k : List (List UInt8)) : ((viw l k).2 = 0 ∧ validE l = 0 ∧ coneE k = 0) ∨ ((viw l k).2 ≠ 0 ∧ (viw l k).1 = [] ∧ ((viw l k).2 = validE l ∨ (viw l k).2 = 13 ∧ coneE k = 13)) := by
  unfold viw
  by_cases h : validE l = 0
  · rw [if_pos h]
    by_cases hk : coneE k = 0
    · rw [if_pos hk]; exact .inl ⟨rfl, h, hk⟩
    · rw [if_neg hk]
      refine .inr ⟨by simp, rfl, .inr ⟨rfl, ?_⟩⟩
      unfold coneE at hk ⊢
      split
      · rename_i e; rw [if_pos e] at hk; exact absurd rfl hk
      · rfl
  · rw [if_neg h]
    exact .inr ⟨h, rfl, .inl rfl⟩
/-- the view of a view -/
theorem viw_again {l : List Fl} {k : List (List UInt8)} (h : validE l = 0) (hk : coneE k = 0) : viw (l.filter (fun f => shw k f.path)) k = (l.filter (fun f => shw k f.path), 0) := by
  rw [viw_ok (snap_sub List.filter_sublist h) hk, List.filter_filter]
  simp
theorem shw_root (p : List UInt8) : shw [[]] p = true := by
  unfold shw
  rw [shD_iff]
  by_cases h : dir p = []
  · exact .inl h
  · exact .inr ⟨[], by simp, .inr (.inl ((abvV_iff _ _).2 ⟨pcs (dir p), fun e => h ((pcs_eq_nil _).1 e), rfl⟩))⟩
theorem viw_root {l : List Fl} (h : validE l = 0) : viw l [[]] = (l, 0) := by
  rw [viw_ok h (by decide)]
  rw [List.filter_eq_self.2 (fun f _ => shw_root f.path)]
theorem shw_none (p : List UInt8) : shw [] p = decide (dir p = []) := by
  unfold shw shD
  simp
theorem viw_none {l : List Fl} (h : validE l = 0) : viw l [] = (l.filter (fun f => decide (dir f.path = [])), 0) := by
  rw [viw_ok h (by decide)]
  simp only [shw_none]
theorem filt_len {α : Type} {f g : α → Bool} (h : ∀ x, f x = true → g x = true) : ∀ l : List α, (l.filter f).length ≤ (l.filter g).length
  | [] => by simp
  | x :: r => by
    have ih := filt_len h r
    rw [List.filter_cons, List.filter_cons]
    cases e : f x with
    | true =>
      rw [if_pos rfl, h x e, if_pos rfl]
      simp only [List.length_cons]
      omega
    | false =>
      rw [if_neg (by simp)]
      split
      · simp only [List.length_cons]; omega
      · exact ih
/-- wider cones show no less -/
theorem viw_wider {l : List Fl} {k : List (List UInt8)} {c : List UInt8} (h : validE l = 0) (hk : coneE k = 0) (hc : c ∈ k) : (viw l (wid (dir c) false k)).2 = 0 ∧ (l.filter (fun f => shw k f.path)).length ≤ (viw l (wid (dir c) false k)).1.length ∧ ∀ f ∈ l.filter (fun f => shw k f.path), shw (wid (dir c) false k) f.path = true := by
  rw [viw_ok h (wid_ok hk hc)]
  exact ⟨rfl, filt_len (fun f hf => wid_shows hf) l, fun f hf => wid_shows (List.mem_filter.1 hf).2⟩
end Go.Proofs.Ytfdcfcalbongeaa
