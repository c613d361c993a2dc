/-
  Cones, views and covers, as plain lists.
  Views of snapshots, as plain lists.
-/
import Derived.Test.YtfdcfcalbongeaaGreatJFil
import Derived.Test.YtfdcfcalbongeaaGreatSets
import Derived.Test.YtfdcfcalbongeaaGreatLab
namespace Go.Proofs.YtfdcfcalbongeaaGreat

theorem fol_iff {a b : List UInt8} : fol a b = true ↔ cf a b < 0 ∧ abvV a b = false := by
  unfold fol cf
  simp only [Bool.and_eq_true, decide_eq_true_eq, Bool.not_eq_true']
theorem fol_tr {a b c : List UInt8} (h : fol a b = true) (k : fol b c = true) : fol a c = true := by
  rw [fol_iff] at h k ⊢
  refine ⟨cf_trans h.1 k.1, ?_⟩
  cases e : abvV a c with
  | false => rfl
  | true =>
    have := abv_between e h.1 k.1
    rw [h.2] at this
    cases this
/-- each follows the one ahead of it -/
def chnP : List (List UInt8) → Bool
  | a :: b :: r => fol a b && chnP (b :: r)
  | _ => true
theorem chnP_pw : ∀ l : List (List UInt8), chnP l = true ↔ l.Pairwise (fun a b => fol a b = true)
  | [] => by simp [chnP]
  | [a] => by simp [chnP]
  | a :: b :: r => by
    have ih := chnP_pw (b :: r)
    rw [List.pairwise_cons]
    simp only [chnP, Bool.and_eq_true]
    rw [ih]
    constructor
    · rintro ⟨h, h1⟩
      refine ⟨fun x hx => ?_, h1⟩
      rcases List.mem_cons.1 hx with rfl | hx
      · exact h
      · exact fol_tr h ((List.pairwise_cons.1 h1).1 x hx)
    · rintro ⟨h, h1⟩
      exact ⟨h b (by simp), h1⟩
/-- may they be cones? -/
def coneB (k : List (List UInt8)) : Bool := k.all okP && chnP k
def coneE (k : List (List UInt8)) : Int := if coneB k then 0 else 13
theorem coneE_zero {k : List (List UInt8)} : coneE k = 0 ↔ coneB k = true := by
  unfold coneE
  cases coneB k <;> simp
theorem coneB_iff {k : List (List UInt8)} : coneB k = true ↔ (∀ c ∈ k, okP c = true) ∧ k.Pairwise (fun a b => fol a b = true) := by
  unfold coneB
  rw [Bool.and_eq_true, List.all_eq_true, chnP_pw]
/-- is a path shown? -/
def shD (k : List (List UInt8)) (d : List UInt8) : Bool := decide (d = []) || k.any (fun c => decide (d = c) || abvV c d || abvV d c)
def shw (k : List (List UInt8)) (p : List UInt8) : Bool := shD k (dir p)
theorem shD_iff {k : List (List UInt8)} {d : List UInt8} : shD k d = true ↔ d = [] ∨ ∃ c ∈ k, d = c ∨ abvV c d = true ∨ abvV d c = true := by
  unfold shD
  simp only [Bool.or_eq_true, decide_eq_true_eq, List.any_eq_true, or_assoc]
/-- the files that are shown -/
def viw (l : List Fl) (k : List (List UInt8)) : List Fl × Int :=
  if validE l = 0 then (if coneE k = 0 then (l.filter (fun f => shw k f.path), 0) else ([], 13)) else ([], validE l)
/-- the least cover -/
def cov (ps : List (List UInt8)) : List (List UInt8) := hds (som (drs ps) [[]] false)
theorem mem_cov {ps : List (List UInt8)} {x : List UInt8} : x ∈ cov ps ↔ (x ≠ [] ∧ ∃ p ∈ ps, dir p = x) ∧ ∀ q ∈ ps, dir q ≠ [] → abvV (dir q) x = false := by
  unfold cov
  rw [mem_hds, mem_mns, mem_drs]
  constructor
  · rintro ⟨⟨⟨p, hp, e⟩, hn⟩, h⟩
    refine ⟨⟨fun e0 => hn (by simp [e0]), p, hp, e⟩, fun q hq hne => h _ ?_⟩
    rw [mem_mns, mem_drs]
    exact ⟨⟨q, hq, rfl⟩, by simpa using hne⟩
  · rintro ⟨⟨hn, p, hp, e⟩, h⟩
    refine ⟨⟨⟨p, hp, e⟩, by simpa using hn⟩, fun y hy => ?_⟩
    rw [mem_mns, mem_drs] at hy
    obtain ⟨⟨q, hq, rfl⟩, hy⟩ := hy
    exact h q hq (by simpa using hy)
theorem okP_dir {p : List UInt8} (h : okP p = true) : okP (dir p) = true := by
  by_cases h1 : 1 < (pcs p).length
  · have e := dir_base p h1
    have hall := okP_all h
    have hl := okP_len h
    have hnd : dir p ≠ [] := fun e0 => by
      rw [e0] at e
      have : [] ∈ pcs p := by
        rw [← e]
        show [] ∈ pcs (47 :: base p)
        unfold pcs
        rw [if_neg (by simp)]
        simp [sp]
      have := List.all_eq_true.1 hall [] this
      revert this
      decide
    have hnb : base p ≠ [] := fun e0 => by
      rw [e0] at e
      have : [] ∈ pcs p := by
        rw [← e]
        have hs : pcs (dir p ++ [47] ++ []) = pcs (dir p) ++ [[]] := by
          rw [List.append_nil]
          unfold pcs
          rw [if_neg (by simp), if_neg hnd]
          exact sp_append _ _
        rw [hs]; simp
      have := List.all_eq_true.1 hall [] this
      revert this
      decide
    have hp : pcs p = pcs (dir p) ++ pcs (base p) := by
      conv => lhs; rw [← e, List.append_assoc]
      exact pcs_append _ _ hnd hnb
    unfold okP
    simp only [Bool.and_eq_true, decide_eq_true_eq]
    refine ⟨⟨?_, ?_⟩, ?_⟩
    · have := congrArg List.length e
      simp only [List.length_append] at this
      omega
    · have h2 := hl.2
      rw [← dep_eq] at h2 ⊢
      rw [hp, List.length_append] at h2
      omega
    · rw [hp, List.all_append, Bool.and_eq_true] at hall
      exact hall.1
  · rw [(dir_base0 p h1).1]
    exact okP_nil
/-- the cover is a list of cones -/
theorem cov_cones {ps : List (List UInt8)} (h : ∀ p ∈ ps, okP p = true) : coneE (cov ps) = 0 := by
  rw [coneE_zero, coneB_iff]
  refine ⟨fun c hc => ?_, ?_⟩
  · obtain ⟨⟨_, p, hp, rfl⟩, _⟩ := mem_cov.1 hc
    exact okP_dir (h p hp)
  · have hu : Up (cov ps) := hds_up (up_som _ _ _)
    unfold Up at hu
    have key : ∀ b ∈ cov ps, ∀ a ∈ cov ps, abvV a b = false := fun b hb a ha => by
      obtain ⟨⟨hn, p, hp, rfl⟩, _⟩ := mem_cov.1 ha
      exact (mem_cov.1 hb).2 p hp hn
    exact (List.Pairwise.and_mem.1 hu).imp (fun ⟨ha, hb, hab⟩ => fol_iff.2 ⟨hab, key _ hb _ ha⟩)
/-- it shows all -/
theorem cov_shows {ps : List (List UInt8)} {p : List UInt8} (hp : p ∈ ps) : shw (cov ps) p = true := by
  unfold shw
  rw [shD_iff]
  by_cases h : dir p = []
  · exact .inl h
  · obtain ⟨c, hc, e⟩ := hds_cover (som (drs ps) [[]] false) _ (dir p) (Nat.le_refl _) (by rw [mem_mns, mem_drs]; exact ⟨⟨p, hp, rfl⟩, by simpa using h⟩)
    refine .inr ⟨c, hc, ?_⟩
    rcases e with e | e
    · exact .inl e.symm
    · exact .inr (.inl e)
/-- without one of them not all is shown -/
theorem cov_needs {ps m : List (List UInt8)} {c p : List UInt8} (hc : c ∈ cov ps) (hm : ∀ x ∈ m, x ∈ cov ps ∧ x ≠ c) (hp : dir p = c) : shw m p = false := by
  cases e : shw m p with
  | false => rfl
  | true =>
    unfold shw at e
    rw [hp, shD_iff] at e
    obtain ⟨⟨hn, q, hq, hqc⟩, h1⟩ := mem_cov.1 hc
    rcases e with e | ⟨x, hx, e⟩
    · exact absurd e hn
    · obtain ⟨hxc, hne⟩ := hm x hx
      obtain ⟨⟨hn2, q2, hq2, hq2c⟩, h2⟩ := mem_cov.1 hxc
      rcases e with e | e | e
      · exact absurd e.symm hne
      · rw [← hq2c] at e
        rw [h1 q2 hq2 (by rw [hq2c]; exact hn2)] at e
        cases e
      · rw [← hqc] at e
        rw [h2 q hq (by rw [hqc]; exact hn)] at e
        cases e
/-- two that are above a third -/
theorem abv_comp {a b x : List UInt8} (h : abvV a x = true) (k : abvV b x = true) : a = b ∨ abvV a b = true ∨ abvV b a = true := by
  obtain ⟨r, _, e1⟩ := (abvV_iff a x).1 h
  obtain ⟨s, _, e2⟩ := (abvV_iff b x).1 k
  rw [e1] at e2
  rcases List.append_eq_append_iff.1 e2 with ⟨t, h1, h2⟩ | ⟨t, h1, h2⟩
  · by_cases ht : t = []
    · subst ht
      rw [List.append_nil] at h1
      exact .inl (pcs_inj h1.symm)
    · exact .inr (.inl ((abvV_iff _ _).2 ⟨t, ht, h1⟩))
  · by_cases ht : t = []
    · subst ht
      rw [List.append_nil] at h1
      exact .inl (pcs_inj h1)
    · exact .inr (.inr ((abvV_iff _ _).2 ⟨t, ht, h1⟩))
/-- each cone at or below d gives way to d -/
def wid (d : List UInt8) : Bool → List (List UInt8) → List (List UInt8)
  | _, [] => []
  | done, c :: r => if (decide (c = d) || abvV d c) = true then (if done then wid d true r else d :: wid d true r) else c :: wid d done r
theorem wid_mem {d : List UInt8} : ∀ {k : List (List UInt8)} {done : Bool} {x : List UInt8}, x ∈ wid d done k → (x = d ∧ done = false ∧ ∃ c ∈ k, c = d ∨ abvV d c = true) ∨ (x ∈ k ∧ x ≠ d ∧ abvV d x = false)
  | [], _, x, h => by simp [wid] at h
  | c :: r, done, x, h => by
    unfold wid at h
    by_cases hc : (decide (c = d) || abvV d c) = true
    · rw [if_pos hc] at h
      have hc' : c = d ∨ abvV d c = true := by simpa using hc
      cases done with
      | true =>
        rw [if_pos rfl] at h
        rcases wid_mem h with ⟨_, h2, _⟩ | ⟨h1, h2⟩
        · cases h2
        · exact .inr ⟨by simp [h1], h2⟩
      | false =>
        rw [if_neg (by simp)] at h
        rcases List.mem_cons.1 h with h | h
        · exact .inl ⟨h, rfl, c, by simp, hc'⟩
        · rcases wid_mem h with ⟨_, h2, _⟩ | ⟨h1, h2⟩
          · cases h2
          · exact .inr ⟨by simp [h1], h2⟩
    · rw [if_neg hc] at h
      have hc' : c ≠ d ∧ abvV d c = false := by
        simp only [Bool.or_eq_true, decide_eq_true_eq, not_or] at hc
        exact ⟨hc.1, by simpa using hc.2⟩
      rcases List.mem_cons.1 h with h | h
      · exact .inr ⟨by simp [h], by rw [h]; exact hc'⟩
      · rcases wid_mem h with ⟨h1, h2, y, hy, h3⟩ | ⟨h1, h2⟩
        · exact .inl ⟨h1, h2, y, by simp [hy], h3⟩
        · exact .inr ⟨by simp [h1], h2⟩
theorem mem_wid {d : List UInt8} : ∀ {k : List (List UInt8)} {done : Bool} {x : List UInt8}, x ∈ k → (x ≠ d ∧ abvV d x = false → x ∈ wid d done k) ∧ (x = d ∨ abvV d x = true → done = false → d ∈ wid d done k)
  | [], _, x, h => by cases h
  | c :: r, done, x, h => by
    unfold wid
    by_cases hc : (decide (c = d) || abvV d c) = true
    · rw [if_pos hc]
      have hc' : c = d ∨ abvV d c = true := by simpa using hc
      refine ⟨fun hx => ?_, fun _ hd => by rw [hd, if_neg (by simp)]; simp⟩
      have hxr : x ∈ r := by
        rcases List.mem_cons.1 h with rfl | h
        · rcases hc' with e | e
          · exact absurd e hx.1
          · rw [hx.2] at e; cases e
        · exact h
      have := (mem_wid (done := true) hxr).1 hx
      cases done with
      | true => rw [if_pos rfl]; exact this
      | false => rw [if_neg (by simp)]; exact List.mem_cons_of_mem _ this
    · rw [if_neg hc]
      have hc' : c ≠ d ∧ abvV d c = false := by
        simp only [Bool.or_eq_true, decide_eq_true_eq, not_or] at hc
        exact ⟨hc.1, by simpa using hc.2⟩
      rcases List.mem_cons.1 h with rfl | h
      · refine ⟨fun _ => by simp, fun hx => ?_⟩
        rcases hx with e | e
        · exact absurd e hc'.1
        · rw [hc'.2] at e; cases e
      · exact ⟨fun hx => List.mem_cons_of_mem _ ((mem_wid h).1 hx), fun hx hd => List.mem_cons_of_mem _ ((mem_wid h).2 hx hd)⟩
/-- what the wider cones show is not less -/
theorem wid_shows {d p : List UInt8} {k : List (List UInt8)} (h : shw k p = true) : shw (wid d false k) p = true := by
  unfold shw at h ⊢
  rw [shD_iff] at h ⊢
  rcases h with h | ⟨c, hc, e⟩
  · exact .inl h
  · by_cases hd : c = d ∨ abvV d c = true
    · by_cases h0 : dir p = []
      · exact .inl h0
      refine .inr ⟨d, (mem_wid hc).2 hd rfl, ?_⟩
      rcases hd with rfl | hd
      · exact e
      · rcases e with e | e | e
        · rw [e]; exact .inr (.inl hd)
        · exact .inr (.inl (abv_trans hd e))
        · rcases abv_comp e hd with h1 | h1 | h1
          · exact .inl h1
          · exact .inr (.inr h1)
          · exact .inr (.inl h1)
    · have hn : c ≠ d ∧ abvV d c = false := by
        rw [not_or] at hd
        exact ⟨hd.1, by simpa using hd.2⟩
      exact .inr ⟨c, (mem_wid hc).1 hn, e⟩
theorem fol_lt {a b : List UInt8} (h : fol a b = true) : cf a b < 0 := (fol_iff.1 h).1
theorem cf_tri (a b : List UInt8) : cf a b < 0 ∨ a = b ∨ cf b a < 0 := by
  rcases cf_range a b with h | h | h
  · exact .inl (by omega)
  · exact .inr (.inl (cf_zero.1 h))
  · exact .inr (.inr (by rw [cf_neg]; omega))
/-- the wider cones stand as they must: all that is ahead of them follows d or is ahead of it -/
theorem wid_pw {d : List UInt8} : ∀ {k : List (List UInt8)} {done : Bool}, k.Pairwise (fun a b => fol a b = true) → (∀ c ∈ k, abvV c d = false) → (done = true → ∀ c ∈ k, cf d c < 0) → (wid d done k).Pairwise (fun a b => fol a b = true) ∧ (done = true → ∀ x ∈ wid d done k, fol d x = true)
  | [], _, _, _, _ => by simp [wid]
  | c :: r, done, hp, ha, hd => by
    obtain ⟨h1, h2⟩ := List.pairwise_cons.1 hp
    have ha' : ∀ c ∈ r, abvV c d = false := fun x hx => ha x (by simp [hx])
    unfold wid
    by_cases hc : (decide (c = d) || abvV d c) = true
    · rw [if_pos hc]
      have hc' : c = d ∨ abvV d c = true := by simpa using hc
      have hdr : ∀ x ∈ r, cf d x < 0 := fun x hx => by
        have h3 := fol_lt (h1 x hx)
        rcases hc' with rfl | e
        · exact h3
        · exact cf_trans (abv_cf e) h3
      obtain ⟨g1, g2⟩ := wid_pw (done := true) h2 ha' (fun _ => hdr)
      cases done with
      | true => rw [if_pos rfl]; exact ⟨g1, g2⟩
      | false =>
        rw [if_neg (by simp)]
        exact ⟨List.pairwise_cons.2 ⟨fun x hx => g2 rfl x hx, g1⟩, fun h => by cases h⟩
    · rw [if_neg hc]
      have hc' : c ≠ d ∧ abvV d c = false := by
        simp only [Bool.or_eq_true, decide_eq_true_eq, not_or] at hc
        exact ⟨hc.1, by simpa using hc.2⟩
      obtain ⟨g1, g2⟩ := wid_pw (done := done) h2 ha' (fun h x hx => hd h x (by simp [hx]))
      refine ⟨List.pairwise_cons.2 ⟨fun x hx => ?_, g1⟩, fun h x hx => ?_⟩
      · rcases wid_mem hx with ⟨rfl, hdf, y, hy, hyd⟩ | ⟨hx1, hx2⟩
        · rw [fol_iff]
          refine ⟨?_, ha c (by simp)⟩
          rcases cf_tri c x with h3 | h3 | h3
          · exact h3
          · exact absurd h3 hc'.1
          · exfalso
            have h4 := fol_lt (h1 y hy)
            rcases hyd with rfl | hyd
            · have := cf_trans h3 h4
              rw [cf_self] at this
              omega
            · have := abv_between hyd h3 h4
              rw [hc'.2] at this
              cases this
        · exact h1 x hx1
      · rcases List.mem_cons.1 hx with rfl | hx
        · exact fol_iff.2 ⟨hd h x (by simp), hc'.2⟩
        · exact g2 h x hx
theorem wid_cones {d : List UInt8} {k : List (List UInt8)} (h : coneE k = 0) (hd : okP d = true) (ha : ∀ c ∈ k, abvV c d = false) : coneE (wid d false k) = 0 := by
  rw [coneE_zero, coneB_iff] at h ⊢
  refine ⟨fun c hc => ?_, (wid_pw h.2 ha (fun e => by cases e)).1⟩
  rcases wid_mem hc with ⟨rfl, _⟩ | ⟨h1, _⟩
  · exact hd
  · exact h.1 c h1
end Go.Proofs.YtfdcfcalbongeaaGreat

namespace Go.Proofs.YtfdcfcalbongeaaGreat

theorem abv_dir {c : List UInt8} (h : okP c = true) (hn : c ≠ []) : abvV (dir c) c = true := by
  by_cases h1 : 1 < (pcs c).length
  · have e := dir_base c h1
    have hall := okP_all h
    have hnd : dir c ≠ [] := fun e0 => by
      rw [e0] at e
      have : [] ∈ pcs c := by
        rw [← e]
        show [] ∈ pcs (47 :: base c)
        unfold pcs
        rw [if_neg (by simp)]
        simp [sp]
      have := List.all_eq_true.1 hall [] this
      revert this
      decide
    have hp : pcs c = pcs (dir c) ++ sp (base c) := by
      conv => lhs; rw [← e, List.append_assoc]
      unfold pcs
      rw [if_neg (by simp), if_neg hnd]
      exact sp_append _ _
    exact (abvV_iff _ _).2 ⟨_, sp_ne _, hp⟩
  · rw [(dir_base0 c h1).1]
    exact (abvV_iff _ _).2 ⟨pcs c, fun e => hn ((pcs_eq_nil c).1 e), rfl⟩
theorem abv_irr (a : List UInt8) : abvV a a = false := by
  cases e : abvV a a with
  | false => rfl
  | true =>
    have := abv_cf e
    rw [cf_self] at this
    omega
theorem abv_asym {a b : List UInt8} (h : cf b a < 0) : abvV a b = false := by
  cases e : abvV a b with
  | false => rfl
  | true =>
    have h1 := cf_trans (abv_cf e) h
    rw [cf_self] at h1
    omega
theorem pw_anti : ∀ {k : List (List UInt8)}, k.Pairwise (fun a b => fol a b = true) → ∀ a ∈ k, ∀ b ∈ k, abvV a b = false
  | [], _, a, ha, _, _ => by cases ha
  | x :: r, h, a, ha, b, hb => by
    obtain ⟨h1, h2⟩ := List.pairwise_cons.1 h
    rcases List.mem_cons.1 ha with rfl | ha'
    · rcases List.mem_cons.1 hb with rfl | hb'
      · exact abv_irr _
      · exact (fol_iff.1 (h1 b hb')).2
    · rcases List.mem_cons.1 hb with rfl | hb'
      · exact abv_asym (fol_lt (h1 a ha'))
      · exact pw_anti h2 a ha' b hb'
/-- no cone is above another -/
theorem cone_anti {k : List (List UInt8)} (h : coneE k = 0) {a b : List UInt8} (ha : a ∈ k) (hb : b ∈ k) : abvV a b = false :=
  pw_anti (coneB_iff.1 (coneE_zero.1 h)).2 a ha b hb
theorem abv_nil (a : List UInt8) : abvV a [] = false := by
  cases e : abvV a [] with
  | false => rfl
  | true =>
    obtain ⟨r, hr, e1⟩ := (abvV_iff a []).1 e
    rw [pcs_nil] at e1
    have := List.append_eq_nil_iff.1 e1.symm
    exact absurd this.2 hr
/-- a cone gives way to the directory above it -/
theorem wid_ok {k : List (List UInt8)} {c : List UInt8} (h : coneE k = 0) (hc : c ∈ k) : coneE (wid (dir c) false k) = 0 := by
  have hok := (coneB_iff.1 (coneE_zero.1 h)).1
  refine wid_cones h (okP_dir (hok c hc)) (fun x hx => ?_)
  by_cases hn : c = []
  · subst hn
    rw [show dir ([] : List UInt8) = [] from by decide]
    exact abv_nil x
  · cases e : abvV x (dir c) with
    | false => rfl
    | true =>
      have h1 := abv_trans e (abv_dir (hok c hc) hn)
      rw [cone_anti h hx hc] at h1
      cases h1
theorem fchain_pw : ∀ l : List Fl, chain l = true ↔ l.Pairwise (fun a b => fol a.path b.path = true)
  | [] => by simp [chain]
  | [a] => by simp [chain]
  | a :: b :: r => by
    have ih := fchain_pw (b :: r)
    rw [List.pairwise_cons]
    simp only [chain, Bool.and_eq_true]
    rw [ih]
    constructor
    · rintro ⟨h, h1⟩
      refine ⟨fun x hx => ?_, h1⟩
      rcases List.mem_cons.1 hx with rfl | hx
      · exact h
      · exact fol_tr h ((List.pairwise_cons.1 h1).1 x hx)
    · rintro ⟨h, h1⟩
      exact ⟨h b (by simp), h1⟩
/-- a part of a snapshot is one -/
theorem snap_sub {l p : List Fl} (hs : p.Sublist l) (h : validE l = 0) : validE p = 0 := by
  have h1 := (validE_zero l).1 h
  rw [validE_zero]
  unfold stand at h1 ⊢
  simp only [Bool.and_eq_true, decide_eq_true_eq, List.all_eq_true] at h1 ⊢
  refine ⟨⟨Nat.le_trans hs.length_le h1.1.1, fun f hf => h1.1.2 f (hs.subset hf)⟩, ?_⟩
  exact (fchain_pw p).2 (((fchain_pw l).1 h1.2).sublist hs)
theorem viw_ok {l : List Fl} {k : List (List UInt8)} (h : validE l = 0) (hk : coneE k = 0) : viw l k = (l.filter (fun f => shw k f.path), 0) := by
  unfold viw
  rw [if_pos h, if_pos hk]
theorem viw_err (l : List Fl) (k : List (List UInt8)) : ((viw l k).2 = 0 ∧ validE l = 0 ∧ coneE k = 0) ∨ ((viw l k).2 ≠ 0 ∧ (viw l k).1 = [] ∧ ((viw l k).2 = validE l ∨ (viw l k).2 = 13 ∧ coneE k = 13)) := by
  unfold viw
  by_cases h : validE l = 0
  · rw [if_pos h]
    by_cases hk : coneE k = 0
    · rw [if_pos hk]; exact .inl ⟨rfl, h, hk⟩
    · rw [if_neg hk]
      refine .inr ⟨by simp, rfl, .inr ⟨rfl, ?_⟩⟩
      unfold coneE at hk ⊢
      split
      · rename_i e; rw [if_pos e] at hk; exact absurd rfl hk
      · rfl
  · rw [if_neg h]
    exact .inr ⟨h, rfl, .inl rfl⟩
/-- the view of a view -/
theorem viw_again {l : List Fl} {k : List (List UInt8)} (h : validE l = 0) (hk : coneE k = 0) : viw (l.filter (fun f => shw k f.path)) k = (l.filter (fun f => shw k f.path), 0) := by
  rw [viw_ok (snap_sub List.filter_sublist h) hk, List.filter_filter]
  simp
theorem shw_root (p : List UInt8) : shw [[]] p = true := by
  unfold shw
  rw [shD_iff]
  by_cases h : dir p = []
  · exact .inl h
  · exact .inr ⟨[], by simp, .inr (.inl ((abvV_iff _ _).2 ⟨pcs (dir p), fun e => h ((pcs_eq_nil _).1 e), rfl⟩))⟩
theorem viw_root {l : List Fl} (h : validE l = 0) : viw l [[]] = (l, 0) := by
  rw [viw_ok h (by decide)]
  rw [List.filter_eq_self.2 (fun f _ => shw_root f.path)]
theorem shw_none (p : List UInt8) : shw [] p = decide (dir p = []) := by
  unfold shw shD
  simp
theorem viw_none {l : List Fl} (h : validE l = 0) : viw l [] = (l.filter (fun f => decide (dir f.path = [])), 0) := by
  rw [viw_ok h (by decide)]
  simp only [shw_none]
theorem filt_len {α : Type} {f g : α → Bool} (h : ∀ x, f x = true → g x = true) : ∀ l : List α, (l.filter f).length ≤ (l.filter g).length
  | [] => by simp
  | x :: r => by
    have ih := filt_len h r
    rw [List.filter_cons, List.filter_cons]
    cases e : f x with
    | true =>
      rw [if_pos rfl, h x e, if_pos rfl]
      simp only [List.length_cons]
      omega
    | false =>
      rw [if_neg (by simp)]
      split
      · simp only [List.length_cons]; omega
      · exact ih
/-- wider cones show no less -/
theorem viw_wider {l : List Fl} {k : List (List UInt8)} {c : List UInt8} (h : validE l = 0) (hk : coneE k = 0) (hc : c ∈ k) : (viw l (wid (dir c) false k)).2 = 0 ∧ (l.filter (fun f => shw k f.path)).length ≤ (viw l (wid (dir c) false k)).1.length ∧ ∀ f ∈ l.filter (fun f => shw k f.path), shw (wid (dir c) false k) f.path = true := by
  rw [viw_ok h (wid_ok hk hc)]
  exact ⟨rfl, filt_len (fun f hf => wid_shows hf) l, fun f hf => wid_shows (List.mem_filter.1 hf).2⟩
end Go.Proofs.YtfdcfcalbongeaaGreat
