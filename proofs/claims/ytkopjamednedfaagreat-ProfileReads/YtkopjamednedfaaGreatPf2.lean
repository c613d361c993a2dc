/-
  Cones as a text, as plain lists: what is read of it is them; what its lines show is what they show.
-/
import Derived.Test.YtkopjamednedfaaGreatPf1
import Derived.Test.YtkopjamednedfaaGreatTri3
import Derived.Test.YtkopjamednedfaaGreatKn2
namespace Go.Proofs.YtkopjamednedfaaGreat

theorem abv_in {p x : List UInt8} (hx : okP x = true) (hn : x ≠ []) : abvV p x = true ↔ dir x = p ∨ abvV p (dir x) = true := by
  have h1 := abv_dir hx hn
  constructor
  · intro h
    rcases abv_comp h h1 with e | e | e
    · exact .inl e.symm
    · exact .inr e
    · exfalso
      obtain ⟨r, hr, e1⟩ := (abvV_iff _ _).1 h
      obtain ⟨s, hs, e2⟩ := (abvV_iff _ _).1 e
      have e3 := congrArg List.length (dir_pcs (okP_all hx) hn).1
      have l1 := congrArg List.length e1
      have l2 := congrArg List.length e2
      have := List.length_pos_iff.2 hr
      have := List.length_pos_iff.2 hs
      rw [List.length_dropLast] at e3
      rw [List.length_append] at l1 l2
      omega
  · rintro (e | e)
    · rw [← e]; exact h1
    · exact abv_trans e h1
theorem okB_ten : okB 10 = false := by decide
theorem ok_ten {p : List UInt8} (h : okP p = true) : 10 ∉ p := by
  intro hm
  have hall := okP_all h
  have hj := join_pcs p
  have : ∀ (L : List (List UInt8)), L.all okC = true → 10 ∉ join L := by
    intro L
    induction L with
    | nil => intro _ h; simp [join] at h
    | cons a r ih =>
      intro hL hx
      rw [List.all_cons, Bool.and_eq_true] at hL
      have ha : 10 ∉ a := fun hm => by
        have := hL.1
        unfold okC at this
        simp only [Bool.and_eq_true] at this
        have := List.all_eq_true.1 this.2 10 hm
        rw [okB_ten] at this; cases this
      cases r with
      | nil => simp [join] at hx; exact ha hx
      | cons b r =>
        rw [join_cons a _ (by simp)] at hx
        rcases List.mem_append.1 hx with hx | hx
        · exact ha hx
        · rcases List.mem_cons.1 hx with hx | hx
          · cases hx
          · exact ih hL.2 hx
  exact this (pcs p) hall (by rw [hj]; exact hm)
theorem dsL_ok {k : List (List UInt8)} (hk : coneE k = 0) {d : List UInt8} (hd : d ∈ dsL k) : okP d = true ∧ d ≠ [] ∧ ∃ c ∈ k, d = c ∨ abvV d c = true := by
  unfold dsL at hd
  rw [mem_norm, List.mem_flatMap] at hd
  obtain ⟨c, hc, h⟩ := hd
  have hok := (coneB_iff.1 (coneE_zero.1 hk)).1 c hc
  obtain ⟨h1, h2⟩ := ups_mem 13 c d hok h
  refine ⟨?_, h1, c, hc, h2⟩
  rcases h2 with rfl | h2
  · exact hok
  · exact okP_abv hok h2
theorem lns_ten {k : List (List UInt8)} (hk : coneE k = 0) : ∀ l ∈ lns k, 10 ∉ l := by
  intro l hl
  unfold lns at hl
  split at hl
  · rw [List.mem_singleton.1 hl]; decide
  · rcases List.mem_cons.1 hl with rfl | hl
    · decide
    rcases List.mem_cons.1 hl with rfl | hl
    · decide
    unfold dln at hl
    rw [List.mem_flatMap] at hl
    obtain ⟨d, hd, hl⟩ := hl
    have h10 := ok_ten (dsL_ok hk hd).1
    have : l = dl d ∨ l = nl d := by
      split at hl
      · exact .inl (List.mem_singleton.1 hl)
      · simpa using hl
    rcases this with rfl | rfl
    · unfold dl; simpa using h10
    · unfold nl; simpa using h10
/-- the cones that a text may be of -/
def rk (s : List UInt8) : List (List UInt8) := if s = [47, 42, 10] then [[]] else pck (spl s)
theorem wrt_root : wrt [[]] = [47, 42, 10] := by decide
theorem wrt_not {k : List (List UInt8)} (h : k ≠ [[]]) : wrt k ≠ [47, 42, 10] := by
  unfold wrt lns
  rw [if_neg h]
  unfold wrL
  simp
theorem rk_wrt {k : List (List UInt8)} (hk : coneE k = 0) : rk (wrt k) = k := by
  unfold rk
  by_cases h : k = [[]]
  · rw [h, wrt_root, if_pos rfl]
  · rw [if_neg (wrt_not h)]
    unfold wrt
    rw [spl_wr _ (lns_ten hk), pick_lns hk h]
/-- what Read answers -/
def prd (s : List UInt8) : List (List UInt8) × Int := if pwr (rk s) = (s, 0) then (rk s, 0) else ([], 18)
theorem prd_wrt {k : List (List UInt8)} {s : List UInt8} (h : pwr k = (s, 0)) : prd s = (k, 0) := by
  have hk : coneE k = 0 := by
    unfold pwr at h
    split at h
    · assumption
    · cases h
  have hs : wrt k = s := by
    unfold pwr at h
    rw [if_pos hk] at h
    split at h
    · injection h
    · cases h
  have hr : rk s = k := by rw [← hs]; exact rk_wrt hk
  unfold prd
  rw [hr, if_pos h]
theorem prd_ok {s : List UInt8} {k : List (List UInt8)} (h : prd s = (k, 0)) : pwr k = (s, 0) := by
  unfold prd at h
  split at h
  · rename_i h1
    injection h with h2 _
    rw [← h2]; exact h1
  · cases h
/-- below d, by bytes -/
def pfx (d p : List UInt8) : Bool := decide (d.length + 1 < p.length) && decide (p.take (d.length + 1) = d ++ [47])
theorem pfx_iff {d p : List UInt8} : pfx d p = true ↔ ∃ t, t ≠ [] ∧ p = d ++ 47 :: t := by
  unfold pfx
  rw [Bool.and_eq_true, decide_eq_true_eq, decide_eq_true_eq]
  constructor
  · rintro ⟨h1, h2⟩
    refine ⟨p.drop (d.length + 1), fun e => ?_, ?_⟩
    · have := congrArg List.length e
      simp at this
      omega
    · have := List.take_append_drop (d.length + 1) p
      rw [h2] at this
      simpa using this.symm
  · rintro ⟨t, ht, rfl⟩
    have := List.length_pos_iff.2 ht
    refine ⟨by simp; omega, ?_⟩
    rw [show d ++ 47 :: t = (d ++ [47]) ++ t by simp]
    exact List.take_left' (by simp)
theorem pfx_abv {d p : List UInt8} (hd : d ≠ []) (hp : okP p = true) : pfx d p = abvV d p := by
  rw [Bool.eq_iff_iff, pfx_iff, abvV_iff]
  constructor
  · rintro ⟨t, ht, rfl⟩
    exact ⟨pcs t, fun e => ht ((pcs_eq_nil t).1 e), pcs_append d t hd ht⟩
  · rintro ⟨r, hr, e⟩
    have hl : 0 < (pcs d).length := List.length_pos_iff.2 (fun e0 => hd ((pcs_eq_nil d).1 e0))
    have hl2 : 0 < r.length := List.length_pos_iff.2 hr
    have hc := join_cut (pcs p) (pcs d).length hl (by rw [e]; simp; omega)
    rw [join_pcs, e, List.take_left, List.drop_left, join_pcs] at hc
    refine ⟨join r, fun e0 => ?_, hc⟩
    have hall := okP_all hp
    rw [e, List.all_append, Bool.and_eq_true] at hall
    cases r with
    | nil => exact hr rfl
    | cons a r =>
      have ha : okC a = true := by have := hall.2; rw [List.all_cons, Bool.and_eq_true] at this; exact this.1
      cases r with
      | nil =>
        have : a = [] := by simpa [join] using e0
        rw [this, okC_nil] at ha; cases ha
      | cons b r => rw [join_cons a _ (by simp)] at e0; simp at e0
/-- what one directory's lines make of it -/
def stD (k : List (List UInt8)) (p : List UInt8) (b : Bool) (d : List UInt8) : Bool := if abvV d p then (decide (d ∈ k) || decide (dir p = d)) else b
theorem fold_last (k : List (List UInt8)) (p : List UInt8) : ∀ (D : List (List UInt8)) (b : Bool), D.foldl (stD k p) b = match (D.filter (fun d => abvV d p)).getLast? with
    | none => b
    | some d => decide (d ∈ k) || decide (dir p = d)
  | [], b => rfl
  | d :: D, b => by
    rw [List.foldl_cons, fold_last k p D, List.filter_cons]
    unfold stD
    cases e : abvV d p with
    | false => simp
    | true =>
      simp only [if_true, List.getLast?_cons]
      cases h : (D.filter (fun d => abvV d p)).getLast? with
      | none => simp
      | some x => simp
theorem mem_ups_abv : ∀ (n : Nat) (p x : List UInt8), okP p = true → dep p ≤ n → x ≠ [] → (x = p ∨ abvV x p = true) → x ∈ ups n p
  | 0, p, x, hp, hn, hx, h => by
    exfalso
    have : p = [] := by
      have := dep_eq p
      exact (pcs_eq_nil p).1 (List.eq_nil_of_length_eq_zero (by omega))
    subst this
    rcases h with rfl | h
    · exact hx rfl
    · rw [abv_nil] at h; cases h
  | n + 1, p, x, hp, hn, hx, h => by
    unfold ups
    have h0 : p ≠ [] := fun e => by
      subst e
      rcases h with rfl | h
      · exact hx rfl
      · rw [abv_nil] at h; cases h
    rw [if_neg h0]
    rcases h with rfl | h
    · simp
    · refine List.mem_cons_of_mem _ (mem_ups_abv n (dir p) x (okP_dir hp) ?_ hx ?_)
      · have := congrArg List.length (dir_pcs (okP_all hp) h0).1
        rw [List.length_dropLast, dep_eq, dep_eq] at this
        omega
      · rcases (abv_in hp h0).1 h with e | e
        · exact .inl e.symm
        · exact .inr e
theorem mem_dsL {k : List (List UInt8)} (hk : coneE k = 0) {d c : List UInt8} (hc : c ∈ k) (hd : d ≠ []) (h : d = c ∨ abvV d c = true) : d ∈ dsL k := by
  have hok := (coneB_iff.1 (coneE_zero.1 hk)).1 c hc
  unfold dsL
  rw [mem_norm, List.mem_flatMap]
  exact ⟨c, hc, mem_ups_abv 13 c d hok (by have := (okP_len hok).2; omega) hd h⟩
theorem root_only {k : List (List UInt8)} (hk : coneE k = 0) (hm : [] ∈ k) (hall : ∀ x ∈ k, x = []) : k = [[]] := by
  have hup := (coneB_iff.1 (coneE_zero.1 hk)).2
  cases k with
  | nil => cases hm
  | cons a r =>
    have ha := hall a (by simp)
    cases r with
    | nil => rw [ha]
    | cons b r =>
      exfalso
      have hb := hall b (by simp)
      have := fol_lt ((List.pairwise_cons.1 hup).1 b (by simp))
      rw [ha, hb, cf_self] at this; omega
theorem last_up {D : List (List UInt8)} (h : Up D) {m d : List UInt8} (e : D.getLast? = some m) (hd : d ∈ D) : cf d m ≤ 0 := by
  obtain ⟨i, hi, rfl⟩ := List.mem_iff_getElem.1 hd
  have hl : D.length - 1 < D.length := by omega
  have em : D[D.length - 1] = m := by
    rw [List.getLast?_eq_getElem?] at e
    rw [List.getElem?_eq_getElem hl] at e
    injection e
  by_cases h1 : i = D.length - 1
  · subst h1
    rw [em, cf_self]; exact Int.le_refl _
  · have := up_get h (show i < D.length - 1 by omega) hl
    rw [em] at this; omega
/-- what the lines show is what the cones show -/
theorem fold_shw {k : List (List UInt8)} (hk : coneE k = 0) (hne : k ≠ [[]]) {p : List UInt8} (hp : okP p = true) (hpn : p ≠ []) : (dsL k).foldl (stD k p) (decide (dir p = [])) = shw k p := by
  rw [fold_last]
  have hmem : ∀ d, d ∈ (dsL k).filter (fun d => abvV d p) ↔ d ∈ dsL k ∧ abvV d p = true := fun d => List.mem_filter
  have hshw : shw k p = shD k (dir p) := rfl
  -- every directory of the text that shows p at all is one of those that are above p
  cases e : ((dsL k).filter (fun d => abvV d p)).getLast? with
  | none =>
    have hnil : (dsL k).filter (fun d => abvV d p) = [] := List.getLast?_eq_none_iff.1 e
    have hno : ∀ d ∈ dsL k, abvV d p = false := fun d hd => by
      cases h : abvV d p with
      | false => rfl
      | true =>
        have := (hmem d).2 ⟨hd, h⟩
        rw [hnil] at this; cases this
    show decide (dir p = []) = shw k p
    rw [hshw, Bool.eq_iff_iff, decide_eq_true_eq, shD_iff]
    constructor
    · exact .inl
    · rintro (h | ⟨c, hc, h⟩)
      · exact h
      · rcases Classical.em (dir p = []) with h0 | h0
        · exact h0
        · exfalso
          have hdp : abvV (dir p) p = true := abv_dir hp hpn
          rcases h with h | h | h
          · have := hno _ (mem_dsL hk hc h0 (.inl h))
            rw [hdp] at this; cases this
          · have hcp : abvV c p = true := abv_trans h hdp
            have hc0 : c ≠ [] := fun e0 => by
              subst e0
              apply hne
              have hall : ∀ x ∈ k, x = [] := fun x hx => by
                rcases Classical.em (x = []) with e1 | e1
                · exact e1
                · exfalso
                  have h1 : abvV [] x = true := (abvV_iff _ _).2 ⟨pcs x, fun e0 => e1 ((pcs_eq_nil x).1 e0), by rw [pcs_nil]; rfl⟩
                  rw [cone_anti hk hc hx] at h1; cases h1
              exact root_only hk hc hall
            have := hno _ (mem_dsL hk hc hc0 (.inl rfl))
            rw [hcp] at this; cases this
          · have := hno _ (mem_dsL hk hc h0 (.inr h))
            rw [hdp] at this; cases this
  | some m =>
    have hm0 : m ∈ (dsL k).filter (fun d => abvV d p) := List.mem_of_getLast? e
    obtain ⟨hm, hmp⟩ := (hmem m).1 hm0
    obtain ⟨hmok, hmn, cm, hcm, hmc⟩ := dsL_ok hk hm
    -- the deepest
    have hdeep : ∀ d ∈ dsL k, abvV d p = true → d = m ∨ abvV d m = true := fun d hd hdp => by
      have hle := last_up (up_filter (up_norm (k.flatMap (fun c => ups 13 c))) (fun d => abvV d p)) e ((hmem d).2 ⟨hd, hdp⟩)
      rcases abv_comp hdp hmp with h | h | h
      · exact .inl h
      · exact .inr h
      · exfalso
        have := abv_cf h
        have := cf_neg d m
        omega
    have hdp : abvV (dir p) p = true := abv_dir hp hpn
    show (decide (m ∈ k) || decide (dir p = m)) = shw k p
    rw [hshw, Bool.eq_iff_iff, Bool.or_eq_true, decide_eq_true_eq, decide_eq_true_eq, shD_iff]
    have hin : m = dir p ∨ abvV m (dir p) = true := by
      rcases (abv_in hp hpn).1 hmp with h | h
      · exact .inl h.symm
      · exact .inr h
    constructor
    · rintro (h | h)
      · rcases hin with h2 | h2
        · exact .inr ⟨m, h, .inl h2.symm⟩
        · exact .inr ⟨m, h, .inr (.inl h2)⟩
      · rcases hmc with h2 | h2
        · exact .inr ⟨cm, hcm, .inl (h.trans h2)⟩
        · exact .inr ⟨cm, hcm, .inr (.inr (by rw [h]; exact h2))⟩
    · intro h
      rcases Classical.em (m ∈ k) with h1 | h1
      · exact .inl h1
      · right
        rcases hin with h2 | h2
        · exact h2.symm
        · exfalso
          have h0 : dir p ≠ [] := fun e0 => by rw [e0, abv_nil] at h2; cases h2
          have hmdn : ¬ (dir p = m ∨ abvV (dir p) m = true) := by
            rintro (h3 | h3)
            · rw [h3, abv_irr] at h2; cases h2
            · have := abv_trans h2 h3
              rw [abv_irr] at this; cases this
          rcases h with h | ⟨c, hc, h | h | h⟩
          · exact h0 h
          · exact hmdn (hdeep _ (mem_dsL hk hc h0 (.inl h)) hdp)
          · have hcp : abvV c p = true := abv_trans h hdp
            have hc0 : c ≠ [] := fun e0 => by
              subst e0
              have h3 : abvV [] cm = true := by
                rcases Classical.em (cm = []) with e1 | e1
                · exfalso
                  rw [e1] at hmc
                  rcases hmc with h4 | h4
                  · exact hmn h4
                  · rw [abv_nil] at h4; cases h4
                · exact (abvV_iff _ _).2 ⟨pcs cm, fun e0 => e1 ((pcs_eq_nil cm).1 e0), by rw [pcs_nil]; rfl⟩
              rw [cone_anti hk hc hcm] at h3; cases h3
            rcases hdeep c (mem_dsL hk hc hc0 (.inl rfl)) hcp with h3 | h3
            · exact h1 (h3 ▸ hc)
            · have h4 : abvV c cm = true := by
                rcases hmc with h5 | h5
                · rw [← h5]; exact h3
                · exact abv_trans h3 h5
              rw [cone_anti hk hc hcm] at h4; cases h4
          · exact hmdn (hdeep _ (mem_dsL hk hc h0 (.inr h)) hdp)
end Go.Proofs.YtkopjamednedfaaGreat
