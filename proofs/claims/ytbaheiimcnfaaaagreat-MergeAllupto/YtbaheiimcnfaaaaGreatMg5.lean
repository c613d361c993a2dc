/-
  A step by what is hidden, as plain lists: the run that gives way, the candidates that are left.
-/
import Derived.Test.YtbaheiimcnfaaaaGreatJMg4
namespace Go.Proofs.YtbaheiimcnfaaaaGreat

theorem wid_skip {p : List UInt8} {done : Bool} {X : List (List UInt8)} : ∀ {A : List (List UInt8)}, (∀ c ∈ A, c ≠ p ∧ abvV p c = false) → wid p done (A ++ X) = A ++ wid p done X
  | [], _ => rfl
  | c :: r, h => by
    have ih := wid_skip (X := X) (done := done) (A := r) fun x hx => h x (by simp [hx])
    have hc := h c (by simp)
    show wid p done (c :: (r ++ X)) = _
    rw [wid, if_neg (by simp [hc.1, hc.2]), ih]
    rfl
theorem wid_true {p : List UInt8} {X : List (List UInt8)} : ∀ {R : List (List UInt8)}, (∀ c ∈ R, c = p ∨ abvV p c = true) → wid p true (R ++ X) = wid p true X
  | [], _ => rfl
  | c :: r, h => by
    have ih := wid_true (X := X) (R := r) fun x hx => h x (by simp [hx])
    have hc := h c (by simp)
    show wid p true (c :: (r ++ X)) = _
    rw [wid, if_pos (by simpa using hc), if_pos rfl, ih]
theorem wid_none {p : List UInt8} {done : Bool} {A : List (List UInt8)} (h : ∀ c ∈ A, c ≠ p ∧ abvV p c = false) : wid p done A = A := by
  have := wid_skip (X := []) (done := done) h
  simpa [wid] using this
theorem wid_cut {p : List UInt8} {A R B : List (List UInt8)} (hR : R ≠ []) (h1 : ∀ c ∈ A, c ≠ p ∧ abvV p c = false) (h2 : ∀ c ∈ R, c = p ∨ abvV p c = true) (h3 : ∀ c ∈ B, c ≠ p ∧ abvV p c = false) : wid p false (A ++ (R ++ B)) = A ++ p :: B := by
  rw [wid_skip h1]
  cases R with
  | nil => exact absurd rfl hR
  | cons c r =>
    have hc := h2 c (by simp)
    show A ++ wid p false (c :: (r ++ B)) = _
    rw [wid, if_pos (by simpa using hc), if_neg (by simp), wid_true fun x hx => h2 x (by simp [hx]), wid_none h3]
theorem low_out {p c : List UInt8} (h : cf c p < 0) : c ≠ p ∧ abvV p c = false :=
  ⟨fun e => by rw [e, cf_self] at h; omega, abv_asym h⟩
/-- the run of those below p -/
theorem wid_run {k : List (List UInt8)} (h : coneE k = 0) {p : List UInt8} {a b : Nat} (hab : a ≤ b) (hb : b ≤ k.length) (h1 : ∀ i (hi : i < k.length), i < a → cf (k[i]'hi) p < 0) (h2 : ∀ i (hi : i < k.length), a ≤ i → ¬ cf (k[i]'hi) p < 0)
    (h3 : ∀ i (hi : i < k.length), a ≤ i → i < b → abvV p (k[i]'hi) = true) (h4 : ∀ hi : b < k.length, abvV p (k[b]'hi) = false) : wid p false k = if a = b then k else k.take a ++ p :: k.drop b := by
  have hpw := (coneB_iff.1 (coneE_zero.1 h)).2
  have hlt : ∀ i j (hi : i < k.length) (hj : j < k.length), i < j → cf (k[i]'hi) (k[j]'hj) < 0 := fun i j hi hj hij => fol_lt (List.pairwise_iff_getElem.1 hpw i j hi hj hij)
  have hA : ∀ c ∈ k.take a, c ≠ p ∧ abvV p c = false := fun c hc => by
    obtain ⟨i, hi, rfl⟩ := List.mem_iff_getElem.1 hc
    rw [List.length_take] at hi
    rw [List.getElem_take]
    exact low_out (h1 i (by omega) (by omega))
  by_cases e : a = b
  · rw [if_pos e]
    subst e
    by_cases hl : a < k.length
    · have hx := h4 hl
      by_cases ep : k[a] = p
      · have hk : k = k.take a ++ ([p] ++ k.drop (a + 1)) := by
          rw [← ep]
          simp
        have hm : p ∈ k := by rw [← ep]; exact List.getElem_mem hl
        conv => lhs; rw [hk]
        rw [wid_cut (by simp) hA (fun c hc => .inl (by simpa using hc)) (fun c hc => ?_)]
        · conv => rhs; rw [hk]
          rfl
        · obtain ⟨i, hi, rfl⟩ := List.mem_iff_getElem.1 hc
          rw [List.length_drop] at hi
          rw [List.getElem_drop]
          have := hlt a (a + 1 + i) hl (by omega) (by omega)
          rw [ep] at this
          refine ⟨fun e2 => by rw [e2, cf_self] at this; omega, cone_anti h hm (List.getElem_mem _)⟩
      · have hpx : cf p k[a] < 0 := by
          rcases cf_tri k[a] p with e2 | e2 | e2
          · exact absurd e2 (h2 a hl (Nat.le_refl _))
          · exact absurd e2 ep
          · exact e2
        refine wid_none fun c hc => ?_
        obtain ⟨i, hi, rfl⟩ := List.mem_iff_getElem.1 hc
        by_cases hia : i < a
        · exact low_out (h1 i hi hia)
        · have hpc : cf p k[i] < 0 := by
            by_cases e3 : i = a
            · subst e3; exact hpx
            · exact cf_trans hpx (hlt a i hl hi (by omega))
          refine ⟨fun e2 => by rw [e2, cf_self] at hpc; omega, ?_⟩
          by_cases e3 : i = a
          · subst e3; exact hx
          · cases e4 : abvV p k[i] with
            | false => rfl
            | true =>
              rw [abv_between e4 hpx (hlt a i hl hi (by omega))] at hx
              cases hx
    · rw [List.take_of_length_le (by omega)] at hA
      exact wid_none hA
  · rw [if_neg e]
    have hk : k = k.take a ++ ((k.drop a).take (b - a) ++ k.drop b) := by
      have e1 : k.drop b = (k.drop a).drop (b - a) := by rw [List.drop_drop]; congr 1; omega
      rw [e1, List.take_append_drop, List.take_append_drop]
    conv => lhs; rw [hk]
    have hx := h3 a (by omega) (Nat.le_refl _) (by omega)
    refine wid_cut ?_ hA (fun c hc => ?_) (fun c hc => ?_)
    · intro e0
      have := congrArg List.length e0
      simp at this
      omega
    · obtain ⟨i, hi, rfl⟩ := List.mem_iff_getElem.1 hc
      rw [List.length_take, List.length_drop] at hi
      rw [List.getElem_take, List.getElem_drop]
      exact .inr (h3 (a + i) (by omega) (by omega) (by omega))
    · obtain ⟨i, hi, rfl⟩ := List.mem_iff_getElem.1 hc
      rw [List.length_drop] at hi
      rw [List.getElem_drop]
      have hpc : cf p (k[b + i]'(by omega)) < 0 := cf_trans (abv_cf hx) (hlt a (b + i) (by omega) (by omega) (by omega))
      refine ⟨fun e2 => by rw [e2, cf_self] at hpc; omega, ?_⟩
      have hy := h4 (by omega)
      by_cases e3 : i = 0
      · subst e3; exact hy
      · cases e4 : abvV p (k[b + i]'(by omega)) with
        | false => rfl
        | true =>
          rw [abv_between e4 (cf_trans (abv_cf hx) (hlt a b (by omega) (by omega) (by omega))) (hlt b (b + i) (by omega) (by omega) (by omega))] at hy
          cases hy
/-- a candidate's run as lists -/
theorem wid_parts {k : List (List UInt8)} (h : coneE k = 0) {d : List UInt8} (hd : d ∈ cds k) : ∃ A R B, k = A ++ (R ++ B) ∧ R ≠ [] ∧ (∀ c ∈ R, abvV d c = true) ∧ (∀ c ∈ A, c ≠ d ∧ abvV d c = false) ∧ (∀ c ∈ B, c ≠ d ∧ abvV d c = false) ∧ wid d false k = A ++ d :: B := by
  have hpw := (coneB_iff.1 (coneE_zero.1 h)).2
  obtain ⟨x, hx, ex⟩ := cone_in h hd
  have hnd := cone_out h hd
  -- A: those ahead of d; then those below d
  have hsp : ∀ (k : List (List UInt8)), k.Pairwise (fun a b => fol a b = true) → d ∉ k → ∃ A R B, k = A ++ (R ++ B) ∧ (∀ c ∈ R, abvV d c = true) ∧ (∀ c ∈ A, c ≠ d ∧ abvV d c = false) ∧ (∀ c ∈ B, c ≠ d ∧ abvV d c = false) ∧ (R ≠ [] → ∀ c ∈ B, cf d c < 0) ∧ (R = [] → B = []) := by
    intro k
    induction k with
    | nil => intro _ _; exact ⟨[], [], [], rfl, by simp, by simp, by simp, by simp, by simp⟩
    | cons y r ih =>
      intro hp hn
      obtain ⟨hy, hp'⟩ := List.pairwise_cons.1 hp
      have hyd : y ≠ d := fun e => hn (by simp [e])
      obtain ⟨A, R, B, rfl, h2, h3, h4, h5, h6⟩ := ih hp' (fun hm => hn (by simp [hm]))
      by_cases ey : abvV d y = true
      · cases A with
        | nil =>
          by_cases hR : R = []
          · subst hR
            have := h6 rfl
            subst this
            exact ⟨[], [y], [], rfl, by simpa using ey, by simp, by simp, by simp, by simp⟩
          · exact ⟨[], y :: R, B, rfl, by simpa using ⟨ey, h2⟩, by simp, h4, fun _ => h5 hR, by simp⟩
        | cons a A =>
          -- a is behind y, and not below d: then none behind it is
          have ha := h3 a (by simp)
          have hya := fol_lt (hy a (by simp))
          have hda : cf d a < 0 := cf_trans (abv_cf ey) hya
          have hRe : R = [] := by
            cases R with
            | nil => rfl
            | cons z R =>
              exfalso
              have haz := fol_lt ((List.pairwise_cons.1 hp').1 z (by simp))
              have := abv_between (h2 z (by simp)) hda haz
              rw [ha.2] at this; cases this
          subst hRe
          have := h6 rfl
          subst this
          refine ⟨[], [y], a :: A, by simp, by simpa using ey, by simp, by simpa using h3, fun _ c hc => ?_, by simp⟩
          rcases List.mem_cons.1 hc with rfl | hc
          · exact hda
          · exact cf_trans hda (fol_lt ((List.pairwise_cons.1 hp').1 c (by simp [hc])))
      · exact ⟨y :: A, R, B, rfl, h2, by simpa using ⟨⟨hyd, by simpa using ey⟩, h3⟩, h4, h5, h6⟩
  obtain ⟨A, R, B, e, h2, h3, h4, _, h6⟩ := hsp k hpw hnd
  have hR : R ≠ [] := fun e0 => by
    rw [e, e0, h6 e0] at hx
    have := h3 x (by simpa using hx)
    rw [ex] at this; cases this.2
  exact ⟨A, R, B, e, hR, h2, h3, h4, by rw [e]; exact wid_cut hR h3 (fun c hc => .inr (h2 c hc)) h4⟩
theorem cds_app (a : List UInt8) (Y : List (List UInt8)) : ∀ X : List (List UInt8), cds (X ++ a :: Y) = cds (X ++ [a]) ++ cds (a :: Y)
  | [] => by simp [cds]
  | [x] => by simp [cds]
  | x :: y :: X => by
    have := cds_app a Y (y :: X)
    simp only [List.cons_append, cds] at this ⊢
    rw [this]
theorem com_short : ∀ {X D : List (List UInt8)} (r : List (List UInt8)), com X D < D.length → com X (D ++ r) = com X D
  | [], D, r, _ => by simp [com]
  | x :: X, [], r, h => by simp at h
  | x :: X, y :: D, r, h => by
    simp only [com, List.cons_append] at h ⊢
    by_cases e : x = y
    · simp only [e, if_true, List.length_cons] at h ⊢
      rw [com_short r (by omega)]
    · simp [e]
theorem com_both : ∀ (D r s : List (List UInt8)), com (D ++ r) (D ++ s) = D.length + com r s
  | [], r, s => by simp
  | x :: D, r, s => by
    have := com_both D r s
    simp only [com, List.cons_append, if_true, List.length_cons, this]
    omega
/-- neighbours meet d where they met what is below it -/
theorem cmn_same {x d c : List UInt8} (hdc : abvV d c = true) (h1 : x ≠ d) (h2 : abvV d x = false) : cmn x d = cmn x c := by
  obtain ⟨r, _, e⟩ := (abvV_iff _ _).1 hdc
  have hc : com (pcs x) (pcs d) < (pcs d).length := by
    rcases Nat.lt_or_ge (com (pcs x) (pcs d)) (pcs d).length with h | h
    · exact h
    · exfalso
      have h3 : com (pcs d) (pcs x) = (pcs d).length := by
        have := (com_le (pcs d) (pcs x)).1
        rw [com_symm] at h; omega
      obtain ⟨s, es⟩ := (com_pre _ _).1 h3
      by_cases hs : s = []
      · subst hs; rw [List.append_nil] at es; exact h1 (pcs_inj es)
      · rw [(abvV_iff _ _).2 ⟨s, hs, es⟩] at h2; cases h2
  unfold cmn
  rw [e, com_short r hc]
theorem cmn_run {a b d : List UInt8} (ho : okP a = true) (ha : abvV d a = true) (hb : abvV d b = true) : cmn a b = d ∨ abvV d (cmn a b) = true := by
  obtain ⟨r, _, er⟩ := (abvV_iff _ _).1 ha
  obtain ⟨s, _, es⟩ := (abvV_iff _ _).1 hb
  have e := pcs_cmn a b (okP_all ho)
  rw [er, es, com_both, List.take_append] at e
  rw [List.take_of_length_le (by omega), Nat.add_sub_cancel_left] at e
  by_cases ht : r.take (com r s) = []
  · rw [ht, List.append_nil] at e
    exact .inl (pcs_inj e)
  · exact .inr ((abvV_iff _ _).2 ⟨_, ht, e⟩)
theorem cds_two : ∀ {k : List (List UInt8)} {q : List UInt8}, q ∈ cds k → ∃ a ∈ k, ∃ b ∈ k, q = cmn a b
  | a :: b :: r, q, h => by
    rcases List.mem_cons.1 h with rfl | h
    · exact ⟨a, by simp, b, by simp, rfl⟩
    · obtain ⟨x, hx, y, hy, e⟩ := cds_two h
      exact ⟨x, by simp [hx], y, by simp [hy], e⟩
  | [a], q, h => by cases h
  | [], q, h => by cases h
/-- the candidates that are left -/
theorem cds_wid {k : List (List UInt8)} (h : coneE k = 0) {d : List UInt8} (hd : d ∈ cds k) (hlow : ∀ q ∈ cds k, abvV d q = false) (q : List UInt8) : q ∈ cds (wid d false k) ↔ q ∈ cds k ∧ q ≠ d := by
  have hok := (coneB_iff.1 (coneE_zero.1 h)).1
  have hm := (wid_two h hd).1
  obtain ⟨A, R, B, e, hR, h2, h3, h4, ew⟩ := wid_parts h hd
  have hout : q ∈ cds (wid d false k) → q ≠ d := fun hq e0 => by
    subst e0
    exact cone_out hm hq (by rw [ew]; simp)
  -- R = r0 :: R' and R = S ++ [rl]
  obtain ⟨S, rl, eS⟩ : ∃ S rl, R = S ++ [rl] := ⟨_, _, (List.dropLast_concat_getLast hR).symm⟩
  obtain ⟨r0, R', eR⟩ : ∃ r0 R', R = r0 :: R' := by cases R with | nil => exact absurd rfl hR | cons x y => exact ⟨x, y, rfl⟩
  have hr0 := h2 r0 (by simp [eR])
  have hrl := h2 rl (by simp [eS])
  have e1 : cds k = cds (A ++ [r0]) ++ (cds R ++ cds (rl :: B)) := by
    rw [e, eR, List.cons_append, cds_app, ← List.cons_append, ← eR, eS, List.append_assoc]
    congr 1
    exact cds_app rl B S
  have e2 : cds (wid d false k) = cds (A ++ [d]) ++ cds (d :: B) := by rw [ew, cds_app]
  have e3 : cds (A ++ [d]) = cds (A ++ [r0]) := by
    by_cases hA : A = []
    · subst hA; rfl
    · have eA := (List.dropLast_concat_getLast hA).symm
      have hx := h3 (A.getLast hA) (List.getLast_mem hA)
      rw [eA, List.append_assoc, List.append_assoc]
      show cds (A.dropLast ++ A.getLast hA :: [d]) = cds (A.dropLast ++ A.getLast hA :: [r0])
      rw [cds_app (A.getLast hA) [d] A.dropLast, cds_app (A.getLast hA) [r0] A.dropLast]
      simp only [cds]
      rw [cmn_same hr0 hx.1 hx.2]
  have e4 : cds (d :: B) = cds (rl :: B) := by
    cases B with
    | nil => rfl
    | cons y B =>
      have hy := h4 y (by simp)
      simp only [cds]
      rw [← cmn_comm, cmn_same hrl hy.1 hy.2, cmn_comm]
  rw [e2, e3, e4, List.mem_append]
  constructor
  · intro hq
    refine ⟨by rw [e1]; simp only [List.mem_append]; rcases hq with hq | hq <;> simp [hq], hout ?_⟩
    rw [e2, e3, e4, List.mem_append]; exact hq
  · rintro ⟨hq, hne⟩
    have hq0 := hq
    rw [e1] at hq
    simp only [List.mem_append] at hq
    rcases hq with hq | hq | hq
    · exact .inl hq
    · exfalso
      obtain ⟨a, ha, b, hb, rfl⟩ := cds_two hq
      rcases cmn_run (hok a (by rw [e]; simp [ha])) (h2 a ha) (h2 b hb) with e0 | e0
      · exact hne e0
      · rw [hlow _ hq0] at e0; cases e0
    · exact .inr hq
/-- what the others add stays, but above it -/
theorem ads_stay {L : List Fl} {d q : List UInt8} (h1 : q ≠ d) (h2 : abvV d q = false) (h3 : abvV q d = false) : ads (L.filter (fun f => !abvV d f.path)) q = ads L q := by
  unfold ads
  rw [List.filter_filter]
  congr 2
  refine filt_congr fun f _ => ?_
  cases e : abvV q f.path with
  | false => rfl
  | true =>
    cases e2 : abvV d f.path with
    | false => rfl
    | true =>
      exfalso
      rcases abv_comp e e2 with e3 | e3 | e3
      · exact h1 e3
      · rw [h3] at e3; cases e3
      · rw [h2] at e3; cases e3
theorem ads_zero {L : List Fl} {d : List UInt8} : ads (L.filter (fun f => !abvV d f.path)) d = 0 := by
  unfold ads
  rw [List.filter_filter, filt_congr (g := fun _ => false) fun f _ => by cases abvV d f.path <;> rfl, List.filter_eq_nil_iff.2 (by simp)]
  rfl
end Go.Proofs.YtbaheiimcnfaaaaGreat
