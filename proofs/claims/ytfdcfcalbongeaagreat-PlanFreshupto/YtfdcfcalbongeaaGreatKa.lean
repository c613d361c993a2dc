/-
  The landed plan, plain: what Make and Dirty gather.
-/
import Derived.Test.YtfdcfcalbongeaaGreatJWg
namespace Go.Proofs.YtfdcfcalbongeaaGreat

/-- what is not in b -/
def woL (a b : List (List UInt8)) : List (List UInt8) := a.filter fun p => !decide (p ∈ b)
theorem wo_paths (old now : List Fl) : woL (old.map Fl.path) (now.map Fl.path) = (old.filter fun f => !hasF now f.path).map Fl.path := by
  unfold woL
  rw [List.filter_map]
  congr 1
  refine List.filter_congr fun f _ => ?_
  have : decide (f.path ∈ now.map Fl.path) = hasF now f.path := by
    rw [Bool.eq_iff_iff, decide_eq_true_eq, hasF_iff, List.mem_map]
  simp only [Function.comp, this]
theorem mk_parts (old now : List Fl) : mkS old now = (woL (old.map Fl.path) (now.map Fl.path)).reverse.map sDel ++ ((woL (nds old) (nds now)).reverse.map sRm ++ ((woL (nds now) (nds old)).map sMk ++ (pW old now).map sWr)) := by
  rw [wo_paths]
  rfl
theorem up_paths {l : List Fl} (h : FUp l) : Up (l.map Fl.path) := List.pairwise_map.2 h
/-- what Find answers, held against a file -/
theorem wr_test {old : List Fl} (h : FUp old) {f : Fl} (hf : f.path ≠ []) : feq (fopt (fnd old f.path)) f = hasE old f := by
  rw [Bool.eq_iff_iff, feq_iff, hasE_iff]
  cases e : fnd old f.path with
  | none =>
    constructor
    · intro hz
      exact absurd (congrArg Fl.path hz).symm hf
    · intro hm
      have := (fnd_iff h).2 ⟨hm, rfl⟩
      rw [e] at this
      cases this
  | some g =>
    obtain ⟨h1, h2⟩ := (fnd_iff h).1 e
    constructor
    · rintro rfl
      exact h1
    · intro hm
      have := (fnd_iff h).2 ⟨hm, rfl⟩
      rw [e] at this
      injection this
/-- the first file of a path among one more -/
theorem fnd_snoc (l : List Fl) (f : Fl) (y : List UInt8) : fnd (l ++ [f]) y = match fnd l y with | some g => some g | none => if f.path = y then some f else none := by
  unfold fnd
  rw [List.find?_append]
  cases e : l.find? fun f => decide (f.path = y) with
  | some g => rfl
  | none =>
    by_cases h : f.path = y <;> simp [h]
/-- the paths at which steps take something away or lay a file -/
def tch (S : List Sp) : List (List UInt8) := (S.filter fun s => !(s.kind == 3)).map Sp.p
/-- touched, above or below -/
def itw (L : List (List UInt8)) (p : List UInt8) : Prop := ∃ t ∈ L, t = p ∨ abvV t p = true ∨ abvV p t = true
theorem itw_tops (L : List (List UInt8)) (p : List UInt8) : itw (hds (norm L)) p ↔ itw L p := by
  constructor
  · rintro ⟨t, ht, h⟩
    exact ⟨t, (mem_norm t L).1 (mem_hds.1 ht).1, h⟩
  · rintro ⟨s, hs, h⟩
    obtain ⟨t, ht, hc⟩ := hds_cover (norm L) _ s (Nat.le_refl _) ((mem_norm s L).2 hs)
    refine ⟨t, ht, ?_⟩
    rcases hc with rfl | hc
    · exact h
    · rcases h with rfl | h | h
      · exact .inr (.inl hc)
      · exact .inr (.inl (abv_trans hc h))
      · rcases abv_comp hc h with rfl | h1 | h1
        · exact .inl rfl
        · exact .inr (.inl h1)
        · exact .inr (.inr h1)
theorem mkS_kind {old now : List Fl} {s : Sp} (h : s ∈ mkS old now) : s.kind = 1 ∨ s.kind = 2 ∨ s.kind = 3 ∨ s.kind = 4 := by
  unfold mkS at h
  simp only [List.mem_append, List.mem_map] at h
  rcases h with ⟨p, _, rfl⟩ | ⟨p, _, rfl⟩ | ⟨p, _, rfl⟩ | ⟨p, _, rfl⟩
  · exact .inl rfl
  · exact .inr (.inl rfl)
  · exact .inr (.inr (.inl rfl))
  · exact .inr (.inr (.inr rfl))
theorem mkS_rm {old now : List Fl} {s : Sp} (h : s ∈ mkS old now) (hk : s.kind = 2) : s.p ∈ nds old ∧ s.p ∉ nds now := by
  unfold mkS at h
  simp only [List.mem_append, List.mem_map] at h
  rcases h with ⟨p, _, rfl⟩ | ⟨p, h, rfl⟩ | ⟨p, _, rfl⟩ | ⟨p, _, rfl⟩
  · exact absurd hk (show ¬ ((1 : Int) = 2) by decide)
  · unfold pR at h
    rw [List.mem_reverse, List.mem_filter] at h
    exact ⟨h.1, show p ∉ nds now by simpa using h.2⟩
  · exact absurd hk (show ¬ ((3 : Int) = 2) by decide)
  · exact absurd hk (show ¬ ((4 : Int) = 2) by decide)
theorem mem_tch {S : List Sp} {x : List UInt8} : x ∈ tch S ↔ ∃ s ∈ S, s.kind ≠ 3 ∧ s.p = x := by
  unfold tch
  simp only [List.mem_map, List.mem_filter, Bool.not_eq_true', beq_eq_false_iff_ne]
  constructor
  · rintro ⟨s, ⟨h1, h2⟩, h3⟩
    exact ⟨s, h1, h2, h3⟩
  · rintro ⟨s, h1, h2, h3⟩
    exact ⟨s, ⟨h1, h2⟩, h3⟩
/-- in the way of a plan: just at the touched paths, above them, below them -/
theorem stn_itw {old now : List Fl} (ho : validE old = 0) (hn : validE now = 0) (p : List UInt8) : stn (mkS old now) p = true ↔ itw (tch (mkS old now)) p := by
  obtain ⟨o1, -⟩ := new_parts ho
  obtain ⟨n1, -⟩ := new_parts hn
  unfold stn
  rw [List.any_eq_true]
  constructor
  · rintro ⟨s, hs, h⟩
    unfold stn1 at h
    simp only [Bool.or_eq_true, Bool.and_eq_true, beq_iff_eq] at h
    refine ⟨s.p, mem_tch.2 ⟨s, hs, ?_, rfl⟩, ?_⟩
    · rcases h with ⟨h1 | h1, -⟩ | ⟨h1, -⟩ <;> rw [h1] <;> decide
    · rcases h with ⟨-, (h1 | h1) | h1⟩ | ⟨-, h1 | h1⟩
      · exact .inl h1
      · exact .inr (.inr h1)
      · exact .inr (.inl h1)
      · exact .inl h1
      · exact .inr (.inl h1)
  · rintro ⟨t, ht, h⟩
    obtain ⟨s, hs, hk, rfl⟩ := mem_tch.1 ht
    by_cases h2 : s.kind = 2
    · by_cases ha : abvV p s.p = true
      · obtain ⟨m1, m2⟩ := mkS_rm hs h2
        obtain ⟨hd, f, hf, hab⟩ := (mem_nds o1).1 m1
        have hnf : hasF now f.path = false := by
          cases e : hasF now f.path with
          | false => rfl
          | true =>
            obtain ⟨g, hg, hgp⟩ := hasF_iff.1 e
            exact absurd ((mem_nds n1).2 ⟨hd, g, hg, by rw [hgp]; exact hab⟩) m2
        refine ⟨sDel f.path, ?_, ?_⟩
        · unfold mkS
          rw [List.mem_append]
          refine .inl (List.mem_map.2 ⟨f.path, ?_, rfl⟩)
          unfold pD
          rw [List.mem_reverse, List.mem_map]
          exact ⟨f, List.mem_filter.2 ⟨hf, by simp [hnf]⟩, rfl⟩
        · unfold stn1 sDel
          simp [abv_trans ha hab]
      · refine ⟨s, hs, ?_⟩
        unfold stn1
        simp only [Bool.or_eq_true, Bool.and_eq_true, beq_iff_eq]
        refine .inr ⟨h2, ?_⟩
        rcases h with h | h | h
        · exact .inl h
        · exact .inr h
        · exact absurd h ha
    · refine ⟨s, hs, ?_⟩
      unfold stn1
      simp only [Bool.or_eq_true, Bool.and_eq_true, beq_iff_eq]
      refine .inl ⟨?_, ?_⟩
      · rcases mkS_kind hs with h1 | h1 | h1 | h1
        · exact .inl h1
        · exact absurd h1 h2
        · exact absurd h1 hk
        · exact .inr h1
      · rcases h with h | h | h
        · exact .inl (.inl h)
        · exact .inr h
        · exact .inl (.inr h)
/-- how many stand ahead -/
def bef (L : List (List UInt8)) (p : List UInt8) : Nat := L.countP fun x => decide (cf x p < 0)
theorem bef_lt {L : List (List UInt8)} (h : Up L) (p : List UInt8) : ∀ (k : Nat) (hk : k < L.length), k < bef L p ↔ cf L[k] p < 0 := by
  unfold bef
  induction L with
  | nil => intro k hk; simp at hk
  | cons x r ih =>
    intro k hk
    obtain ⟨hx, hr⟩ := List.pairwise_cons.1 h
    by_cases hc : cf x p < 0
    · rw [List.countP_cons_of_pos (by simpa using hc)]
      cases k with
      | zero => simp [hc]
      | succ k =>
        have := ih hr k (by simpa using hk)
        rw [List.getElem_cons_succ, ← this]
        omega
    · have h0 : r.countP (fun x => decide (cf x p < 0)) = 0 := by
        rw [List.countP_eq_zero]
        intro z hz
        simp only [decide_eq_true_eq]
        intro h2
        exact hc (cf_trans (hx z hz) h2)
      rw [List.countP_cons_of_neg (by simpa using hc), h0]
      cases k with
      | zero => simp [hc]
      | succ k =>
        rw [List.getElem_cons_succ]
        constructor
        · intro h; omega
        · intro h2
          exact absurd (cf_trans (hx _ (List.getElem_mem _)) h2) hc
theorem bef_le (L : List (List UInt8)) (p : List UInt8) : bef L p ≤ L.length := List.countP_le_length
/-- what inTheWay looks at: p itself, the one ahead, the one behind -/
def itwB (L : List (List UInt8)) (p : List UInt8) : Bool :=
  decide (p ∈ L) || (decide (0 < bef L p) && abvV (L.getD (bef L p - 1) []) p) || (decide (bef L p < L.length) && abvV p (L.getD (bef L p) []))
theorem itwB_iff {L : List (List UInt8)} (h : Up L) (ha : ∀ a ∈ L, ∀ b ∈ L, abvV a b = false) (p : List UInt8) : itwB L p = true ↔ itw L p := by
  unfold itwB
  simp only [Bool.or_eq_true, Bool.and_eq_true, decide_eq_true_eq]
  have hb := bef_le L p
  constructor
  · rintro ((h1 | ⟨h1, h2⟩) | ⟨h1, h2⟩)
    · exact ⟨p, h1, .inl rfl⟩
    · have hl : bef L p - 1 < L.length := by omega
      rw [List.getD_eq_getElem?_getD, List.getElem?_eq_getElem hl] at h2
      exact ⟨_, List.getElem_mem hl, .inr (.inl h2)⟩
    · rw [List.getD_eq_getElem?_getD, List.getElem?_eq_getElem h1] at h2
      exact ⟨_, List.getElem_mem h1, .inr (.inr h2)⟩
  · rintro ⟨t, ht, rfl | h1 | h1⟩
    · exact .inl (.inl ht)
    · refine .inl (.inr ?_)
      obtain ⟨k, hk, rfl⟩ := List.getElem_of_mem ht
      have hkb := (bef_lt h p k hk).2 (abv_cf h1)
      have hl : bef L p - 1 < L.length := by omega
      refine ⟨by omega, ?_⟩
      rw [List.getD_eq_getElem?_getD, List.getElem?_eq_getElem hl]
      by_cases e : k = bef L p - 1
      · subst e
        exact h1
      · exfalso
        have hlt : cf L[k] L[bef L p - 1] < 0 := up_get h (by omega) hl
        have hlp := (bef_lt h p (bef L p - 1) hl).1 (by omega)
        have := abv_between h1 hlt hlp
        rw [ha _ (List.getElem_mem hk) _ (List.getElem_mem hl)] at this
        cases this
    · refine .inr ?_
      obtain ⟨k, hk, rfl⟩ := List.getElem_of_mem ht
      have hkb : ¬ k < bef L p := fun hx => by
        have h2 := (bef_lt h p k hk).1 hx
        have h3 := abv_cf h1
        rw [cf_neg] at h3
        omega
      have hl : bef L p < L.length := by omega
      refine ⟨hl, ?_⟩
      rw [List.getD_eq_getElem?_getD, List.getElem?_eq_getElem hl]
      by_cases e : k = bef L p
      · subst e
        exact h1
      · have hlt : cf L[bef L p] L[k] < 0 := up_get h (by omega) hk
        have hnp : ¬ cf L[bef L p] p < 0 := fun hx => by
          have := (bef_lt h p _ hl).2 hx
          omega
        by_cases e2 : L[bef L p] = p
        · have hpk : abvV L[bef L p] L[k] = true := by rw [e2]; exact h1
          rw [ha _ (List.getElem_mem hl) _ (List.getElem_mem hk)] at hpk
          cases hpk
        · have hpl : cf p L[bef L p] < 0 := by
            have h5 := cf_neg L[bef L p] p
            have h6 : cf L[bef L p] p ≠ 0 := fun h0 => e2 (cf_zero.1 h0)
            omega
          exact abv_between h1 hpl hlt
theorem hds_anti (L : List (List UInt8)) : ∀ a ∈ hds L, ∀ b ∈ hds L, abvV a b = false := fun a h1 _ h2 => (mem_hds.1 h2).2 a (mem_hds.1 h1).1
/-- what inTheWay answers of a plan's tops -/
theorem itwB_stn {old now : List Fl} (ho : validE old = 0) (hn : validE now = 0) (p : List UInt8) : itwB (hds (norm (tch (mkS old now)))) p = stn (mkS old now) p := by
  rw [Bool.eq_iff_iff, itwB_iff (hds_up (up_norm _)) (hds_anti _), itw_tops, stn_itw ho hn]
theorem chg_mem {files old : List Fl} {p : List UInt8} (h : chg files old p = true) : p ∈ files.map Fl.path ++ old.map Fl.path := by
  by_cases h1 : p ∈ files.map Fl.path ++ old.map Fl.path
  · exact h1
  · rw [List.mem_append, not_or] at h1
    have e : ∀ l : List Fl, p ∉ l.map Fl.path → fnd l p = none := fun l hl => by
      rw [fnd_none]
      cases e : hasF l p with
      | false => rfl
      | true =>
        obtain ⟨f, hf, hp⟩ := hasF_iff.1 e
        exact absurd (List.mem_map.2 ⟨f, hf, hp⟩) hl
    unfold chg at h
    rw [e _ h1.1, e _ h1.2] at h
    cases h
/-- the list that Dirty answers -/
theorem drt_of {files old now : List Fl} (ho : validE old = 0) (hn : validE now = 0) {C R : List (List UInt8)} (hc : C.Nodup) (hm : ∀ x, x ∈ C ↔ chg files old x = true)
    (hp : R.Perm (C.filter fun p => itwB (hds (norm (tch (mkS old now)))) p)) (hs : R.Pairwise fun a b => cf a b ≤ 0) : R = drt files old now := by
  have hn2 : R.Nodup := hp.nodup_iff.2 (hc.filter _)
  have hu : Up R := by
    have := hs.and hn2
    refine this.imp fun {a b} h => ?_
    have : cf a b ≠ 0 := fun h0 => h.2 (cf_zero.1 h0)
    omega
  refine up_unique hu (up_drt files old now) fun x => ?_
  rw [hp.mem_iff, List.mem_filter, hm, mem_drt, itwB_stn ho hn]
  constructor
  · rintro ⟨h1, h2⟩
    exact ⟨chg_mem h1, h1, h2⟩
  · rintro ⟨_, h1, h2⟩
    exact ⟨h1, h2⟩
end Go.Proofs.YtfdcfcalbongeaaGreat
