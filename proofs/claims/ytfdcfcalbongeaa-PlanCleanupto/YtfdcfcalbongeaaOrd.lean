/-
  The order of paths, and what is above: plain lists.
-/
import Derived.Test.YtfdcfcalbongeaaPure
namespace Go.Proofs.Ytfdcfcalbongeaa

theorem join_snoc_ne (p : List UInt8) (r : List (List UInt8)) (h : r ≠ []) : join (p :: r) = p ++ 47 :: join r := join_cons p r h
theorem join_cut : ∀ (L : List (List UInt8)) (k : Nat), 0 < k → k < L.length → join L = join (L.take k) ++ 47 :: join (L.drop k)
  | [], _, _, h => by simp at h
  | p :: r, 1, _, h => by
    have hr : r ≠ [] := by rintro rfl; simp at h
    rw [join_cons p r hr]; rfl
  | p :: r, k + 2, _, h => by
    have hl : k + 1 < r.length := by simp at h; omega
    have hr : r ≠ [] := by rintro rfl; simp at hl
    have ih := join_cut r (k + 1) (by omega) hl
    have ht : r.take (k + 1) ≠ [] := by
      intro e
      have := congrArg List.length e
      rw [List.length_take, List.length_nil] at this
      omega
    rw [join_cons p r hr, List.take_succ_cons, List.drop_succ_cons, join_cons p _ ht, ih]; simp
theorem cmn_len_iff (a b : List UInt8) : (cmn a b).length = a.length ↔ com (pcs a) (pcs b) = (pcs a).length := by
  constructor
  · intro h
    have hle := (com_le (pcs a) (pcs b)).1
    by_cases he : com (pcs a) (pcs b) = (pcs a).length
    · exact he
    · have hlt : com (pcs a) (pcs b) < (pcs a).length := by omega
      by_cases h0 : com (pcs a) (pcs b) = 0
      · unfold cmn at h
        rw [h0] at h
        have : a = [] := List.eq_nil_of_length_eq_zero (by simpa [join] using h.symm)
        subst this
        simp [pcs] at hlt
      · have hc := join_cut (pcs a) _ (by omega) hlt
        rw [join_pcs] at hc
        have := congrArg List.length hc
        unfold cmn at h
        rw [List.length_append, h] at this
        simp at this
  · intro h
    unfold cmn
    rw [h, List.take_length, join_pcs]
theorem com_pre : ∀ (A B : List (List UInt8)), com A B = A.length ↔ ∃ r, B = A ++ r
  | [], B => by simp [com]
  | p :: ps, [] => by simp [com]
  | p :: ps, q :: qs => by
    unfold com
    by_cases h : p = q
    · subst h
      rw [if_pos rfl, List.length_cons, Nat.add_right_cancel_iff, com_pre ps qs]
      simp
    · rw [if_neg h]
      constructor
      · intro e; simp at e
      · rintro ⟨r, e⟩; simp at e; exact absurd e.1.symm h
theorem cmpP_app : ∀ (A r : List (List UInt8)), r ≠ [] → cmpP A (A ++ r) = -1
  | [], r, h => by
    cases r with
    | nil => exact absurd rfl h
    | cons => rfl
  | p :: ps, r, h => by
    rw [List.cons_append]; unfold cmpP; rw [if_pos (cb_refl p), cmpP_app ps r h]
theorem cmpP_between : ∀ (A B r : List (List UInt8)), cmpP A B = -1 → cmpP B (A ++ r) ≤ 0 → ∃ s, s ≠ [] ∧ B = A ++ s
  | [], [], _, h, _ => by simp [cmpP] at h
  | [], q :: qs, _, _, _ => ⟨q :: qs, by simp, rfl⟩
  | _ :: _, [], _, h, _ => by simp [cmpP] at h
  | p :: ps, q :: qs, r, h, h' => by
    rw [List.cons_append] at h'
    unfold cmpP at h h'
    by_cases h0 : Lib.compareBytes p q = 0
    · have := cb_zero h0; subst this
      rw [if_pos h0] at h
      rw [if_pos h0] at h'
      obtain ⟨s, hs, e⟩ := cmpP_between ps qs r h h'
      exact ⟨s, hs, by rw [e]; rfl⟩
    · rw [if_neg h0] at h
      have hn := cb_neg p q
      rw [h] at hn
      rw [if_neg (by omega)] at h'
      omega
/-- as the program says it -/
def abvV (a b : List UInt8) : Bool := decide ((cmn a b).length = a.length) && decide (cmpP (pcs a) (pcs b) < 0)
theorem abvV_iff (a b : List UInt8) : abvV a b = true ↔ ∃ r, r ≠ [] ∧ pcs b = pcs a ++ r := by
  unfold abvV
  rw [Bool.and_eq_true, decide_eq_true_eq, decide_eq_true_eq, cmn_len_iff, com_pre]
  constructor
  · rintro ⟨⟨r, hr⟩, h⟩
    refine ⟨r, ?_, hr⟩
    rintro rfl
    rw [hr, List.append_nil, cmpP_refl] at h
    omega
  · rintro ⟨r, hne, hr⟩
    exact ⟨⟨r, hr⟩, by rw [hr, cmpP_app _ _ hne]; omega⟩
theorem abvV_eq (a b : List UInt8) : abvV a b = abv (pcs a) (pcs b) := by
  rw [Bool.eq_iff_iff, abvV_iff]
  unfold abv
  rw [Bool.and_eq_true, decide_eq_true_eq, decide_eq_true_eq, com_pre]
  constructor
  · rintro ⟨r, hne, hr⟩
    refine ⟨?_, r, hr⟩
    have := List.length_pos_iff.2 hne
    rw [hr, List.length_append]; omega
  · rintro ⟨hl, r, hr⟩
    refine ⟨r, ?_, hr⟩
    rintro rfl
    rw [hr] at hl; simp at hl

/-- all that PathOrder asks -/
structure OrdFacts (a b c : List UInt8) (x y z : Int) (AC AB BA BC AA NA : Bool) : Prop where
  anti : cmpP (pcs b) (pcs a) = -x
  zero : x = 0 ↔ a = b
  lo : -1 ≤ x
  hi : x ≤ 1
  yhi : y ≤ 1
  trans : x ≤ 0 → y ≤ 0 → z ≤ 0
  ac : AC = true → z = -1
  btw : AC = true → x = -1 → y ≤ 0 → AB = true
  abx : AB = true → x = -1
  bcy : BC = true → y = -1
  asym : AB = true → BA = false
  tr : AB = true → BC = true → AC = true
  irr : AA = false
  root : NA = !a.isEmpty
theorem le_trans_cmp (A B C : List (List UInt8)) (h : cmpP A B ≤ 0) (k : cmpP B C ≤ 0) : cmpP A C ≤ 0 := by
  rcases cmpP_range A B with h1 | h1 | h1
  · rcases cmpP_range B C with k1 | k1 | k1
    · rw [cmpP_trans A B C h1 k1]; omega
    · rw [← cmpP_zero k1]; omega
    · omega
  · rw [cmpP_zero h1]; exact k
  · omega
theorem ord_facts (a b c : List UInt8) : OrdFacts a b c (cmpP (pcs a) (pcs b)) (cmpP (pcs b) (pcs c)) (cmpP (pcs a) (pcs c)) (abvV a c) (abvV a b) (abvV b a) (abvV b c) (abvV a a) (abvV [] a) := by
  have hx := cmpP_range (pcs a) (pcs b)
  have hy := cmpP_range (pcs b) (pcs c)
  refine ⟨cmpP_neg _ _, ⟨fun h => pcs_inj (cmpP_zero h), fun h => by rw [h, cmpP_refl]⟩, by omega, by omega, by omega, le_trans_cmp _ _ _, ?_, ?_, ?_, ?_, ?_, ?_, ?_, ?_⟩
  · intro h; obtain ⟨r, hr, e⟩ := (abvV_iff a c).1 h; rw [e, cmpP_app _ _ hr]
  · intro h h1 h2
    obtain ⟨r, hr, e⟩ := (abvV_iff a c).1 h
    rw [e] at h2
    obtain ⟨s, hs, e2⟩ := cmpP_between _ _ r h1 h2
    exact (abvV_iff a b).2 ⟨s, hs, e2⟩
  · intro h; obtain ⟨r, hr, e⟩ := (abvV_iff a b).1 h; rw [e, cmpP_app _ _ hr]
  · intro h; obtain ⟨r, hr, e⟩ := (abvV_iff b c).1 h; rw [e, cmpP_app _ _ hr]
  · intro h
    obtain ⟨r, hr, e⟩ := (abvV_iff a b).1 h
    cases hb : abvV b a
    · rfl
    · obtain ⟨s, hs, e2⟩ := (abvV_iff b a).1 hb
      have h1 := congrArg List.length e
      have h2 := congrArg List.length e2
      have := List.length_pos_iff.2 hr
      rw [List.length_append] at h1 h2
      omega
  · intro h k
    obtain ⟨r, hr, e⟩ := (abvV_iff a b).1 h
    obtain ⟨s, hs, e2⟩ := (abvV_iff b c).1 k
    exact (abvV_iff a c).2 ⟨r ++ s, by simp [hr], by rw [e2, e]; simp⟩
  · cases h : abvV a a
    · rfl
    · obtain ⟨r, hr, e⟩ := (abvV_iff a a).1 h
      have h1 := congrArg List.length e
      have := List.length_pos_iff.2 hr
      rw [List.length_append] at h1
      omega
  · cases a with
    | nil => decide
    | cons x l =>
      have : abvV [] (x :: l) = true := (abvV_iff _ _).2 ⟨pcs (x :: l), by rw [Ne, pcs_eq_nil]; simp, rfl⟩
      rw [this]; rfl
end Go.Proofs.Ytfdcfcalbongeaa
