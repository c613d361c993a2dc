/-
  The step to fewer cones, and all steps, as plain lists.
-/
import Derived.Test.YtkopjamednedfaaGreatMg1
namespace Go.Proofs.YtkopjamednedfaaGreat

/-- of each two neighbours the deepest directory above both -/
def cds : List (List UInt8) → List (List UInt8)
  | a :: b :: r => cmn a b :: cds (b :: r)
  | _ => []
theorem cds_mem : ∀ {k : List (List UInt8)} {p : List UInt8}, k.Pairwise (fun a b => fol a b = true) → p ∈ cds k → ∃ a ∈ k, ∃ b ∈ k, cf a b < 0 ∧ p = cmn a b
  | a :: b :: r, p, hk, h => by
    obtain ⟨h1, h2⟩ := List.pairwise_cons.1 hk
    rcases List.mem_cons.1 h with rfl | h
    · exact ⟨a, by simp, b, by simp, (fol_iff.1 (h1 b (by simp))).1, rfl⟩
    · obtain ⟨x, hx, y, hy, hc, e⟩ := cds_mem h2 h
      exact ⟨x, by simp [hx], y, by simp [hy], hc, e⟩
  | [a], p, _, h => by cases h
  | [], p, _, h => by cases h
theorem cds_nil {k : List (List UInt8)} : cds k = [] ↔ k.length < 2 := by
  match k with
  | [] => simp [cds]
  | [a] => simp [cds]
  | a :: b :: r => simp [cds]
theorem cds_len : ∀ k : List (List UInt8), (cds k).length = k.length - 1
  | [] => rfl
  | [_] => rfl
  | a :: b :: r => by
    have := cds_len (b :: r)
    simp only [cds, List.length_cons] at this ⊢
    omega
theorem cds_get : ∀ (k : List (List UInt8)) (i : Nat) (h : i + 1 < k.length), (cds k)[i]? = some (cmn k[i] k[i + 1])
  | a :: b :: r, 0, _ => rfl
  | a :: b :: r, i + 1, h => by
    have := cds_get (b :: r) i (by simpa using h)
    simpa [cds] using this
  | [a], i, h => by simp at h
  | [], i, h => by simp at h
/-- what merging at p costs -/
def cw (l : List Fl) (k : List (List UInt8)) (p : List UInt8) : Int := cst l (wid p false k)
/-- is p better than q? -/
def btr (l : List Fl) (k : List (List UInt8)) (p q : List UInt8) : Bool := decide (cw l k p < cw l k q) || (decide (cw l k p = cw l k q) && (decide (dep q < dep p) || (decide (dep p = dep q) && decide (cf p q < 0))))
def bstF (l : List Fl) (k : List (List UInt8)) : List UInt8 → List (List UInt8) → List UInt8
  | q, [] => q
  | q, p :: r => bstF l k (if btr l k p q then p else q) r
theorem bst_mem {l : List Fl} {k : List (List UInt8)} : ∀ (r : List (List UInt8)) (q : List UInt8), bstF l k q r ∈ q :: r
  | [], q => by simp [bstF]
  | p :: r, q => by
    have := bst_mem (l := l) (k := k) r (if btr l k p q then p else q)
    unfold bstF
    rcases List.mem_cons.1 this with h | h
    · rw [h]
      split <;> simp
    · simp [h]
theorem bst_least {l : List Fl} {k : List (List UInt8)} : ∀ (r : List (List UInt8)) (q : List UInt8), ∀ p ∈ q :: r, cw l k (bstF l k q r) ≤ cw l k p
  | [], q, p, hp => by
    rw [List.mem_singleton.1 hp]
    exact Int.le_refl _
  | x :: r, q, p, hp => by
    have ih := bst_least (l := l) (k := k) r (if btr l k x q then x else q)
    unfold bstF
    have hq := ih _ (by simp : (if btr l k x q then x else q) ∈ _)
    have hb : cw l k (if btr l k x q then x else q) ≤ cw l k x ∧ cw l k (if btr l k x q then x else q) ≤ cw l k q := by
      cases e : btr l k x q with
      | true =>
        rw [if_pos rfl]
        refine ⟨Int.le_refl _, ?_⟩
        unfold btr at e
        simp only [Bool.or_eq_true, Bool.and_eq_true, decide_eq_true_eq] at e
        omega
      | false =>
        rw [if_neg (by simp)]
        refine ⟨?_, Int.le_refl _⟩
        unfold btr at e
        simp only [Bool.or_eq_false_iff, decide_eq_false_iff_not] at e
        omega
    rcases List.mem_cons.1 hp with rfl | hp
    · omega
    · rcases List.mem_cons.1 hp with rfl | hp
      · omega
      · exact ih p (by simp [hp])
/-- one step -/
def stp (l : List Fl) (k : List (List UInt8)) : List (List UInt8) := match cds k with
  | [] => k
  | p :: r => wid (bstF l k p r) false k
theorem stp_at {l : List Fl} {k : List (List UInt8)} (h2 : 2 ≤ k.length) : ∃ d ∈ cds k, stp l k = wid d false k ∧ ∀ p ∈ cds k, cw l k d ≤ cw l k p := by
  unfold stp
  cases e : cds k with
  | nil => rw [cds_nil] at e; omega
  | cons p r => exact ⟨_, bst_mem r p, rfl, bst_least r p⟩
theorem stp_short {l : List Fl} {k : List (List UInt8)} (h : k.length < 2) : stp l k = k := by
  unfold stp
  rw [cds_nil.2 h]
section
variable {l : List Fl} {k : List (List UInt8)}
theorem cone_two (h : coneE k = 0) {d : List UInt8} (hd : d ∈ cds k) : ∃ a ∈ k, ∃ b ∈ k, a ≠ b ∧ d = cmn a b ∧ okP d = true ∧ (a = d ∨ abvV d a = true) ∧ (b = d ∨ abvV d b = true) ∧ ∀ c ∈ k, abvV c d = false := by
  have hk := coneB_iff.1 (coneE_zero.1 h)
  obtain ⟨a, ha, b, hb, hc, rfl⟩ := cds_mem hk.2 hd
  refine ⟨a, ha, b, hb, fun e => ?_, rfl, okP_cmn (hk.1 a ha), cmn_in (hk.1 a ha), cmn_in2 (hk.1 b hb), fun c hcc => ?_⟩
  · subst e
    have : cf a a = 0 := cf_zero.2 rfl
    omega
  · cases e : abvV c (cmn a b) with
    | false => rfl
    | true =>
      have h1 : abvV c a = true := by
        rcases cmn_in (b := b) (hk.1 a ha) with e2 | e2
        · rw [← e2] at e; exact e
        · exact abv_trans e e2
      rw [cone_anti h hcc ha] at h1
      cases h1
theorem wid_two (h : coneE k = 0) {d : List UInt8} (hd : d ∈ cds k) : coneE (wid d false k) = 0 ∧ (wid d false k).length < k.length ∧ 1 ≤ (wid d false k).length := by
  obtain ⟨a, ha, b, hb, hne, _, hok, ea, eb, han⟩ := cone_two h hd
  refine ⟨wid_cones h hok han, wid_fewer ha hb hne ea eb, ?_⟩
  rcases wid_cover (d := d) (done := false) ha with ⟨h1, _⟩ | ⟨x, hx, _⟩
  · cases h1
  · exact List.length_pos_of_mem hx
theorem stp_ok (h : coneE k = 0) : coneE (stp l k) = 0 := by
  by_cases h2 : 2 ≤ k.length
  · obtain ⟨d, hd, e, _⟩ := stp_at (l := l) h2
    rw [e]; exact (wid_two h hd).1
  · rw [stp_short (by omega)]; exact h
theorem stp_fewer (h : coneE k = 0) (h2 : 2 ≤ k.length) : (stp l k).length < k.length ∧ 1 ≤ (stp l k).length := by
  obtain ⟨d, hd, e, _⟩ := stp_at (l := l) h2
  rw [e]; exact (wid_two h hd).2
theorem stp_cover {c : List UInt8} (hc : c ∈ k) : ∃ x ∈ stp l k, x = c ∨ abvV x c = true := by
  by_cases h2 : 2 ≤ k.length
  · obtain ⟨d, _, e, _⟩ := stp_at (l := l) h2
    rw [e]
    rcases wid_cover (d := d) (done := false) hc with ⟨h1, _⟩ | h1
    · cases h1
    · exact h1
  · rw [stp_short (by omega)]; exact ⟨c, hc, .inl rfl⟩
theorem stp_shows {p : List UInt8} (hp : shw k p = true) : shw (stp l k) p = true := by
  by_cases h2 : 2 ≤ k.length
  · obtain ⟨d, _, e, _⟩ := stp_at (l := l) h2
    rw [e]; exact wid_shows hp
  · rw [stp_short (by omega)]; exact hp
theorem stp_costs (hz : ∀ x ∈ l, 0 ≤ x.size) : cst l k ≤ cst l (stp l k) := cst_le hz (fun _ hp => stp_shows hp)
theorem stp_least (h2 : 2 ≤ k.length) {p : List UInt8} (hp : p ∈ cds k) : cst l (stp l k) ≤ cst l (wid p false k) := by
  obtain ⟨d, _, e, hl⟩ := stp_at (l := l) h2
  rw [e]; exact hl p hp
end
/-- all steps -/
def dwnF (l : List Fl) (b : Nat) : Nat → List (List UInt8) → List (List UInt8)
  | 0, k => k
  | n + 1, k => if k.length ≤ b then k else dwnF l b n (stp l k)
def dwn (l : List Fl) (b : Nat) (k : List (List UInt8)) : List (List UInt8) := dwnF l b k.length k
theorem dwn_fuel {l : List Fl} {b : Nat} (hb : 1 ≤ b) : ∀ (n : Nat) (k : List (List UInt8)), coneE k = 0 → k.length ≤ n → dwnF l b n k = dwn l b k
  | 0, k, _, hn => by
    have : k = [] := List.eq_nil_of_length_eq_zero (by omega)
    subst this
    rfl
  | n + 1, k, hk, hn => by
    unfold dwn
    by_cases hl : k.length ≤ b
    · rw [dwnF, if_pos hl]
      cases e : k.length with
      | zero => rfl
      | succ m => rw [dwnF, if_pos hl]
    · have h2 : 2 ≤ k.length := by omega
      have hf := (stp_fewer (l := l) hk h2).1
      obtain ⟨m, hm⟩ : ∃ m, k.length = m + 1 := ⟨k.length - 1, by omega⟩
      rw [hm, dwnF, if_neg hl, dwnF, if_neg hl, dwn_fuel hb n _ (stp_ok hk) (by omega), dwn_fuel hb m _ (stp_ok hk) (by omega)]
  termination_by n => n
  decreasing_by all_goals omega
theorem dwn_done {l : List Fl} {b : Nat} {k : List (List UInt8)} (h : k.length ≤ b) : dwn l b k = k := by
  unfold dwn
  cases e : k.length with
  | zero => rfl
  | succ n => rw [dwnF, if_pos h]
theorem dwn_step {l : List Fl} {b : Nat} {k : List (List UInt8)} (hb : 1 ≤ b) (hk : coneE k = 0) (h : b < k.length) : dwn l b k = dwn l b (stp l k) := by
  have h2 : 2 ≤ k.length := by omega
  have hf := (stp_fewer (l := l) hk h2).1
  obtain ⟨m, hm⟩ : ∃ m, k.length = m + 1 := ⟨k.length - 1, by omega⟩
  rw [dwn, hm, dwnF, if_neg (by omega), dwn_fuel hb m _ (stp_ok hk) (by omega)]
end Go.Proofs.YtkopjamednedfaaGreat
