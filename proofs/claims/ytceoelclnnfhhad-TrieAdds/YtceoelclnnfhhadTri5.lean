/-
  From a directory down each file once; sums by halves.
-/
import Derived.Test.YtceoelclnnfhhadTri4
namespace Go.Proofs.Ytceoelclnnfhhad

def csum (M : List Fl) : List (List UInt8) → Nat
  | [] => 0
  | x :: r => cnt M (pcs x) + csum M r
theorem csum_snoc (M : List Fl) : ∀ (X : List (List UInt8)) (x : List UInt8), csum M (X ++ [x]) = csum M X + cnt M (pcs x)
  | [], x => by simp [csum]
  | y :: r, x => by simp only [List.cons_append, csum, csum_snoc M r x]; omega
theorem csum_nil : ∀ X, csum [] X = 0
  | [] => rfl
  | x :: r => by simp [csum, cnt, csum_nil r]
theorem csum_cons (f : Fl) (M : List Fl) : ∀ X, csum (f :: M) X = (X.countP fun x => pre (pcs x) (pp f)) + csum M X
  | [] => rfl
  | x :: r => by
    simp only [csum, csum_cons f M r, cnt, List.countP_cons]; omega
theorem split_all {q : Q} {X : List (List UInt8)} : ∀ (M : List Fl), (∀ f ∈ M, (if pre q (pp f) then 1 else 0) = (if (pp f).dropLast = q then 1 else 0) + X.countP fun x => pre (pcs x) (pp f)) →
    cnt M q = (M.countP fun f => (pp f).dropLast == q) + csum M X
  | [], _ => by simp [cnt, csum_nil]
  | f :: r, h => by
    have ih := split_all r (fun g hg => h g (by simp [hg]))
    have hf := h f (by simp)
    rw [cnt, ih, hf, csum_cons, List.countP_cons]
    by_cases e : (pp f).dropLast = q
    · simp [e]; omega
    · simp [e]; omega
theorem count_one {X : List (List UInt8)} {y : List UInt8} {P : List UInt8 → Bool} (hn : X.Nodup) (hy : y ∈ X) (hP : ∀ x ∈ X, P x = true ↔ x = y) : X.countP P = 1 := by
  induction X with
  | nil => simp at hy
  | cons x r ih =>
    have hn' := List.nodup_cons.1 hn
    rw [List.countP_cons]
    by_cases e : x = y
    · subst e
      have h0 : r.countP P = 0 := by
        rw [List.countP_eq_zero]
        intro z hz hPz
        have := (hP z (by simp [hz])).1 hPz
        subst this; exact hn'.1 hz
      rw [h0, (hP x (by simp)).2 rfl]; rfl
    · have h1 := ih hn'.2 (by rcases List.mem_cons.1 hy with h | h; exact absurd h.symm e; exact h) (fun z hz => hP z (by simp [hz]))
      have : P x = false := by
        cases h : P x
        · rfl
        · exact absurd ((hP x (by simp)).1 h) e
      rw [h1, this]; rfl
theorem up_nodup {X : List (List UInt8)} (h : Up X) : X.Nodup := h.imp (fun {a b} h e => by subst e; rw [cf_self] at h; omega)
/-- how many are in and below: those in it, and those below what is in it -/
theorem cnt_split {L : List Fl} (h : Good L) {d : List UInt8} {X Y : List (List UInt8)} (hX : Up X) (mX : ∀ x, x ∈ X ↔ inS L true d x) (hY : Up Y) (mY : ∀ x, x ∈ Y ↔ inS L false d x) :
    cnt L (pcs d) = X.length + csum L Y := by
  rw [split_all (X := Y) (q := pcs d) L ?_]
  · congr 1
    have hperm : X.Perm ((L.filter fun f => (pp f).dropLast == pcs d).map (·.path)) := by
      refine (List.perm_ext_iff_of_nodup (up_nodup hX) ?_).2 (fun x => ?_)
      · rw [List.Nodup, List.pairwise_map]
        exact (h.apart.filter _).imp (fun {f g} hfg e => hfg.1 (by unfold pp; rw [e]))
      · rw [mX, ← mem_rfiles h]
        unfold rfiles
        simp only [List.mem_map, List.mem_filter, beq_iff_eq]
        constructor
        · rintro ⟨f, ⟨hf, hd⟩, rfl⟩
          exact ⟨f, ⟨hf, (dir_eq h hf d).1 hd⟩, rfl⟩
        · rintro ⟨f, ⟨hf, hd⟩, rfl⟩
          exact ⟨f, ⟨hf, (dir_eq h hf d).2 hd⟩, rfl⟩
    rw [hperm.length_eq, List.length_map, List.countP_eq_length_filter]
  · intro f hf
    have hne : pp f ≠ [] := h.ne f hf
    have hpY : ∀ y ∈ Y, ∃ n, pcs y = pcs d ++ [n] := by
      intro y hy
      obtain ⟨n, z, hs, _, rfl⟩ := (mY y).1 hy
      exact ⟨n, (pcs_of h (by rw [hs]; rfl)).1⟩
    by_cases hp : pre (pcs d) (pp f) = true
    · rw [if_pos hp]
      obtain ⟨n, r, e⟩ := pre_iff.1 hp
      cases r with
      | nil =>
        have e1 : (pp f).dropLast = pcs d := by rw [e]; simp
        rw [if_pos e1]
        have : (Y.countP fun x => pre (pcs x) (pp f)) = 0 := by
          rw [List.countP_eq_zero]
          intro y hy hpy
          obtain ⟨m, em⟩ := hpY y hy
          have := pre_len hpy
          rw [em, e] at this; simp at this
        omega
      | cons m r =>
        have e1 : ¬ (pp f).dropLast = pcs d := by
          intro e2
          have := congrArg List.length e2
          rw [e] at this; simp at this
        rw [if_neg e1]
        have hpn : pre (pcs d ++ [n]) (pp f) = true := pre_iff.2 ⟨m, r, by rw [e]; simp⟩
        have hs := st_dir h (.inr ⟨f, hf, hpn⟩)
        have hin : join (pcs d ++ [n]) ∈ Y := (mY _).2 ⟨n, _, hs, rfl, rfl⟩
        have hpc := (pcs_of h (q := pcs d ++ [n]) (by rw [hs]; rfl)).1
        rw [count_one (up_nodup hY) hin]
        intro y hy
        obtain ⟨k, ek⟩ := hpY y hy
        constructor
        · intro hpy
          rw [ek] at hpy
          obtain ⟨a, t, e3⟩ := pre_iff.1 hpy
          rw [e, List.append_assoc] at e3
          have e4 := List.append_cancel_left e3
          simp only [List.singleton_append, List.cons.injEq] at e4
          rw [← e4.1] at ek
          exact pcs_inj (ek.trans hpc.symm)
        · rintro rfl
          rw [hpc]; exact hpn
    · rw [if_neg hp]
      have e1 : ¬ (pp f).dropLast = pcs d := fun e => hp (drop_pre hne e)
      rw [if_neg e1]
      have : (Y.countP fun x => pre (pcs x) (pp f)) = 0 := by
        rw [List.countP_eq_zero]
        intro y hy hpy
        obtain ⟨m, em⟩ := hpY y hy
        rw [em] at hpy
        exact hp (pre_snoc hpy)
      omega
/-- a file in or below is in it, or below what is in it -/
theorem below_split {L : List Fl} (h : Good L) {d : List UInt8} {X Y : List (List UInt8)} (mX : ∀ x, x ∈ X ↔ inS L true d x) (mY : ∀ x, x ∈ Y ↔ inS L false d x) {f : Fl} (hf : f ∈ L) (hp : pre (pcs d) (pp f) = true) :
    f.path ∈ X ∨ ∃ y ∈ Y, pre (pcs y) (pp f) = true := by
  obtain ⟨n, r, e⟩ := pre_iff.1 hp
  cases r with
  | nil =>
    left
    rw [mX]
    refine ⟨n, _, by rw [← e]; exact st_file h hf, rfl, ?_⟩
    rw [← e]; exact (join_pcs _).symm
  | cons m r =>
    right
    have hpn : pre (pcs d ++ [n]) (pp f) = true := pre_iff.2 ⟨m, r, by rw [e]; simp⟩
    have hs := st_dir h (.inr ⟨f, hf, hpn⟩)
    exact ⟨join (pcs d ++ [n]), (mY _).2 ⟨n, _, hs, rfl, rfl⟩, by rw [(pcs_of h (q := pcs d ++ [n]) (by rw [hs]; rfl)).1]; exact hpn⟩
/-- what is in a directory that is a directory -/
theorem inS_dir {L : List Fl} (h : Good L) {d x : List UInt8} (hx : inS L false d x) : okP x = true ∧ nod L x = some (.dir (cnt L (pcs x)) (tot L (pcs x)) (own L (pcs x))) ∧ 0 < cnt L (pcs x) ∧ (pcs x).length = (pcs d).length + 1 := by
  obtain ⟨n, y, hs, hy, rfl⟩ := hx
  cases y with
  | file s => cases hy
  | dir c a o =>
    have hp := pcs_of h (q := pcs d ++ [n]) (by rw [hs]; rfl)
    obtain ⟨rfl, rfl, rfl, h1, _⟩ := st_dir_inv hs
    refine ⟨hp.2, ?_, ?_, by rw [hp.1]; simp⟩
    · unfold nod
      rw [if_pos hp.2, hp.1]; exact hs
    · rw [hp.1]
      rcases h1 with h1 | h1
      · simp at h1
      · exact h1
theorem st_short {L : List Fl} (h : Good L) {q : Q} (hq : (st L q).isSome = true) : q.length ≤ 12 := by
  have := pcs_of h hq
  have h2 := (okP_len this.2).2
  rw [← dep_eq, this.1] at h2; exact h2

theorem countS_eq {L : List Fl} (h : Good L) (d : List UInt8) : countS L d = cnt L (pcs d) := by
  unfold countS
  cases hd : isD L d
  · symm
    simp only [Bool.false_eq_true, if_false]
    rcases Nat.eq_zero_or_pos (cnt L (pcs d)) with h0 | h0
    · exact h0
    · exfalso
      obtain ⟨f, hf, hp⟩ := cnt_pos.1 h0
      obtain ⟨n, r, e⟩ := pre_iff.1 hp
      have : okP d = true := by
        have := okP_part (h.ok hf) (X := pcs d) ⟨n :: r, e.symm⟩
        rw [join_pcs] at this; exact this
      unfold isD at hd
      rw [this, Bool.true_and, Bool.or_eq_false_iff] at hd
      have h2 := hd.2
      rw [List.any_eq_false] at h2
      exact h2 f hf (by rw [abv_pre]; exact hp)
  · rfl
theorem sizeS_eq {L : List Fl} (h : Good L) (d : List UInt8) : sizeS L d = cap (tot L (pcs d)) := by
  have hc := countS_eq h d
  unfold countS at hc
  unfold sizeS
  cases hd : isD L d
  · rw [hd] at hc
    simp only [Bool.false_eq_true, if_false] at hc ⊢
    rw [tot_zero hc.symm]; rfl
  · rfl
theorem ownS_eq {L : List Fl} (h : Good L) (d : List UInt8) : ownS L d = cap (own L (pcs d)) := by
  have hc := countS_eq h d
  unfold countS at hc
  unfold ownS
  cases hd : isD L d
  · rw [hd] at hc
    simp only [Bool.false_eq_true, if_false] at hc ⊢
    rw [cnt_zero_own h hc.symm]; rfl
  · rfl
theorem cnt_root {L : List Fl} (h : Good L) : cnt L [] = L.length := by
  have : ∀ M : List Fl, (∀ f ∈ M, pp f ≠ []) → cnt M [] = M.length := by
    intro M
    induction M with
    | nil => intro _; rfl
    | cons f r ih =>
      intro hm
      rw [cnt, ih (fun g hg => hm g (by simp [hg])), if_pos (pre_nil (hm f (by simp)))]
      simp; omega
  exact this L h.ne
theorem tot_root {L : List Fl} (h : Good L) : tot L [] = (L.map sz).sum := by
  have : ∀ M : List Fl, (∀ f ∈ M, pp f ≠ []) → tot M [] = (M.map sz).sum := by
    intro M
    induction M with
    | nil => intro _; rfl
    | cons f r ih =>
      intro hm
      rw [tot, ih (fun g hg => hm g (by simp [hg])), if_pos (pre_nil (hm f (by simp)))]
      simp
  exact this L h.ne
end Go.Proofs.Ytceoelclnnfhhad
