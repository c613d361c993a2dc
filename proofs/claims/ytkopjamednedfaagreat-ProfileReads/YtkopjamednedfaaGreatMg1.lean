/-
  Fewer cones, as plain lists.
-/
import Derived.Test.YtkopjamednedfaaGreatKn2
import Derived.Test.YtkopjamednedfaaGreatParts
namespace Go.Proofs.YtkopjamednedfaaGreat

/-- how much is shown; what is above the most counts as the most -/
def sumZ (l : List Fl) : Int := (l.map Fl.size).foldr (· + ·) 0
def cst (l : List Fl) (k : List (List UInt8)) : Int := min (sumZ (l.filter (fun f => shw k f.path))) 9223372036854775807
theorem sumZ_cons (a : Fl) (l : List Fl) : sumZ (a :: l) = a.size + sumZ l := rfl
theorem sum_le {f g : Fl → Bool} (h : ∀ x, f x = true → g x = true) : ∀ l : List Fl, (∀ x ∈ l, 0 ≤ x.size) → sumZ (l.filter f) ≤ sumZ (l.filter g)
  | [], _ => by simp
  | a :: r, hz => by
    have ih := sum_le h r (fun x hx => hz x (by simp [hx]))
    have h0 := hz a (by simp)
    cases hf : f a with
    | true => rw [List.filter_cons, if_pos hf, List.filter_cons, if_pos (h a hf), sumZ_cons, sumZ_cons]; omega
    | false =>
      rw [List.filter_cons, if_neg (by simp [hf]), List.filter_cons]
      cases hg : g a with
      | true => rw [if_pos rfl, sumZ_cons]; omega
      | false => rw [if_neg (by simp)]; exact ih
theorem cst_le {l : List Fl} {k m : List (List UInt8)} (hz : ∀ x ∈ l, 0 ≤ x.size) (h : ∀ p, shw k p = true → shw m p = true) : cst l k ≤ cst l m := by
  unfold cst
  have := sum_le (f := fun f => shw k f.path) (g := fun f => shw m f.path) (fun x hx => h _ hx) l hz
  omega
/-- a directory above a valid path is one -/
theorem okP_abv {a b : List UInt8} (h : okP b = true) (k : abvV a b = true) : okP a = true := by
  obtain ⟨r, hr, e⟩ := (abvV_iff a b).1 k
  have hall := okP_all h
  have hl := okP_len h
  rw [e, List.all_append, Bool.and_eq_true] at hall
  have h2 := abv_iff_cmn a b
  rw [k] at h2
  have h3 : cmn a b = a := by
    have := h2.symm
    rw [Bool.and_eq_true, decide_eq_true_eq] at this
    exact this.1
  have h4 : a.length ≤ b.length := by
    rw [← h3, ← cmn_comm]
    exact cmn_le b a
  unfold okP
  simp only [Bool.and_eq_true, decide_eq_true_eq]
  refine ⟨⟨by omega, ?_⟩, hall.1⟩
  have h5 := hl.2
  rw [← dep_eq] at h5 ⊢
  rw [e, List.length_append] at h5
  omega
theorem cmn_in {a b : List UInt8} (h : okP a = true) : a = cmn a b ∨ abvV (cmn a b) a = true := by
  by_cases e : cmn a b = a
  · exact .inl e.symm
  · exact .inr (abv_cmn a b (okP_all h) e)
theorem cmn_in2 {a b : List UInt8} (h : okP b = true) : b = cmn a b ∨ abvV (cmn a b) b = true := by
  rw [← cmn_comm]; exact cmn_in h
theorem okP_cmn {a b : List UInt8} (h : okP a = true) : okP (cmn a b) = true := by
  rcases cmn_in (b := b) h with e | e
  · rw [← e]; exact h
  · exact okP_abv h e
/-- each cone is one of them, or below one -/
theorem wid_cover {d : List UInt8} : ∀ {k : List (List UInt8)} {done : Bool} {c : List UInt8}, c ∈ k → (done = true ∧ (c = d ∨ abvV d c = true)) ∨ ∃ x ∈ wid d done k, x = c ∨ abvV x c = true
  | e :: r, done, c, h => by
    unfold wid
    rcases List.mem_cons.1 h with rfl | h
    · by_cases hb : (decide (c = d) || abvV d c) = true
      · have hb' : c = d ∨ abvV d c = true := by simpa using hb
        cases done with
        | true => exact .inl ⟨rfl, hb'⟩
        | false =>
          rw [if_pos hb]
          refine .inr ⟨d, by simp, ?_⟩
          rcases hb' with e | e
          · exact .inl e.symm
          · exact .inr e
      · rw [if_neg hb]
        exact .inr ⟨c, by simp, .inl rfl⟩
    · by_cases hb : (decide (e = d) || abvV d e) = true
      · rw [if_pos hb]
        cases done with
        | true =>
          rcases wid_cover (d := d) (done := true) h with h1 | ⟨x, hx, h1⟩
          · exact .inl h1
          · exact .inr ⟨x, by simpa using hx, h1⟩
        | false =>
          rcases wid_cover (d := d) (done := true) h with ⟨_, h1⟩ | ⟨x, hx, h1⟩
          · refine .inr ⟨d, by simp, ?_⟩
            rcases h1 with e | e
            · exact .inl e.symm
            · exact .inr e
          · exact .inr ⟨x, by simp [hx], h1⟩
      · rw [if_neg hb]
        rcases wid_cover (d := d) (done := done) h with h1 | ⟨x, hx, h1⟩
        · exact .inl h1
        · exact .inr ⟨x, by simp [hx], h1⟩
/-- how many there are -/
theorem wid_count {d : List UInt8} : ∀ (k : List (List UInt8)) (done : Bool), (wid d done k).length + (k.filter (fun c => decide (c = d) || abvV d c)).length = k.length + (if done = false ∧ (k.any (fun c => decide (c = d) || abvV d c)) = true then 1 else 0)
  | [], done => by cases done <;> simp [wid]
  | c :: r, done => by
    have h1 := wid_count (d := d) r true
    have h2 := wid_count (d := d) r done
    unfold wid
    by_cases hb : (decide (c = d) || abvV d c) = true
    · rw [if_pos hb, List.filter_cons, if_pos hb, List.any_cons, hb, Bool.true_or]
      cases done with
      | true => simp at h1 ⊢; omega
      | false => simp at h1 ⊢; omega
    · rw [if_neg hb, List.filter_cons, if_neg hb, List.any_cons, Bool.eq_false_iff.2 hb, Bool.false_or]
      simp only [List.length_cons]
      omega
theorem wid_fewer {d a b : List UInt8} {k : List (List UInt8)} (ha : a ∈ k) (hb : b ∈ k) (hne : a ≠ b) (ea : a = d ∨ abvV d a = true) (eb : b = d ∨ abvV d b = true) : (wid d false k).length < k.length := by
  have h1 := wid_count (d := d) k false
  have h2 : 2 ≤ (k.filter (fun c => decide (c = d) || abvV d c)).length := by
    have ma : a ∈ k.filter (fun c => decide (c = d) || abvV d c) := List.mem_filter.2 ⟨ha, by simpa using ea⟩
    have mb : b ∈ k.filter (fun c => decide (c = d) || abvV d c) := List.mem_filter.2 ⟨hb, by simpa using eb⟩
    match hF : k.filter (fun c => decide (c = d) || abvV d c) with
    | [] => rw [hF] at ma; cases ma
    | [x] =>
      rw [hF] at ma mb
      exact absurd ((List.mem_singleton.1 ma).trans (List.mem_singleton.1 mb).symm) hne
    | _ :: _ :: _ => simp
  split at h1 <;> omega
end Go.Proofs.YtkopjamednedfaaGreat
