/-
  What follows: parts of files, a star taken out.
-/
import Derived.Test.YtebidnepanogcaaDoorWn
namespace Go.Proofs.YtebidnepanogcaaDoor

/-- the first k files whose places are kept -/
def kp (l : List Fl) (ks : List Bool) (k : Nat) : List Fl := ((List.range k).filter (fun i => ks.getD i false)).filterMap (fun i => l[i]?)
theorem kp_zero (l : List Fl) (ks : List Bool) : kp l ks 0 = [] := rfl
theorem kp_step (l : List Fl) (ks : List Bool) (k : Nat) (h : k < l.length) : kp l ks (k + 1) = kp l ks k ++ if ks.getD k false = true then [l[k]'h] else [] := by
  unfold kp
  rw [List.range_succ, List.filter_append, List.filterMap_append]
  congr 1
  by_cases hb : ks.getD k false = true
  · have e : [k].filter (fun i => ks.getD i false) = [k] := by rw [List.filter_cons]; simp only [hb, if_true]; rfl
    rw [e, if_pos hb]; simp [h]
  · have e : [k].filter (fun i => ks.getD i false) = [] := by rw [List.filter_cons]; simp only [hb]; rfl
    rw [e, if_neg hb]; rfl
theorem kp_len (l : List Fl) (ks : List Bool) (k : Nat) : (kp l ks k).length ≤ k := by
  unfold kp
  refine Nat.le_trans (List.length_filterMap_le _ _) (Nat.le_trans (List.length_filter_le _ _) ?_)
  simp
theorem kp_mem (l : List Fl) (ks : List Bool) (k : Nat) : ∀ f ∈ kp l ks k, f ∈ l := by
  intro f hf
  unfold kp at hf
  obtain ⟨i, _, hi⟩ := List.mem_filterMap.1 hf
  exact List.mem_of_getElem? hi
theorem FQ.kp {l : List Fl} (h : FQ l) (ks : List Bool) : FQ (kp l ks l.length) := h.sub (kp_len l ks _) (kp_mem l ks _)

theorem ok_val {l : List Fl} {p s : List UInt8} (h : (exl l (whl p s)).2 = true) : valP s = true := by
  cases hv : valP (whl p s)
  · rw [exl_bad hv] at h; cases h
  · exact (val_whl hv).1
theorem nok_nil {l : List Fl} {J : List UInt8} (h : (exl l J).2 = false) : (exl l J).1 = [] := by
  unfold exl at h ⊢
  split
  · rw [if_pos (by assumption)] at h
    cases hf : fnd l J with
    | none => rfl
    | some f => rw [hf] at h; cases h
  · rw [if_neg (by assumption)] at h
    split
    · rw [if_pos (by assumption)] at h; cases h
    · rfl
theorem star_val {s : List UInt8} (h : starP s = true) : valP s = true := by unfold valP; rw [h]; simp
theorem star_part {l : List Fl} {p s : List UInt8} (ks : List Bool) (h : starP s = true) : (exl (kp l ks l.length) (whl p s)).2 = (exl l (whl p s)).2 ∧ (exl (kp l ks l.length) (whl p s)).1 = (kp l ks l.length).filter (inA (exl l (whl p s)).1) := by
  have hl := star_lit (p := p) h
  cases hs : starP (whl p s)
  · rw [exl_none hl hs, exl_none hl hs]
    refine ⟨rfl, ?_⟩
    symm
    rw [List.filter_eq_nil_iff]
    intro f _
    simp [inA]
  · rw [exl_star hl hs, exl_star hl hs]
    refine ⟨rfl, ?_⟩
    apply List.filter_congr
    intro f hf
    have hm := kp_mem l ks l.length f hf
    rw [Bool.eq_iff_iff]
    unfold inA
    rw [List.any_eq_true]
    constructor
    · intro hx
      exact ⟨f, List.mem_filter.2 ⟨hm, hx⟩, feq_self f⟩
    · rintro ⟨g, hg, he⟩
      rw [feq_iff] at he
      subst he
      exact (List.mem_filter.1 hg).2
theorem lit_part {l : List Fl} {p s : List UInt8} (ks : List Bool) (h : starP s = false) (hf : (exl (kp l ks l.length) (whl p s)).2 = true) :
    ∃ f g : Fl, (exl (kp l ks l.length) (whl p s)).1 = [g] ∧ exl l (whl p s) = ([f], true) ∧ f.path = g.path := by
  cases hl : litP (whl p s)
  · cases hs : starP (whl p s)
    · rw [exl_none hl hs] at hf; cases hf
    · rw [(star_whl hs).1] at h; cases h
  · rw [exl_lit hl] at hf ⊢
    cases hg : fnd (kp l ks l.length) (whl p s) with
    | none => rw [hg] at hf; cases hf
    | some g =>
      have g1 : g ∈ l := kp_mem l ks _ g (List.mem_of_find?_eq_some hg)
      have g2 : g.path = whl p s := by
        have := List.find?_some hg
        simpa using this
      cases hx : fnd l (whl p s) with
      | none =>
        have := List.find?_eq_none.1 hx g g1
        simp [g2] at this
      | some f =>
        have f2 : f.path = whl p s := by
          have := List.find?_some hx
          simpa using this
        exact ⟨f, g, rfl, by rw [exl_lit hl, hx]; rfl, by rw [f2, g2]⟩

/-! ### a star taken out -/
theorem put_back {s : List UInt8} {i : Nat} (h : i < s.length) (h42 : s[i]'h = 42) : s.take i ++ 42 :: s.drop (i + 1) = s := by
  have e := List.drop_eq_getElem_cons h
  rw [h42] at e
  rw [← e, List.take_append_drop]
theorem star_one {s : List UInt8} (h : starP s = true) (hs : s.contains 47 = false) : patP s = true := by
  have h1 := star_pat h
  have hc : s.count 47 = 0 := List.count_eq_zero.2 (by simpa using hs)
  rw [base_none hc] at h1
  exact h1
theorem star_cut {s : List UInt8} {i : Nat} (h : patP s = true) (hi : i < s.length) (h42 : s[i]'hi = 42) : hd42 s = s.take i ∧ tl42 s = s.drop (i + 1) := by
  have hn : (42 : UInt8) ∉ s.take i := fun hm => by
    rw [pat_eq] at h
    unfold rPat at h
    simp only [Bool.and_eq_true, decide_eq_true_eq] at h
    have hc := h.1.1
    rw [← put_back hi h42, List.count_append, List.count_cons] at hc
    have := List.count_pos_iff.2 hm
    simp at hc
    omega
  have e := ib_app 42 (s.take i) (s.drop (i + 1)) hn
  rw [put_back hi h42] at e
  have hl : (s.take i).length = i := by simp; omega
  rw [hl] at e
  unfold hd42 tl42
  rw [e]
  exact ⟨rfl, rfl⟩
theorem mat_nil {s : List UInt8} (h : starP s = true) (hs : s.contains 47 = false) : mat s [] = decide (s = [42]) := by
  have hp := star_one h hs
  have h42 := pat_42 hp
  obtain ⟨e, _, _⟩ := at42 h42
  unfold mat
  rw [hp, Bool.true_and]
  unfold fts
  by_cases hx : s = [42]
  · subst hx; decide
  · rw [decide_eq_false hx]
    have : ¬ (hd42 s).length + (tl42 s).length ≤ ([] : List UInt8).length := fun hle => hx (by
      simp only [List.length_nil, Nat.le_zero_eq] at hle
      have h1 : hd42 s = [] := List.eq_nil_of_length_eq_zero (by omega)
      have h2 : tl42 s = [] := List.eq_nil_of_length_eq_zero (by omega)
      rw [e, h1, h2]; rfl)
    rw [decide_eq_false this]; rfl
theorem mat_with {s : List UInt8} {i : Nat} (h : starP s = true) (hs : s.contains 47 = false) (hi : i < s.length) (h42 : s[i]'hi = 42) (m : List UInt8) : mat s (s.take i ++ m ++ s.drop (i + 1)) = true := by
  have hp := star_one h hs
  obtain ⟨e1, e2⟩ := star_cut hp hi h42
  rw [mat_iff hp, e1, e2]
  refine ⟨m.length, by simp, ?_⟩
  congr 2
  have : (s.take i).length = (s.take i).length := rfl
  rw [List.append_assoc, List.drop_left]; simp
theorem mat_short {s : List UInt8} {i : Nat} (h : starP s = true) (hs : s.contains 47 = false) (hi : i < s.length) (h42 : s[i]'hi = 42) (h1 : 1 < s.length) : mat s (s.take i ++ s.drop (i + 1)).dropLast = false := by
  have hp := star_one h hs
  obtain ⟨e1, e2⟩ := star_cut hp hi h42
  unfold mat fts
  rw [e1, e2]
  have : ¬ (s.take i).length + (s.drop (i + 1)).length ≤ (s.take i ++ s.drop (i + 1)).dropLast.length := by
    simp only [List.length_dropLast, List.length_append, List.length_take, List.length_drop]
    omega
  rw [decide_eq_false this]; simp
end Go.Proofs.YtebidnepanogcaaDoor
