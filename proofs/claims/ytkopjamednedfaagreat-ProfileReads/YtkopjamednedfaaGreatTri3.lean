/-
  What is told of a tree, as the document says it.
-/
import Derived.Test.YtkopjamednedfaaGreatTri2
namespace Go.Proofs.YtkopjamednedfaaGreat

theorem abv_pre (a b : List UInt8) : abvV a b = pre (pcs a) (pcs b) := by
  rw [Bool.eq_iff_iff, abvV_iff, pre_iff]
  constructor
  · rintro ⟨r, hr, e⟩
    cases r with
    | nil => exact absurd rfl hr
    | cons n r => exact ⟨n, r, e⟩
  · rintro ⟨n, r, e⟩
    exact ⟨n :: r, by simp, e⟩
theorem ok_mem {l : List UInt8} (h : (pcs l).all okC = true) : ∀ x ∈ pcs l, x ≠ [] := by
  rintro x hx rfl
  have := List.all_eq_true.1 h _ hx
  rw [okC_nil] at this; cases this
theorem pcs_part {l : List UInt8} (h : (pcs l).all okC = true) {X : Q} (hX : X <+: pcs l) : pcs (join X) = X := by
  refine pcs_join X (fun p hp => pcs_noslash l p (hX.subset hp)) ?_
  rintro rfl
  exact ok_mem h _ (hX.subset (by simp)) rfl
theorem join_last (Y : Q) (b : List UInt8) (h : Y ≠ []) : join (Y ++ [b]) = join Y ++ 47 :: b := by
  have := join_cut (Y ++ [b]) Y.length (by cases Y; exact absurd rfl h; simp) (by simp)
  rw [List.take_left, List.drop_left] at this
  exact this
theorem lst_free {b : List UInt8} (h : (47 : UInt8) ∉ b) : lst b = -1 := lst_none b (List.count_eq_zero.2 h)
/-- the directory and the last piece -/
theorem dir_pcs {l : List UInt8} (h : (pcs l).all okC = true) (hne : l ≠ []) : pcs (dir l) = (pcs l).dropLast ∧ pcs l = (pcs l).dropLast ++ [base l] := by
  have hp : pcs l ≠ [] := fun e => hne ((pcs_eq_nil l).1 e)
  obtain ⟨Y, b, e⟩ : ∃ Y b, pcs l = Y ++ [b] := ⟨_, _, (List.dropLast_concat_getLast hp).symm⟩
  have hj := join_pcs l
  have hb : (47 : UInt8) ∉ b := pcs_noslash l b (by rw [e]; simp)
  have hY : pcs (join Y) = Y := pcs_part h (by rw [e]; exact ⟨[b], rfl⟩)
  rw [e] at hj
  have hl := lst_free hb
  by_cases hn : Y = []
  · subst hn
    have hj : b = l := hj
    subst hj
    have e1 : dir b = [] := by unfold dir; rw [if_pos (by omega)]
    have e2 : base b = b := by unfold base; rw [hl]; rfl
    rw [e1, e2, e]
    exact ⟨rfl, rfl⟩
  · rw [join_last Y b hn] at hj
    have h3 : lst l = (join Y).length := by rw [← hj, lst_app, hl]; omega
    have e1 : dir l = join Y := by
      unfold dir
      rw [if_neg (by omega), h3, ← hj]; simp
    have e2 : base l = b := by
      unfold base
      rw [h3, ← hj]
      have : ((join Y).length + 1 : Int).toNat = (join Y).length + 1 := by omega
      rw [this, List.drop_append]; simp
    rw [e1, e2, e, hY]; simp
theorem okP_all' {l : List UInt8} (h : okP l = true) : (pcs l).all okC = true := okP_all h
theorem join_pre_len : ∀ (Y r : Q), (join Y).length ≤ (join (Y ++ r)).length := by
  intro Y r
  obtain ⟨t, e⟩ := join_take (Y ++ r) Y.length
  rw [List.take_left] at e
  rw [e]; simp
/-- the beginning of a path is a path -/
theorem okP_part {l : List UInt8} (h : okP l = true) {X : Q} (hX : X <+: pcs l) : okP (join X) = true := by
  have h1 := okP_len h
  have h2 := okP_all h
  have h3 := pcs_part h2 hX
  obtain ⟨r, hr⟩ := hX
  unfold okP
  rw [h3, ← dep_eq, h3]
  simp only [Bool.and_eq_true, decide_eq_true_eq]
  refine ⟨⟨?_, ?_⟩, ?_⟩
  · have := join_pre_len X r
    rw [hr, join_pcs] at this; omega
  · rw [← dep_eq, ← hr] at h1; simp at h1; omega
  · rw [← hr] at h2
    rw [List.all_append, Bool.and_eq_true] at h2
    exact h2.1

/-- in the order of paths -/
def Srt (L : List Fl) : Prop := L.Pairwise fun f g => cf f.path g.path < 0
theorem fol_iffT (p q : List UInt8) : fol p q = true ↔ cf p q < 0 ∧ pre (pcs p) (pcs q) = false := by
  unfold fol; rw [abv_pre]; simp [cf]
theorem aprt_of {p q : List UInt8} (h : cf p q < 0) (h2 : pre (pcs p) (pcs q) = false) : aprt (pcs p) (pcs q) := by
  refine ⟨fun e => ?_, h2, ?_⟩
  · have := pcs_inj e; subst this; rw [cf_self] at h; omega
  · cases e : pre (pcs q) (pcs p)
    · rfl
    · rw [← abv_pre] at e
      have := abv_cf e
      rw [cf_neg] at this; omega
theorem chain_iff : ∀ (L : List Fl), chain L = true ↔ Srt L ∧ L.Pairwise fun f g => aprt (pp f) (pp g)
  | [] => by simp [chain, Srt]
  | [a] => by simp [chain, Srt]
  | a :: b :: r => by
    have ih := chain_iff (b :: r)
    simp only [chain, Bool.and_eq_true, fol_iffT, ih]
    constructor
    · rintro ⟨⟨h1, h2⟩, h3, h4⟩
      have hlt : ∀ c ∈ r, cf a.path c.path < 0 := fun c hc => cf_trans h1 ((List.pairwise_cons.1 h3).1 c hc)
      refine ⟨List.pairwise_cons.2 ⟨?_, h3⟩, List.pairwise_cons.2 ⟨?_, h4⟩⟩
      · intro c hc
        rcases List.mem_cons.1 hc with rfl | hc
        · exact h1
        · exact hlt c hc
      · intro c hc
        rcases List.mem_cons.1 hc with rfl | hc
        · exact aprt_of h1 h2
        · refine aprt_of (hlt c hc) ?_
          cases e : pre (pcs a.path) (pcs c.path)
          · rfl
          · rw [← abv_pre] at e
            have := abv_between e h1 ((List.pairwise_cons.1 h3).1 c hc)
            rw [abv_pre, h2] at this; cases this
    · rintro ⟨h1, h2⟩
      have h1' := List.pairwise_cons.1 h1
      have h2' := List.pairwise_cons.1 h2
      exact ⟨⟨h1'.1 b (by simp), (h2'.1 b (by simp)).2.1⟩, h1'.2, h2'.2⟩
theorem stand_iff (L : List Fl) : stand L = true ↔ GoodT L ∧ Srt L := by
  unfold stand
  simp only [Bool.and_eq_true, decide_eq_true_eq, List.all_eq_true, beq_iff_eq, chain_iff]
  constructor
  · rintro ⟨⟨h1, h2⟩, h3, h4⟩
    exact ⟨⟨h2, h4, h1⟩, h3⟩
  · rintro ⟨⟨h1, h2, h3⟩, h4⟩
    exact ⟨⟨h3, h1⟩, h4, h2⟩
theorem validE_good {L : List Fl} : validE L = 0 ↔ GoodT L ∧ Srt L := by rw [validE_zero, stand_iff]

/-- what Add answers -/
def addE (L : List Fl) (f : Fl) : Int :=
  if pathOk f.path = false then 7 else if (fileAt L (pp f)).isSome then 19 else if fileE f = 0 ∧ L.length < 512 ∧ (L.all fun g => !(pp f == pp g) && !pre (pp f) (pp g) && !pre (pp g) (pp f)) = true then 0 else 8
theorem apart_all {L : List Fl} {f : Fl} : (L.all fun g => !(pp f == pp g) && !pre (pp f) (pp g) && !pre (pp g) (pp f)) = true ↔ ∀ g ∈ L, aprt (pp f) (pp g) := by
  simp only [List.all_eq_true, Bool.and_eq_true, Bool.not_eq_true', beq_eq_false_iff_ne, aprt, and_assoc]
theorem addE_zero {L : List Fl} {f : Fl} : addE L f = 0 ↔ fileE f = 0 ∧ L.length < 512 ∧ ∀ g ∈ L, aprt (pp f) (pp g) := by
  unfold addE
  constructor
  · intro h
    split at h
    · simp at h
    · split at h
      · simp at h
      · split at h
        · rename_i h3
          exact ⟨h3.1, h3.2.1, apart_all.1 h3.2.2⟩
        · simp at h
  · rintro ⟨h1, h2, h3⟩
    have hp := ((fileE_zero f).1 h1).1
    rw [if_neg (by rw [hp]; simp), if_neg, if_pos ⟨h1, h2, apart_all.2 h3⟩]
    rw [fileAt_none.2 (fun g hg e => (h3 g hg).1 e.symm)]; simp
theorem GoodT.add {L : List Fl} {f : Fl} (h : GoodT L) (ha : addE L f = 0) : GoodT (f :: L) := by
  obtain ⟨h1, h2, h3⟩ := addE_zero.1 ha
  exact h.cons h1 h3 h2
theorem addE_perm {L M : List Fl} (h : GoodT L) (hp : L.Perm M) (f : Fl) : addE L f = addE M f := by
  unfold addE
  rw [fileAt_perm hp h.apart, hp.length_eq, hp.all_eq]

/-- its place in the order -/
def place (p : List UInt8) : List Fl → Nat
  | [] => 0
  | g :: r => if cf g.path p < 0 then place p r + 1 else 0
theorem place_le (p : List UInt8) : ∀ L, place p L ≤ L.length
  | [] => Nat.le_refl _
  | g :: r => by have := place_le p r; simp only [place]; split <;> simp; omega
def insF (f : Fl) (L : List Fl) : List Fl := L.take (place f.path L) ++ f :: L.drop (place f.path L)
theorem insF_perm (f : Fl) (L : List Fl) : (insF f L).Perm (f :: L) := by
  unfold insF
  refine List.perm_middle.trans ?_
  rw [List.take_append_drop]
theorem insF_cons (f g : Fl) (r : List Fl) : insF f (g :: r) = if cf g.path f.path < 0 then g :: insF f r else f :: g :: r := by
  unfold insF
  simp only [place]
  split <;> simp
theorem insF_srt {f : Fl} : ∀ {L : List Fl}, Srt L → (∀ g ∈ L, g.path ≠ f.path) → Srt (insF f L)
  | [], _, _ => by simp [insF, place, Srt]
  | g :: r, h, hn => by
    have h' := List.pairwise_cons.1 h
    rw [insF_cons]
    split
    · rename_i hlt
      refine List.pairwise_cons.2 ⟨fun x hx => ?_, insF_srt h'.2 (fun x hx => hn x (by simp [hx]))⟩
      rcases List.mem_cons.1 ((insF_perm f r).mem_iff.1 hx) with rfl | hx
      · exact hlt
      · exact h'.1 x hx
    · rename_i hge
      have hfg : cf f.path g.path < 0 := by
        have h1 := cf_neg g.path f.path
        have h2 : cf g.path f.path ≠ 0 := fun e => hn g (by simp) (cf_zero.1 e)
        omega
      refine List.pairwise_cons.2 ⟨fun x hx => ?_, h⟩
      rcases List.mem_cons.1 hx with rfl | hx
      · exact hfg
      · exact cf_trans hfg (h'.1 x hx)
/-- what the document's Add makes of it -/
theorem validE_ins {L : List Fl} {f : Fl} (h : GoodT L) (hs : Srt L) (hp : pathOk f.path = true) (hn : (fileAt L (pp f)).isSome = false) : validE (insF f L) = addE L f := by
  have hn' : ∀ g ∈ L, pp g ≠ pp f := by
    rw [Option.isSome_eq_false_iff, Option.isNone_iff_eq_none] at hn
    exact fileAt_none.1 hn
  have hnp : ∀ g ∈ L, g.path ≠ f.path := fun g hg e => hn' g hg (by unfold pp; rw [e])
  have e0 : validE (insF f L) = 0 ↔ addE L f = 0 := by
    rw [validE_good, addE_zero]
    constructor
    · rintro ⟨h1, _⟩
      have h2 := h1.perm (insF_perm f L)
      exact ⟨h2.each f (by simp), by have := h2.len; simp at this; omega, h2.head⟩
    · rintro ⟨h1, h2, h3⟩
      exact ⟨(h.cons h1 h3 h2).perm (insF_perm f L).symm, insF_srt hs hnp⟩
  have e1 : addE L f = 0 ∨ addE L f = 8 := by
    unfold addE
    rw [if_neg (by rw [hp]; simp), if_neg (by rw [hn]; simp)]
    split
    · exact .inl rfl
    · exact .inr rfl
  have e2 : validE (insF f L) = 0 ∨ validE (insF f L) = 8 := by
    unfold validE
    rw [if_pos]
    · split
      · exact .inl rfl
      · exact .inr rfl
    · rw [List.all_eq_true]
      intro x hx
      rcases List.mem_cons.1 ((insF_perm f L).mem_iff.1 hx) with rfl | hx
      · exact hp
      · exact ((fileE_zero x).1 (h.each x hx)).1
  rcases e1 with e1 | e1
  · rw [e1, e0.2 e1]
  · rcases e2 with e2 | e2
    · rw [e0.1 e2] at e1; cases e1
    · rw [e1, e2]
theorem GoodT.filter {L : List Fl} (h : GoodT L) (p : Fl → Bool) : GoodT (L.filter p) :=
  ⟨fun f hf => h.each f (List.mem_filter.1 hf).1, h.apart.filter p, Nat.le_trans (List.length_filter_le _ _) h.len⟩
theorem Srt.filter {L : List Fl} (h : Srt L) (p : Fl → Bool) : Srt (L.filter p) := List.Pairwise.filter p h
/-- one taken out -/
def outF (p : List UInt8) (L : List Fl) : List Fl := L.filter fun g => !(g.path == p)
theorem outF_perm : ∀ {L : List Fl} {f : Fl}, L.Pairwise (fun f g => aprt (pp f) (pp g)) → f ∈ L → L.Perm (f :: outF f.path L)
  | [], f, _, h => by simp at h
  | g :: r, f, ha, h => by
    have ha' := List.pairwise_cons.1 ha
    rcases List.mem_cons.1 h with rfl | h
    · have e : outF f.path (f :: r) = r := by
        unfold outF
        rw [List.filter_cons_of_neg (by simp)]
        refine List.filter_eq_self.2 (fun x hx => ?_)
        simp only [Bool.not_eq_true', beq_eq_false_iff_ne]
        intro e
        exact (ha'.1 x hx).1 (by unfold pp; rw [e])
      rw [e]
    · have ih := outF_perm ha'.2 h
      have e : outF f.path (g :: r) = g :: outF f.path r := by
        unfold outF
        rw [List.filter_cons_of_pos]
        simp only [Bool.not_eq_true', beq_eq_false_iff_ne]
        intro e
        exact (ha'.1 f h).1 (by unfold pp; rw [e])
      rw [e]
      exact (ih.cons g).trans (List.Perm.swap _ _ _)
theorem pp_inj {f g : Fl} (h : pp f = pp g) : f.path = g.path := pcs_inj h
end Go.Proofs.YtkopjamednedfaaGreat
