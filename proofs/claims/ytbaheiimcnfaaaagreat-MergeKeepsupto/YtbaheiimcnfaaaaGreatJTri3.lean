/-
  A file more, a file less, piece by piece.
  What is told of a tree, as the document says it.
-/
import Derived.Test.YtbaheiimcnfaaaaGreatTri
namespace Go.Proofs.YtbaheiimcnfaaaaGreat

def upd {α : Type} (S : Q → α) (q : Q) (d : α) : Q → α := fun x => if x = q then d else S x
theorem upd_at {α : Type} (S : Q → α) (q : Q) (d : α) : upd S q d q = d := if_pos rfl
theorem upd_ne {α : Type} (S : Q → α) {q x : Q} (d : α) (h : x ≠ q) : upd S q d x = S x := if_neg h
theorem upd_upd {α : Type} (S : Q → α) (q : Q) (d e : α) : upd (upd S q d) q e = upd S q e := by
  funext x; unfold upd; split <;> rfl

/-- on the way down: i directories count the file -/
def midP (L : List Fl) (f : Fl) (i : Nat) (q : Q) : Option Nd :=
  if pre q (pp f) = true ∧ q.length ≤ i then some (.dir (1 + cnt L q) (sz f + tot L q) (own L q)) else st L q
theorem take_pre {P : Q} {i : Nat} (h : i < P.length) : pre (P.take i) P = true :=
  pre_iff.2 ⟨P[i], P.drop (i + 1), by rw [← List.drop_eq_getElem_cons h, List.take_append_drop]⟩
theorem pre_take {q P : Q} (h : pre q P = true) : q = P.take q.length := by
  obtain ⟨n, r, rfl⟩ := pre_iff.1 h; simp
theorem take_len {P : Q} {i : Nat} (h : i ≤ P.length) : (P.take i).length = i := by simp; omega
theorem take_snocT {P : Q} {i : Nat} (h : i < P.length) : P.take i ++ [P[i]] = P.take (i + 1) := by
  rw [List.take_add_one, List.getElem?_eq_getElem h]; rfl
theorem midP_start {L : List Fl} {f : Fl} (h : GoodT (f :: L)) : upd (st L) [] (some (.dir (1 + cnt L []) (sz f + tot L []) (own L []))) = midP L f 0 := by
  funext q
  unfold midP
  by_cases hq : q = []
  · subst hq
    rw [upd_at, if_pos ⟨pre_nil (h.ne f (by simp)), by simp⟩]
  · rw [upd_ne _ _ hq, if_neg]
    rintro ⟨_, h2⟩
    exact hq (List.eq_nil_of_length_eq_zero (by omega))
theorem midP_next {L : List Fl} {f : Fl} {i : Nat} (h : i + 1 < (pp f).length) :
    upd (midP L f i) ((pp f).take (i + 1)) (some (.dir (1 + cnt L ((pp f).take (i + 1))) (sz f + tot L ((pp f).take (i + 1))) (own L ((pp f).take (i + 1))))) = midP L f (i + 1) := by
  funext q
  by_cases hq : q = (pp f).take (i + 1)
  · subst hq
    rw [upd_at]
    unfold midP
    rw [if_pos ⟨take_pre h, by rw [take_len (by omega)]; omega⟩]
  · rw [upd_ne _ _ hq]
    unfold midP
    by_cases hp : pre q (pp f) = true
    · by_cases hl : q.length ≤ i
      · rw [if_pos ⟨hp, hl⟩, if_pos ⟨hp, by omega⟩]
      · rw [if_neg (fun h => hl h.2), if_neg]
        rintro ⟨_, h2⟩
        have := pre_take hp
        rw [show q.length = i + 1 by omega] at this
        exact hq this
    · rw [if_neg (fun h => hp h.1), if_neg (fun h => hp h.1)]
/-- what stands next on the way -/
theorem midP_at {L : List Fl} {f : Fl} (hg : GoodT (f :: L)) {i : Nat} (h : i + 1 < (pp f).length) :
    midP L f i ((pp f).take (i + 1)) = if 0 < cnt L ((pp f).take (i + 1)) then some (.dir (cnt L ((pp f).take (i + 1))) (tot L ((pp f).take (i + 1))) (own L ((pp f).take (i + 1)))) else none := by
  unfold midP
  rw [if_neg, st_rest_pre hg (take_pre h)]
  · have hne : (pp f).take (i + 1) ≠ [] := by
      intro e
      have := congrArg List.length e
      rw [take_len (by omega)] at this; simp at this
    simp [hne]
  · rintro ⟨_, h2⟩
    rw [take_len (by omega)] at h2; omega
theorem midP_zero {L : List Fl} {f : Fl} {q : Q} {i : Nat} (h : pre q (pp f) = true) (hi : q.length ≤ i) : midP L f i q = some (.dir (1 + cnt L q) (sz f + tot L q) (own L q)) := if_pos ⟨h, hi⟩
theorem cnt_zero_own {L : List Fl} (hg : GoodT L) {q : Q} (h : cnt L q = 0) : own L q = 0 := by
  have := own_le (q := q) hg.ne
  rw [tot_zero h] at this; omega
/-- at the end of the way -/
theorem midP_end {L : List Fl} {f : Fl} (h : GoodT (f :: L)) :
    upd (upd (midP L f ((pp f).length - 1)) (pp f).dropLast (some (.dir (1 + cnt L (pp f).dropLast) (sz f + tot L (pp f).dropLast) (sz f + own L (pp f).dropLast)))) (pp f) (some (.file (sz f))) = st (f :: L) := by
  funext q
  have hne : pp f ≠ [] := h.ne f (by simp)
  by_cases h1 : q = pp f
  · subst h1; rw [upd_at, st_cons_at]
  · rw [upd_ne _ _ h1]
    by_cases h2 : q = (pp f).dropLast
    · subst h2
      rw [upd_at, st_cons_pre h (drop_pre hne rfl), if_pos rfl]
    · rw [upd_ne _ _ h2]
      by_cases hp : pre q (pp f) = true
      · rw [midP_zero hp (by have := pre_len hp; omega), st_cons_pre h hp, if_neg (Ne.symm h2), Nat.zero_add]
      · unfold midP
        rw [if_neg (fun h => hp h.1), st_cons_other hne h1 (by simpa using hp)]
theorem midP_leaf {L : List Fl} {f : Fl} (h : GoodT (f :: L)) (i : Nat) : midP L f i (pp f) = none := by
  unfold midP
  rw [if_neg (fun h => by rw [pre_irrefl] at h; cases h.1), st_rest_at h]
/-- the way is of directories -/
theorem midP_proper {L : List Fl} {f : Fl} (h : GoodT (f :: L)) {i : Nat} {q : Q} {n : List UInt8} (hs : (midP L f i (q ++ [n])).isSome = true) : ∃ c a o, midP L f i q = some (.dir c a o) := by
  unfold midP at hs ⊢
  by_cases h1 : pre q (pp f) = true ∧ q.length ≤ i
  · rw [if_pos h1]; exact ⟨_, _, _, rfl⟩
  · rw [if_neg h1]
    by_cases h2 : pre (q ++ [n]) (pp f) = true ∧ (q ++ [n]).length ≤ i
    · exact absurd ⟨pre_snoc h2.1, by have := h2.2; simp at this; omega⟩ h1
    · rw [if_neg h2] at hs
      exact ⟨_, _, _, st_up h.tail hs⟩

/-- on the way down: i directories do not count it any more -/
def midD (L : List Fl) (f : Fl) (i : Nat) (q : Q) : Option Nd :=
  if pre q (pp f) = true ∧ q.length < i then some (.dir (cnt L q) (tot L q) (own L q)) else st (f :: L) q
/-- .. and what is in them -/
def keyD (L : List Fl) (f : Fl) (i : Nat) (q : Q) (n : List UInt8) : Bool :=
  if pre q (pp f) = true ∧ q.length < i then (st L (q ++ [n])).isSome else (st (f :: L) (q ++ [n])).isSome
theorem midD_start (L : List Fl) (f : Fl) : midD L f 0 = st (f :: L) := by funext q; unfold midD; rw [if_neg (by omega)]
theorem keyD_start (L : List Fl) (f : Fl) (q : Q) (n : List UInt8) : keyD L f 0 q n = (st (f :: L) (q ++ [n])).isSome := by unfold keyD; rw [if_neg (by omega)]
theorem midD_at {L : List Fl} {f : Fl} (h : GoodT (f :: L)) {i j : Nat} (hj : i ≤ j) (hl : j < (pp f).length) :
    midD L f i ((pp f).take j) = some (.dir (1 + cnt L ((pp f).take j)) (sz f + tot L ((pp f).take j)) ((if (pp f).dropLast = (pp f).take j then sz f else 0) + own L ((pp f).take j))) := by
  unfold midD
  rw [if_neg (fun h => by have := h.2; rw [take_len (by omega)] at this; omega), st_cons_pre h (take_pre hl)]
theorem midD_leaf (L : List Fl) (f : Fl) (i : Nat) : midD L f i (pp f) = some (.file (sz f)) := by
  unfold midD
  rw [if_neg (fun h => by rw [pre_irrefl] at h; cases h.1), st_cons_at]
theorem midD_next {L : List Fl} {f : Fl} {i : Nat} (h : i < (pp f).length) :
    upd (midD L f i) ((pp f).take i) (some (.dir (cnt L ((pp f).take i)) (tot L ((pp f).take i)) (own L ((pp f).take i)))) = midD L f (i + 1) := by
  funext q
  by_cases hq : q = (pp f).take i
  · subst hq
    rw [upd_at]
    unfold midD
    rw [if_pos ⟨take_pre h, by rw [take_len (by omega)]; omega⟩]
  · rw [upd_ne _ _ hq]
    unfold midD
    by_cases hp : pre q (pp f) = true
    · by_cases hl : q.length < i
      · rw [if_pos ⟨hp, hl⟩, if_pos ⟨hp, by omega⟩]
      · rw [if_neg (fun h => hl h.2), if_neg]
        rintro ⟨_, h2⟩
        have := pre_take hp
        rw [show q.length = i by omega] at this
        exact hq this
    · rw [if_neg (fun h => hp h.1), if_neg (fun h => hp h.1)]
theorem keyD_other {L : List Fl} {f : Fl} {i : Nat} {q : Q} (hq : q ≠ (pp f).take i) (n : List UInt8) : keyD L f (i + 1) q n = keyD L f i q n := by
  unfold keyD
  by_cases hp : pre q (pp f) = true
  · by_cases hl : q.length < i
    · rw [if_pos ⟨hp, Nat.lt_succ_of_lt hl⟩, if_pos ⟨hp, hl⟩]
    · rw [if_neg, if_neg (fun h => hl h.2)]
      rintro ⟨_, h2⟩
      have := pre_take hp
      rw [show q.length = i by omega] at this
      exact hq this
  · rw [if_neg (fun h => hp h.1), if_neg (fun h => hp h.1)]
theorem keyD_new {L : List Fl} {f : Fl} {i : Nat} (h : i < (pp f).length) (n : List UInt8) : keyD L f (i + 1) ((pp f).take i) n = (st L ((pp f).take i ++ [n])).isSome := by
  unfold keyD
  rw [if_pos ⟨take_pre h, by rw [take_len (by omega)]; omega⟩]
theorem keyD_old {L : List Fl} {f : Fl} {i : Nat} (h : i < (pp f).length) (n : List UInt8) : keyD L f i ((pp f).take i) n = (st (f :: L) ((pp f).take i ++ [n])).isSome := by
  unfold keyD
  rw [if_neg (fun h2 => by have := h2.2; rw [take_len (by omega)] at this; omega)]
theorem st_other_child {L : List Fl} {f : Fl} (hg : GoodT (f :: L)) {i : Nat} (h : i < (pp f).length) {n : List UInt8} (hn : n ≠ (pp f)[i]) : st (f :: L) ((pp f).take i ++ [n]) = st L ((pp f).take i ++ [n]) := by
  have key : ∀ r, pp f ≠ (pp f).take i ++ [n] ++ r := by
    intro r e
    have e2 : (pp f)[i]? = some n := by
      rw [e, List.append_assoc, List.getElem?_append_right (by rw [take_len (by omega)]; omega), take_len (by omega)]; simp
    rw [List.getElem?_eq_getElem h] at e2
    exact hn (Option.some.inj e2).symm
  refine st_cons_other (hg.ne f (by simp)) (fun e => key [] (by rw [List.append_nil]; exact e.symm)) ?_
  rw [pre_false]
  intro m r e
  exact key (m :: r) e
/-- nothing is left in it -/
theorem keyD_clear {L : List Fl} {f : Fl} {i : Nat} (h : i < (pp f).length) (h0 : cnt L ((pp f).take i) = 0) (n : List UInt8) : keyD L f (i + 1) ((pp f).take i) n = false := by
  rw [keyD_new h]
  have : st L ((pp f).take i ++ [n]) = none := by
    have hz : ∀ g ∈ L, pre ((pp f).take i) (pp g) = false := by
      intro g hg
      cases hp : pre ((pp f).take i) (pp g)
      · rfl
      · have := cnt_pos.2 ⟨g, hg, hp⟩; omega
    refine st_none_of (fun g hg e => ?_) (by simp) (fun g hg => ?_)
    · have := hz g hg
      rw [e, pre_last] at this; cases this
    · cases hp : pre ((pp f).take i ++ [n]) (pp g)
      · rfl
      · have := hz g hg
        rw [pre_snoc hp] at this; cases this
  rw [this]; rfl
/-- the next one is gone -/
theorem keyD_drop {L : List Fl} {f : Fl} (hg : GoodT (f :: L)) {i : Nat} (h : i < (pp f).length) (h0 : i + 1 < (pp f).length → cnt L ((pp f).take (i + 1)) = 0) (n : List UInt8) :
    keyD L f (i + 1) ((pp f).take i) n = if n = (pp f)[i] then false else keyD L f i ((pp f).take i) n := by
  rw [keyD_new h]
  by_cases hn : n = (pp f)[i]
  · rw [if_pos hn]
    subst hn
    rw [take_snocT h]
    by_cases hl : i + 1 < (pp f).length
    · rw [st_rest_pre hg (take_pre hl), h0 hl, if_neg]
      · rfl
      · rintro (e | e)
        · have := congrArg List.length e
          rw [take_len (by omega)] at this; simp at this
        · omega
    · rw [List.take_of_length_le (by omega), st_rest_at hg]; rfl
  · rw [if_neg hn, keyD_old h, st_other_child hg h hn]
/-- the next one stays -/
theorem keyD_stay {L : List Fl} {f : Fl} (hg : GoodT (f :: L)) {i : Nat} (h : i < (pp f).length) (hl : i + 1 < (pp f).length) (h0 : 0 < cnt L ((pp f).take (i + 1))) (n : List UInt8) :
    keyD L f (i + 1) ((pp f).take i) n = keyD L f i ((pp f).take i) n := by
  rw [keyD_new h, keyD_old h]
  by_cases hn : n = (pp f)[i]
  · subst hn
    rw [take_snocT h, st_rest_pre hg (take_pre hl), if_pos (.inr h0), st_cons_pre hg (take_pre hl)]; rfl
  · rw [st_other_child hg h hn]
/-- at the end -/
theorem midD_end {L : List Fl} {f : Fl} (hg : GoodT (f :: L)) {q : Q} {d : Nd} (h : st L q = some d) : midD L f (pp f).length q = some d := by
  unfold midD
  by_cases hp : pre q (pp f) = true
  · rw [if_pos ⟨hp, pre_len hp⟩, ← h, st_rest_pre hg hp]
    rw [st_rest_pre hg hp] at h
    split
    · rfl
    · rename_i e; rw [if_neg e] at h; cases h
  · rw [if_neg (fun h => hp h.1)]
    have hne : q ≠ pp f := by
      rintro rfl
      rw [st_rest_at hg] at h; cases h
    rw [st_cons_other (hg.ne f (by simp)) hne (by simpa using hp)]; exact h
theorem keyD_end {L : List Fl} {f : Fl} (hg : GoodT (f :: L)) (q : Q) (n : List UInt8) : keyD L f (pp f).length q n = (st L (q ++ [n])).isSome := by
  unfold keyD
  by_cases hp : pre q (pp f) = true
  · rw [if_pos ⟨hp, pre_len hp⟩]
  · rw [if_neg (fun h => hp h.1)]
    by_cases h1 : q ++ [n] = pp f
    · rw [← h1, pre_last] at hp; exact absurd rfl hp
    · rw [st_cons_other (hg.ne f (by simp)) h1]
      cases h2 : pre (q ++ [n]) (pp f)
      · rfl
      · exact absurd (pre_snoc h2) hp
end Go.Proofs.YtbaheiimcnfaaaaGreat

namespace Go.Proofs.YtbaheiimcnfaaaaGreat

theorem abv_pre (a b : List UInt8) : abvV a b = pre (pcs a) (pcs b) := by
  rw [Bool.eq_iff_iff, abvV_iff, pre_iff]
  constructor
  · rintro ⟨r, hr, e⟩
    cases r with
    | nil => exact absurd rfl hr
    | cons n r => exact ⟨n, r, e⟩
  · rintro ⟨n, r, e⟩
    exact ⟨n :: r, by simp, e⟩
theorem ok_mem {l : List UInt8} (h : (pcs l).all okC = true) : ∀ x ∈ pcs l, x ≠ [] := by
  rintro x hx rfl
  have := List.all_eq_true.1 h _ hx
  rw [okC_nil] at this; cases this
theorem pcs_part {l : List UInt8} (h : (pcs l).all okC = true) {X : Q} (hX : X <+: pcs l) : pcs (join X) = X := by
  refine pcs_join X (fun p hp => pcs_noslash l p (hX.subset hp)) ?_
  rintro rfl
  exact ok_mem h _ (hX.subset (by simp)) rfl
theorem join_last (Y : Q) (b : List UInt8) (h : Y ≠ []) : join (Y ++ [b]) = join Y ++ 47 :: b := by
  have := join_cut (Y ++ [b]) Y.length (by cases Y; exact absurd rfl h; simp) (by simp)
  rw [List.take_left, List.drop_left] at this
  exact this
theorem lst_free {b : List UInt8} (h : (47 : UInt8) ∉ b) : lst b = -1 := lst_none b (List.count_eq_zero.2 h)
/-- the directory and the last piece -/
theorem dir_pcs {l : List UInt8} (h : (pcs l).all okC = true) (hne : l ≠ []) : pcs (dir l) = (pcs l).dropLast ∧ pcs l = (pcs l).dropLast ++ [base l] := by
  have hp : pcs l ≠ [] := fun e => hne ((pcs_eq_nil l).1 e)
  obtain ⟨Y, b, e⟩ : ∃ Y b, pcs l = Y ++ [b] := ⟨_, _, (List.dropLast_concat_getLast hp).symm⟩
  have hj := join_pcs l
  have hb : (47 : UInt8) ∉ b := pcs_noslash l b (by rw [e]; simp)
  have hY : pcs (join Y) = Y := pcs_part h (by rw [e]; exact ⟨[b], rfl⟩)
  rw [e] at hj
  have hl := lst_free hb
  by_cases hn : Y = []
  · subst hn
    have hj : b = l := hj
    subst hj
    have e1 : dir b = [] := by unfold dir; rw [if_pos (by omega)]
    have e2 : base b = b := by unfold base; rw [hl]; rfl
    rw [e1, e2, e]
    exact ⟨rfl, rfl⟩
  · rw [join_last Y b hn] at hj
    have h3 : lst l = (join Y).length := by rw [← hj, lst_app, hl]; omega
    have e1 : dir l = join Y := by
      unfold dir
      rw [if_neg (by omega), h3, ← hj]; simp
    have e2 : base l = b := by
      unfold base
      rw [h3, ← hj]
      have : ((join Y).length + 1 : Int).toNat = (join Y).length + 1 := by omega
      rw [this, List.drop_append]; simp
    rw [e1, e2, e, hY]; simp
theorem okP_all' {l : List UInt8} (h : okP l = true) : (pcs l).all okC = true := okP_all h
theorem join_pre_len : ∀ (Y r : Q), (join Y).length ≤ (join (Y ++ r)).length := by
  intro Y r
  obtain ⟨t, e⟩ := join_take (Y ++ r) Y.length
  rw [List.take_left] at e
  rw [e]; simp
/-- the beginning of a path is a path -/
theorem okP_part {l : List UInt8} (h : okP l = true) {X : Q} (hX : X <+: pcs l) : okP (join X) = true := by
  have h1 := okP_len h
  have h2 := okP_all h
  have h3 := pcs_part h2 hX
  obtain ⟨r, hr⟩ := hX
  unfold okP
  rw [h3, ← dep_eq, h3]
  simp only [Bool.and_eq_true, decide_eq_true_eq]
  refine ⟨⟨?_, ?_⟩, ?_⟩
  · have := join_pre_len X r
    rw [hr, join_pcs] at this; omega
  · rw [← dep_eq, ← hr] at h1; simp at h1; omega
  · rw [← hr] at h2
    rw [List.all_append, Bool.and_eq_true] at h2
    exact h2.1

/-- in the order of paths -/
def Srt (L : List Fl) : Prop := L.Pairwise fun f g => cf f.path g.path < 0
theorem fol_iffT (p q : List UInt8) : fol p q = true ↔ cf p q < 0 ∧ pre (pcs p) (pcs q) = false := by
  unfold fol; rw [abv_pre]; simp [cf]
theorem aprt_of {p q : List UInt8} (h : cf p q < 0) (h2 : pre (pcs p) (pcs q) = false) : aprt (pcs p) (pcs q) := by
  refine ⟨fun e => ?_, h2, ?_⟩
  · have := pcs_inj e; subst this; rw [cf_self] at h; omega
  · cases e : pre (pcs q) (pcs p)
    · rfl
    · rw [← abv_pre] at e
      have := abv_cf e
      rw [cf_neg] at this; omega
theorem chain_iff : ∀ (L : List Fl), chain L = true ↔ Srt L ∧ L.Pairwise fun f g => aprt (pp f) (pp g)
  | [] => by simp [chain, Srt]
  | [a] => by simp [chain, Srt]
  | a :: b :: r => by
    have ih := chain_iff (b :: r)
    simp only [chain, Bool.and_eq_true, fol_iffT, ih]
    constructor
    · rintro ⟨⟨h1, h2⟩, h3, h4⟩
      have hlt : ∀ c ∈ r, cf a.path c.path < 0 := fun c hc => cf_trans h1 ((List.pairwise_cons.1 h3).1 c hc)
      refine ⟨List.pairwise_cons.2 ⟨?_, h3⟩, List.pairwise_cons.2 ⟨?_, h4⟩⟩
      · intro c hc
        rcases List.mem_cons.1 hc with rfl | hc
        · exact h1
        · exact hlt c hc
      · intro c hc
        rcases List.mem_cons.1 hc with rfl | hc
        · exact aprt_of h1 h2
        · refine aprt_of (hlt c hc) ?_
          cases e : pre (pcs a.path) (pcs c.path)
          · rfl
          · rw [← abv_pre] at e
            have := abv_between e h1 ((List.pairwise_cons.1 h3).1 c hc)
            rw [abv_pre, h2] at this; cases this
    · rintro ⟨h1, h2⟩
      have h1' := List.pairwise_cons.1 h1
      have h2' := List.pairwise_cons.1 h2
      exact ⟨⟨h1'.1 b (by simp), (h2'.1 b (by simp)).2.1⟩, h1'.2, h2'.2⟩
theorem stand_iff (L : List Fl) : stand L = true ↔ GoodT L ∧ Srt L := by
  unfold stand
  simp only [Bool.and_eq_true, decide_eq_true_eq, List.all_eq_true, beq_iff_eq, chain_iff]
  constructor
  · rintro ⟨⟨h1, h2⟩, h3, h4⟩
    exact ⟨⟨h2, h4, h1⟩, h3⟩
  · rintro ⟨⟨h1, h2, h3⟩, h4⟩
    exact ⟨⟨h3, h1⟩, h4, h2⟩
theorem validE_good {L : List Fl} : validE L = 0 ↔ GoodT L ∧ Srt L := by rw [validE_zero, stand_iff]

/-- what Add answers -/
def addE (L : List Fl) (f : Fl) : Int :=
  if pathOk f.path = false then 7 else if (fileAt L (pp f)).isSome then 19 else if fileE f = 0 ∧ L.length < 512 ∧ (L.all fun g => !(pp f == pp g) && !pre (pp f) (pp g) && !pre (pp g) (pp f)) = true then 0 else 8
theorem apart_all {L : List Fl} {f : Fl} : (L.all fun g => !(pp f == pp g) && !pre (pp f) (pp g) && !pre (pp g) (pp f)) = true ↔ ∀ g ∈ L, aprt (pp f) (pp g) := by
  simp only [List.all_eq_true, Bool.and_eq_true, Bool.not_eq_true', beq_eq_false_iff_ne, aprt, and_assoc]
theorem addE_zero {L : List Fl} {f : Fl} : addE L f = 0 ↔ fileE f = 0 ∧ L.length < 512 ∧ ∀ g ∈ L, aprt (pp f) (pp g) := by
  unfold addE
  constructor
  · intro h
    split at h
    · simp at h
    · split at h
      · simp at h
      · split at h
        · rename_i h3
          exact ⟨h3.1, h3.2.1, apart_all.1 h3.2.2⟩
        · simp at h
  · rintro ⟨h1, h2, h3⟩
    have hp := ((fileE_zero f).1 h1).1
    rw [if_neg (by rw [hp]; simp), if_neg, if_pos ⟨h1, h2, apart_all.2 h3⟩]
    rw [fileAt_none.2 (fun g hg e => (h3 g hg).1 e.symm)]; simp
theorem GoodT.add {L : List Fl} {f : Fl} (h : GoodT L) (ha : addE L f = 0) : GoodT (f :: L) := by
  obtain ⟨h1, h2, h3⟩ := addE_zero.1 ha
  exact h.cons h1 h3 h2
theorem addE_perm {L M : List Fl} (h : GoodT L) (hp : L.Perm M) (f : Fl) : addE L f = addE M f := by
  unfold addE
  rw [fileAt_perm hp h.apart, hp.length_eq, hp.all_eq]

/-- its place in the order -/
def place (p : List UInt8) : List Fl → Nat
  | [] => 0
  | g :: r => if cf g.path p < 0 then place p r + 1 else 0
theorem place_le (p : List UInt8) : ∀ L, place p L ≤ L.length
  | [] => Nat.le_refl _
  | g :: r => by have := place_le p r; simp only [place]; split <;> simp; omega
def insF (f : Fl) (L : List Fl) : List Fl := L.take (place f.path L) ++ f :: L.drop (place f.path L)
theorem insF_perm (f : Fl) (L : List Fl) : (insF f L).Perm (f :: L) := by
  unfold insF
  refine List.perm_middle.trans ?_
  rw [List.take_append_drop]
theorem insF_cons (f g : Fl) (r : List Fl) : insF f (g :: r) = if cf g.path f.path < 0 then g :: insF f r else f :: g :: r := by
  unfold insF
  simp only [place]
  split <;> simp
theorem insF_srt {f : Fl} : ∀ {L : List Fl}, Srt L → (∀ g ∈ L, g.path ≠ f.path) → Srt (insF f L)
  | [], _, _ => by simp [insF, place, Srt]
  | g :: r, h, hn => by
    have h' := List.pairwise_cons.1 h
    rw [insF_cons]
    split
    · rename_i hlt
      refine List.pairwise_cons.2 ⟨fun x hx => ?_, insF_srt h'.2 (fun x hx => hn x (by simp [hx]))⟩
      rcases List.mem_cons.1 ((insF_perm f r).mem_iff.1 hx) with rfl | hx
      · exact hlt
      · exact h'.1 x hx
    · rename_i hge
      have hfg : cf f.path g.path < 0 := by
        have h1 := cf_neg g.path f.path
        have h2 : cf g.path f.path ≠ 0 := fun e => hn g (by simp) (cf_zero.1 e)
        omega
      refine List.pairwise_cons.2 ⟨fun x hx => ?_, h⟩
      rcases List.mem_cons.1 hx with rfl | hx
      · exact hfg
      · exact cf_trans hfg (h'.1 x hx)
/-- what the document's Add makes of it -/
theorem validE_ins {L : List Fl} {f : Fl} (h : GoodT L) (hs : Srt L) (hp : pathOk f.path = true) (hn : (fileAt L (pp f)).isSome = false) : validE (insF f L) = addE L f := by
  have hn' : ∀ g ∈ L, pp g ≠ pp f := by
    rw [Option.isSome_eq_false_iff, Option.isNone_iff_eq_none] at hn
    exact fileAt_none.1 hn
  have hnp : ∀ g ∈ L, g.path ≠ f.path := fun g hg e => hn' g hg (by unfold pp; rw [e])
  have e0 : validE (insF f L) = 0 ↔ addE L f = 0 := by
    rw [validE_good, addE_zero]
    constructor
    · rintro ⟨h1, _⟩
      have h2 := h1.perm (insF_perm f L)
      exact ⟨h2.each f (by simp), by have := h2.len; simp at this; omega, h2.head⟩
    · rintro ⟨h1, h2, h3⟩
      exact ⟨(h.cons h1 h3 h2).perm (insF_perm f L).symm, insF_srt hs hnp⟩
  have e1 : addE L f = 0 ∨ addE L f = 8 := by
    unfold addE
    rw [if_neg (by rw [hp]; simp), if_neg (by rw [hn]; simp)]
    split
    · exact .inl rfl
    · exact .inr rfl
  have e2 : validE (insF f L) = 0 ∨ validE (insF f L) = 8 := by
    unfold validE
    rw [if_pos]
    · split
      · exact .inl rfl
      · exact .inr rfl
    · rw [List.all_eq_true]
      intro x hx
      rcases List.mem_cons.1 ((insF_perm f L).mem_iff.1 hx) with rfl | hx
      · exact hp
      · exact ((fileE_zero x).1 (h.each x hx)).1
  rcases e1 with e1 | e1
  · rw [e1, e0.2 e1]
  · rcases e2 with e2 | e2
    · rw [e0.1 e2] at e1; cases e1
    · rw [e1, e2]
theorem GoodT.filter {L : List Fl} (h : GoodT L) (p : Fl → Bool) : GoodT (L.filter p) :=
  ⟨fun f hf => h.each f (List.mem_filter.1 hf).1, h.apart.filter p, Nat.le_trans (List.length_filter_le _ _) h.len⟩
theorem Srt.filter {L : List Fl} (h : Srt L) (p : Fl → Bool) : Srt (L.filter p) := List.Pairwise.filter p h
/-- one taken out -/
def outF (p : List UInt8) (L : List Fl) : List Fl := L.filter fun g => !(g.path == p)
theorem outF_perm : ∀ {L : List Fl} {f : Fl}, L.Pairwise (fun f g => aprt (pp f) (pp g)) → f ∈ L → L.Perm (f :: outF f.path L)
  | [], f, _, h => by simp at h
  | g :: r, f, ha, h => by
    have ha' := List.pairwise_cons.1 ha
    rcases List.mem_cons.1 h with rfl | h
    · have e : outF f.path (f :: r) = r := by
        unfold outF
        rw [List.filter_cons_of_neg (by simp)]
        refine List.filter_eq_self.2 (fun x hx => ?_)
        simp only [Bool.not_eq_true', beq_eq_false_iff_ne]
        intro e
        exact (ha'.1 x hx).1 (by unfold pp; rw [e])
      rw [e]
    · have ih := outF_perm ha'.2 h
      have e : outF f.path (g :: r) = g :: outF f.path r := by
        unfold outF
        rw [List.filter_cons_of_pos]
        simp only [Bool.not_eq_true', beq_eq_false_iff_ne]
        intro e
        exact (ha'.1 f h).1 (by unfold pp; rw [e])
      rw [e]
      exact (ih.cons g).trans (List.Perm.swap _ _ _)
theorem pp_inj {f g : Fl} (h : pp f = pp g) : f.path = g.path := pcs_inj h
end Go.Proofs.YtbaheiimcnfaaaaGreat
