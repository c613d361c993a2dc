/-
  A file more, a file less, piece by piece.
-/
import Derived.Test.YtkopjamednedfaaGreatTri
namespace Go.Proofs.YtkopjamednedfaaGreat

def upd {α : Type} (S : Q → α) (q : Q) (d : α) : Q → α := fun x => if x = q then d else S x
theorem upd_at {α : Type} (S : Q → α) (q : Q) (d : α) : upd S q d q = d := if_pos rfl
theorem upd_ne {α : Type} (S : Q → α) {q x : Q} (d : α) (h : x ≠ q) : upd S q d x = S x := if_neg h
theorem upd_upd {α : Type} (S : Q → α) (q : Q) (d e : α) : upd (upd S q d) q e = upd S q e := by
  funext x; unfold upd; split <;> rfl

/-- on the way down: i directories count the file -/
def midP (L : List Fl) (f : Fl) (i : Nat) (q : Q) : Option Nd :=
  if pre q (pp f) = true ∧ q.length ≤ i then some (.dir (1 + cnt L q) (sz f + tot L q) (own L q)) else st L q
theorem take_pre {P : Q} {i : Nat} (h : i < P.length) : pre (P.take i) P = true :=
  pre_iff.2 ⟨P[i], P.drop (i + 1), by rw [← List.drop_eq_getElem_cons h, List.take_append_drop]⟩
theorem pre_take {q P : Q} (h : pre q P = true) : q = P.take q.length := by
  obtain ⟨n, r, rfl⟩ := pre_iff.1 h; simp
theorem take_len {P : Q} {i : Nat} (h : i ≤ P.length) : (P.take i).length = i := by simp; omega
theorem take_snocT {P : Q} {i : Nat} (h : i < P.length) : P.take i ++ [P[i]] = P.take (i + 1) := by
  rw [List.take_add_one, List.getElem?_eq_getElem h]; rfl
theorem midP_start {L : List Fl} {f : Fl} (h : GoodT (f :: L)) : upd (st L) [] (some (.dir (1 + cnt L []) (sz f + tot L []) (own L []))) = midP L f 0 := by
  funext q
  unfold midP
  by_cases hq : q = []
  · subst hq
    rw [upd_at, if_pos ⟨pre_nil (h.ne f (by simp)), by simp⟩]
  · rw [upd_ne _ _ hq, if_neg]
    rintro ⟨_, h2⟩
    exact hq (List.eq_nil_of_length_eq_zero (by omega))
theorem midP_next {L : List Fl} {f : Fl} {i : Nat} (h : i + 1 < (pp f).length) :
    upd (midP L f i) ((pp f).take (i + 1)) (some (.dir (1 + cnt L ((pp f).take (i + 1))) (sz f + tot L ((pp f).take (i + 1))) (own L ((pp f).take (i + 1))))) = midP L f (i + 1) := by
  funext q
  by_cases hq : q = (pp f).take (i + 1)
  · subst hq
    rw [upd_at]
    unfold midP
    rw [if_pos ⟨take_pre h, by rw [take_len (by omega)]; omega⟩]
  · rw [upd_ne _ _ hq]
    unfold midP
    by_cases hp : pre q (pp f) = true
    · by_cases hl : q.length ≤ i
      · rw [if_pos ⟨hp, hl⟩, if_pos ⟨hp, by omega⟩]
      · rw [if_neg (fun h => hl h.2), if_neg]
        rintro ⟨_, h2⟩
        have := pre_take hp
        rw [show q.length = i + 1 by omega] at this
        exact hq this
    · rw [if_neg (fun h => hp h.1), if_neg (fun h => hp h.1)]
/-- what stands next on the way -/
theorem midP_at {L : List Fl} {f : Fl} (hg : GoodT (f :: L)) {i : Nat} (h : i + 1 < (pp f).length) :
    midP L f i ((pp f).take (i + 1)) = if 0 < cnt L ((pp f).take (i + 1)) then some (.dir (cnt L ((pp f).take (i + 1))) (tot L ((pp f).take (i + 1))) (own L ((pp f).take (i + 1)))) else none := by
  unfold midP
  rw [if_neg, st_rest_pre hg (take_pre h)]
  · have hne : (pp f).take (i + 1) ≠ [] := by
      intro e
      have := congrArg List.length e
      rw [take_len (by omega)] at this; simp at this
    simp [hne]
  · rintro ⟨_, h2⟩
    rw [take_len (by omega)] at h2; omega
theorem midP_zero {L : List Fl} {f : Fl} {q : Q} {i : Nat} (h : pre q (pp f) = true) (hi : q.length ≤ i) : midP L f i q = some (.dir (1 + cnt L q) (sz f + tot L q) (own L q)) := if_pos ⟨h, hi⟩
theorem cnt_zero_own {L : List Fl} (hg : GoodT L) {q : Q} (h : cnt L q = 0) : own L q = 0 := by
  have := own_le (q := q) hg.ne
  rw [tot_zero h] at this; omega
/-- at the end of the way -/
theorem midP_end {L : List Fl} {f : Fl} (h : GoodT (f :: L)) :
    upd (upd (midP L f ((pp f).length - 1)) (pp f).dropLast (some (.dir (1 + cnt L (pp f).dropLast) (sz f + tot L (pp f).dropLast) (sz f + own L (pp f).dropLast)))) (pp f) (some (.file (sz f))) = st (f :: L) := by
  funext q
  have hne : pp f ≠ [] := h.ne f (by simp)
  by_cases h1 : q = pp f
  · subst h1; rw [upd_at, st_cons_at]
  · rw [upd_ne _ _ h1]
    by_cases h2 : q = (pp f).dropLast
    · subst h2
      rw [upd_at, st_cons_pre h (drop_pre hne rfl), if_pos rfl]
    · rw [upd_ne _ _ h2]
      by_cases hp : pre q (pp f) = true
      · rw [midP_zero hp (by have := pre_len hp; omega), st_cons_pre h hp, if_neg (Ne.symm h2), Nat.zero_add]
      · unfold midP
        rw [if_neg (fun h => hp h.1), st_cons_other hne h1 (by simpa using hp)]
theorem midP_leaf {L : List Fl} {f : Fl} (h : GoodT (f :: L)) (i : Nat) : midP L f i (pp f) = none := by
  unfold midP
  rw [if_neg (fun h => by rw [pre_irrefl] at h; cases h.1), st_rest_at h]
/-- the way is of directories -/
theorem midP_proper {L : List Fl} {f : Fl} (h : GoodT (f :: L)) {i : Nat} {q : Q} {n : List UInt8} (hs : (midP L f i (q ++ [n])).isSome = true) : ∃ c a o, midP L f i q = some (.dir c a o) := by
  unfold midP at hs ⊢
  by_cases h1 : pre q (pp f) = true ∧ q.length ≤ i
  · rw [if_pos h1]; exact ⟨_, _, _, rfl⟩
  · rw [if_neg h1]
    by_cases h2 : pre (q ++ [n]) (pp f) = true ∧ (q ++ [n]).length ≤ i
    · exact absurd ⟨pre_snoc h2.1, by have := h2.2; simp at this; omega⟩ h1
    · rw [if_neg h2] at hs
      exact ⟨_, _, _, st_up h.tail hs⟩

/-- on the way down: i directories do not count it any more -/
def midD (L : List Fl) (f : Fl) (i : Nat) (q : Q) : Option Nd :=
  if pre q (pp f) = true ∧ q.length < i then some (.dir (cnt L q) (tot L q) (own L q)) else st (f :: L) q
/-- .. and what is in them -/
def keyD (L : List Fl) (f : Fl) (i : Nat) (q : Q) (n : List UInt8) : Bool :=
  if pre q (pp f) = true ∧ q.length < i then (st L (q ++ [n])).isSome else (st (f :: L) (q ++ [n])).isSome
theorem midD_start (L : List Fl) (f : Fl) : midD L f 0 = st (f :: L) := by funext q; unfold midD; rw [if_neg (by omega)]
theorem keyD_start (L : List Fl) (f : Fl) (q : Q) (n : List UInt8) : keyD L f 0 q n = (st (f :: L) (q ++ [n])).isSome := by unfold keyD; rw [if_neg (by omega)]
theorem midD_at {L : List Fl} {f : Fl} (h : GoodT (f :: L)) {i j : Nat} (hj : i ≤ j) (hl : j < (pp f).length) :
    midD L f i ((pp f).take j) = some (.dir (1 + cnt L ((pp f).take j)) (sz f + tot L ((pp f).take j)) ((if (pp f).dropLast = (pp f).take j then sz f else 0) + own L ((pp f).take j))) := by
  unfold midD
  rw [if_neg (fun h => by have := h.2; rw [take_len (by omega)] at this; omega), st_cons_pre h (take_pre hl)]
theorem midD_leaf (L : List Fl) (f : Fl) (i : Nat) : midD L f i (pp f) = some (.file (sz f)) := by
  unfold midD
  rw [if_neg (fun h => by rw [pre_irrefl] at h; cases h.1), st_cons_at]
theorem midD_next {L : List Fl} {f : Fl} {i : Nat} (h : i < (pp f).length) :
    upd (midD L f i) ((pp f).take i) (some (.dir (cnt L ((pp f).take i)) (tot L ((pp f).take i)) (own L ((pp f).take i)))) = midD L f (i + 1) := by
  funext q
  by_cases hq : q = (pp f).take i
  · subst hq
    rw [upd_at]
    unfold midD
    rw [if_pos ⟨take_pre h, by rw [take_len (by omega)]; omega⟩]
  · rw [upd_ne _ _ hq]
    unfold midD
    by_cases hp : pre q (pp f) = true
    · by_cases hl : q.length < i
      · rw [if_pos ⟨hp, hl⟩, if_pos ⟨hp, by omega⟩]
      · rw [if_neg (fun h => hl h.2), if_neg]
        rintro ⟨_, h2⟩
        have := pre_take hp
        rw [show q.length = i by omega] at this
        exact hq this
    · rw [if_neg (fun h => hp h.1), if_neg (fun h => hp h.1)]
theorem keyD_other {L : List Fl} {f : Fl} {i : Nat} {q : Q} (hq : q ≠ (pp f).take i) (n : List UInt8) : keyD L f (i + 1) q n = keyD L f i q n := by
  unfold keyD
  by_cases hp : pre q (pp f) = true
  · by_cases hl : q.length < i
    · rw [if_pos ⟨hp, Nat.lt_succ_of_lt hl⟩, if_pos ⟨hp, hl⟩]
    · rw [if_neg, if_neg (fun h => hl h.2)]
      rintro ⟨_, h2⟩
      have := pre_take hp
      rw [show q.length = i by omega] at this
      exact hq this
  · rw [if_neg (fun h => hp h.1), if_neg (fun h => hp h.1)]
theorem keyD_new {L : List Fl} {f : Fl} {i : Nat} (h : i < (pp f).length) (n : List UInt8) : keyD L f (i + 1) ((pp f).take i) n = (st L ((pp f).take i ++ [n])).isSome := by
  unfold keyD
  rw [if_pos ⟨take_pre h, by rw [take_len (by omega)]; omega⟩]
theorem keyD_old {L : List Fl} {f : Fl} {i : Nat} (h : i < (pp f).length) (n : List UInt8) : keyD L f i ((pp f).take i) n = (st (f :: L) ((pp f).take i ++ [n])).isSome := by
  unfold keyD
  rw [if_neg (fun h2 => by have := h2.2; rw [take_len (by omega)] at this; omega)]
theorem st_other_child {L : List Fl} {f : Fl} (hg : GoodT (f :: L)) {i : Nat} (h : i < (pp f).length) {n : List UInt8} (hn : n ≠ (pp f)[i]) : st (f :: L) ((pp f).take i ++ [n]) = st L ((pp f).take i ++ [n]) := by
  have key : ∀ r, pp f ≠ (pp f).take i ++ [n] ++ r := by
    intro r e
    have e2 : (pp f)[i]? = some n := by
      rw [e, List.append_assoc, List.getElem?_append_right (by rw [take_len (by omega)]; omega), take_len (by omega)]; simp
    rw [List.getElem?_eq_getElem h] at e2
    exact hn (Option.some.inj e2).symm
  refine st_cons_other (hg.ne f (by simp)) (fun e => key [] (by rw [List.append_nil]; exact e.symm)) ?_
  rw [pre_false]
  intro m r e
  exact key (m :: r) e
/-- nothing is left in it -/
theorem keyD_clear {L : List Fl} {f : Fl} {i : Nat} (h : i < (pp f).length) (h0 : cnt L ((pp f).take i) = 0) (n : List UInt8) : keyD L f (i + 1) ((pp f).take i) n = false := by
  rw [keyD_new h]
  have : st L ((pp f).take i ++ [n]) = none := by
    have hz : ∀ g ∈ L, pre ((pp f).take i) (pp g) = false := by
      intro g hg
      cases hp : pre ((pp f).take i) (pp g)
      · rfl
      · have := cnt_pos.2 ⟨g, hg, hp⟩; omega
    refine st_none_of (fun g hg e => ?_) (by simp) (fun g hg => ?_)
    · have := hz g hg
      rw [e, pre_last] at this; cases this
    · cases hp : pre ((pp f).take i ++ [n]) (pp g)
      · rfl
      · have := hz g hg
        rw [pre_snoc hp] at this; cases this
  rw [this]; rfl
/-- the next one is gone -/
theorem keyD_drop {L : List Fl} {f : Fl} (hg : GoodT (f :: L)) {i : Nat} (h : i < (pp f).length) (h0 : i + 1 < (pp f).length → cnt L ((pp f).take (i + 1)) = 0) (n : List UInt8) :
    keyD L f (i + 1) ((pp f).take i) n = if n = (pp f)[i] then false else keyD L f i ((pp f).take i) n := by
  rw [keyD_new h]
  by_cases hn : n = (pp f)[i]
  · rw [if_pos hn]
    subst hn
    rw [take_snocT h]
    by_cases hl : i + 1 < (pp f).length
    · rw [st_rest_pre hg (take_pre hl), h0 hl, if_neg]
      · rfl
      · rintro (e | e)
        · have := congrArg List.length e
          rw [take_len (by omega)] at this; simp at this
        · omega
    · rw [List.take_of_length_le (by omega), st_rest_at hg]; rfl
  · rw [if_neg hn, keyD_old h, st_other_child hg h hn]
/-- the next one stays -/
theorem keyD_stay {L : List Fl} {f : Fl} (hg : GoodT (f :: L)) {i : Nat} (h : i < (pp f).length) (hl : i + 1 < (pp f).length) (h0 : 0 < cnt L ((pp f).take (i + 1))) (n : List UInt8) :
    keyD L f (i + 1) ((pp f).take i) n = keyD L f i ((pp f).take i) n := by
  rw [keyD_new h, keyD_old h]
  by_cases hn : n = (pp f)[i]
  · subst hn
    rw [take_snocT h, st_rest_pre hg (take_pre hl), if_pos (.inr h0), st_cons_pre hg (take_pre hl)]; rfl
  · rw [st_other_child hg h hn]
/-- at the end -/
theorem midD_end {L : List Fl} {f : Fl} (hg : GoodT (f :: L)) {q : Q} {d : Nd} (h : st L q = some d) : midD L f (pp f).length q = some d := by
  unfold midD
  by_cases hp : pre q (pp f) = true
  · rw [if_pos ⟨hp, pre_len hp⟩, ← h, st_rest_pre hg hp]
    rw [st_rest_pre hg hp] at h
    split
    · rfl
    · rename_i e; rw [if_neg e] at h; cases h
  · rw [if_neg (fun h => hp h.1)]
    have hne : q ≠ pp f := by
      rintro rfl
      rw [st_rest_at hg] at h; cases h
    rw [st_cons_other (hg.ne f (by simp)) hne (by simpa using hp)]; exact h
theorem keyD_end {L : List Fl} {f : Fl} (hg : GoodT (f :: L)) (q : Q) (n : List UInt8) : keyD L f (pp f).length q n = (st L (q ++ [n])).isSome := by
  unfold keyD
  by_cases hp : pre q (pp f) = true
  · rw [if_pos ⟨hp, pre_len hp⟩]
  · rw [if_neg (fun h => hp h.1)]
    by_cases h1 : q ++ [n] = pp f
    · rw [← h1, pre_last] at hp; exact absurd rfl hp
    · rw [st_cons_other (hg.ne f (by simp)) h1]
      cases h2 : pre (q ++ [n]) (pp f)
      · rfl
      · exact absurd (pre_snoc h2) hp
end Go.Proofs.YtkopjamednedfaaGreat
