/-
  Plain lists: tokens with a blank between them, a blank ahead, a comment between, beginnings.
-/
import Derived.Test.YtclpbhoopmdojaaPure2
namespace Go.Proofs.Ytclpbhoopmdojaa

/-- a token as the text's cutting makes it -/
def good (t : Tk) : Prop := ∃ c r, t.text = c :: r ∧ kd c ≠ 0 ∧ t.kind = (kd c : Nat) ∧ (inW c = true → ∀ x ∈ r, inW x = true) ∧ (inW c = false → r = [])
theorem tg_cons {r : List UInt8} {n : Nat} {t : Tk} {R : List Tk} {E : Int} (h : tg r n = (t :: R, E)) :
    ∃ c q, r.drop (gp false r) = c :: q ∧ kd c ≠ 0 ∧ t = ⟨(kd c : Nat), c :: q.take (tl c q), ((n + gp false r : Nat) : Int)⟩ ∧ tg (q.drop (tl c q)) (n + gp false r + 1 + tl c q) = (R, E) := by
  unfold tg at h
  rcases hr : r.drop (gp false r) with _ | ⟨c, q⟩
  · rw [hr, tq_nil] at h; simp at h
  · rw [hr] at h
    by_cases hk : kd c = 0
    · rw [tq_bad hk] at h; simp at h
    · rw [tq_tok hk] at h
      simp only [Prod.mk.injEq, List.cons.injEq] at h
      obtain ⟨⟨h1, h2⟩, h3⟩ := h
      exact ⟨c, q, rfl, hk, h1.symm, Prod.ext h2 h3⟩
theorem tg_good : ∀ (L : List Tk) (r : List UInt8) (n : Nat) (E : Int), tg r n = (L, E) → ∀ t ∈ L, good t
  | [], _, _, _, _, t, ht => by cases ht
  | u :: L, r, n, E, h, t, ht => by
    obtain ⟨c, q, hr, hk, rfl, h2⟩ := tg_cons h
    rcases List.mem_cons.1 ht with rfl | ht
    · refine ⟨c, _, rfl, hk, rfl, fun hw => ?_, fun hw => ?_⟩
      · unfold tl; rw [if_pos hw]; exact (wl_all q).1
      · unfold tl; rw [if_neg (by simp [hw])]; rfl
    · exact tg_good L _ _ _ h2 t ht
/-- the texts, a blank behind each -/
def pln : List Tk → List UInt8
  | [] => []
  | t :: L => t.text ++ 32 :: pln L
theorem pln_append : ∀ a b, pln (a ++ b) = pln a ++ pln b
  | [], b => rfl
  | t :: a, b => by simp [pln, pln_append a b]
/-- the same tokens, at the places that they have there -/
def re : List Tk → Nat → List Tk
  | [], _ => []
  | t :: L, n => ⟨t.kind, t.text, (n : Int)⟩ :: re L (n + t.text.length + 1)
theorem re_len : ∀ L n, (re L n).length = L.length
  | [], _ => rfl
  | t :: L, n => by simp [re, re_len L]
theorem re_get : ∀ (L : List Tk) (n i : Nat) (h : i < (re L n).length) (h' : i < L.length), (re L n)[i].kind = L[i].kind ∧ (re L n)[i].text = L[i].text
  | [], _, i, _, h' => by simp at h'
  | t :: L, n, 0, _, _ => ⟨rfl, rfl⟩
  | t :: L, n, i + 1, h, h' => by
    simp only [re, List.getElem_cons_succ]
    exact re_get L _ i _ _
theorem wl_app : ∀ (r R : List UInt8), (∀ x ∈ r, inW x = true) → wl (r ++ 32 :: R) = r.length
  | [], R, _ => by
    show wl (32 :: R) = 0
    rw [wl, if_neg (by decide)]
  | c :: r, R, h => by
    rw [List.cons_append, wl, if_pos (h c (List.mem_cons_self)), wl_app r R (fun x hx => h x (List.mem_cons_of_mem _ hx)), List.length_cons]
    omega
theorem tg_app (t : Tk) (ht : good t) (R : List UInt8) (n : Nat) : tg (t.text ++ 32 :: R) n = (⟨t.kind, t.text, (n : Int)⟩ :: (tg R (n + t.text.length + 1)).1, (tg R (n + t.text.length + 1)).2) := by
  obtain ⟨c, r, h1, hk, h2, h3, h4⟩ := ht
  rw [h1, List.cons_append, tg_tok hk]
  have e : tl c (r ++ 32 :: R) = r.length := by
    unfold tl
    cases hw : inW c
    · rw [h4 hw]; rfl
    · rw [if_pos rfl, wl_app r R (h3 hw)]
  rw [e, List.drop_left, List.take_left, tg_blank (by decide), h2]
  rw [show n + 1 + r.length + 1 = n + (c :: r).length + 1 by simp; omega]
theorem tg_pln : ∀ (L : List Tk), (∀ t ∈ L, good t) → ∀ (R : List UInt8) (n : Nat), tg (pln L ++ R) n = (re L n ++ (tg R (n + (pln L).length)).1, (tg R (n + (pln L).length)).2)
  | [], _, R, n => by simp [pln, re]
  | t :: L, h, R, n => by
    have ih := tg_pln L (fun u hu => h u (List.mem_cons_of_mem _ hu)) R (n + t.text.length + 1)
    rw [pln, List.append_assoc, List.cons_append, tg_app t (h t List.mem_cons_self), ih, re]
    rw [show n + (t.text ++ 32 :: pln L).length = n + t.text.length + 1 + (pln L).length by simp; omega]
    rfl
theorem toks_pln {L : List Tk} (h : ∀ t ∈ L, good t) : toks (pln L) = (re L 0, -1) := by
  have := tg_pln L h [] 0
  rw [List.append_nil, tg_nil, List.append_nil] at this
  exact this
theorem cl_app : ∀ (c R : List UInt8), (∀ x ∈ c, x ≠ 10) → cl (c ++ 10 :: R) = c.length
  | [], R, _ => by
    show cl (10 :: R) = 0
    rw [cl, if_pos (by decide)]
  | x :: c, R, h => by
    rw [List.cons_append, cl, if_neg (by simpa using h x List.mem_cons_self), cl_app c R (fun y hy => h y (List.mem_cons_of_mem _ hy)), List.length_cons]
    omega
theorem toks_both {L : List Tk} (h : ∀ t ∈ L, good t) (c : List UInt8) (hc : ∀ x ∈ c, x ≠ 10) : (toks (pln L ++ 35 :: (c ++ 10 :: pln L))).2 = -1 ∧ (toks (pln L ++ 35 :: (c ++ 10 :: pln L))).1.length = 2 * L.length := by
  unfold toks
  rw [tg_pln L h, tg_comment, cl_app c _ hc, List.drop_left, tg_blank (by decide)]
  have := tg_pln L h [] (0 + (pln L).length + 1 + c.length + 1)
  rw [List.append_nil, tg_nil, List.append_nil] at this
  rw [this]
  refine ⟨rfl, ?_⟩
  simp [re_len]; omega
/-- a blank ahead -/
def shT (t : Tk) : Tk := ⟨t.kind, t.text, t.at' + 1⟩
def shE (e : Int) : Int := if e < 0 then e else e + 1
theorem tg_shift : ∀ (k : Nat) (r : List UInt8) (n : Nat), r.length ≤ k → tg r (n + 1) = ((tg r n).1.map shT, shE (tg r n).2)
  | 0, r, n, hk => by
    obtain rfl : r = [] := List.eq_nil_of_length_eq_zero (by omega)
    rw [tg_nil, tg_nil]; rfl
  | k + 1, r, n, hk => by
    unfold tg
    rcases hr : r.drop (gp false r) with _ | ⟨c, q⟩
    · rw [tq_nil, tq_nil]; rfl
    · by_cases h : kd c = 0
      · rw [tq_bad h, tq_bad h]
        refine Prod.ext rfl ?_
        show ((n + 1 + gp false r : Nat) : Int) = shE ((n + gp false r : Nat) : Int)
        unfold shE
        rw [if_neg (by omega)]
        omega
      · have hl : q.length + 1 ≤ r.length := by
          have := congrArg List.length hr
          simp only [List.length_drop, List.length_cons] at this
          omega
        have ih := tg_shift k (q.drop (tl c q)) (n + gp false r + 1 + tl c q) (by rw [List.length_drop]; omega)
        rw [tq_tok h, tq_tok h, show n + 1 + gp false r + 1 + tl c q = n + gp false r + 1 + tl c q + 1 by omega, ih]
        refine Prod.ext ?_ rfl
        simp only [List.map_cons, List.cons.injEq, and_true]
        show (⟨_, _, ((n + 1 + gp false r : Nat) : Int)⟩ : Tk) = ⟨_, _, ((n + gp false r : Nat) : Int) + 1⟩
        congr 1; omega
theorem toks_blank (s : List UInt8) : toks (32 :: s) = ((toks s).1.map shT, shE (toks s).2) := by
  unfold toks
  rw [tg_blank (by decide)]
  exact tg_shift _ s 0 (Nat.le_refl _)
/-- beginnings -/
theorem gp_take : ∀ (b : Bool) (r : List UInt8) (j : Nat), gp b r < j → gp b (r.take j) = gp b r
  | true, [], j, _ => by simp
  | false, [], j, _ => by simp
  | b, c :: r, 0, h => by omega
  | true, c :: r, j + 1, h => by
    rw [gp] at h
    rw [List.take_succ_cons, gp, gp, gp_take _ r j (by omega)]
  | false, c :: r, j + 1, h => by
    rw [gp] at h
    rw [List.take_succ_cons, gp, gp]
    by_cases h1 : (c == 35) = true
    · rw [if_pos h1] at h
      rw [if_pos h1, if_pos h1, gp_take _ r j (by omega)]
    · rw [if_neg h1] at h
      rw [if_neg h1, if_neg h1]
      by_cases h2 : isB c = true
      · rw [if_pos h2] at h
        rw [if_pos h2, if_pos h2, gp_take _ r j (by omega)]
      · rw [if_neg h2, if_neg h2]
theorem wl_take : ∀ (r : List UInt8) (j : Nat), wl r ≤ j → wl (r.take j) = wl r
  | [], j, _ => by simp
  | c :: r, 0, h => by rw [List.take_zero, Nat.le_zero.1 h]; rfl
  | c :: r, j + 1, h => by
    rw [wl] at h
    rw [List.take_succ_cons, wl, wl]
    by_cases h1 : inW c = true
    · rw [if_pos h1] at h
      rw [if_pos h1, if_pos h1, wl_take r j (by omega)]
    · rw [if_neg h1, if_neg h1]
theorem tl_take (c : UInt8) (q : List UInt8) (j : Nat) (h : tl c q ≤ j) : tl c (q.take j) = tl c q := by
  unfold tl at h ⊢
  by_cases hw : inW c = true
  · rw [if_pos hw] at h
    rw [if_pos hw, if_pos hw, wl_take q j h]
  · rw [if_neg hw, if_neg hw]
theorem tg_pre_step {r : List UInt8} {n j : Nat} {c : UInt8} {q : List UInt8} (hr : r.drop (gp false r) = c :: q) (hk : kd c ≠ 0) :
    tg (r.take (gp false r + 1 + tl c q + j)) n = (⟨(kd c : Nat), c :: q.take (tl c q), ((n + gp false r : Nat) : Int)⟩ :: (tg ((q.drop (tl c q)).take j) (n + gp false r + 1 + tl c q)).1, (tg ((q.drop (tl c q)).take j) (n + gp false r + 1 + tl c q)).2) := by
  have e0 := gp_take false r (gp false r + 1 + tl c q + j) (by omega)
  have hd : tg (r.take (gp false r + 1 + tl c q + j)) n = tq (c :: q.take (tl c q + j)) (n + gp false r) := by
    show tq ((r.take (gp false r + 1 + tl c q + j)).drop (gp false (r.take (gp false r + 1 + tl c q + j)))) (n + gp false (r.take (gp false r + 1 + tl c q + j))) = _
    rw [e0, List.drop_take, hr, show gp false r + 1 + tl c q + j - gp false r = (tl c q + j) + 1 by omega, List.take_succ_cons]
  rw [hd, tq_tok hk, tl_take c q _ (by omega)]
  rw [List.take_take, Nat.min_eq_left (by omega), List.drop_take, Nat.add_sub_cancel_left]
theorem tg_pre : ∀ (k : Nat) (L : List Tk) (r : List UInt8) (n : Nat) (E : Int), tg r n = (L, E) → (h : k < L.length) → ∃ p m j : Nat, L[k].at' = p ∧ L[k].text.length = m ∧ p + m = n + j ∧ j ≤ r.length ∧ tg (r.take j) n = (L.take (k + 1), -1)
  | _, [], _, _, _, _, h => by simp at h
  | k, t :: L, r, n, E, hL, h => by
    obtain ⟨c, q, hr, hk, rfl, h2⟩ := tg_cons hL
    have hl : q.length + 1 + gp false r ≤ r.length := by
      have := congrArg List.length hr
      simp only [List.length_drop, List.length_cons] at this
      omega
    have ht := tl_le c q
    obtain _ | k := k
    · refine ⟨n + gp false r, 1 + tl c q, gp false r + 1 + tl c q, rfl, ?_, by omega, by omega, ?_⟩
      · simp only [List.getElem_cons_zero, List.length_cons, List.length_take]; omega
      · have := tg_pre_step (n := n) (j := 0) hr hk
        rw [Nat.add_zero, List.take_zero, tg_nil] at this
        exact this
    · obtain ⟨p, m, j, h3, h4, h5, h6, h7⟩ := tg_pre k L _ _ E h2 (by simpa using h)
      rw [List.length_drop] at h6
      refine ⟨p, m, gp false r + 1 + tl c q + j, by simpa using h3, by simpa using h4, by omega, by omega, ?_⟩
      rw [tg_pre_step hr hk, h7]
      rfl
theorem toks_pre {s : List UInt8} {L : List Tk} {E : Int} (hL : toks s = (L, E)) {k : Nat} (h : k < L.length) : ∃ p m : Nat, L[k].at' = p ∧ L[k].text.length = m ∧ p + m ≤ s.length ∧ toks (s.take (p + m)) = (L.take (k + 1), -1) := by
  obtain ⟨p, m, j, h1, h2, h3, h4, h5⟩ := tg_pre k L s 0 E hL h
  rw [Nat.zero_add] at h3
  exact ⟨p, m, h1, h2, by omega, by rw [h3]; exact h5⟩
/-- how long it all is -/
theorem pln_len : ∀ (k : Nat) (r : List UInt8) (n : Nat), r.length ≤ k → (pln (tg r n).1).length ≤ 2 * r.length
  | 0, r, n, hk => by
    obtain rfl : r = [] := List.eq_nil_of_length_eq_zero (by omega)
    rw [tg_nil]; simp [pln]
  | k + 1, r, n, hk => by
    rcases hL : tg r n with ⟨L, E⟩
    rcases L with _ | ⟨t, L⟩
    · simp [pln]
    · obtain ⟨c, q, hr, hkd, rfl, h2⟩ := tg_cons hL
      have hl : q.length + 1 + gp false r = r.length := by
        have := congrArg List.length hr
        have := gp_le false r
        simp only [List.length_drop, List.length_cons] at *
        omega
      have ht := tl_le c q
      have ih := pln_len k (q.drop (tl c q)) (n + gp false r + 1 + tl c q) (by rw [List.length_drop]; omega)
      rw [h2] at ih
      simp only [List.length_drop] at ih
      simp only [pln, List.length_append, List.length_cons, List.length_take]
      omega
end Go.Proofs.Ytclpbhoopmdojaa
