/-
  Tokens of words and marks; what Parse answers of a manifest of one word.
-/
import Derived.Test.YtemoplpfndnklaaGreatDoorJBkA
import Derived.Test.YtemoplpfndnklaaGreatDoorJGlb
namespace Go.Proofs.YtemoplpfndnklaaGreatDoor

def pre (k : Tk) (x : List Tk × Int) : List Tk × Int := (k :: x.1, x.2)
theorem wl_app : ∀ (w r : List UInt8), (∀ x ∈ w, inW x = true) → (∀ c q, r = c :: q → inW c = false) → wl (w ++ r) = w.length
  | [], r, _, h => by
    cases r with
    | nil => rfl
    | cons c q => show wl (c :: q) = 0; unfold wl; rw [if_neg (by rw [h c q rfl]; decide)]
  | x :: w, r, hw, h => by
    show wl (x :: (w ++ r)) = _
    unfold wl
    rw [if_pos (hw x (by simp)), wl_app w r (fun y hy => hw y (by simp [hy])) h]
    simp; omega
theorem tg_word {w r : List UInt8} {n : Nat} (h0 : w ≠ []) (hw : ∀ x ∈ w, inW x = true) (hr : ∀ c q, r = c :: q → inW c = false) : tg (w ++ r) n = pre ⟨1, w, (n : Int)⟩ (tg r (n + w.length)) := by
  cases w with
  | nil => exact absurd rfl h0
  | cons c w =>
    have hc := hw c (by simp)
    have e1 := wl_app w r (fun y hy => hw y (by simp [hy])) hr
    have hk : kd c = 1 := kd_word hc
    show tg (c :: (w ++ r)) n = _
    rw [tg_tok (by rw [hk]; decide)]
    have e2 : ktl c (w ++ r) = w.length := by unfold ktl; rw [if_pos hc, e1]
    rw [e2, hk, List.take_left, List.drop_left]
    simp only [pre, List.length_cons]
    rw [show n + 1 + w.length = n + (w.length + 1) from by omega]
    rfl
theorem tg_mark {c : UInt8} (r : List UInt8) (n : Nat) (h : mkd c ≠ 0) : tg (c :: r) n = pre ⟨(mkd c : Int), [c], (n : Int)⟩ (tg r (n + 1)) := by
  have hk := kd_mark h
  have hw := mkd_word h
  rw [tg_tok (by rw [hk]; exact h)]
  have e2 : ktl c r = 0 := by unfold ktl; rw [if_neg (by rw [hw]; decide)]
  rw [e2, hk]
  rfl
theorem tg_sp (r : List UInt8) (n : Nat) : tg (32 :: r) n = tg r (n + 1) := tg_blank (by decide)
/-- the automaton over tokens and what stands behind them -/
def gob (p : List UInt8) (E : Int) (st : St) (x : List Tk × Int) : List Tg × Int := go p E x.2 st x.1
theorem gob_pre (p : List UInt8) (E : Int) (st : St) (k : Tk) (x : List Tk × Int) : gob p E st (pre k x) = match stp p st k with | none => ([], k.at') | some st' => gob p E st' x := rfl
theorem gob_some {p : List UInt8} {E : Int} {st st' : St} {k : Tk} (x : List Tk × Int) (h : stp p st k = some st') : gob p E st (pre k x) = gob p E st' x := by rw [gob_pre, h]
theorem gob_none {p : List UInt8} {E : Int} {st : St} {k : Tk} (x : List Tk × Int) (h : stp p st k = none) : gob p E st (pre k x) = ([], k.at') := by rw [gob_pre, h]
theorem gob_end (p : List UInt8) (E : Int) (st : St) (n : Nat) : gob p E st (tg [] n) = fin E (-1) st := by rw [tg_nil]; rfl
theorem prsM_gob {p s : List UInt8} (hp : okP p = true) (hs : s.length ≤ 4096) : prsM p s = gob p (endE s) (.top []) (tg s 0) := by
  unfold prsM; rw [if_pos hp, if_pos hs]; rfl
/-- the head of a manifest of one list -/
def hdF (F : List UInt8) : List UInt8 := [116, 97, 114, 103, 101, 116, 32, 97, 123] ++ F ++ [61, 91]
theorem hdF_len (F : List UInt8) : (hdF F).length = 11 + F.length := by simp [hdF]; omega
theorem wTarget_w : ∀ x ∈ wTarget, inW x = true := by decide
theorem wSrcs_w : ∀ x ∈ wSrcs, inW x = true := by decide
theorem wDeps_w : ∀ x ∈ wDeps, inW x = true := by decide
theorem wSee_w : ∀ x ∈ wSee, inW x = true := by decide
theorem isF_word {F : List UInt8} (h : isF F = true) : (∀ x ∈ F, inW x = true) ∧ F ≠ [] ∧ F.length ≤ 4 := by
  unfold isF at h
  simp only [Bool.or_eq_true, beq_iff_eq] at h
  rcases h with (rfl | rfl) | rfl
  · exact ⟨wSrcs_w, by decide, by decide⟩
  · exact ⟨wDeps_w, by decide, by decide⟩
  · exact ⟨wSee_w, by decide, by decide⟩
theorem nw (c : UInt8) (h : inW c = false) (r : List UInt8) : ∀ d q, c :: r = d :: q → inW d = false := fun d q e => by injection e with e _; rw [← e]; exact h
theorem nw_nil : ∀ d q, ([] : List UInt8) = d :: q → inW d = false := fun d q e => by cases e
/-- the first three tokens -/
theorem tok3 (Y : List UInt8) : tg ([116, 97, 114, 103, 101, 116, 32, 97, 123] ++ Y) 0 = pre ⟨1, wTarget, 0⟩ (pre ⟨1, [97], 7⟩ (pre ⟨2, [123], 8⟩ (tg Y 9))) := by
  show tg (wTarget ++ 32 :: ([97] ++ 123 :: Y)) 0 = _
  rw [tg_word (by decide) wTarget_w (nw 32 (by decide) _), tg_sp, tg_word (by decide) (by decide) (nw 123 (by decide) _), tg_mark _ _ (by decide)]
  rfl
theorem run3 (p : List UInt8) (E : Int) (Y : List UInt8) : gob p E (.top []) (tg ([116, 97, 114, 103, 101, 116, 32, 97, 123] ++ Y) 0) = gob p E (.fl [] ⟨[97], [], [], []⟩ []) (tg Y 9) := by
  rw [tok3, gob_some (st' := .nm []) _ (by simp [stp]), gob_some (st' := .op [] [97]) _ (by simp only [stp]; rw [if_pos ⟨trivial, by decide, rfl⟩]), gob_some (st' := .fl [] ⟨[97], [], [], []⟩ []) _ (by simp [stp])]
theorem runW {p : List UInt8} (E : Int) {F W : List UInt8} (X : List UInt8) (hF : isF F = true) (h0 : W ≠ []) (hW : ∀ x ∈ W, inW x = true) (hX : ∀ c q, X = c :: q → inW c = false) :
    gob p E (.top []) (tg (hdF F ++ W ++ X) 0) = match addI p F ⟨[97], [], [], []⟩ W with
      | none => ([], 11 + (F.length : Int))
      | some u => gob p E (.sp [] u [F] F) (tg X (11 + F.length + W.length)) := by
  obtain ⟨f1, f2, _⟩ := isF_word hF
  have e : hdF F ++ W ++ X = [116, 97, 114, 103, 101, 116, 32, 97, 123] ++ (F ++ 61 :: 91 :: (W ++ X)) := by simp [hdF]
  rw [e, run3, tg_word f2 f1 (nw 61 (by decide) _), gob_some (st' := .eq [] ⟨[97], [], [], []⟩ [F] F) _ (by simp [stp, hF]), tg_mark _ _ (by decide), gob_some (st' := .bg [] ⟨[97], [], [], []⟩ [F] F) _ (by simp [stp, mkd]),
    tg_mark _ _ (by decide), gob_some (st' := .i0 [] ⟨[97], [], [], []⟩ [F] F) _ (by simp [stp, mkd]), tg_word h0 hW hX, gob_pre]
  have e2 : 9 + F.length + 1 + 1 = 11 + F.length := by omega
  simp only [stp]
  rw [if_neg (by decide), if_pos trivial, e2]
  cases addI p F ⟨[97], [], [], []⟩ W with
  | none => simp
  | some u => rfl
theorem chk_len {l : Lb} (h : (chk l).2 = 0) : okL l = true ∧ (chk l).1 = l := by
  unfold chk at h ⊢
  split at h
  · rename_i h1; rw [if_pos h1]; exact ⟨h1, rfl⟩
  · cases h
theorem okC_len {l : List UInt8} (h : okC l = true) : l.length ≤ 32 := by
  unfold okC at h; simp at h; exact h.1.2
/-- a word that a list takes is short -/
theorem word_len {p F W : List UInt8} {t u : Tg} (h : addI p F t W = some u) : W.length ≤ 300 := by
  unfold addI at h
  split at h
  · split at h
    · rename_i h1
      simp only [Bool.and_eq_true, Bool.not_eq_true', decide_eq_true_eq] at h1
      have h2 := h1.1.1
      have key : ∀ x, lit p x = true → x.length ≤ 120 := fun x hx => by
        unfold lit at hx
        simp only [Bool.and_eq_true, decide_eq_true_eq] at hx
        have h3 := hx.1
        unfold jn at h3
        split at h3
        · rename_i h4; exact (okP_len h4.2).1
        · cases h3
      unfold srcW at h2
      simp only [Bool.or_eq_true] at h2
      rcases h2 with h2 | h2
      · have := key _ h2; omega
      · unfold glb at h2
        simp only [Bool.and_eq_true] at h2
        have := key _ h2.2
        rw [rep1_length] at this; omega
    · cases h
  · split at h
    · split at h
      · rename_i h1
        simp only [Bool.and_eq_true, Bool.not_eq_true', decide_eq_true_eq] at h1
        have h2 := h1.1.1
        unfold inn at h2
        split at h2
        · split at h2
          · have h3 := (chk_len h2).1
            unfold okL at h3
            simp only [Bool.and_eq_true] at h3
            have h5 : (W.drop 1).length ≤ 32 := okC_len h3.2
            rw [List.length_drop] at h5; omega
          · unfold prs at h2
            split at h2
            · have h3 := (chk_len h2).1
              unfold okL at h3
              simp only [Bool.and_eq_true] at h3
              have h4 := (okP_len h3.1).1
              have h5 := okC_len h3.2
              cases hc : csl (W.drop 2)
              · rw [c_hd_all _ hc] at h4; simp at h4; omega
              · have := c_hd_len _ hc; simp at this; omega
            · cases h2
        · cases h2
      · cases h
    · split at h
      · rename_i h1
        simp only [Bool.and_eq_true, Bool.not_eq_true', decide_eq_true_eq] at h1
        have h2 := h1.1.1
        unfold ser at h2
        simp only [Bool.not_eq_true', decide_eq_false_iff_not] at h2
        unfold rdk at h2
        split at h2
        · rename_i h3
          unfold kin at h2 h3
          split at h3
          · rename_i e; rw [e]; decide
          · split at h3
            · rename_i e; rw [e]; decide
            · split at h3
              · rename_i e; rw [e]; decide
              · split at h3
                · split at h3
                  · have := (okP_len h3).1
                    simp [Kd.top] at this; omega
                  · have := (okP_len h3).1
                    simp [Kd.top] at this; omega
                · rename_i a b c d
                  rw [if_neg a, if_neg b, if_neg c, if_neg d] at h2
                  exact absurd rfl h2
        · exact absurd rfl h2
      · cases h
theorem addI_one {p F W : List UInt8} {u : Tg} (hF : isF F = true) (h : addI p F ⟨[97], [], [], []⟩ W = some u) : u.name = [97] ∧ u.srcs.length + u.deps.length + u.see.length = 1 ∧ addI p F u W = none := by
  unfold isF at hF
  simp only [Bool.or_eq_true, beq_iff_eq] at hF
  unfold addI at h ⊢
  rcases hF with (rfl | rfl) | rfl
  · rw [if_pos rfl] at h ⊢
    split at h
    · injection h with h; subst h; simp
    · cases h
  · rw [if_neg (by decide), if_pos rfl] at h ⊢
    split at h
    · injection h with h; subst h; simp
    · cases h
  · rw [if_neg (by decide), if_neg (by decide)] at h ⊢
    split at h
    · injection h with h; subst h; simp
    · cases h
theorem run1 (p : List UInt8) (E : Int) (u : Tg) (F : List UInt8) (n : Nat) : gob p E (.sp [] u [F] F) (tg [93, 125] n) = ([u], -1) := by
  rw [tg_mark _ _ (by decide), gob_some (st' := .fl [] u [F]) _ (by simp [stp, mkd]), tg_mark _ _ (by decide), gob_some (st' := .top [u]) _ (by simp [stp, mkd]), gob_end]
  rfl
theorem run2 (p : List UInt8) (E : Int) (u : Tg) (F : List UInt8) (n : Nat) : gob p E (.sp [] u [F] F) (tg [93] n) = ([], E) := by
  rw [tg_mark _ _ (by decide), gob_some (st' := .fl [] u [F]) _ (by simp [stp, mkd]), gob_end]
  rfl
theorem run4 (p : List UInt8) (E : Int) (u : Tg) (F : List UInt8) (n : Nat) (hu : u.name = [97]) : gob p E (.sp [] u [F] F) (tg [93, 125, 32, 116, 97, 114, 103, 101, 116, 32, 97, 123, 125] n) = ([], (n : Int) + 10) := by
  rw [tg_mark _ _ (by decide), gob_some (st' := .fl [] u [F]) _ (by simp [stp, mkd]), tg_mark _ _ (by decide), gob_some (st' := .top [u]) _ (by simp [stp, mkd]), tg_sp]
  show gob p E (.top [u]) (tg (wTarget ++ 32 :: ([97] ++ 123 :: [125])) (n + 1 + 1 + 1)) = _
  rw [tg_word (by decide) wTarget_w (nw 32 (by decide) _), gob_some (st' := .nm [u]) _ (by simp [stp]), tg_sp, tg_word (by decide) (by decide) (nw 123 (by decide) _), gob_none _ (by simp only [stp]; rw [if_neg]; intro h; have := h.2.2; simp [hasN, hu] at this)]
  have : wTarget.length = 6 := rfl
  simp only [this]
  rfl
theorem run5 (p : List UInt8) (E : Int) (u : Tg) {F : List UInt8} (n : Nat) (hF : isF F = true) : gob p E (.sp [] u [F] F) (tg (93 :: (F ++ [61, 91, 93, 125])) n) = ([], (n : Int) + 1) := by
  obtain ⟨f1, f2, _⟩ := isF_word hF
  rw [tg_mark _ _ (by decide), gob_some (st' := .fl [] u [F]) _ (by simp [stp, mkd]), tg_word f2 f1 (nw 61 (by decide) _), gob_none _ (by simp [stp])]
  rfl
theorem run6 (p : List UInt8) (E : Int) (u : Tg) {F W : List UInt8} (n : Nat) (h0 : W ≠ []) (hW : ∀ x ∈ W, inW x = true) (hu : addI p F u W = none) : gob p E (.sp [] u [F] F) (tg (44 :: (W ++ [93, 125])) n) = ([], (n : Int) + 1) := by
  rw [tg_mark _ _ (by decide), gob_some (st' := .it [] u [F] F) _ (by simp [stp, mkd]), tg_word h0 hW (nw 93 (by decide) _), gob_none _ (by simp [stp, hu])]
  rfl
theorem run7 (p : List UInt8) (E : Int) (u : Tg) (F : List UInt8) (n : Nat) : gob p E (.sp [] u [F] F) (tg [44, 93, 125] n) = ([], (n : Int) + 1) := by
  rw [tg_mark _ _ (by decide), gob_some (st' := .it [] u [F] F) _ (by simp [stp, mkd]), tg_mark _ _ (by decide), gob_none _ (by simp [stp, mkd])]
  rfl
/-- where tokens stand at least -/
theorem tq_lo : ∀ (n : Nat) (r : List UInt8) (m : Nat), r.length ≤ n → (∀ k ∈ (tq r m).1, (m : Int) ≤ k.at') ∧ ((tq r m).2 = -1 ∨ (m : Int) ≤ (tq r m).2)
  | 0, r, m, h => by
    have : r = [] := List.eq_nil_of_length_eq_zero (by omega)
    subst this
    rw [tq_nil]
    simp
  | n + 1, [], m, h => by rw [tq_nil]; simp
  | n + 1, c :: q, m, h => by
    by_cases h0 : kd c = 0
    · rw [tq_bad h0]; simp
    · rw [tq_tok h0]
      have ih := tq_lo n ((q.drop (ktl c q)).drop (gp false (q.drop (ktl c q)))) (m + 1 + ktl c q + gp false (q.drop (ktl c q))) (by simp only [List.length_drop, List.length_cons] at h ⊢; omega)
      unfold tg
      refine ⟨fun k hk => ?_, ?_⟩
      · rcases List.mem_cons.1 hk with rfl | hk
        · simp
        · have := ih.1 k hk; omega
      · rcases ih.2 with h1 | h1
        · exact .inl h1
        · right; simp only; omega
theorem tg_lo (r : List UInt8) (m : Nat) : (∀ k ∈ (tg r m).1, (m : Int) ≤ k.at') ∧ ((tg r m).2 = -1 ∨ (m : Int) ≤ (tg r m).2) := by
  unfold tg
  obtain ⟨h1, h2⟩ := tq_lo _ (r.drop (gp false r)) (m + gp false r) (Nat.le_refl _)
  refine ⟨fun k hk => by have := h1 k hk; omega, ?_⟩
  rcases h2 with h2 | h2
  · exact .inl h2
  · right; omega
theorem go_lo {p : List UInt8} {E S : Int} {m : Int} (hE : m ≤ E) (hS : S < 0 ∨ m ≤ S) : ∀ (L : List Tk) (st : St), (∀ k ∈ L, m ≤ k.at') → (go p E S st L).2 = -1 ∨ m ≤ (go p E S st L).2
  | [], st, _ => by
    unfold go
    cases st <;> simp only [fin] <;> (try exact .inr hE)
    split
    · right; simp only; omega
    · exact .inl rfl
  | k :: r, st, h => by
    unfold go
    cases hs : stp p st k with
    | none => exact .inr (h k (by simp))
    | some st' => exact go_lo hE hS r st' (fun x hx => h x (by simp [hx]))
theorem endE_lo {s : List UInt8} {m : Int} (h : (toks s).2 < 0 ∨ m ≤ (toks s).2) (hl : m ≤ s.length) : m ≤ endE s := by
  unfold endE
  split
  · omega
  · exact hl
theorem ref_any (p F W : List UInt8) (h : (prsM p (hdF F ++ W ++ [93, 125])).2 ≠ -1) : ((prsM p (hdF F ++ W ++ [93, 125])).2 = 0 ∨ 9 ≤ (prsM p (hdF F ++ W ++ [93, 125])).2) ∧ (prsM p (hdF F ++ W ++ [93, 125])).1 = [] := by
  refine ⟨?_, (prsM_range p _).elim (fun h1 => absurd h1 h) (fun h1 => h1.2)⟩
  cases hp : okP p
  · left; unfold prsM; rw [if_neg (by rw [hp]; decide)]
  by_cases hs : (hdF F ++ W ++ [93, 125]).length ≤ 4096
  rotate_left
  · right; unfold prsM; rw [if_pos hp, if_neg hs]; decide
  right
  rw [prsM_gob hp hs] at h ⊢
  have e : hdF F ++ W ++ [93, 125] = [116, 97, 114, 103, 101, 116, 32, 97, 123] ++ (F ++ 61 :: 91 :: (W ++ [93, 125])) := by simp [hdF]
  rw [e, run3] at h ⊢
  obtain ⟨h1, h2⟩ := tg_lo (F ++ 61 :: 91 :: (W ++ [93, 125])) 9
  have hS : (tg (F ++ 61 :: 91 :: (W ++ [93, 125])) 9).2 < 0 ∨ (9 : Int) ≤ (tg (F ++ 61 :: 91 :: (W ++ [93, 125])) 9).2 := by
    rcases h2 with h2 | h2
    · left; omega
    · right; omega
  have hE : (9 : Int) ≤ endE ([116, 97, 114, 103, 101, 116, 32, 97, 123] ++ (F ++ 61 :: 91 :: (W ++ [93, 125]))) := by
    have e3 : (toks ([116, 97, 114, 103, 101, 116, 32, 97, 123] ++ (F ++ 61 :: 91 :: (W ++ [93, 125])))).2 = (tg (F ++ 61 :: 91 :: (W ++ [93, 125])) 9).2 := by unfold toks; rw [tok3]; rfl
    refine endE_lo ?_ (by simp; omega)
    rw [e3]; exact hS
  rcases go_lo (p := p) hE hS (tg (F ++ 61 :: 91 :: (W ++ [93, 125])) 9).1 (.fl [] ⟨[97], [], [], []⟩ []) (fun k hk => by have := h1 k hk; omega) with h3 | h3
  · exact absurd h3 h
  · exact h3
structure RefW (p F W : List UInt8) (u : Tg) : Prop where
  one : prsM p (hdF F ++ W ++ [93, 125]) = ([u], -1)
  name : u.name = [97]
  num : u.srcs.length + u.deps.length + u.see.length = 1
  open' : (prsM p (hdF F ++ W ++ [93])).2 = ((hdF F).length : Int) + W.length + 1
  twice : (prsM p (hdF F ++ W ++ [93, 125, 32, 116, 97, 114, 103, 101, 116, 32, 97, 123, 125])).2 = ((hdF F).length : Int) + W.length + 10
  again : (prsM p (hdF F ++ W ++ [93] ++ F ++ [61, 91, 93, 125])).2 = ((hdF F).length : Int) + W.length + 1
  double : (prsM p (hdF F ++ W ++ [44] ++ W ++ [93, 125])).2 = ((hdF F).length : Int) + W.length + 1
  comma : (prsM p (hdF F ++ W ++ [44, 93, 125])).2 = ((hdF F).length : Int) + W.length + 1
theorem ref_first (p : List UInt8) : (prsM p [97, 32, 116, 97, 114, 103, 101, 116, 32, 97, 123, 125]).2 = 0 := by
  cases hp : okP p
  · unfold prsM; rw [if_neg (by rw [hp]; decide)]
  rw [prsM_gob hp (by decide)]
  show (gob p _ (.top []) (tg ([97] ++ 32 :: [116, 97, 114, 103, 101, 116, 32, 97, 123, 125]) 0)).2 = 0
  rw [tg_word (by decide) (by decide) (nw 32 (by decide) _), gob_none _ (by simp [stp, wTarget])]
  rfl
theorem ref_word {p F W : List UInt8} (hF : isF F = true) (h0 : W ≠ []) (hW : ∀ x ∈ W, inW x = true) (h : (prsM p (hdF F ++ W ++ [93, 125])).2 = -1) : ∃ u, RefW p F W u := by
  have hp : okP p = true := by
    cases hp : okP p
    · unfold prsM at h; rw [if_neg (by rw [hp]; decide)] at h; cases h
    · rfl
  have hs : (hdF F ++ W ++ [93, 125]).length ≤ 4096 := by
    by_cases hs : (hdF F ++ W ++ [93, 125]).length ≤ 4096
    · exact hs
    · unfold prsM at h; rw [if_pos hp, if_neg hs] at h; cases h
  have hl := hdF_len F
  obtain ⟨f1, f2, f3⟩ := isF_word hF
  have e0 := prsM_gob hp hs
  rw [runW _ [93, 125] hF h0 hW (nw 93 (by decide) _)] at e0
  cases ha : addI p F ⟨[97], [], [], []⟩ W with
  | none => rw [ha] at e0; rw [e0] at h; simp only at h; omega
  | some u =>
    obtain ⟨u1, u2, u3⟩ := addI_one hF ha
    have hwl := word_len ha
    rw [ha] at e0
    simp only at e0
    rw [run1] at e0
    have step : ∀ X : List UInt8, X.length ≤ 1000 → (∀ c q, X = c :: q → inW c = false) → prsM p (hdF F ++ W ++ X) = gob p (endE (hdF F ++ W ++ X)) (.sp [] u [F] F) (tg X (11 + F.length + W.length)) := fun X hX hX2 => by
      rw [prsM_gob hp (by simp only [List.length_append]; omega), runW _ X hF h0 hW hX2, ha]
    refine ⟨u, e0, u1, u2, ?_, ?_, ?_, ?_, ?_⟩
    · rw [step _ (by decide) (nw 93 (by decide) _), run2]
      have e : (toks (hdF F ++ W ++ [93])).2 = -1 := by
        have e : hdF F ++ W ++ [93] = [116, 97, 114, 103, 101, 116, 32, 97, 123] ++ (F ++ 61 :: 91 :: (W ++ [93])) := by simp [hdF]
        unfold toks
        rw [e, tok3, tg_word f2 f1 (nw 61 (by decide) _), tg_mark _ _ (by decide), tg_mark _ _ (by decide), tg_word h0 hW (nw 93 (by decide) _), tg_mark _ _ (by decide), tg_nil]
        rfl
      unfold endE
      rw [e, if_neg (by decide)]
      simp only [List.length_append, List.length_cons, List.length_nil]
      omega
    · rw [step _ (by decide) (nw 93 (by decide) _), run4 _ _ _ _ _ u1]
      simp only; omega
    · have e : hdF F ++ W ++ [93] ++ F ++ [61, 91, 93, 125] = hdF F ++ W ++ (93 :: (F ++ [61, 91, 93, 125])) := by simp
      rw [e, step _ (by simp; omega) (nw 93 (by decide) _), run5 _ _ _ _ hF]
      simp only; omega
    · have e : hdF F ++ W ++ [44] ++ W ++ [93, 125] = hdF F ++ W ++ (44 :: (W ++ [93, 125])) := by simp
      rw [e, step _ (by simp; omega) (nw 44 (by decide) _), run6 _ _ _ _ h0 hW u3]
      simp only; omega
    · rw [step _ (by decide) (nw 44 (by decide) _), run7]
      simp only; omega
end Go.Proofs.YtemoplpfndnklaaGreatDoor
