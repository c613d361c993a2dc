/-
  A heap as a plain list.
-/
import Derived.Test.YtjohhmfncemknaaRc
namespace Go.Proofs.Ytjohhmfncemknaa

def leL (a b : Lb) : Prop := ltL b a = false
theorem leL_refl (a : Lb) : leL a a := stoL.irr a
theorem leL_of_lt {a b : Lb} (h : ltL a b = true) : leL a b := stoL.asym h
theorem leL_trans {a b c : Lb} (h : leL a b) (k : leL b c) : leL a c := by
  unfold leL at *
  cases e : ltL c a
  · rfl
  · by_cases hab : a = b
    · subst hab; rw [e] at k; cases k
    · rcases stoL.tot a b hab with h1 | h1
      · have := stoL.trans c a b e h1
        rw [this] at k; cases k
      · rw [h1] at h; cases h
def par (k : Nat) : Nat := (k - 1) / 2
/-- exchanged -/
def swF (f : Nat → Lb) (i j : Nat) : Nat → Lb := fun k => if k = i then f j else if k = j then f i else f k
def HO (f : Nat → Lb) (n : Nat) : Prop := ∀ k, 0 < k → k < n → leL (f (par k)) (f k)
structure UpI (f : Nat → Lb) (n j : Nat) : Prop where
  rest : ∀ k, 0 < k → k < n → k ≠ j → leL (f (par k)) (f k)
  over : ∀ k, 0 < k → k < n → par k = j → 0 < j → leL (f (par j)) (f k)
theorem UpI.step {f : Nat → Lb} {n j : Nat} (h : UpI f n j) (hj : 0 < j) (hn : j < n) (hlt : ltL (f j) (f (par j)) = true) : UpI (swF f (par j) j) n (par j) := by
  have hp : par j < j := by unfold par; omega
  have hle := leL_of_lt hlt
  refine ⟨fun k h0 hk hne => ?_, fun k h0 hk hpk hi => ?_⟩
  · by_cases hkj : k = j
    · subst hkj
      unfold swF
      rw [if_pos rfl, if_neg (by omega), if_pos rfl]
      exact hle
    · have e1 : swF f (par j) j k = f k := by unfold swF; rw [if_neg hne, if_neg hkj]
      rw [e1]
      by_cases h1 : par k = j
      · have e2 : swF f (par j) j (par k) = f (par j) := by unfold swF; rw [if_neg (by omega), if_pos h1]
        rw [e2]
        exact h.over k h0 hk h1 hj
      · by_cases h2 : par k = par j
        · have e2 : swF f (par j) j (par k) = f j := by unfold swF; rw [if_pos h2]
          rw [e2]
          have h3 := h.rest k h0 hk hkj
          rw [h2] at h3
          exact leL_trans hle h3
        · have e2 : swF f (par j) j (par k) = f (par k) := by unfold swF; rw [if_neg h2, if_neg h1]
          rw [e2]
          exact h.rest k h0 hk hkj
  · have hpp : par (par j) < par j := by unfold par at *; omega
    have e2 : swF f (par j) j (par (par j)) = f (par (par j)) := by unfold swF; rw [if_neg (by omega), if_neg (by omega)]
    rw [e2]
    have h1 := h.rest (par j) hi (by omega) (by omega)
    by_cases hkj : k = j
    · subst hkj
      have e1 : swF f (par k) k k = f (par k) := by unfold swF; rw [if_neg (by omega), if_pos rfl]
      rw [e1]; exact h1
    · have hki : k ≠ par j := by intro e; rw [← e] at hpk; unfold par at hpk; omega
      have e1 : swF f (par j) j k = f k := by unfold swF; rw [if_neg hki, if_neg hkj]
      rw [e1]
      have h3 := h.rest k h0 hk hkj
      rw [hpk] at h3
      exact leL_trans h1 h3
theorem UpI.done {f : Nat → Lb} {n j : Nat} (h : UpI f n j) (hd : j = 0 ∨ leL (f (par j)) (f j)) : HO f n := by
  intro k h0 hk
  by_cases hkj : k = j
  · subst hkj
    rcases hd with hd | hd
    · omega
    · exact hd
  · exact h.rest k h0 hk hkj
structure DnI (f : Nat → Lb) (n i : Nat) : Prop where
  rest : ∀ k, 0 < k → k < n → par k ≠ i → leL (f (par k)) (f k)
  over : ∀ k, 0 < k → k < n → par k = i → 0 < i → leL (f (par i)) (f k)
/-- the lesser child -/
structure Mn (f : Nat → Lb) (n i j : Nat) : Prop where
  pos : 0 < j
  lt : j < n
  par : par j = i
  min : ∀ k, 0 < k → k < n → Go.Proofs.Ytjohhmfncemknaa.par k = i → leL (f j) (f k)
theorem DnI.step {f : Nat → Lb} {n i j : Nat} (h : DnI f n i) (hm : Mn f n i j) (hlt : ltL (f j) (f i) = true) : DnI (swF f i j) n j := by
  have hp := hm.par
  have hj := hm.pos
  have hij : i < j := by rw [← hp]; unfold par; omega
  have hle := leL_of_lt hlt
  refine ⟨fun k h0 hk hne => ?_, fun k h0 hk hpk _ => ?_⟩
  · have hpk : par k < k := by unfold par; omega
    by_cases hkj : k = j
    · subst hkj
      rw [hp]
      unfold swF
      rw [if_pos rfl, if_neg (by omega), if_pos rfl]
      exact hle
    · by_cases hki : k = i
      · subst hki
        have e1 : swF f k j k = f j := by unfold swF; rw [if_pos rfl]
        have e2 : swF f k j (par k) = f (par k) := by unfold swF; rw [if_neg (by omega), if_neg hne]
        rw [e1, e2]
        exact h.over j hj hm.lt hp h0
      · have e1 : swF f i j k = f k := by unfold swF; rw [if_neg hki, if_neg hkj]
        rw [e1]
        by_cases h1 : par k = i
        · have e2 : swF f i j (par k) = f j := by unfold swF; rw [if_pos h1]
          rw [e2]
          exact hm.min k h0 hk h1
        · have e2 : swF f i j (par k) = f (par k) := by unfold swF; rw [if_neg h1, if_neg hne]
          rw [e2]
          exact h.rest k h0 hk h1
  · have hpkk : par k < k := by unfold par; omega
    rw [hp]
    have e2 : swF f i j i = f j := by unfold swF; rw [if_pos rfl]
    have e1 : swF f i j k = f k := by unfold swF; rw [if_neg (by omega), if_neg (by omega)]
    rw [e1, e2]
    have := h.rest k h0 hk (by omega)
    rwa [hpk] at this
theorem DnI.done {f : Nat → Lb} {n i : Nat} (h : DnI f n i) (hd : ∀ k, 0 < k → k < n → par k = i → leL (f i) (f k)) : HO f n := by
  intro k h0 hk
  by_cases hkj : par k = i
  · rw [hkj]; exact hd k h0 hk hkj
  · exact h.rest k h0 hk hkj
theorem HO.min {f : Nat → Lb} {n : Nat} (h : HO f n) : ∀ k, k < n → leL (f 0) (f k) := by
  intro k
  induction k using Nat.strongRecOn with
  | ind k ih =>
    intro hk
    by_cases h0 : k = 0
    · subst h0; exact leL_refl _
    · have hp : par k < k := by unfold par; omega
      exact leL_trans (ih (par k) hp (by omega)) (h k (by omega) hk)

/-! ### lists -/
def fA (l : List Lb) : Nat → Lb := fun k => l.getD k zl
def swL (l : List Lb) (i j : Nat) : List Lb := (l.set i (fA l j)).set j (fA l i)
theorem swL_len (l : List Lb) (i j : Nat) : (swL l i j).length = l.length := by simp [swL]
theorem fA_get {l : List Lb} {k : Nat} (h : k < l.length) : fA l k = l[k] := by simp [fA, List.getD, h]
theorem fA_sw {l : List Lb} {i j : Nat} (_hi : i < l.length) (_hj : j < l.length) : ∀ k, k < l.length → fA (swL l i j) k = swF (fA l) i j k := by
  intro k hk
  rw [fA_get (by rw [swL_len]; exact hk)]
  unfold swF swL
  rw [List.getElem_set]
  by_cases h1 : j = k
  · subst h1
    rw [if_pos rfl]
    by_cases h2 : j = i
    · subst h2; rw [if_pos rfl]
    · rw [if_neg h2, if_pos rfl]
  · rw [if_neg h1, List.getElem_set]
    by_cases h2 : i = k
    · subst h2; rw [if_pos rfl, if_pos rfl]
    · rw [if_neg h2, if_neg (fun e => h2 e.symm), if_neg (fun e => h1 e.symm), fA_get hk]
theorem swL_perm (l : List Lb) (i j : Nat) (hi : i < l.length) (hj : j < l.length) : (swL l i j).Perm l := by
  unfold swL
  rw [fA_get hi, fA_get hj]
  exact List.set_set_perm hi hj
theorem HO.congr {f g : Nat → Lb} {n : Nat} (h : HO f n) (e : ∀ k, k < n → f k = g k) : HO g n := by
  intro k h0 hk
  rw [← e k hk, ← e (par k) (by unfold par; omega)]
  exact h k h0 hk
theorem UpI.congr {f g : Nat → Lb} {n j : Nat} (h : UpI f n j) (e : ∀ k, k < n → f k = g k) (_hj : j < n) : UpI g n j := by
  refine ⟨fun k h0 hk hne => ?_, fun k h0 hk hp h1 => ?_⟩
  · rw [← e k hk, ← e (par k) (by unfold par; omega)]; exact h.rest k h0 hk hne
  · rw [← e k hk, ← e (par j) (by unfold par; omega)]; exact h.over k h0 hk hp h1
theorem DnI.congr {f g : Nat → Lb} {n i : Nat} (h : DnI f n i) (e : ∀ k, k < n → f k = g k) (_hi : i < n ∨ n = 0) : DnI g n i := by
  refine ⟨fun k h0 hk hne => ?_, fun k h0 hk hp h1 => ?_⟩
  · rw [← e k hk, ← e (par k) (by unfold par; omega)]; exact h.rest k h0 hk hne
  · rw [← e k hk, ← e (par i) (by unfold par; omega)]; exact h.over k h0 hk hp h1
end Go.Proofs.Ytjohhmfncemknaa
