/-
  An order is there just if no one reaches itself; a table of ways.
-/
import Derived.Test.YtjohhmfncemknaaGs
namespace Go.Proofs.Ytjohhmfncemknaa
namespace Gs
variable {α : Type}

theorem filter_len_lt : ∀ (l : List α) (p q : α → Bool), (∀ x ∈ l, p x = true → q x = true) → (∃ u ∈ l, q u = true ∧ p u = false) → (l.filter p).length < (l.filter q).length
  | [], _, _, _, ⟨u, hu, _⟩ => by simp at hu
  | x :: r, p, q, hpq, ⟨u, hu, h1, h2⟩ => by
    have hr : ∀ y ∈ r, p y = true → q y = true := fun y hy => hpq y (by simp [hy])
    have hle : ∀ (r : List α), (∀ y ∈ r, p y = true → q y = true) → (r.filter p).length ≤ (r.filter q).length := by
      intro r
      induction r with
      | nil => intro _; simp
      | cons y s ih =>
        intro h
        have h3 := ih (fun z hz => h z (by simp [hz]))
        have h4 := h y (by simp)
        by_cases hp : p y = true
        · rw [List.filter_cons_of_pos hp, List.filter_cons_of_pos (h4 hp)]; simp; exact h3
        · rw [List.filter_cons_of_neg hp]
          by_cases hq : q y = true
          · rw [List.filter_cons_of_pos hq]; simp; omega
          · rw [List.filter_cons_of_neg hq]; exact h3
    rcases List.mem_cons.1 hu with rfl | hu
    · rw [List.filter_cons_of_neg (by rw [h2]; simp), List.filter_cons_of_pos h1]
      have := hle r hr
      simp; omega
    · have ih := filter_len_lt r p q hr ⟨u, hu, h1, h2⟩
      by_cases hp : p x = true
      · rw [List.filter_cons_of_pos hp, List.filter_cons_of_pos (hpq x (by simp) hp)]; simp; exact ih
      · rw [List.filter_cons_of_neg hp]
        by_cases hq : q x = true
        · rw [List.filter_cons_of_pos hq]; simp; omega
        · rw [List.filter_cons_of_neg hq]; exact ih
theorem nodup_sub [DecidableEq α] : ∀ (a b : List α), a.Nodup → (∀ x ∈ a, x ∈ b) → a.length ≤ b.length
  | [], _, _, _ => by simp
  | x :: r, b, hn, hs => by
    obtain ⟨h1, h2⟩ := List.nodup_cons.1 hn
    have hx : x ∈ b := hs x (by simp)
    have := nodup_sub r (b.erase x) h2 (fun y hy => by
      have hne : y ≠ x := by rintro rfl; exact h1 hy
      exact (List.mem_erase_of_ne hne).2 (hs y (by simp [hy])))
    rw [List.length_erase_of_mem hx] at this
    have hb : 0 < b.length := List.length_pos_of_mem hx
    simp; omega
theorem nxt_none [DecidableEq α] {all : List α} {E : List (α × α)} {told : List α} (h : nxt all E told = none) {u : α} (hu : u ∈ all) (hn : u ∉ told) : ∃ b, (u, b) ∈ E ∧ b ∉ told := by
  have h1 := List.find?_eq_none.1 h u hu
  by_cases hr : rdy E told u = true
  · exact absurd (by simp [hn, hr]) h1
  · by_cases hx : ∃ b, (u, b) ∈ E ∧ b ∉ told
    · exact hx
    · exfalso
      apply hr
      rw [rdy_iff]
      intro b hb
      by_cases hbt : b ∈ told
      · exact hbt
      · exact absurd ⟨b, hb, hbt⟩ hx
open Classical in
/-- from one that is not told ways lead to one that may be told, where no one reaches itself -/
theorem ready_there {all : List α} {E : List (α × α)} {told : List α} (hE : ∀ a b, (a, b) ∈ E → b ∈ all) (hc : ∀ a b, (a, b) ∈ E → Way E b a → False)
    (hs : ∀ u ∈ all, u ∉ told → ∃ b, (u, b) ∈ E ∧ b ∉ told) : ∀ (k : Nat) (u : α), u ∈ all → u ∉ told → (all.filter (fun x => decide (Way E u x))).length ≤ k → False
  | 0, u, hu, _, hk => by
    have : u ∈ all.filter (fun x => decide (Way E u x)) := List.mem_filter.2 ⟨hu, by simp [Way.refl u]⟩
    have := List.length_pos_of_mem this
    omega
  | k + 1, u, hu, hn, hk => by
    obtain ⟨b, hb, hbt⟩ := hs u hu hn
    refine ready_there hE hc hs k b (hE u b hb) hbt ?_
    have := filter_len_lt all (fun x => decide (Way E b x)) (fun x => decide (Way E u x)) (fun x _ hx => by
      simp only [decide_eq_true_eq] at hx ⊢
      exact Way.trans (.step (.refl u) hb) hx) ⟨u, hu, by simp [Way.refl u], by simpa using fun h => hc u b hb h⟩
    omega
theorem ordF_there [DecidableEq α] {all : List α} {E : List (α × α)} (ha : all.Nodup) (hE : ∀ a b, (a, b) ∈ E → b ∈ all) (hc : ∀ a b, (a, b) ∈ E → Way E b a → False) :
    ∀ (n : Nat) (told : List α), Tld all E told → told.length + n = all.length → ∃ L, ordF all E n told = some L
  | 0, told, _, _ => ⟨told, rfl⟩
  | n + 1, told, ht, hl => by
    cases hn : nxt all E told with
    | some a =>
      obtain ⟨L, hL⟩ := ordF_there ha hE hc n (told ++ [a]) (ht.snoc hn) (by simp; omega)
      exact ⟨L, by unfold ordF; rw [hn]; exact hL⟩
    | none =>
      exfalso
      have hu : ∃ u ∈ all, u ∉ told := by
        by_cases hx : ∃ u ∈ all, u ∉ told
        · exact hx
        · have := nodup_sub all told ha (fun x hx' => by
            by_cases h : x ∈ told
            · exact h
            · exact absurd ⟨x, hx', h⟩ hx)
          omega
      obtain ⟨u, hu, hun⟩ := hu
      classical
      exact ready_there hE hc (fun u hu hn' => nxt_none hn hu hn') _ u hu hun (Nat.le_refl _)
theorem ord_some_iff [DecidableEq α] {all : List α} {E : List (α × α)} (ha : all.Nodup) (hE : ∀ a b, (a, b) ∈ E → a ∈ all ∧ b ∈ all) : (∃ L, ord all E = some L) ↔ ∀ a b, (a, b) ∈ E → Way E b a → False := by
  constructor
  · rintro ⟨L, hL⟩ a b hm hw
    obtain ⟨h1, h2, _⟩ := ordF_some _ _ _ (Tld.nil all E) hL
    have hal : a ∈ L := by
      by_cases h : a ∈ L
      · exact h
      · exfalso
        have := nodup_sub (a :: L) all (List.nodup_cons.2 ⟨h, h1.nodup⟩) (fun x hx => by
          rcases List.mem_cons.1 hx with rfl | hx
          · exact (hE _ _ hm).1
          · exact h1.sub x hx)
        simp at this h2
        omega
    exact tld_no_circle h1 hal hm hw
  · intro hc
    exact ordF_there ha (fun a b h => (hE a b h).2) hc _ _ (Tld.nil all E) (by simp)

/-! ### a table of ways -/
/-- by one edge or more -/
inductive Tw (D : Nat → Nat → Bool) : Nat → Nat → Prop
  | one {i j : Nat} : D i j = true → Tw D i j
  | step {i k j : Nat} : Tw D i k → D k j = true → Tw D i j
theorem Tw.trans {D : Nat → Nat → Bool} {i k j : Nat} (h : Tw D i k) (h2 : Tw D k j) : Tw D i j := by
  induction h2 with
  | one hd => exact .step h hd
  | step _ hd ih => exact .step ih hd
def PK (D : Nat → Nat → Bool) : Nat → Nat → Nat → Bool
  | 0, i, j => D i j
  | k + 1, i, j => PK D k i j || (PK D k i k && PK D k k j)
theorem pk_mono (D : Nat → Nat → Bool) (k i j : Nat) (h : PK D k i j = true) : PK D (k + 1) i j = true := by unfold PK; rw [h]; rfl
theorem pk_edge (D : Nat → Nat → Bool) (i j : Nat) (h : D i j = true) : ∀ k, PK D k i j = true
  | 0 => h
  | k + 1 => pk_mono D k i j (pk_edge D i j h k)
theorem pk_iff (D : Nat → Nat → Bool) (k i j : Nat) : PK D (k + 1) i j = true ↔ PK D k i j = true ∨ (PK D k i k = true ∧ PK D k k j = true) := by
  show (PK D k i j || (PK D k i k && PK D k k j)) = true ↔ _
  rw [Bool.or_eq_true, Bool.and_eq_true]
theorem pk_trans (D : Nat → Nat → Bool) : ∀ (n m i j : Nat), m < n → PK D n i m = true → PK D n m j = true → PK D n i j = true
  | 0, _, _, _, h, _, _ => by omega
  | n + 1, m, i, j, h, h1, h2 => by
    rw [pk_iff] at h1 h2 ⊢
    by_cases hm : m = n
    · subst hm
      right
      exact ⟨h1.elim id (fun h => h.1), h2.elim id (fun h => h.2)⟩
    · have hlt : m < n := by omega
      rcases h1 with h1 | ⟨h1, h1'⟩ <;> rcases h2 with h2 | ⟨h2, h2'⟩
      · exact .inl (pk_trans D n m i j hlt h1 h2)
      · exact .inr ⟨pk_trans D n m i n hlt h1 h2, h2'⟩
      · exact .inr ⟨h1, pk_trans D n m n j hlt h1' h2⟩
      · exact .inr ⟨h1, h2'⟩
theorem pk_sound (D : Nat → Nat → Bool) : ∀ (k i j : Nat), PK D k i j = true → Tw D i j
  | 0, _, _, h => .one h
  | k + 1, i, j, h => by
    rw [pk_iff] at h
    rcases h with h | ⟨h1, h2⟩
    · exact pk_sound D k i j h
    · exact (pk_sound D k i k h1).trans (pk_sound D k k j h2)
theorem pk_all (D : Nat → Nat → Bool) (n : Nat) (hn : ∀ i j, D i j = true → i < n ∧ j < n) {i j : Nat} (h : Tw D i j) : PK D n i j = true := by
  induction h with
  | one hd => exact pk_edge D _ _ hd n
  | step _ hd ih => exact pk_trans D n _ _ _ (hn _ _ hd).1 ih (pk_edge D _ _ hd n)
/-- one cell of the table in round k -/
theorem pk_cell {D R : Nat → Nat → Bool} {k i j : Nat} (hR : ∀ a b, PK D k a b = true → R a b = true) (h : PK D (k + 1) i j = true) : (R i j || (R i k && R k j)) = true := by
  rw [pk_iff] at h
  rcases h with h | ⟨h1, h2⟩
  · rw [hR i j h]; rfl
  · rw [hR i k h1, hR k j h2]; simp
end Gs
end Go.Proofs.Ytjohhmfncemknaa
