/-
  An order is there just if no one reaches itself; a table of ways.
  Strong parts of a graph: plain lists over any labels.
-/
import Derived.Test.YtclbnjfmipifnaaGs
namespace Go.Proofs.Ytclbnjfmipifnaa
namespace Gs
variable {α : Type}

theorem filter_len_lt : ∀ (l : List α) (p q : α → Bool), (∀ x ∈ l, p x = true → q x = true) → (∃ u ∈ l, q u = true ∧ p u = false) → (l.filter p).length < (l.filter q).length
  | [], _, _, _, ⟨u, hu, _⟩ => by simp at hu
  | x :: r, p, q, hpq, ⟨u, hu, h1, h2⟩ => by
    have hr : ∀ y ∈ r, p y = true → q y = true := fun y hy => hpq y (by simp [hy])
    have hle : ∀ (r : List α), (∀ y ∈ r, p y = true → q y = true) → (r.filter p).length ≤ (r.filter q).length := by
      intro r
      induction r with
      | nil => intro _; simp
      | cons y s ih =>
        intro h
        have h3 := ih (fun z hz => h z (by simp [hz]))
        have h4 := h y (by simp)
        by_cases hp : p y = true
        · rw [List.filter_cons_of_pos hp, List.filter_cons_of_pos (h4 hp)]; simp; exact h3
        · rw [List.filter_cons_of_neg hp]
          by_cases hq : q y = true
          · rw [List.filter_cons_of_pos hq]; simp; omega
          · rw [List.filter_cons_of_neg hq]; exact h3
    rcases List.mem_cons.1 hu with rfl | hu
    · rw [List.filter_cons_of_neg (by rw [h2]; simp), List.filter_cons_of_pos h1]
      have := hle r hr
      simp; omega
    · have ih := filter_len_lt r p q hr ⟨u, hu, h1, h2⟩
      by_cases hp : p x = true
      · rw [List.filter_cons_of_pos hp, List.filter_cons_of_pos (hpq x (by simp) hp)]; simp; exact ih
      · rw [List.filter_cons_of_neg hp]
        by_cases hq : q x = true
        · rw [List.filter_cons_of_pos hq]; simp; omega
        · rw [List.filter_cons_of_neg hq]; exact ih
theorem nodup_sub [DecidableEq α] : ∀ (a b : List α), a.Nodup → (∀ x ∈ a, x ∈ b) → a.length ≤ b.length
  | [], _, _, _ => by simp
  | x :: r, b, hn, hs => by
    obtain ⟨h1, h2⟩ := List.nodup_cons.1 hn
    have hx : x ∈ b := hs x (by simp)
    have := nodup_sub r (b.erase x) h2 (fun y hy => by
      have hne : y ≠ x := by rintro rfl; exact h1 hy
      exact (List.mem_erase_of_ne hne).2 (hs y (by simp [hy])))
    rw [List.length_erase_of_mem hx] at this
    have hb : 0 < b.length := List.length_pos_of_mem hx
    simp; omega
theorem nxt_none [DecidableEq α] {all : List α} {E : List (α × α)} {told : List α} (h : nxt all E told = none) {u : α} (hu : u ∈ all) (hn : u ∉ told) : ∃ b, (u, b) ∈ E ∧ b ∉ told := by
  have h1 := List.find?_eq_none.1 h u hu
  by_cases hr : rdy E told u = true
  · exact absurd (by simp [hn, hr]) h1
  · by_cases hx : ∃ b, (u, b) ∈ E ∧ b ∉ told
    · exact hx
    · exfalso
      apply hr
      rw [rdy_iff]
      intro b hb
      by_cases hbt : b ∈ told
      · exact hbt
      · exact absurd ⟨b, hb, hbt⟩ hx
open Classical in
/-- from one that is not told ways lead to one that may be told, where no one reaches itself -/
theorem ready_there {all : List α} {E : List (α × α)} {told : List α} (hE : ∀ a b, (a, b) ∈ E → b ∈ all) (hc : ∀ a b, (a, b) ∈ E → Way E b a → False)
    (hs : ∀ u ∈ all, u ∉ told → ∃ b, (u, b) ∈ E ∧ b ∉ told) : ∀ (k : Nat) (u : α), u ∈ all → u ∉ told → (all.filter (fun x => decide (Way E u x))).length ≤ k → False
  | 0, u, hu, _, hk => by
    have : u ∈ all.filter (fun x => decide (Way E u x)) := List.mem_filter.2 ⟨hu, by simp [Way.refl u]⟩
    have := List.length_pos_of_mem this
    omega
  | k + 1, u, hu, hn, hk => by
    obtain ⟨b, hb, hbt⟩ := hs u hu hn
    refine ready_there hE hc hs k b (hE u b hb) hbt ?_
    have := filter_len_lt all (fun x => decide (Way E b x)) (fun x => decide (Way E u x)) (fun x _ hx => by
      simp only [decide_eq_true_eq] at hx ⊢
      exact Way.trans (.step (.refl u) hb) hx) ⟨u, hu, by simp [Way.refl u], by simpa using fun h => hc u b hb h⟩
    omega
theorem ordF_there [DecidableEq α] {all : List α} {E : List (α × α)} (ha : all.Nodup) (hE : ∀ a b, (a, b) ∈ E → b ∈ all) (hc : ∀ a b, (a, b) ∈ E → Way E b a → False) :
    ∀ (n : Nat) (told : List α), Tld all E told → told.length + n = all.length → ∃ L, ordF all E n told = some L
  | 0, told, _, _ => ⟨told, rfl⟩
  | n + 1, told, ht, hl => by
    cases hn : nxt all E told with
    | some a =>
      obtain ⟨L, hL⟩ := ordF_there ha hE hc n (told ++ [a]) (ht.snoc hn) (by simp; omega)
      exact ⟨L, by unfold ordF; rw [hn]; exact hL⟩
    | none =>
      exfalso
      have hu : ∃ u ∈ all, u ∉ told := by
        by_cases hx : ∃ u ∈ all, u ∉ told
        · exact hx
        · have := nodup_sub all told ha (fun x hx' => by
            by_cases h : x ∈ told
            · exact h
            · exact absurd ⟨x, hx', h⟩ hx)
          omega
      obtain ⟨u, hu, hun⟩ := hu
      classical
      exact ready_there hE hc (fun u hu hn' => nxt_none hn hu hn') _ u hu hun (Nat.le_refl _)
theorem ord_some_iff [DecidableEq α] {all : List α} {E : List (α × α)} (ha : all.Nodup) (hE : ∀ a b, (a, b) ∈ E → a ∈ all ∧ b ∈ all) : (∃ L, ord all E = some L) ↔ ∀ a b, (a, b) ∈ E → Way E b a → False := by
  constructor
  · rintro ⟨L, hL⟩ a b hm hw
    obtain ⟨h1, h2, _⟩ := ordF_some _ _ _ (Tld.nil all E) hL
    have hal : a ∈ L := by
      by_cases h : a ∈ L
      · exact h
      · exfalso
        have := nodup_sub (a :: L) all (List.nodup_cons.2 ⟨h, h1.nodup⟩) (fun x hx => by
          rcases List.mem_cons.1 hx with rfl | hx
          · exact (hE _ _ hm).1
          · exact h1.sub x hx)
        simp at this h2
        omega
    exact tld_no_circle h1 hal hm hw
  · intro hc
    exact ordF_there ha (fun a b h => (hE a b h).2) hc _ _ (Tld.nil all E) (by simp)

/-! ### a table of ways -/
/-- by one edge or more -/
inductive Tw (D : Nat → Nat → Bool) : Nat → Nat → Prop
  | one {i j : Nat} : D i j = true → Tw D i j
  | step {i k j : Nat} : Tw D i k → D k j = true → Tw D i j
theorem Tw.trans {D : Nat → Nat → Bool} {i k j : Nat} (h : Tw D i k) (h2 : Tw D k j) : Tw D i j := by
  induction h2 with
  | one hd => exact .step h hd
  | step _ hd ih => exact .step ih hd
def PK (D : Nat → Nat → Bool) : Nat → Nat → Nat → Bool
  | 0, i, j => D i j
  | k + 1, i, j => PK D k i j || (PK D k i k && PK D k k j)
theorem pk_mono (D : Nat → Nat → Bool) (k i j : Nat) (h : PK D k i j = true) : PK D (k + 1) i j = true := by unfold PK; rw [h]; rfl
theorem pk_edge (D : Nat → Nat → Bool) (i j : Nat) (h : D i j = true) : ∀ k, PK D k i j = true
  | 0 => h
  | k + 1 => pk_mono D k i j (pk_edge D i j h k)
theorem pk_iff (D : Nat → Nat → Bool) (k i j : Nat) : PK D (k + 1) i j = true ↔ PK D k i j = true ∨ (PK D k i k = true ∧ PK D k k j = true) := by
  show (PK D k i j || (PK D k i k && PK D k k j)) = true ↔ _
  rw [Bool.or_eq_true, Bool.and_eq_true]
theorem pk_trans (D : Nat → Nat → Bool) : ∀ (n m i j : Nat), m < n → PK D n i m = true → PK D n m j = true → PK D n i j = true
  | 0, _, _, _, h, _, _ => by omega
  | n + 1, m, i, j, h, h1, h2 => by
    rw [pk_iff] at h1 h2 ⊢
    by_cases hm : m = n
    · subst hm
      right
      exact ⟨h1.elim id (fun h => h.1), h2.elim id (fun h => h.2)⟩
    · have hlt : m < n := by omega
      rcases h1 with h1 | ⟨h1, h1'⟩ <;> rcases h2 with h2 | ⟨h2, h2'⟩
      · exact .inl (pk_trans D n m i j hlt h1 h2)
      · exact .inr ⟨pk_trans D n m i n hlt h1 h2, h2'⟩
      · exact .inr ⟨h1, pk_trans D n m n j hlt h1' h2⟩
      · exact .inr ⟨h1, h2'⟩
theorem pk_sound (D : Nat → Nat → Bool) : ∀ (k i j : Nat), PK D k i j = true → Tw D i j
  | 0, _, _, h => .one h
  | k + 1, i, j, h => by
    rw [pk_iff] at h
    rcases h with h | ⟨h1, h2⟩
    · exact pk_sound D k i j h
    · exact (pk_sound D k i k h1).trans (pk_sound D k k j h2)
theorem pk_all (D : Nat → Nat → Bool) (n : Nat) (hn : ∀ i j, D i j = true → i < n ∧ j < n) {i j : Nat} (h : Tw D i j) : PK D n i j = true := by
  induction h with
  | one hd => exact pk_edge D _ _ hd n
  | step _ hd ih => exact pk_trans D n _ _ _ (hn _ _ hd).1 ih (pk_edge D _ _ hd n)
/-- one cell of the table in round k -/
theorem pk_cell {D R : Nat → Nat → Bool} {k i j : Nat} (hR : ∀ a b, PK D k a b = true → R a b = true) (h : PK D (k + 1) i j = true) : (R i j || (R i k && R k j)) = true := by
  rw [pk_iff] at h
  rcases h with h | ⟨h1, h2⟩
  · rw [hR i j h]; rfl
  · rw [hR i k h1, hR k j h2]; simp
end Gs
end Go.Proofs.Ytclbnjfmipifnaa

namespace Go.Proofs.Ytclbnjfmipifnaa
namespace Gs
variable {α : Type} {lt : α → α → Bool}

/-- each reaches the other -/
def Mut (E : List (α × α)) (a b : α) : Prop := Way E a b ∧ Way E b a
theorem Mut.refl (E : List (α × α)) (a : α) : Mut E a a := ⟨.refl a, .refl a⟩
theorem Mut.symm {E : List (α × α)} {a b : α} (h : Mut E a b) : Mut E b a := ⟨h.2, h.1⟩
theorem Mut.trans {E : List (α × α)} {a b c : α} (h : Mut E a b) (k : Mut E b c) : Mut E a c := ⟨h.1.trans k.1, k.2.trans h.2⟩
theorem mut_flp {E : List (α × α)} {a b : α} : Mut (flp E) a b ↔ Mut E a b :=
  ⟨fun h => ⟨way_flp.1 h.2, way_flp.1 h.1⟩, fun h => ⟨way_flp.2 h.2, way_flp.2 h.1⟩⟩
open Classical in
/-- the part of a -/
noncomputable def part (lt : α → α → Bool) [DecidableEq α] (N : List α) (E : List (α × α)) (a : α) : List α := ris lt (N.filter (fun x => decide (Mut E a x)))
open Classical in
/-- the least of a part -/
noncomputable def lst (lt : α → α → Bool) (N : List α) (E : List (α × α)) (a : α) : Bool := decide (∀ x ∈ N, Mut E a x → lt x a = false)
/-- all parts -/
noncomputable def pts (lt : α → α → Bool) [DecidableEq α] (N : List α) (E : List (α × α)) : List (List α) := (ris lt (N.filter (lst lt N E))).map (part lt N E)
theorem mem_part [DecidableEq α] {N : List α} {E : List (α × α)} {a x : α} : x ∈ part lt N E a ↔ x ∈ N ∧ Mut E a x := by
  unfold part
  rw [mem_ris, List.mem_filter]
  simp
theorem part_up [DecidableEq α] (h : Sto lt) (N : List α) (E : List (α × α)) (a : α) : Ris lt (part lt N E a) := ris_up h _
/-- these are the parts -/
structure Pts (lt : α → α → Bool) (N : List α) (E : List (α × α)) (P : List (List α)) : Prop where
  up : ∀ p ∈ P, Ris lt p
  ne : ∀ p ∈ P, p ≠ []
  hd : P.Pairwise (fun p q => ∀ a b, p.head? = some a → q.head? = some b → lt a b = true)
  cov : ∀ x ∈ N, ∃ p ∈ P, x ∈ p
  one : ∀ p ∈ P, ∀ x ∈ p, x ∈ N ∧ ∀ y, y ∈ p ↔ (y ∈ N ∧ Mut E x y)
theorem head_least (h : Sto lt) : ∀ {p : List α} {a : α}, Ris lt p → p.head? = some a → a ∈ p ∧ ∀ x ∈ p, lt x a = false
  | [], _, _, e => by cases e
  | y :: r, a, hp, e => by
    injection e with e
    subst e
    refine ⟨by simp, fun x hx => ?_⟩
    rcases List.mem_cons.1 hx with rfl | hx
    · exact h.irr _
    · exact h.asym ((List.pairwise_cons.1 hp).1 x hx)
theorem head_is {p : List α} {a : α} (hp : Ris lt p) (ha : a ∈ p) (hl : ∀ x ∈ p, lt x a = false) : p.head? = some a := by
  cases p with
  | nil => cases ha
  | cons y r =>
    have h1 := hl y (by simp)
    rcases List.mem_cons.1 ha with rfl | hr
    · rfl
    · rw [(List.pairwise_cons.1 hp).1 a hr] at h1; cases h1
theorem Pts.eq [DecidableEq α] (h : Sto lt) {N : List α} {E : List (α × α)} {P : List (List α)} (k : Pts lt N E P) : P = pts lt N E := by
  have hne : ∀ p ∈ P, ∃ a, p.head? = some a := fun p hp => by
    cases p with
    | nil => exact absurd rfl (k.ne _ hp)
    | cons a r => exact ⟨a, rfl⟩
  have hpart : ∀ p ∈ P, ∀ a, p.head? = some a → p = part lt N E a := fun p hp a ha => by
    obtain ⟨hm, _⟩ := head_least h (k.up p hp) ha
    refine ris_ext h (k.up p hp) (part_up h N E a) (fun x => ?_)
    rw [mem_part]
    exact (k.one p hp a hm).2 x
  have hheads : P.filterMap List.head? = ris lt (N.filter (lst lt N E)) := by
    refine ris_ext h ?_ (ris_up h _) (fun x => ?_)
    · unfold Ris
      rw [List.pairwise_filterMap]
      exact k.hd.imp (fun hab a ha b hb => hab a b ha hb)
    · rw [mem_ris, List.mem_filter, List.mem_filterMap]
      simp only [lst, decide_eq_true_eq]
      constructor
      · rintro ⟨p, hp, e⟩
        obtain ⟨hm, hl⟩ := head_least h (k.up p hp) e
        obtain ⟨hN, ho⟩ := k.one p hp x hm
        exact ⟨hN, fun y hy hmut => hl y ((ho y).2 ⟨hy, hmut⟩)⟩
      · rintro ⟨hN, hl⟩
        obtain ⟨p, hp, hx⟩ := k.cov x hN
        refine ⟨p, hp, head_is (k.up p hp) hx (fun y hy => ?_)⟩
        obtain ⟨h1, h2⟩ := ((k.one p hp x hx).2 y).1 hy
        exact hl y h1 h2
  unfold pts
  rw [← hheads]
  clear hheads
  have key : ∀ Q : List (List α), (∀ p ∈ Q, p ∈ P) → Q = (Q.filterMap List.head?).map (part lt N E) := by
    intro Q
    induction Q with
    | nil => intro _; rfl
    | cons p r ih =>
      intro hQ
      obtain ⟨a, ha⟩ := hne p (hQ p (by simp))
      rw [List.filterMap_cons, ha]
      simp only [List.map_cons]
      rw [← hpart p (hQ p (by simp)) a ha, ← ih (fun q hq => hQ q (by simp [hq]))]
  exact key P (fun p hp => hp)
/-- the parts of the first k nodes -/
structure PtsK (lt : α → α → Bool) (N : List α) (E : List (α × α)) (all : List α) (k : Nat) (P : List (List α)) : Prop where
  up : ∀ p ∈ P, Ris lt p
  hd : P.Pairwise (fun p q => ∀ a b, p.head? = some a → q.head? = some b → lt a b = true)
  at' : ∀ p ∈ P, ∃ a, a ∈ all.take k ∧ p.head? = some a
  cov : ∀ x ∈ all.take k, ∃ p ∈ P, x ∈ p
  one : ∀ p ∈ P, ∀ x ∈ p, x ∈ N ∧ ∀ y, y ∈ p ↔ (y ∈ N ∧ Mut E x y)
theorem PtsK.nil (lt : α → α → Bool) (N : List α) (E : List (α × α)) (all : List α) : PtsK lt N E all 0 [] := ⟨by simp, List.Pairwise.nil, by simp, by simp, by simp⟩
theorem PtsK.skip {N : List α} {E : List (α × α)} {all : List α} {k : Nat} {P : List (List α)} (h : PtsK lt N E all k P) (hk : k < all.length) {p : List α} (hp : p ∈ P) (hx : all[k] ∈ p) : PtsK lt N E all (k + 1) P := by
  have e : all.take (k + 1) = all.take k ++ [all[k]] := List.take_succ_eq_append_getElem hk
  refine ⟨h.up, h.hd, fun q hq => ?_, fun x hxx => ?_, h.one⟩
  · obtain ⟨a, h1, h2⟩ := h.at' q hq
    exact ⟨a, by rw [e]; exact List.mem_append_left _ h1, h2⟩
  · rw [e] at hxx
    rcases List.mem_append.1 hxx with h1 | h1
    · exact h.cov x h1
    · rw [List.mem_singleton.1 h1]; exact ⟨p, hp, hx⟩
theorem PtsK.add (hs : Sto lt) {N : List α} {E : List (α × α)} {all : List α} {k : Nat} {P : List (List α)} (h : PtsK lt N E all k P) (hall : Ris lt all) (hm : ∀ x, x ∈ all ↔ x ∈ N) (hk : k < all.length) (hn : ∀ p ∈ P, all[k] ∉ p) {q : List α} (hq : Ris lt q) (hqm : ∀ y, y ∈ q ↔ (y ∈ N ∧ Mut E all[k] y)) : PtsK lt N E all (k + 1) (P ++ [q]) := by
  have e : all.take (k + 1) = all.take k ++ [all[k]] := List.take_succ_eq_append_getElem hk
  have hkN : all[k] ∈ N := (hm _).1 (List.getElem_mem hk)
  have hlt : ∀ x ∈ all.take k, lt x all[k] = true := fun x hx => by
    obtain ⟨i, hi, ei⟩ := List.getElem_of_mem hx
    rw [List.getElem_take] at ei
    rw [← ei]
    exact (List.pairwise_iff_getElem.1 hall) i k _ hk (by simp at hi; omega)
  have hhd : q.head? = some all[k] := by
    refine head_is hq ((hqm _).2 ⟨hkN, Mut.refl _ _⟩) (fun x hx => ?_)
    obtain ⟨hxN, hxm⟩ := (hqm x).1 hx
    cases hl : lt x all[k] with
    | false => rfl
    | true =>
      obtain ⟨i, hi, ei⟩ := List.getElem_of_mem ((hm x).2 hxN)
      have hik : i < k := by
        rcases Nat.lt_trichotomy i k with h1 | h1 | h1
        · exact h1
        · subst h1; rw [ei, hs.irr] at hl; cases hl
        · have := (List.pairwise_iff_getElem.1 hall) k i hk hi h1
          rw [ei, hs.asym hl] at this; cases this
      obtain ⟨p, hp, hxp⟩ := h.cov x (by rw [← ei]; exact List.mem_take_iff_getElem.2 ⟨i, by omega, rfl⟩)
      exact absurd (((h.one p hp x hxp).2 _).2 ⟨hkN, hxm.symm⟩) (hn p hp)
  refine ⟨fun p hp => ?_, ?_, fun p hp => ?_, fun x hx => ?_, fun p hp x hx => ?_⟩
  · rcases List.mem_append.1 hp with h1 | h1
    · exact h.up p h1
    · rw [List.mem_singleton.1 h1]; exact hq
  · rw [List.pairwise_append]
    refine ⟨h.hd, List.pairwise_singleton _ _, fun p hp q' hq' a b ha hb => ?_⟩
    rw [List.mem_singleton.1 hq', hhd] at hb
    injection hb with hb
    subst hb
    obtain ⟨a', h1, h2⟩ := h.at' p hp
    rw [ha] at h2
    injection h2 with h2
    subst h2
    exact hlt a h1
  · rcases List.mem_append.1 hp with h1 | h1
    · obtain ⟨a, h2, h3⟩ := h.at' p h1
      exact ⟨a, by rw [e]; exact List.mem_append_left _ h2, h3⟩
    · rw [List.mem_singleton.1 h1]
      exact ⟨all[k], by rw [e]; exact List.mem_append_right _ (List.mem_singleton.2 rfl), hhd⟩
  · rw [e] at hx
    rcases List.mem_append.1 hx with h1 | h1
    · obtain ⟨p, h2, h3⟩ := h.cov x h1
      exact ⟨p, by simp [h2], h3⟩
    · rw [List.mem_singleton.1 h1]
      exact ⟨q, by simp, (hqm _).2 ⟨hkN, Mut.refl _ _⟩⟩
  · rcases List.mem_append.1 hp with h1 | h1
    · exact h.one p h1 x hx
    · have e2 := List.mem_singleton.1 h1
      subst e2
      obtain ⟨hxN, hxm⟩ := (hqm x).1 hx
      exact ⟨hxN, fun y => by
        rw [hqm y]
        exact ⟨fun ⟨a, b⟩ => ⟨a, hxm.symm.trans b⟩, fun ⟨a, b⟩ => ⟨a, hxm.trans b⟩⟩⟩
theorem PtsK.done {N : List α} {E : List (α × α)} {all : List α} {P : List (List α)} (h : PtsK lt N E all all.length P) (hm : ∀ x, x ∈ all ↔ x ∈ N) : Pts lt N E P := by
  refine ⟨h.up, fun p hp e => ?_, h.hd, fun x hx => h.cov x (by rw [List.take_length]; exact (hm x).2 hx), h.one⟩
  obtain ⟨a, _, h2⟩ := h.at' p hp
  rw [e] at h2; cases h2
/-- a circle is in the part -/
def Crc (E : List (α × α)) (p : List α) : Prop := 2 ≤ p.length ∨ ∃ a ∈ p, (a, a) ∈ E
/-- no part holds a circle just if no edge is on one -/
theorem Pts.free (hs : Sto lt) {N : List α} {E : List (α × α)} {P : List (List α)} (h : Pts lt N E P) (hE : ∀ a b, (a, b) ∈ E → a ∈ N ∧ b ∈ N) : (∀ p ∈ P, ¬ Crc E p) ↔ ∀ a b, (a, b) ∈ E → Way E b a → False := by
  constructor
  · intro hc a b hab hw
    obtain ⟨p, hp, ha⟩ := h.cov a (hE a b hab).1
    refine hc p hp ?_
    by_cases e : a = b
    · subst e
      exact .inr ⟨a, ha, hab⟩
    · have hb : b ∈ p := ((h.one p hp a ha).2 b).2 ⟨(hE a b hab).2, .step (.refl _) hab, hw⟩
      left
      match p, ha, hb with
      | [], ha, _ => cases ha
      | [x], ha, hb => exact absurd ((List.mem_singleton.1 ha).trans (List.mem_singleton.1 hb).symm) e
      | _ :: _ :: _, _, _ => simp
  · intro hf p hp hc
    rcases hc with h2 | ⟨a, ha, haa⟩
    · match p, h2, h.up p hp, h.one p hp with
      | x :: y :: r, _, hup, hone =>
        have hxy : lt x y = true := (List.pairwise_cons.1 hup).1 y (by simp)
        have hne : x ≠ y := by rintro rfl; rw [hs.irr] at hxy; cases hxy
        obtain ⟨_, hm⟩ := ((hone x (by simp)).2 y).1 (by simp)
        obtain ⟨h1, h2⟩ := hm
        cases h1 with
        | refl => exact hne rfl
        | step h3 h4 => exact hf _ _ h4 (h2.trans h3)
    · exact hf a a haa (.refl _)
end Gs
end Go.Proofs.Ytclbnjfmipifnaa
