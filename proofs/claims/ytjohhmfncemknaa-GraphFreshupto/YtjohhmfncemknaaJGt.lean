/-
  Rising lists, ways, orders: plain lists over any labels.
  An order is there just if no one reaches itself; a table of ways.
-/
import Derived.Test.YtjohhmfncemknaaPure
namespace Go.Proofs.Ytjohhmfncemknaa
namespace Gs

/-- a strict order in which any two are held against each other -/
structure Sto {α : Type} (lt : α → α → Bool) : Prop where
  irr : ∀ a, lt a a = false
  trans : ∀ a b c, lt a b = true → lt b c = true → lt a c = true
  tot : ∀ a b, a ≠ b → lt a b = true ∨ lt b a = true
variable {α : Type} {lt : α → α → Bool}
theorem Sto.asym (h : Sto lt) {a b : α} (hab : lt a b = true) : lt b a = false := by
  cases hb : lt b a
  · rfl
  · have := h.trans a b a hab hb
    rw [h.irr] at this; cases this

/-- rising, each once -/
def Ris (lt : α → α → Bool) (l : List α) : Prop := l.Pairwise (fun a b => lt a b = true)
theorem ris_ext (h : Sto lt) : ∀ {a b : List α}, Ris lt a → Ris lt b → (∀ x, x ∈ a ↔ x ∈ b) → a = b
  | [], [], _, _, _ => rfl
  | [], y :: r, _, _, hm => absurd ((hm y).2 (by simp)) (by simp)
  | x :: r, [], _, _, hm => absurd ((hm x).1 (by simp)) (by simp)
  | x :: r, y :: s, ha, hb, hm => by
    obtain ⟨ha1, ha2⟩ := List.pairwise_cons.1 ha
    obtain ⟨hb1, hb2⟩ := List.pairwise_cons.1 hb
    have hxy : x = y := by
      rcases List.mem_cons.1 ((hm x).1 (by simp)) with h1 | h1
      · exact h1
      · rcases List.mem_cons.1 ((hm y).2 (by simp)) with h2 | h2
        · exact h2.symm
        · have h3 := ha1 y h2
          have h4 := hb1 x h1
          rw [h.asym h3] at h4; cases h4
    subst hxy
    congr 1
    refine ris_ext h ha2 hb2 (fun z => ?_)
    constructor
    · intro hz
      rcases List.mem_cons.1 ((hm z).1 (by simp [hz])) with h1 | h1
      · subst h1
        have := ha1 z hz
        rw [h.irr] at this; cases this
      · exact h1
    · intro hz
      rcases List.mem_cons.1 ((hm z).2 (by simp [hz])) with h1 | h1
      · subst h1
        have := hb1 z hz
        rw [h.irr] at this; cases this
      · exact h1
theorem Ris.nodup (h : Sto lt) {l : List α} (hl : Ris lt l) : l.Nodup := by
  refine hl.imp (fun {a b} hab => ?_)
  rintro rfl
  rw [h.irr] at hab; cases hab

/-- laid into a rising list at its place -/
def insr [DecidableEq α] (lt : α → α → Bool) (x : α) : List α → List α
  | [] => [x]
  | y :: r => if lt y x = true then y :: insr lt x r else if y = x then y :: r else x :: y :: r
theorem mem_insr [DecidableEq α] (x z : α) : ∀ l : List α, z ∈ insr lt x l ↔ z = x ∨ z ∈ l
  | [] => by simp [insr]
  | y :: r => by
    unfold insr
    split
    · rw [List.mem_cons, mem_insr x z r, List.mem_cons]
      constructor
      · rintro (h | h | h)
        · exact .inr (.inl h)
        · exact .inl h
        · exact .inr (.inr h)
      · rintro (h | h | h)
        · exact .inr (.inl h)
        · exact .inl h
        · exact .inr (.inr h)
    · split
      · rename_i h1 h2
        subst h2
        simp
      · simp
theorem ris_insr [DecidableEq α] (h : Sto lt) (x : α) : ∀ {l : List α}, Ris lt l → Ris lt (insr lt x l)
  | [], _ => by simp [insr, Ris]
  | y :: r, hl => by
    obtain ⟨h1, h2⟩ := List.pairwise_cons.1 hl
    unfold insr
    split
    · rename_i hyx
      refine List.pairwise_cons.2 ⟨fun z hz => ?_, ris_insr h x h2⟩
      rcases (mem_insr x z r).1 hz with rfl | hz
      · exact hyx
      · exact h1 z hz
    · split
      · exact hl
      · rename_i hyx hne
        have hxy : lt x y = true := by
          rcases h.tot x y (fun e => hne e.symm) with h3 | h3
          · exact h3
          · exact absurd h3 hyx
        refine List.pairwise_cons.2 ⟨fun z hz => ?_, hl⟩
        rcases List.mem_cons.1 hz with rfl | hz
        · exact hxy
        · exact h.trans _ _ _ hxy (h1 z hz)
/-- a list made rising -/
def ris [DecidableEq α] (lt : α → α → Bool) (l : List α) : List α := l.foldl (fun o x => insr lt x o) []
theorem fold_mem [DecidableEq α] (z : α) : ∀ (l o : List α), z ∈ l.foldl (fun o x => insr lt x o) o ↔ z ∈ o ∨ z ∈ l
  | [], o => by simp
  | x :: r, o => by
    rw [List.foldl_cons, fold_mem z r, mem_insr, List.mem_cons]
    constructor
    · rintro ((h | h) | h)
      · exact .inr (.inl h)
      · exact .inl h
      · exact .inr (.inr h)
    · rintro (h | h | h)
      · exact .inl (.inr h)
      · exact .inl (.inl h)
      · exact .inr h
theorem fold_ris [DecidableEq α] (h : Sto lt) : ∀ (l : List α) {o : List α}, Ris lt o → Ris lt (l.foldl (fun o x => insr lt x o) o)
  | [], _, ho => ho
  | x :: r, _, ho => by rw [List.foldl_cons]; exact fold_ris h r (ris_insr h x ho)
theorem mem_ris [DecidableEq α] (z : α) (l : List α) : z ∈ ris lt l ↔ z ∈ l := by unfold ris; rw [fold_mem]; simp
theorem ris_up [DecidableEq α] (h : Sto lt) (l : List α) : Ris lt (ris lt l) := fold_ris h l List.Pairwise.nil
theorem ris_snoc [DecidableEq α] (l : List α) (x : α) : ris lt (l ++ [x]) = insr lt x (ris lt l) := by unfold ris; rw [List.foldl_append]; rfl
theorem ris_eq [DecidableEq α] (h : Sto lt) {a b : List α} (hm : ∀ x, x ∈ a ↔ x ∈ b) : ris lt a = ris lt b :=
  ris_ext h (ris_up h a) (ris_up h b) (fun x => by rw [mem_ris, mem_ris]; exact hm x)
theorem ris_of [DecidableEq α] (h : Sto lt) {l : List α} (hl : Ris lt l) : ris lt l = l := ris_ext h (ris_up h l) hl (fun x => mem_ris x l)
theorem insr_le [DecidableEq α] (x : α) : ∀ l : List α, (insr lt x l).length ≤ l.length + 1
  | [] => by simp [insr]
  | y :: r => by
    unfold insr
    split
    · have := insr_le x r
      simp; omega
    · split <;> simp
theorem ris_le [DecidableEq α] (l : List α) : (ris lt l).length ≤ l.length := by
  have : ∀ (l o : List α), (l.foldl (fun o x => insr lt x o) o).length ≤ o.length + l.length := by
    intro l
    induction l with
    | nil => intro o; simp
    | cons x r ih => intro o; rw [List.foldl_cons]; have h1 := ih (insr lt x o); have h2 := insr_le (lt := lt) x o; simp; omega
  have := this l []
  simpa [ris] using this

/-! ### ways -/
/-- by no edge or more -/
inductive Way (E : List (α × α)) : α → α → Prop
  | refl (a : α) : Way E a a
  | step {a b c : α} : Way E a b → (b, c) ∈ E → Way E a c
theorem Way.trans {E : List (α × α)} {a b c : α} (h : Way E a b) (k : Way E b c) : Way E a c := by
  induction k with
  | refl => exact h
  | step _ hm ih => exact .step ih hm
theorem Way.mono {E F : List (α × α)} (hs : ∀ e ∈ E, e ∈ F) {a b : α} (h : Way E a b) : Way F a b := by
  induction h with
  | refl => exact .refl _
  | step _ hm ih => exact .step ih (hs _ hm)
def flp (E : List (α × α)) : List (α × α) := E.map (fun e => (e.2, e.1))
theorem mem_flp {E : List (α × α)} {a b : α} : (a, b) ∈ flp E ↔ (b, a) ∈ E := by
  unfold flp
  rw [List.mem_map]
  constructor
  · rintro ⟨⟨x, y⟩, hm, e⟩
    simp only [Prod.mk.injEq] at e
    obtain ⟨rfl, rfl⟩ := e
    exact hm
  · intro h; exact ⟨(b, a), h, rfl⟩
theorem flp_flp (E : List (α × α)) : flp (flp E) = E := by
  unfold flp; rw [List.map_map]; conv => rhs; rw [← List.map_id E]
  apply List.map_congr_left; rintro ⟨a, b⟩ _; rfl
theorem Way.back {E : List (α × α)} {a b : α} (h : Way E a b) : Way (flp E) b a := by
  induction h with
  | refl => exact .refl _
  | step _ hm ih => exact Way.trans (.step (.refl _) (mem_flp.2 hm)) ih
theorem way_flp {E : List (α × α)} {a b : α} : Way (flp E) b a ↔ Way E a b :=
  ⟨fun h => by have := h.back; rw [flp_flp] at this; exact this, Way.back⟩
/-- what is reached -/
def Rch (N : List α) (E : List (α × α)) (f : List α) (x : α) : Prop := ∃ a, a ∈ f ∧ a ∈ N ∧ Way E a x
/-- a list that holds the beginnings, only what is reached, and is closed, holds just what is reached -/
theorem rch_iff {N f got : List α} {E : List (α × α)} (h1 : ∀ a ∈ f, a ∈ N → a ∈ got) (h2 : ∀ x ∈ got, Rch N E f x) (h3 : ∀ x ∈ got, ∀ y, (x, y) ∈ E → y ∈ got) (x : α) : x ∈ got ↔ Rch N E f x := by
  refine ⟨h2 x, ?_⟩
  rintro ⟨a, ha, hn, hw⟩
  have h0 := h1 a ha hn
  clear ha hn
  induction hw with
  | refl => exact h0
  | step _ hm ih => exact h3 _ ih _ hm
theorem rch_step {N f : List α} {E : List (α × α)} {x y : α} (h : Rch N E f x) (hm : (x, y) ∈ E) : Rch N E f y := by
  obtain ⟨a, h1, h2, h3⟩ := h
  exact ⟨a, h1, h2, .step h3 hm⟩

/-! ### orders -/
def rdy [DecidableEq α] (E : List (α × α)) (told : List α) (a : α) : Bool := E.all (fun e => !decide (e.1 = a) || decide (e.2 ∈ told))
theorem rdy_iff [DecidableEq α] {E : List (α × α)} {told : List α} {a : α} : rdy E told a = true ↔ ∀ b, (a, b) ∈ E → b ∈ told := by
  unfold rdy
  rw [List.all_eq_true]
  constructor
  · intro h b hb
    have := h (a, b) hb
    simpa using this
  · rintro h ⟨x, y⟩ hm
    by_cases hx : x = a
    · subst hx; simp [h y hm]
    · simp [hx]
/-- the least that may be told next -/
def nxt [DecidableEq α] (all : List α) (E : List (α × α)) (told : List α) : Option α := all.find? (fun a => !decide (a ∈ told) && rdy E told a)
/-- the order from what is told -/
def ordF [DecidableEq α] (all : List α) (E : List (α × α)) : Nat → List α → Option (List α)
  | 0, told => some told
  | n + 1, told => match nxt all E told with
    | none => none
    | some a => ordF all E n (told ++ [a])
def ord [DecidableEq α] (all : List α) (E : List (α × α)) : Option (List α) := ordF all E all.length []
theorem nxt_some [DecidableEq α] {all : List α} {E : List (α × α)} {told : List α} {a : α} (h : nxt all E told = some a) : a ∈ all ∧ a ∉ told ∧ ∀ b, (a, b) ∈ E → b ∈ told := by
  have h1 := List.mem_of_find?_eq_some h
  have h2 := List.find?_some h
  simp only [Bool.and_eq_true, Bool.not_eq_true', decide_eq_false_iff_not] at h2
  exact ⟨h1, h2.1, rdy_iff.1 h2.2⟩
/-- what is told: no one twice, each of all, each behind what its edges lead to -/
structure Tld (all : List α) (E : List (α × α)) (told : List α) : Prop where
  nodup : told.Nodup
  sub : ∀ a ∈ told, a ∈ all
  before : ∀ (i : Nat) (h : i < told.length) (b : α), (told[i], b) ∈ E → b ∈ told.take i
theorem Tld.nil (all : List α) (E : List (α × α)) : Tld all E [] := ⟨List.nodup_nil, by simp, fun i h => by simp at h⟩
theorem Tld.snoc [DecidableEq α] {all : List α} {E : List (α × α)} {told : List α} {a : α} (h : Tld all E told) (hn : nxt all E told = some a) : Tld all E (told ++ [a]) := by
  obtain ⟨h1, h2, h3⟩ := nxt_some hn
  refine ⟨?_, ?_, ?_⟩
  · rw [List.nodup_append]
    refine ⟨h.nodup, by simp, ?_⟩
    intro x hx y hy
    have : y = a := by simpa using hy
    subst this
    rintro rfl
    exact h2 hx
  · intro x hx
    rcases List.mem_append.1 hx with hx | hx
    · exact h.sub x hx
    · have : x = a := by simpa using hx
      rw [this]; exact h1
  · intro i hi b hb
    by_cases hlt : i < told.length
    · rw [List.getElem_append_left hlt] at hb
      rw [List.take_append_of_le_length (by omega)]
      exact h.before i hlt b hb
    · have hi' : i = told.length := by simp at hi; omega
      subst hi'
      simp only [List.getElem_concat_length] at hb
      rw [List.take_left]
      exact h3 b hb
theorem ordF_some [DecidableEq α] {all : List α} {E : List (α × α)} : ∀ (n : Nat) (told L : List α), Tld all E told → ordF all E n told = some L → Tld all E L ∧ L.length = told.length + n ∧ L.take told.length = told
  | 0, told, L, ht, h => by
    unfold ordF at h
    cases h
    exact ⟨ht, by simp, by simp⟩
  | n + 1, told, L, ht, h => by
    unfold ordF at h
    cases hn : nxt all E told with
    | none => rw [hn] at h; cases h
    | some a =>
      rw [hn] at h
      obtain ⟨h1, h2, h3⟩ := ordF_some n (told ++ [a]) L (ht.snoc hn) h
      refine ⟨h1, by simp at h2; omega, ?_⟩
      have : L.take told.length = (L.take (told ++ [a]).length).take told.length := by rw [List.take_take]; congr 1; simp
      rw [this, h3]; simp
/-- told wholly: an edge leads to an earlier place -/
theorem tld_way {all : List α} {E : List (α × α)} {L : List α} (h : Tld all E L) {a b : α} (hw : Way E a b) : ∀ i, (hi : i < L.length) → L[i] = a → ∃ j, ∃ hj : j < L.length, L[j] = b ∧ j ≤ i := by
  induction hw with
  | refl => intro i hi e; exact ⟨i, hi, e, Nat.le_refl _⟩
  | step _ hm ih =>
    intro i hi e
    obtain ⟨j, hj, e2, hji⟩ := ih i hi e
    have hb := h.before j hj _ (by rw [e2]; exact hm)
    obtain ⟨k, hk, e3⟩ := List.getElem_of_mem hb
    have hkj : k < j := by simp at hk; omega
    refine ⟨k, by omega, ?_, by omega⟩
    rw [List.getElem_take] at e3; exact e3
theorem tld_no_circle {all : List α} {E : List (α × α)} {L : List α} (h : Tld all E L) {a b : α} (ha : a ∈ L) (hm : (a, b) ∈ E) (hw : Way E b a) : False := by
  obtain ⟨i, hi, e⟩ := List.getElem_of_mem ha
  have hb := h.before i hi b (by rw [e]; exact hm)
  obtain ⟨k, hk, e3⟩ := List.getElem_of_mem hb
  have hki : k < i := by simp at hk; omega
  rw [List.getElem_take] at e3
  obtain ⟨j, hj, e4, hjk⟩ := tld_way h hw k (by omega) e3
  exact (List.pairwise_iff_getElem.1 h.nodup) j i hj hi (by omega) (e4.trans e.symm)
end Gs
end Go.Proofs.Ytjohhmfncemknaa

namespace Go.Proofs.Ytjohhmfncemknaa
namespace Gs
variable {α : Type}

theorem filter_len_lt : ∀ (l : List α) (p q : α → Bool), (∀ x ∈ l, p x = true → q x = true) → (∃ u ∈ l, q u = true ∧ p u = false) → (l.filter p).length < (l.filter q).length
  | [], _, _, _, ⟨u, hu, _⟩ => by simp at hu
  | x :: r, p, q, hpq, ⟨u, hu, h1, h2⟩ => by
    have hr : ∀ y ∈ r, p y = true → q y = true := fun y hy => hpq y (by simp [hy])
    have hle : ∀ (r : List α), (∀ y ∈ r, p y = true → q y = true) → (r.filter p).length ≤ (r.filter q).length := by
      intro r
      induction r with
      | nil => intro _; simp
      | cons y s ih =>
        intro h
        have h3 := ih (fun z hz => h z (by simp [hz]))
        have h4 := h y (by simp)
        by_cases hp : p y = true
        · rw [List.filter_cons_of_pos hp, List.filter_cons_of_pos (h4 hp)]; simp; exact h3
        · rw [List.filter_cons_of_neg hp]
          by_cases hq : q y = true
          · rw [List.filter_cons_of_pos hq]; simp; omega
          · rw [List.filter_cons_of_neg hq]; exact h3
    rcases List.mem_cons.1 hu with rfl | hu
    · rw [List.filter_cons_of_neg (by rw [h2]; simp), List.filter_cons_of_pos h1]
      have := hle r hr
      simp; omega
    · have ih := filter_len_lt r p q hr ⟨u, hu, h1, h2⟩
      by_cases hp : p x = true
      · rw [List.filter_cons_of_pos hp, List.filter_cons_of_pos (hpq x (by simp) hp)]; simp; exact ih
      · rw [List.filter_cons_of_neg hp]
        by_cases hq : q x = true
        · rw [List.filter_cons_of_pos hq]; simp; omega
        · rw [List.filter_cons_of_neg hq]; exact ih
theorem nodup_sub [DecidableEq α] : ∀ (a b : List α), a.Nodup → (∀ x ∈ a, x ∈ b) → a.length ≤ b.length
  | [], _, _, _ => by simp
  | x :: r, b, hn, hs => by
    obtain ⟨h1, h2⟩ := List.nodup_cons.1 hn
    have hx : x ∈ b := hs x (by simp)
    have := nodup_sub r (b.erase x) h2 (fun y hy => by
      have hne : y ≠ x := by rintro rfl; exact h1 hy
      exact (List.mem_erase_of_ne hne).2 (hs y (by simp [hy])))
    rw [List.length_erase_of_mem hx] at this
    have hb : 0 < b.length := List.length_pos_of_mem hx
    simp; omega
theorem nxt_none [DecidableEq α] {all : List α} {E : List (α × α)} {told : List α} (h : nxt all E told = none) {u : α} (hu : u ∈ all) (hn : u ∉ told) : ∃ b, (u, b) ∈ E ∧ b ∉ told := by
  have h1 := List.find?_eq_none.1 h u hu
  by_cases hr : rdy E told u = true
  · exact absurd (by simp [hn, hr]) h1
  · by_cases hx : ∃ b, (u, b) ∈ E ∧ b ∉ told
    · exact hx
    · exfalso
      apply hr
      rw [rdy_iff]
      intro b hb
      by_cases hbt : b ∈ told
      · exact hbt
      · exact absurd ⟨b, hb, hbt⟩ hx
open Classical in
/-- from one that is not told ways lead to one that may be told, where no one reaches itself -/
theorem ready_there {all : List α} {E : List (α × α)} {told : List α} (hE : ∀ a b, (a, b) ∈ E → b ∈ all) (hc : ∀ a b, (a, b) ∈ E → Way E b a → False)
    (hs : ∀ u ∈ all, u ∉ told → ∃ b, (u, b) ∈ E ∧ b ∉ told) : ∀ (k : Nat) (u : α), u ∈ all → u ∉ told → (all.filter (fun x => decide (Way E u x))).length ≤ k → False
  | 0, u, hu, _, hk => by
    have : u ∈ all.filter (fun x => decide (Way E u x)) := List.mem_filter.2 ⟨hu, by simp [Way.refl u]⟩
    have := List.length_pos_of_mem this
    omega
  | k + 1, u, hu, hn, hk => by
    obtain ⟨b, hb, hbt⟩ := hs u hu hn
    refine ready_there hE hc hs k b (hE u b hb) hbt ?_
    have := filter_len_lt all (fun x => decide (Way E b x)) (fun x => decide (Way E u x)) (fun x _ hx => by
      simp only [decide_eq_true_eq] at hx ⊢
      exact Way.trans (.step (.refl u) hb) hx) ⟨u, hu, by simp [Way.refl u], by simpa using fun h => hc u b hb h⟩
    omega
theorem ordF_there [DecidableEq α] {all : List α} {E : List (α × α)} (ha : all.Nodup) (hE : ∀ a b, (a, b) ∈ E → b ∈ all) (hc : ∀ a b, (a, b) ∈ E → Way E b a → False) :
    ∀ (n : Nat) (told : List α), Tld all E told → told.length + n = all.length → ∃ L, ordF all E n told = some L
  | 0, told, _, _ => ⟨told, rfl⟩
  | n + 1, told, ht, hl => by
    cases hn : nxt all E told with
    | some a =>
      obtain ⟨L, hL⟩ := ordF_there ha hE hc n (told ++ [a]) (ht.snoc hn) (by simp; omega)
      exact ⟨L, by unfold ordF; rw [hn]; exact hL⟩
    | none =>
      exfalso
      have hu : ∃ u ∈ all, u ∉ told := by
        by_cases hx : ∃ u ∈ all, u ∉ told
        · exact hx
        · have := nodup_sub all told ha (fun x hx' => by
            by_cases h : x ∈ told
            · exact h
            · exact absurd ⟨x, hx', h⟩ hx)
          omega
      obtain ⟨u, hu, hun⟩ := hu
      classical
      exact ready_there hE hc (fun u hu hn' => nxt_none hn hu hn') _ u hu hun (Nat.le_refl _)
theorem ord_some_iff [DecidableEq α] {all : List α} {E : List (α × α)} (ha : all.Nodup) (hE : ∀ a b, (a, b) ∈ E → a ∈ all ∧ b ∈ all) : (∃ L, ord all E = some L) ↔ ∀ a b, (a, b) ∈ E → Way E b a → False := by
  constructor
  · rintro ⟨L, hL⟩ a b hm hw
    obtain ⟨h1, h2, _⟩ := ordF_some _ _ _ (Tld.nil all E) hL
    have hal : a ∈ L := by
      by_cases h : a ∈ L
      · exact h
      · exfalso
        have := nodup_sub (a :: L) all (List.nodup_cons.2 ⟨h, h1.nodup⟩) (fun x hx => by
          rcases List.mem_cons.1 hx with rfl | hx
          · exact (hE _ _ hm).1
          · exact h1.sub x hx)
        simp at this h2
        omega
    exact tld_no_circle h1 hal hm hw
  · intro hc
    exact ordF_there ha (fun a b h => (hE a b h).2) hc _ _ (Tld.nil all E) (by simp)

/-! ### a table of ways -/
/-- by one edge or more -/
inductive Tw (D : Nat → Nat → Bool) : Nat → Nat → Prop
  | one {i j : Nat} : D i j = true → Tw D i j
  | step {i k j : Nat} : Tw D i k → D k j = true → Tw D i j
theorem Tw.trans {D : Nat → Nat → Bool} {i k j : Nat} (h : Tw D i k) (h2 : Tw D k j) : Tw D i j := by
  induction h2 with
  | one hd => exact .step h hd
  | step _ hd ih => exact .step ih hd
def PK (D : Nat → Nat → Bool) : Nat → Nat → Nat → Bool
  | 0, i, j => D i j
  | k + 1, i, j => PK D k i j || (PK D k i k && PK D k k j)
theorem pk_mono (D : Nat → Nat → Bool) (k i j : Nat) (h : PK D k i j = true) : PK D (k + 1) i j = true := by unfold PK; rw [h]; rfl
theorem pk_edge (D : Nat → Nat → Bool) (i j : Nat) (h : D i j = true) : ∀ k, PK D k i j = true
  | 0 => h
  | k + 1 => pk_mono D k i j (pk_edge D i j h k)
theorem pk_iff (D : Nat → Nat → Bool) (k i j : Nat) : PK D (k + 1) i j = true ↔ PK D k i j = true ∨ (PK D k i k = true ∧ PK D k k j = true) := by
  show (PK D k i j || (PK D k i k && PK D k k j)) = true ↔ _
  rw [Bool.or_eq_true, Bool.and_eq_true]
theorem pk_trans (D : Nat → Nat → Bool) : ∀ (n m i j : Nat), m < n → PK D n i m = true → PK D n m j = true → PK D n i j = true
  | 0, _, _, _, h, _, _ => by omega
  | n + 1, m, i, j, h, h1, h2 => by
    rw [pk_iff] at h1 h2 ⊢
    by_cases hm : m = n
    · subst hm
      right
      exact ⟨h1.elim id (fun h => h.1), h2.elim id (fun h => h.2)⟩
    · have hlt : m < n := by omega
      rcases h1 with h1 | ⟨h1, h1'⟩ <;> rcases h2 with h2 | ⟨h2, h2'⟩
      · exact .inl (pk_trans D n m i j hlt h1 h2)
      · exact .inr ⟨pk_trans D n m i n hlt h1 h2, h2'⟩
      · exact .inr ⟨h1, pk_trans D n m n j hlt h1' h2⟩
      · exact .inr ⟨h1, h2'⟩
theorem pk_sound (D : Nat → Nat → Bool) : ∀ (k i j : Nat), PK D k i j = true → Tw D i j
  | 0, _, _, h => .one h
  | k + 1, i, j, h => by
    rw [pk_iff] at h
    rcases h with h | ⟨h1, h2⟩
    · exact pk_sound D k i j h
    · exact (pk_sound D k i k h1).trans (pk_sound D k k j h2)
theorem pk_all (D : Nat → Nat → Bool) (n : Nat) (hn : ∀ i j, D i j = true → i < n ∧ j < n) {i j : Nat} (h : Tw D i j) : PK D n i j = true := by
  induction h with
  | one hd => exact pk_edge D _ _ hd n
  | step _ hd ih => exact pk_trans D n _ _ _ (hn _ _ hd).1 ih (pk_edge D _ _ hd n)
/-- one cell of the table in round k -/
theorem pk_cell {D R : Nat → Nat → Bool} {k i j : Nat} (hR : ∀ a b, PK D k a b = true → R a b = true) (h : PK D (k + 1) i j = true) : (R i j || (R i k && R k j)) = true := by
  rw [pk_iff] at h
  rcases h with h | ⟨h1, h2⟩
  · rw [hR i j h]; rfl
  · rw [hR i k h1, hR k j h2]; simp
end Gs
end Go.Proofs.Ytjohhmfncemknaa
