/-
  Rising lists, ways, orders: plain lists over any labels.
-/
import Derived.Test.YtclbnjfmipifnaaPure
namespace Go.Proofs.Ytclbnjfmipifnaa
namespace Gs

/-- a strict order in which any two are held against each other -/
structure Sto {α : Type} (lt : α → α → Bool) : Prop where
  irr : ∀ a, lt a a = false
  trans : ∀ a b c, lt a b = true → lt b c = true → lt a c = true
  tot : ∀ a b, a ≠ b → lt a b = true ∨ lt b a = true
variable {α : Type} {lt : α → α → Bool}
theorem Sto.asym (h : Sto lt) {a b : α} (hab : lt a b = true) : lt b a = false := by
  cases hb : lt b a
  · rfl
  · have := h.trans a b a hab hb
    rw [h.irr] at this; cases this

/-- rising, each once -/
def Ris (lt : α → α → Bool) (l : List α) : Prop := l.Pairwise (fun a b => lt a b = true)
theorem ris_ext (h : Sto lt) : ∀ {a b : List α}, Ris lt a → Ris lt b → (∀ x, x ∈ a ↔ x ∈ b) → a = b
  | [], [], _, _, _ => rfl
  | [], y :: r, _, _, hm => absurd ((hm y).2 (by simp)) (by simp)
  | x :: r, [], _, _, hm => absurd ((hm x).1 (by simp)) (by simp)
  | x :: r, y :: s, ha, hb, hm => by
    obtain ⟨ha1, ha2⟩ := List.pairwise_cons.1 ha
    obtain ⟨hb1, hb2⟩ := List.pairwise_cons.1 hb
    have hxy : x = y := by
      rcases List.mem_cons.1 ((hm x).1 (by simp)) with h1 | h1
      · exact h1
      · rcases List.mem_cons.1 ((hm y).2 (by simp)) with h2 | h2
        · exact h2.symm
        · have h3 := ha1 y h2
          have h4 := hb1 x h1
          rw [h.asym h3] at h4; cases h4
    subst hxy
    congr 1
    refine ris_ext h ha2 hb2 (fun z => ?_)
    constructor
    · intro hz
      rcases List.mem_cons.1 ((hm z).1 (by simp [hz])) with h1 | h1
      · subst h1
        have := ha1 z hz
        rw [h.irr] at this; cases this
      · exact h1
    · intro hz
      rcases List.mem_cons.1 ((hm z).2 (by simp [hz])) with h1 | h1
      · subst h1
        have := hb1 z hz
        rw [h.irr] at this; cases this
      · exact h1
theorem Ris.nodup (h : Sto lt) {l : List α} (hl : Ris lt l) : l.Nodup := by
  refine hl.imp (fun {a b} hab => ?_)
  rintro rfl
  rw [h.irr] at hab; cases hab

/-- laid into a rising list at its place -/
def insr [DecidableEq α] (lt : α → α → Bool) (x : α) : List α → List α
  | [] => [x]
  | y :: r => if lt y x = true then y :: insr lt x r else if y = x then y :: r else x :: y :: r
theorem mem_insr [DecidableEq α] (x z : α) : ∀ l : List α, z ∈ insr lt x l ↔ z = x ∨ z ∈ l
  | [] => by simp [insr]
  | y :: r => by
    unfold insr
    split
    · rw [List.mem_cons, mem_insr x z r, List.mem_cons]
      constructor
      · rintro (h | h | h)
        · exact .inr (.inl h)
        · exact .inl h
        · exact .inr (.inr h)
      · rintro (h | h | h)
        · exact .inr (.inl h)
        · exact .inl h
        · exact .inr (.inr h)
    · split
      · rename_i h1 h2
        subst h2
        simp
      · simp
theorem ris_insr [DecidableEq α] (h : Sto lt) (x : α) : ∀ {l : List α}, Ris lt l → Ris lt (insr lt x l)
  | [], _ => by simp [insr, Ris]
  | y :: r, hl => by
    obtain ⟨h1, h2⟩ := List.pairwise_cons.1 hl
    unfold insr
    split
    · rename_i hyx
      refine List.pairwise_cons.2 ⟨fun z hz => ?_, ris_insr h x h2⟩
      rcases (mem_insr x z r).1 hz with rfl | hz
      · exact hyx
      · exact h1 z hz
    · split
      · exact hl
      · rename_i hyx hne
        have hxy : lt x y = true := by
          rcases h.tot x y (fun e => hne e.symm) with h3 | h3
          · exact h3
          · exact absurd h3 hyx
        refine List.pairwise_cons.2 ⟨fun z hz => ?_, hl⟩
        rcases List.mem_cons.1 hz with rfl | hz
        · exact hxy
        · exact h.trans _ _ _ hxy (h1 z hz)
/-- a list made rising -/
def ris [DecidableEq α] (lt : α → α → Bool) (l : List α) : List α := l.foldl (fun o x => insr lt x o) []
theorem fold_mem [DecidableEq α] (z : α) : ∀ (l o : List α), z ∈ l.foldl (fun o x => insr lt x o) o ↔ z ∈ o ∨ z ∈ l
  | [], o => by simp
  | x :: r, o => by
    rw [List.foldl_cons, fold_mem z r, mem_insr, List.mem_cons]
    constructor
    · rintro ((h | h) | h)
      · exact .inr (.inl h)
      · exact .inl h
      · exact .inr (.inr h)
    · rintro (h | h | h)
      · exact .inl (.inr h)
      · exact .inl (.inl h)
      · exact .inr h
theorem fold_ris [DecidableEq α] (h : Sto lt) : ∀ (l : List α) {o : List α}, Ris lt o → Ris lt (l.foldl (fun o x => insr lt x o) o)
  | [], _, ho => ho
  | x :: r, _, ho => by rw [List.foldl_cons]; exact fold_ris h r (ris_insr h x ho)
theorem mem_ris [DecidableEq α] (z : α) (l : List α) : z ∈ ris lt l ↔ z ∈ l := by unfold ris; rw [fold_mem]; simp
theorem ris_up [DecidableEq α] (h : Sto lt) (l : List α) : Ris lt (ris lt l) := fold_ris h l List.Pairwise.nil
theorem ris_snoc [DecidableEq α] (l : List α) (x : α) : ris lt (l ++ [x]) = insr lt x (ris lt l) := by unfold ris; rw [List.foldl_append]; rfl
theorem ris_eq [DecidableEq α] (h : Sto lt) {a b : List α} (hm : ∀ x, x ∈ a ↔ x ∈ b) : ris lt a = ris lt b :=
  ris_ext h (ris_up h a) (ris_up h b) (fun x => by rw [mem_ris, mem_ris]; exact hm x)
theorem ris_of [DecidableEq α] (h : Sto lt) {l : List α} (hl : Ris lt l) : ris lt l = l := ris_ext h (ris_up h l) hl (fun x => mem_ris x l)
theorem insr_le [DecidableEq α] (x : α) : ∀ l : List α, (insr lt x l).length ≤ l.length + 1
  | [] => by simp [insr]
  | y :: r => by
    unfold insr
    split
    · have := insr_le x r
      simp; omega
    · split <;> simp
theorem ris_le [DecidableEq α] (l : List α) : (ris lt l).length ≤ l.length := by
  have : ∀ (l o : List α), (l.foldl (fun o x => insr lt x o) o).length ≤ o.length + l.length := by
    intro l
    induction l with
    | nil => intro o; simp
    | cons x r ih => intro o; rw [List.foldl_cons]; have h1 := ih (insr lt x o); have h2 := insr_le (lt := lt) x o; simp; omega
  have := this l []
  simpa [ris] using this

/-! ### ways -/
/-- by no edge or more -/
inductive Way (E : List (α × α)) : α → α → Prop
  | refl (a : α) : Way E a a
  | step {a b c : α} : Way E a b → (b, c) ∈ E → Way E a c
theorem Way.trans {E : List (α × α)} {a b c : α} (h : Way E a b) (k : Way E b c) : Way E a c := by
  induction k with
  | refl => exact h
  | step _ hm ih => exact .step ih hm
theorem Way.mono {E F : List (α × α)} (hs : ∀ e ∈ E, e ∈ F) {a b : α} (h : Way E a b) : Way F a b := by
  induction h with
  | refl => exact .refl _
  | step _ hm ih => exact .step ih (hs _ hm)
def flp (E : List (α × α)) : List (α × α) := E.map (fun e => (e.2, e.1))
theorem mem_flp {E : List (α × α)} {a b : α} : (a, b) ∈ flp E ↔ (b, a) ∈ E := by
  unfold flp
  rw [List.mem_map]
  constructor
  · rintro ⟨⟨x, y⟩, hm, e⟩
    simp only [Prod.mk.injEq] at e
    obtain ⟨rfl, rfl⟩ := e
    exact hm
  · intro h; exact ⟨(b, a), h, rfl⟩
theorem flp_flp (E : List (α × α)) : flp (flp E) = E := by
  unfold flp; rw [List.map_map]; conv => rhs; rw [← List.map_id E]
  apply List.map_congr_left; rintro ⟨a, b⟩ _; rfl
theorem Way.back {E : List (α × α)} {a b : α} (h : Way E a b) : Way (flp E) b a := by
  induction h with
  | refl => exact .refl _
  | step _ hm ih => exact Way.trans (.step (.refl _) (mem_flp.2 hm)) ih
theorem way_flp {E : List (α × α)} {a b : α} : Way (flp E) b a ↔ Way E a b :=
  ⟨fun h => by have := h.back; rw [flp_flp] at this; exact this, Way.back⟩
/-- what is reached -/
def Rch (N : List α) (E : List (α × α)) (f : List α) (x : α) : Prop := ∃ a, a ∈ f ∧ a ∈ N ∧ Way E a x
/-- a list that holds the beginnings, only what is reached, and is closed, holds just what is reached -/
theorem rch_iff {N f got : List α} {E : List (α × α)} (h1 : ∀ a ∈ f, a ∈ N → a ∈ got) (h2 : ∀ x ∈ got, Rch N E f x) (h3 : ∀ x ∈ got, ∀ y, (x, y) ∈ E → y ∈ got) (x : α) : x ∈ got ↔ Rch N E f x := by
  refine ⟨h2 x, ?_⟩
  rintro ⟨a, ha, hn, hw⟩
  have h0 := h1 a ha hn
  clear ha hn
  induction hw with
  | refl => exact h0
  | step _ hm ih => exact h3 _ ih _ hm
theorem rch_step {N f : List α} {E : List (α × α)} {x y : α} (h : Rch N E f x) (hm : (x, y) ∈ E) : Rch N E f y := by
  obtain ⟨a, h1, h2, h3⟩ := h
  exact ⟨a, h1, h2, .step h3 hm⟩

/-! ### orders -/
def rdy [DecidableEq α] (E : List (α × α)) (told : List α) (a : α) : Bool := E.all (fun e => !decide (e.1 = a) || decide (e.2 ∈ told))
theorem rdy_iff [DecidableEq α] {E : List (α × α)} {told : List α} {a : α} : rdy E told a = true ↔ ∀ b, (a, b) ∈ E → b ∈ told := by
  unfold rdy
  rw [List.all_eq_true]
  constructor
  · intro h b hb
    have := h (a, b) hb
    simpa using this
  · rintro h ⟨x, y⟩ hm
    by_cases hx : x = a
    · subst hx; simp [h y hm]
    · simp [hx]
/-- the least that may be told next -/
def nxt [DecidableEq α] (all : List α) (E : List (α × α)) (told : List α) : Option α := all.find? (fun a => !decide (a ∈ told) && rdy E told a)
/-- the order from what is told -/
def ordF [DecidableEq α] (all : List α) (E : List (α × α)) : Nat → List α → Option (List α)
  | 0, told => some told
  | n + 1, told => match nxt all E told with
    | none => none
    | some a => ordF all E n (told ++ [a])
def ord [DecidableEq α] (all : List α) (E : List (α × α)) : Option (List α) := ordF all E all.length []
theorem nxt_some [DecidableEq α] {all : List α} {E : List (α × α)} {told : List α} {a : α} (h : nxt all E told = some a) : a ∈ all ∧ a ∉ told ∧ ∀ b, (a, b) ∈ E → b ∈ told := by
  have h1 := List.mem_of_find?_eq_some h
  have h2 := List.find?_some h
  simp only [Bool.and_eq_true, Bool.not_eq_true', decide_eq_false_iff_not] at h2
  exact ⟨h1, h2.1, rdy_iff.1 h2.2⟩
/-- what is told: no one twice, each of all, each behind what its edges lead to -/
structure Tld (all : List α) (E : List (α × α)) (told : List α) : Prop where
  nodup : told.Nodup
  sub : ∀ a ∈ told, a ∈ all
  before : ∀ (i : Nat) (h : i < told.length) (b : α), (told[i], b) ∈ E → b ∈ told.take i
theorem Tld.nil (all : List α) (E : List (α × α)) : Tld all E [] := ⟨List.nodup_nil, by simp, fun i h => by simp at h⟩
theorem Tld.snoc [DecidableEq α] {all : List α} {E : List (α × α)} {told : List α} {a : α} (h : Tld all E told) (hn : nxt all E told = some a) : Tld all E (told ++ [a]) := by
  obtain ⟨h1, h2, h3⟩ := nxt_some hn
  refine ⟨?_, ?_, ?_⟩
  · rw [List.nodup_append]
    refine ⟨h.nodup, by simp, ?_⟩
    intro x hx y hy
    have : y = a := by simpa using hy
    subst this
    rintro rfl
    exact h2 hx
  · intro x hx
    rcases List.mem_append.1 hx with hx | hx
    · exact h.sub x hx
    · have : x = a := by simpa using hx
      rw [this]; exact h1
  · intro i hi b hb
    by_cases hlt : i < told.length
    · rw [List.getElem_append_left hlt] at hb
      rw [List.take_append_of_le_length (by omega)]
      exact h.before i hlt b hb
    · have hi' : i = told.length := by simp at hi; omega
      subst hi'
      simp only [List.getElem_concat_length] at hb
      rw [List.take_left]
      exact h3 b hb
theorem ordF_some [DecidableEq α] {all : List α} {E : List (α × α)} : ∀ (n : Nat) (told L : List α), Tld all E told → ordF all E n told = some L → Tld all E L ∧ L.length = told.length + n ∧ L.take told.length = told
  | 0, told, L, ht, h => by
    unfold ordF at h
    cases h
    exact ⟨ht, by simp, by simp⟩
  | n + 1, told, L, ht, h => by
    unfold ordF at h
    cases hn : nxt all E told with
    | none => rw [hn] at h; cases h
    | some a =>
      rw [hn] at h
      obtain ⟨h1, h2, h3⟩ := ordF_some n (told ++ [a]) L (ht.snoc hn) h
      refine ⟨h1, by simp at h2; omega, ?_⟩
      have : L.take told.length = (L.take (told ++ [a]).length).take told.length := by rw [List.take_take]; congr 1; simp
      rw [this, h3]; simp
/-- told wholly: an edge leads to an earlier place -/
theorem tld_way {all : List α} {E : List (α × α)} {L : List α} (h : Tld all E L) {a b : α} (hw : Way E a b) : ∀ i, (hi : i < L.length) → L[i] = a → ∃ j, ∃ hj : j < L.length, L[j] = b ∧ j ≤ i := by
  induction hw with
  | refl => intro i hi e; exact ⟨i, hi, e, Nat.le_refl _⟩
  | step _ hm ih =>
    intro i hi e
    obtain ⟨j, hj, e2, hji⟩ := ih i hi e
    have hb := h.before j hj _ (by rw [e2]; exact hm)
    obtain ⟨k, hk, e3⟩ := List.getElem_of_mem hb
    have hkj : k < j := by simp at hk; omega
    refine ⟨k, by omega, ?_, by omega⟩
    rw [List.getElem_take] at e3; exact e3
theorem tld_no_circle {all : List α} {E : List (α × α)} {L : List α} (h : Tld all E L) {a b : α} (ha : a ∈ L) (hm : (a, b) ∈ E) (hw : Way E b a) : False := by
  obtain ⟨i, hi, e⟩ := List.getElem_of_mem ha
  have hb := h.before i hi b (by rw [e]; exact hm)
  obtain ⟨k, hk, e3⟩ := List.getElem_of_mem hb
  have hki : k < i := by simp at hk; omega
  rw [List.getElem_take] at e3
  obtain ⟨j, hj, e4, hjk⟩ := tld_way h hw k (by omega) e3
  exact (List.pairwise_iff_getElem.1 h.nodup) j i hj hi (by omega) (e4.trans e.symm)
end Gs
end Go.Proofs.Ytclbnjfmipifnaa
