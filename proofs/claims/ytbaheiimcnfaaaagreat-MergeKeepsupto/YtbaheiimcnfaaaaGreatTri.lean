/-
  A tree of directories over files: plain lists.
-/
import Derived.Test.YtbaheiimcnfaaaaGreatJFil
import Derived.Test.YtbaheiimcnfaaaaGreatSets
namespace Go.Proofs.YtbaheiimcnfaaaaGreat

abbrev Q := List (List UInt8)

/-- is q a proper beginning of p? -/
def pre (q p : Q) : Bool := q.isPrefixOf p && decide (q.length < p.length)
theorem pre_iff {q p : Q} : pre q p = true ↔ ∃ n r, p = q ++ n :: r := by
  unfold pre
  rw [Bool.and_eq_true, List.isPrefixOf_iff_prefix, decide_eq_true_eq]
  constructor
  · rintro ⟨⟨r, rfl⟩, h⟩
    cases r with
    | nil => simp at h
    | cons n r => exact ⟨n, r, rfl⟩
  · rintro ⟨n, r, rfl⟩
    exact ⟨⟨_, rfl⟩, by simp⟩
theorem pre_false {q p : Q} : pre q p = false ↔ ∀ n r, p ≠ q ++ n :: r := by
  rw [← Bool.not_eq_true, pre_iff]
  constructor
  · intro h n r e; exact h ⟨n, r, e⟩
  · rintro h ⟨n, r, e⟩; exact h n r e
theorem pre_irrefl (p : Q) : pre p p = false := by unfold pre; simp
theorem pre_nil {p : Q} (h : p ≠ []) : pre [] p = true := by
  cases p with
  | nil => exact absurd rfl h
  | cons a b => exact pre_iff.2 ⟨a, b, rfl⟩
theorem pre_len {q p : Q} (h : pre q p = true) : q.length < p.length := by
  obtain ⟨n, r, rfl⟩ := pre_iff.1 h; simp
theorem pre_trans {a b c : Q} (h : pre a b = true) (k : pre b c = true) : pre a c = true := by
  obtain ⟨n, r, rfl⟩ := pre_iff.1 h
  obtain ⟨m, s, rfl⟩ := pre_iff.1 k
  exact pre_iff.2 ⟨n, r ++ m :: s, by simp⟩
theorem pre_snoc {q p : Q} {n : List UInt8} : pre (q ++ [n]) p = true → pre q p = true := fun h => by
  obtain ⟨m, r, rfl⟩ := pre_iff.1 h
  exact pre_iff.2 ⟨n, m :: r, by simp⟩
theorem pre_last (q : Q) (n : List UInt8) : pre q (q ++ [n]) = true := pre_iff.2 ⟨n, [], rfl⟩
/-- of two beginnings one begins the other -/
theorem pre_two {a b p : Q} (ha : pre a p = true) (hb : pre b p = true ∨ b = p) : a = b ∨ pre a b = true ∨ pre b a = true := by
  obtain ⟨n, r, rfl⟩ := pre_iff.1 ha
  have hb' : b <+: a ++ n :: r := by
    rcases hb with hb | rfl
    · obtain ⟨m, s, e⟩ := pre_iff.1 hb
      exact ⟨m :: s, e.symm⟩
    · exact ⟨[], by simp⟩
  have ha' : a <+: a ++ n :: r := ⟨_, rfl⟩
  by_cases hl : a.length ≤ b.length
  · have h := List.prefix_of_prefix_length_le ha' hb' hl
    obtain ⟨t, rfl⟩ := h
    cases t with
    | nil => left; simp
    | cons x t => right; left; exact pre_iff.2 ⟨x, t, rfl⟩
  · have h := List.prefix_of_prefix_length_le hb' ha' (by omega)
    obtain ⟨t, rfl⟩ := h
    cases t with
    | nil => left; simp
    | cons x t => right; right; exact pre_iff.2 ⟨x, t, rfl⟩
theorem pre_child {q p : Q} (h : pre q p = true) : ∃ n, q ++ [n] = p ∨ pre (q ++ [n]) p = true := by
  obtain ⟨n, r, rfl⟩ := pre_iff.1 h
  refine ⟨n, ?_⟩
  cases r with
  | nil => left; rfl
  | cons m r => right; exact pre_iff.2 ⟨m, r, by simp⟩

def sz (f : Fl) : Nat := f.size.toNat
def pp (f : Fl) : Q := pcs f.path
def cnt : List Fl → Q → Nat
  | [], _ => 0
  | f :: r, q => (if pre q (pp f) then 1 else 0) + cnt r q
def tot : List Fl → Q → Nat
  | [], _ => 0
  | f :: r, q => (if pre q (pp f) then sz f else 0) + tot r q
def own : List Fl → Q → Nat
  | [], _ => 0
  | f :: r, q => (if (pp f).dropLast = q then sz f else 0) + own r q
def fileAt : List Fl → Q → Option Nat
  | [], _ => none
  | f :: r, q => if pp f = q then some (sz f) else fileAt r q

/-- what stands at a place of the tree -/
inductive Nd where
  | dir (c a o : Nat)
  | file (s : Nat)
def st (L : List Fl) (q : Q) : Option Nd :=
  match fileAt L q with
  | some s => some (.file s)
  | none => if q = [] ∨ 0 < cnt L q then some (.dir (cnt L q) (tot L q) (own L q)) else none

def aprt (p q : Q) : Prop := p ≠ q ∧ pre p q = false ∧ pre q p = false
theorem aprt.symm {p q : Q} (h : aprt p q) : aprt q p := ⟨h.1.symm, h.2.2, h.2.1⟩

theorem cnt_perm {L M : List Fl} (h : L.Perm M) (q : Q) : cnt L q = cnt M q := by
  induction h with
  | nil => rfl
  | cons x _ ih => simp only [cnt, ih]
  | swap x y l => simp only [cnt]; omega
  | trans _ _ h1 h2 => exact h1.trans h2
theorem tot_perm {L M : List Fl} (h : L.Perm M) (q : Q) : tot L q = tot M q := by
  induction h with
  | nil => rfl
  | cons x _ ih => simp only [tot, ih]
  | swap x y l => simp only [tot]; omega
  | trans _ _ h1 h2 => exact h1.trans h2
theorem own_perm {L M : List Fl} (h : L.Perm M) (q : Q) : own L q = own M q := by
  induction h with
  | nil => rfl
  | cons x _ ih => simp only [own, ih]
  | swap x y l => simp only [own]; omega
  | trans _ _ h1 h2 => exact h1.trans h2
theorem cnt_le : ∀ (L : List Fl) (q : Q), cnt L q ≤ L.length
  | [], _ => Nat.le_refl _
  | f :: r, q => by have := cnt_le r q; simp only [cnt, List.length_cons]; split <;> omega
theorem cnt_pos {L : List Fl} {q : Q} : 0 < cnt L q ↔ ∃ f ∈ L, pre q (pp f) = true := by
  induction L with
  | nil => simp [cnt]
  | cons f r ih =>
    simp only [cnt, List.mem_cons, exists_eq_or_imp]
    by_cases h : pre q (pp f) = true
    · simp only [h, if_true, true_or, iff_true]; omega
    · simp [h, ih]
theorem tot_zero : ∀ {L : List Fl} {q : Q}, cnt L q = 0 → tot L q = 0
  | [], _, _ => rfl
  | f :: r, q, h => by
    simp only [cnt] at h
    by_cases hp : pre q (pp f) = true
    · rw [if_pos hp] at h; omega
    · rw [if_neg hp] at h
      simp only [tot, if_neg hp, Nat.zero_add]
      exact tot_zero (by omega)
theorem drop_pre {p q : Q} (hp : p ≠ []) (h : p.dropLast = q) : pre q p = true := by
  subst h
  exact pre_iff.2 ⟨p.getLast hp, [], (List.dropLast_concat_getLast hp).symm⟩
theorem own_le : ∀ {L : List Fl} {q : Q}, (∀ f ∈ L, pp f ≠ []) → own L q ≤ tot L q
  | [], _, _ => Nat.le_refl _
  | f :: r, q, h => by
    have ih := own_le (L := r) (q := q) (fun g hg => h g (by simp [hg]))
    simp only [own, tot]
    by_cases hd : (pp f).dropLast = q
    · rw [if_pos hd, if_pos (drop_pre (h f (by simp)) hd)]; omega
    · rw [if_neg hd]; omega

theorem fileAt_none {L : List Fl} {q : Q} : fileAt L q = none ↔ ∀ f ∈ L, pp f ≠ q := by
  induction L with
  | nil => simp [fileAt]
  | cons f r ih =>
    simp only [fileAt, List.mem_cons, forall_eq_or_imp]
    by_cases h : pp f = q
    · simp [h]
    · simp [h, ih]
theorem fileAt_some {L : List Fl} {q : Q} {s : Nat} (h : fileAt L q = some s) : ∃ f ∈ L, pp f = q ∧ sz f = s := by
  induction L with
  | nil => simp [fileAt] at h
  | cons f r ih =>
    simp only [fileAt] at h
    split at h
    · rename_i e
      cases h
      exact ⟨f, by simp, e, rfl⟩
    · obtain ⟨g, hg, e⟩ := ih h
      exact ⟨g, by simp [hg], e⟩
theorem fileAt_of {L : List Fl} {f : Fl} (ha : L.Pairwise fun f g => aprt (pp f) (pp g)) (hf : f ∈ L) : fileAt L (pp f) = some (sz f) := by
  induction L with
  | nil => simp at hf
  | cons g r ih =>
    have h := List.pairwise_cons.1 ha
    rcases List.mem_cons.1 hf with rfl | hf
    · simp [fileAt]
    · simp only [fileAt]
      rw [if_neg (h.1 f hf).1]
      exact ih h.2 hf
theorem fileAt_perm {L M : List Fl} (hp : L.Perm M) (ha : L.Pairwise fun f g => aprt (pp f) (pp g)) (q : Q) : fileAt L q = fileAt M q := by
  have hb : M.Pairwise fun f g => aprt (pp f) (pp g) := (hp.pairwise_iff (fun {a b} h => aprt.symm h)).1 ha
  cases h : fileAt L q with
  | none =>
    symm
    rw [fileAt_none] at h ⊢
    exact fun f hf => h f (hp.mem_iff.2 hf)
  | some s =>
    obtain ⟨f, hf, rfl, rfl⟩ := fileAt_some h
    exact (fileAt_of hb (hp.mem_iff.1 hf)).symm

/-- files that may stand in a tree -/
structure GoodT (L : List Fl) : Prop where
  each : ∀ f ∈ L, fileE f = 0
  apart : L.Pairwise fun f g => aprt (pp f) (pp g)
  len : L.length ≤ 512
theorem GoodT.perm {L M : List Fl} (h : GoodT L) (hp : L.Perm M) : GoodT M :=
  ⟨fun f hf => h.each f (hp.mem_iff.2 hf), (hp.pairwise_iff (fun {a b} h => aprt.symm h)).1 h.apart, by rw [← hp.length_eq]; exact h.len⟩
theorem GoodT.nil : GoodT [] := ⟨by simp, .nil, by simp⟩
theorem GoodT.tail {f : Fl} {L : List Fl} (h : GoodT (f :: L)) : GoodT L :=
  ⟨fun g hg => h.each g (by simp [hg]), (List.pairwise_cons.1 h.apart).2, by have := h.len; simp at this; omega⟩
theorem GoodT.cons {f : Fl} {L : List Fl} (h : GoodT L) (hf : fileE f = 0) (ha : ∀ g ∈ L, aprt (pp f) (pp g)) (hl : L.length < 512) : GoodT (f :: L) :=
  ⟨by intro g hg; rcases List.mem_cons.1 hg with rfl | hg; exact hf; exact h.each g hg, List.pairwise_cons.2 ⟨ha, h.apart⟩, by simp; omega⟩
theorem GoodT.head {f : Fl} {L : List Fl} (h : GoodT (f :: L)) : ∀ g ∈ L, aprt (pp f) (pp g) := (List.pairwise_cons.1 h.apart).1
theorem path_of {f : Fl} (h : fileE f = 0) : f.path ≠ [] ∧ okP f.path = true := by
  have h := (fileE_zero f).1 h
  have h := h.1
  unfold pathOk at h
  simp at h
  exact h
theorem pp_ne {f : Fl} (h : fileE f = 0) : pp f ≠ [] := fun e => (path_of h).1 ((pcs_eq_nil _).1 e)
theorem GoodT.ne {L : List Fl} (h : GoodT L) : ∀ f ∈ L, pp f ≠ [] := fun f hf => pp_ne (h.each f hf)
theorem size_of {f : Fl} (h : fileE f = 0) (ht : f.text.length ≤ 1000000000) : 0 ≤ f.size ∧ f.size ≤ 4611686018427387904 := by
  have h := ((fileE_zero f).1 h).2
  unfold fits at h
  split at h
  · simp at h; omega
  · simp at h; exact h.2

theorem pair_of {α : Type} {R : α → α → Prop} (hs : ∀ {a b}, R a b → R b a) : ∀ {L : List α}, L.Pairwise R → ∀ {a b}, a ∈ L → b ∈ L → a ≠ b → R a b
  | [], _, a, _, ha, _, _ => by simp at ha
  | x :: r, h, a, b, ha, hb, hne => by
    have h := List.pairwise_cons.1 h
    rcases List.mem_cons.1 ha with e1 | h1
    · rcases List.mem_cons.1 hb with e2 | h2
      · exact absurd (e1.trans e2.symm) hne
      · rw [e1]; exact h.1 b h2
    · rcases List.mem_cons.1 hb with e2 | h2
      · rw [e2]; exact hs (h.1 a h1)
      · exact pair_of hs h.2 h1 h2 hne
theorem GoodT.two {L : List Fl} (h : GoodT L) {f g : Fl} (hf : f ∈ L) (hg : g ∈ L) (hne : f ≠ g) : aprt (pp f) (pp g) := pair_of (fun h => aprt.symm h) h.apart hf hg hne
theorem st_perm {L M : List Fl} (h : GoodT L) (hp : L.Perm M) : st L = st M := by
  funext q
  unfold st
  rw [fileAt_perm hp h.apart, cnt_perm hp, tot_perm hp, own_perm hp]
theorem st_root {L : List Fl} (h : GoodT L) : st L [] = some (.dir (cnt L []) (tot L []) (own L [])) := by
  unfold st
  rw [fileAt_none.2 (fun f hf => h.ne f hf)]
  simp
theorem st_file {L : List Fl} (h : GoodT L) {f : Fl} (hf : f ∈ L) : st L (pp f) = some (.file (sz f)) := by
  unfold st; rw [fileAt_of h.apart hf]
theorem st_file_inv {L : List Fl} {q : Q} {s : Nat} (h : st L q = some (.file s)) : ∃ f ∈ L, pp f = q ∧ sz f = s := by
  unfold st at h
  split at h
  · rename_i s' e
    cases h
    exact fileAt_some e
  · split at h <;> cases h
theorem st_dir_inv {L : List Fl} {q : Q} {c a o : Nat} (h : st L q = some (.dir c a o)) : c = cnt L q ∧ a = tot L q ∧ o = own L q ∧ (q = [] ∨ 0 < cnt L q) ∧ ∀ f ∈ L, pp f ≠ q := by
  unfold st at h
  split at h
  · cases h
  · rename_i e
    split at h
    · rename_i e2
      cases h
      exact ⟨rfl, rfl, rfl, e2, fileAt_none.1 e⟩
    · cases h
/-- a directory: above a file, or the root -/
theorem st_dir {L : List Fl} (h : GoodT L) {q : Q} (hq : q = [] ∨ ∃ f ∈ L, pre q (pp f) = true) : st L q = some (.dir (cnt L q) (tot L q) (own L q)) := by
  rcases hq with rfl | ⟨f, hf, hp⟩
  · exact st_root h
  · unfold st
    have : fileAt L q = none := by
      rw [fileAt_none]
      rintro g hg rfl
      by_cases e : f = g
      · subst e; rw [pre_irrefl] at hp; cases hp
      · have h2 := h.two hg hf (Ne.symm e)
        rw [h2.2.1] at hp; cases hp
    rw [this]
    simp only
    rw [if_pos (.inr (cnt_pos.2 ⟨f, hf, hp⟩))]
theorem st_none {L : List Fl} {q : Q} (h : st L q = none) : (∀ f ∈ L, pp f ≠ q) ∧ q ≠ [] ∧ ∀ f ∈ L, pre q (pp f) = false := by
  unfold st at h
  split at h
  · cases h
  · rename_i e
    split at h
    · cases h
    · rename_i e2
      refine ⟨fileAt_none.1 e, fun e => e2 (.inl e), fun f hf => ?_⟩
      cases hp : pre q (pp f)
      · rfl
      · exact absurd (.inr (cnt_pos.2 ⟨f, hf, hp⟩)) e2
theorem st_none_of {L : List Fl} {q : Q} (h1 : ∀ f ∈ L, pp f ≠ q) (h2 : q ≠ []) (h3 : ∀ f ∈ L, pre q (pp f) = false) : st L q = none := by
  unfold st
  rw [fileAt_none.2 h1]
  simp only
  rw [if_neg]
  rintro (h | h)
  · exact h2 h
  · obtain ⟨f, hf, hp⟩ := cnt_pos.1 h
    rw [h3 f hf] at hp; cases hp
/-- what is in something is in a directory -/
theorem st_up {L : List Fl} (h : GoodT L) {q : Q} {n : List UInt8} (hs : (st L (q ++ [n])).isSome = true) : st L q = some (.dir (cnt L q) (tot L q) (own L q)) := by
  apply st_dir h
  cases e : st L (q ++ [n]) with
  | none => rw [e] at hs; cases hs
  | some d =>
    cases d with
    | file s =>
      obtain ⟨f, hf, hp, _⟩ := st_file_inv e
      exact .inr ⟨f, hf, by rw [hp]; exact pre_last _ _⟩
    | dir c a o =>
      obtain ⟨_, _, _, h1, _⟩ := st_dir_inv e
      rcases h1 with h1 | h1
      · simp at h1
      · obtain ⟨f, hf, hp⟩ := cnt_pos.1 h1
        exact .inr ⟨f, hf, pre_snoc hp⟩
/-- nothing is below a file -/
theorem st_below {L : List Fl} (h : GoodT L) {q : Q} {s : Nat} (hq : st L q = some (.file s)) (n : List UInt8) : st L (q ++ [n]) = none := by
  cases e : st L (q ++ [n]) with
  | none => rfl
  | some d =>
    have := st_up h (q := q) (n := n) (by rw [e]; rfl)
    rw [hq] at this; cases this

/-- one file more -/
theorem st_cons_at (f : Fl) (L : List Fl) : st (f :: L) (pp f) = some (.file (sz f)) := by unfold st; simp [fileAt]
theorem st_cons_pre {f : Fl} {L : List Fl} (h : GoodT (f :: L)) {q : Q} (hq : pre q (pp f) = true) :
    st (f :: L) q = some (.dir (1 + cnt L q) (sz f + tot L q) ((if (pp f).dropLast = q then sz f else 0) + own L q)) := by
  rw [st_dir h (.inr ⟨f, by simp, hq⟩)]
  simp only [cnt, tot, own, if_pos hq]
theorem st_cons_other {f : Fl} {L : List Fl} (hf : pp f ≠ []) {q : Q} (h1 : q ≠ pp f) (hq : pre q (pp f) = false) : st (f :: L) q = st L q := by
  have e1 : fileAt (f :: L) q = fileAt L q := by simp only [fileAt]; rw [if_neg (Ne.symm h1)]
  have e2 : cnt (f :: L) q = cnt L q := by simp [cnt, hq]
  have e3 : tot (f :: L) q = tot L q := by simp [tot, hq]
  have e4 : own (f :: L) q = own L q := by
    simp only [own]
    rw [if_neg, Nat.zero_add]
    intro e
    rw [drop_pre hf e] at hq; cases hq
  unfold st
  rw [e1, e2, e3, e4]
theorem st_rest_pre {f : Fl} {L : List Fl} (h : GoodT (f :: L)) {q : Q} (hq : pre q (pp f) = true) :
    st L q = if q = [] ∨ 0 < cnt L q then some (.dir (cnt L q) (tot L q) (own L q)) else none := by
  unfold st
  have : fileAt L q = none := by
    rw [fileAt_none]
    rintro g hg rfl
    have := (h.head g hg).2.2
    rw [hq] at this; cases this
  rw [this]
theorem st_rest_at {f : Fl} {L : List Fl} (h : GoodT (f :: L)) : st L (pp f) = none :=
  st_none_of (fun g hg e => (h.head g hg).1 e.symm) (h.ne f (by simp)) (fun g hg => (h.head g hg).2.1)

/-- how far a walk comes -/
def rch (S : Q → Option Nd) : Q → Q → Q × Bool
  | d, [] => (d, true)
  | d, n :: r => if (S (d ++ [n])).isSome then rch S (d ++ [n]) r else (d, false)
theorem rch_spec {L : List Fl} : ∀ (r d : Q), (st L d).isSome = true →
    (st L (rch (st L) d r).1).isSome = true ∧ ((rch (st L) d r).2 = true → (rch (st L) d r).1 = d ++ r) ∧
    ((rch (st L) d r).2 = false → ∃ n t, d ++ r = (rch (st L) d r).1 ++ n :: t ∧ st L ((rch (st L) d r).1 ++ [n]) = none)
  | [], d, h => by simp [rch, h]
  | n :: r, d, h => by
    simp only [rch]
    split
    · rename_i hs
      have ih := rch_spec r (d ++ [n]) hs
      rw [List.append_assoc, List.singleton_append] at ih
      exact ih
    · rename_i hs
      simp only [Bool.not_eq_true, Option.isSome_eq_false_iff, Option.isNone_iff_eq_none] at hs
      exact ⟨h, fun e => by simp at e, fun _ => ⟨n, r, rfl, hs⟩⟩
theorem st_deep {L : List Fl} (h : GoodT L) : ∀ (t q : Q), (st L (q ++ t)).isSome = true → (st L q).isSome = true := by
  intro t
  induction t with
  | nil => intro q hq; simpa using hq
  | cons n t ih =>
    intro q hq
    have := ih (q ++ [n]) (by simpa using hq)
    rw [st_up h this]; rfl
/-- it comes to what is there -/
theorem rch_there {L : List Fl} (h : GoodT L) (P : Q) : (rch (st L) [] P).2 = (st L P).isSome := by
  have hs := rch_spec (L := L) P [] (by rw [st_root h]; rfl)
  cases e : (rch (st L) [] P).2
  · obtain ⟨n, t, e1, e2⟩ := hs.2.2 e
    simp only [List.nil_append] at e1
    cases e3 : (st L P).isSome
    · rfl
    · rw [e1] at e3
      have := st_deep h t ((rch (st L) [] P).1 ++ [n]) (by simpa using e3)
      rw [e2] at this; cases this
  · have e1 := hs.2.1 e
    have e2 := hs.1
    rw [e1, List.nil_append] at e2
    exact e2.symm
/-- nothing there, and no file above: then it may stand there -/
theorem rch_free {L : List Fl} (h : GoodT L) (P : Q) (hP : P ≠ []) :
    ((rch (st L) [] P).2 = false ∧ ∃ c a o, st L (rch (st L) [] P).1 = some (.dir c a o)) ↔ ∀ g ∈ L, aprt P (pp g) := by
  have hs := rch_spec (L := L) P [] (by rw [st_root h]; rfl)
  constructor
  · rintro ⟨e, c, a, o, hd⟩ g hg
    have e0 : st L P = none := by
      have := rch_there h P
      rw [e] at this
      cases e1 : st L P with
      | none => rfl
      | some d => rw [e1] at this; cases this
    obtain ⟨h1, h2, h3⟩ := st_none e0
    refine ⟨fun e => h1 g hg e.symm, h3 g hg, ?_⟩
    cases hp : pre (pp g) P
    · rfl
    · exfalso
      obtain ⟨n, t, e1, e2⟩ := hs.2.2 e
      simp only [List.nil_append] at e1
      obtain ⟨f1, f2, f3⟩ := st_none e2
      obtain ⟨d1, d2, d3, d4, d5⟩ := st_dir_inv hd
      have hx : pre (rch (st L) [] P).1 P = true := pre_iff.2 ⟨n, t, e1⟩
      rcases pre_two hp (.inl hx) with e3 | e3 | e3
      · exact d5 g hg e3
      · -- a file above a directory
        rcases d4 with d4 | d4
        · rw [d4] at e3
          have := pre_len e3; simp at this
        · obtain ⟨f, hf, hpf⟩ := cnt_pos.1 d4
          have := pre_trans e3 hpf
          have hd2 := st_dir h (.inr ⟨f, hf, this⟩)
          rw [st_file h hg] at hd2; cases hd2
      · -- the next piece leads to it
        obtain ⟨m, r, e4⟩ := pre_iff.1 e3
        obtain ⟨m2, r2, e5⟩ := pre_iff.1 hp
        have hnm : n = m := by
          rw [e4] at e5
          have e6 := e1.symm.trans e5
          rw [List.append_assoc, List.append_cancel_left_eq, List.cons_append, List.cons.injEq] at e6
          exact e6.1
        subst hnm
        cases r with
        | nil => exact f1 g hg e4
        | cons x r =>
          have := f3 g hg
          rw [pre_false] at this
          exact this x r (by rw [e4]; simp)
  · intro ha
    have e0 : st L P = none := st_none_of (fun g hg e => (ha g hg).1 e.symm) hP (fun g hg => (ha g hg).2.1)
    have e : (rch (st L) [] P).2 = false := by rw [rch_there h, e0]; rfl
    refine ⟨e, ?_⟩
    obtain ⟨n, t, e1, e2⟩ := hs.2.2 e
    simp only [List.nil_append] at e1
    cases hd : st L (rch (st L) [] P).1 with
    | none => have := hs.1; rw [hd] at this; cases this
    | some d =>
      cases d with
      | dir c a o => exact ⟨c, a, o, rfl⟩
      | file s =>
        exfalso
        obtain ⟨g, hg, e3, _⟩ := st_file_inv hd
        have := (ha g hg).2.2
        rw [pre_false] at this
        exact this n t (by rw [e3]; exact e1)

end Go.Proofs.YtbaheiimcnfaaaaGreat
