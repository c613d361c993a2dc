/-
  What the package asks in place of the document's words, as plain lists.
-/
import Derived.Test.YtkopjamednedfaaGreatKn2
namespace Go.Proofs.YtkopjamednedfaaGreat

/-- do pieces agree as deep as both of them go? -/
def inL : List (List UInt8) → List (List UInt8) → Bool
  | a :: r, b :: s => decide (a = b) && inL r s
  | _, _ => true
theorem inL_iff : ∀ a b : List (List UInt8), inL a b = true ↔ (∃ r, b = a ++ r) ∨ (∃ r, a = b ++ r)
  | [], b => by simp [inL]
  | a :: r, [] => by simp [inL]
  | a :: r, b :: s => by
    simp only [inL, Bool.and_eq_true, decide_eq_true_eq, inL_iff r s]
    constructor
    · rintro ⟨rfl, ⟨x, rfl⟩ | ⟨x, rfl⟩⟩
      · exact .inl ⟨x, rfl⟩
      · exact .inr ⟨x, rfl⟩
    · rintro (⟨x, e⟩ | ⟨x, e⟩)
      · simp only [List.cons_append, List.cons.injEq] at e
        exact ⟨e.1.symm, .inl ⟨x, e.2⟩⟩
      · simp only [List.cons_append, List.cons.injEq] at e
        exact ⟨e.1, .inr ⟨x, e.2⟩⟩
theorem inL_pcs (c d : List UInt8) : inL (pcs c) (pcs d) = (decide (d = c) || abvV c d || abvV d c) := by
  rw [Bool.eq_iff_iff, inL_iff]
  simp only [Bool.or_eq_true, decide_eq_true_eq]
  constructor
  · rintro (⟨r, e⟩ | ⟨r, e⟩)
    · by_cases hr : r = []
      · subst hr; rw [List.append_nil] at e; exact .inl (.inl (pcs_inj e))
      · exact .inl (.inr ((abvV_iff _ _).2 ⟨r, hr, e⟩))
    · by_cases hr : r = []
      · subst hr; rw [List.append_nil] at e; exact .inl (.inl (pcs_inj e).symm)
      · exact .inr ((abvV_iff _ _).2 ⟨r, hr, e⟩)
  · rintro ((rfl | h) | h)
    · exact .inl ⟨[], by simp⟩
    · obtain ⟨r, _, e⟩ := (abvV_iff _ _).1 h
      exact .inl ⟨r, e⟩
    · obtain ⟨r, _, e⟩ := (abvV_iff _ _).1 h
      exact .inr ⟨r, e⟩
theorem shD_any (k : List (List UInt8)) (d : List UInt8) (h : d ≠ []) : shD k d = k.any (fun c => inL (pcs c) (pcs d)) := by
  unfold shD
  simp only [inL_pcs]
  simp [h]
theorem inL_step (a b : List (List UInt8)) (i : Nat) (ha : i < a.length) (hb : i < b.length) : inL (a.drop i) (b.drop i) = (decide (a[i]'ha = b[i]'hb) && inL (a.drop (i + 1)) (b.drop (i + 1))) := by
  rw [List.drop_eq_getElem_cons ha, List.drop_eq_getElem_cons hb, inL]
theorem inL_end (a b : List (List UInt8)) (i : Nat) (h : ¬ i < min a.length b.length) : inL (a.drop i) (b.drop i) = true := by
  by_cases ha : a.length ≤ i
  · rw [List.drop_eq_nil_of_le ha]; simp [inL]
  · have hb : b.length ≤ i := by omega
    rw [List.drop_eq_nil_of_le hb]
    cases a.drop i <;> simp [inL]
/-- cones are what Heads leaves as it is -/
theorem hds_same (k : List (List UInt8)) : decide (hds (norm k) = k) = chnP k := by
  rw [Bool.eq_iff_iff, decide_eq_true_eq, chnP_pw]
  constructor
  · intro e
    have hu : Up (hds (norm k)) := hds_up (up_norm k)
    have key : ∀ b ∈ hds (norm k), ∀ a ∈ hds (norm k), abvV a b = false := fun b hb a ha => (mem_hds.1 hb).2 a (mem_hds.1 ha).1
    rw [e] at hu key
    exact (List.Pairwise.and_mem.1 hu).imp (fun ⟨ha, hb, hab⟩ => fol_iff.2 ⟨hab, key _ hb _ ha⟩)
  · intro h
    have hu : Up k := h.imp (fun hab => fol_lt hab)
    rw [norm_up hu]
    refine up_unique (hds_up hu) hu (fun x => ?_)
    rw [mem_hds]
    exact ⟨fun e => e.1, fun e => ⟨e, fun y hy => pw_anti h y hy x e⟩⟩
theorem coneE_eq (k : List (List UInt8)) : coneE k = if (k.any (fun p => !okP p) || !decide (hds (norm k) = k)) = true then 13 else 0 := by
  rw [hds_same]
  unfold coneE coneB
  have : k.any (fun p => !okP p) = !k.all okP := by
    induction k with
    | nil => rfl
    | cons a r ih => simp [ih, Bool.not_and]
  rw [this]
  cases k.all okP <;> cases chnP k <;> rfl
/-- the two between which a directory would stand have the say -/
theorem near_say {k : List (List UInt8)} {d : List UInt8} (hk : k.Pairwise (fun a b => fol a b = true)) (a : Nat) (ha : a ≤ k.length) (h1 : ∀ t (h : t < k.length), t < a → cf (k[t]'h) d < 0) (h2 : ∀ t (h : t < k.length), a ≤ t → ¬ cf (k[t]'h) d < 0) :
    shD ((k.drop (a - 1)).take (min (a + 1) k.length - (a - 1))) d = shD k d := by
  rw [Bool.eq_iff_iff, shD_iff, shD_iff]
  have hin : ∀ t (h : t < k.length), a - 1 ≤ t → t < min (a + 1) k.length → k[t]'h ∈ (k.drop (a - 1)).take (min (a + 1) k.length - (a - 1)) := fun t h h3 h4 => by
    rw [List.mem_iff_getElem]
    exact ⟨t - (a - 1), by rw [List.length_take, List.length_drop]; omega, by rw [List.getElem_take, List.getElem_drop]; congr 1; omega⟩
  have pf : ∀ s t (hs : s < k.length) (ht : t < k.length), s < t → fol (k[s]'hs) (k[t]'ht) = true := fun s t hs ht hst => List.pairwise_iff_getElem.1 hk s t hs ht hst
  constructor
  · rintro (h | ⟨c, hc, e⟩)
    · exact .inl h
    · exact .inr ⟨c, List.mem_of_mem_drop (List.mem_of_mem_take hc), e⟩
  · rintro (h | ⟨c, hc, e⟩)
    · exact .inl h
    · obtain ⟨t, ht, rfl⟩ := List.mem_iff_getElem.1 hc
      rcases e with rfl | e | e
      · have hta : ¬ t < a := fun h => by have := h1 t ht h; rw [cf_self] at this; omega
        by_cases hea : t = a
        · exact .inr ⟨k[t], hin t ht (by omega) (by omega), .inl rfl⟩
        · have h3 := fol_lt (pf a t (by omega) ht (by omega))
          exact absurd h3 (h2 a (by omega) (Nat.le_refl _))
      · have hta : t < a := by
          rcases Nat.lt_or_ge t a with h | h
          · exact h
          · exact absurd (abv_cf e) (h2 t ht h)
        by_cases hea : t = a - 1
        · exact .inr ⟨k[t], hin t ht (by omega) (by omega), .inr (.inl e)⟩
        · have h3 := pf t (a - 1) ht (by omega) (by omega)
          have h4 := abv_between e (fol_lt h3) (h1 (a - 1) (by omega) (by omega))
          rw [(fol_iff.1 h3).2] at h4
          cases h4
      · have hta : a ≤ t := by
          rcases Nat.lt_or_ge t a with h | h
          · have h5 := cf_trans (h1 t ht h) (abv_cf e)
            rw [cf_self] at h5
            omega
          · exact h
        by_cases hea : t = a
        · exact .inr ⟨k[t], hin t ht (by omega) (by omega), .inr (.inr e)⟩
        · have hal : a < k.length := by omega
          refine .inr ⟨k[a], hin a hal (by omega) (by omega), ?_⟩
          rcases cf_tri d (k[a]'hal) with h3 | h3 | h3
          · exact .inr (.inr (abv_between e h3 (fol_lt (pf a t hal ht (by omega)))))
          · exact .inl h3
          · exact absurd h3 (h2 a hal (Nat.le_refl _))
/-- files of one directory that follow one another: from, to -/
structure Run (l : List Fl) where
  lo : Nat
  hi : Nat
  lt : lo < hi
  le : hi ≤ l.length
  one : ∀ i (h : i < l.length), lo ≤ i → i < hi → dir (l[i]'h).path = dir (l[lo]'(by omega)).path
def Run.d {l : List Fl} (r : Run l) : List UInt8 := dir (l[r.lo]'(by have := r.lt; have := r.le; omega)).path
def Run.fs {l : List Fl} (r : Run l) : List Fl := (l.drop r.lo).take (r.hi - r.lo)
theorem Run.fs_len {l : List Fl} (r : Run l) : r.fs.length = r.hi - r.lo := by
  unfold Run.fs
  rw [List.length_take, List.length_drop]
  have := r.le
  omega
/-- what is taken of the runs that have come -/
def tkn {l : List Fl} (k : List (List UInt8)) (rs : List (Run l)) : List Fl := rs.flatMap (fun r => if shD k r.d then r.fs else [])
theorem tkn_snoc {l : List Fl} (k : List (List UInt8)) (rs : List (Run l)) (r : Run l) : tkn k (rs ++ [r]) = tkn k rs ++ (if shD k r.d then r.fs else []) := by
  unfold tkn
  simp
theorem tkn_len {l : List Fl} (k : List (List UInt8)) : ∀ rs : List (Run l), (tkn k rs).length ≤ rs.length * l.length
  | [] => by simp [tkn]
  | r :: rs => by
    have ih := tkn_len k rs
    have e : tkn k (r :: rs) = (if shD k r.d then r.fs else []) ++ tkn k rs := rfl
    rw [e, List.length_append, List.length_cons, Nat.add_mul, Nat.one_mul]
    have : (if shD k r.d then r.fs else ([] : List Fl)).length ≤ l.length := by
      split
      · rw [r.fs_len]; have := r.le; omega
      · simp
    omega
/-- the runs lie one behind the other, up to e -/
def Til {l : List Fl} : List (Run l) → Nat → Nat → Prop
  | [], a, b => a = b
  | r :: rs, a, b => r.lo = a ∧ Til rs r.hi b
theorem Til.snoc {l : List Fl} : ∀ {rs : List (Run l)} {a b : Nat}, Til rs a b → ∀ (r : Run l), r.lo = b → Til (rs ++ [r]) a r.hi
  | [], _, _, h, _, e => ⟨e.trans h.symm, rfl⟩
  | _ :: _, _, _, h, r, e => ⟨h.1, Til.snoc h.2 r e⟩
theorem Til.le {l : List Fl} : ∀ {rs : List (Run l)} {a b : Nat}, Til rs a b → a + rs.length ≤ b
  | [], a, b, h => by
    have : a = b := h
    simp [this]
  | r :: rs, a, b, h => by
    have h1 := Til.le h.2
    have h2 := r.lt
    have h3 := h.1
    rw [List.length_cons]
    omega
theorem filt_run {l : List Fl} (k : List (List UInt8)) (r : Run l) : r.fs.filter (fun f => shw k f.path) = if shD k r.d then r.fs else [] := by
  have hall : ∀ f ∈ r.fs, shw k f.path = shD k r.d := fun f hf => by
    unfold Run.fs at hf
    obtain ⟨i, hi, rfl⟩ := List.mem_iff_getElem.1 hf
    rw [List.length_take, List.length_drop] at hi
    rw [List.getElem_take, List.getElem_drop]
    have hle := r.le
    unfold shw Run.d
    rw [r.one (r.lo + i) (by omega) (by omega) (by omega)]
  by_cases h : shD k r.d = true
  · rw [if_pos h, List.filter_eq_self.2 (fun f hf => by rw [hall f hf, h])]
  · rw [if_neg h, List.filter_eq_nil_iff.2 (fun f hf => by rw [hall f hf]; exact h)]
theorem tkn_til {l : List Fl} (k : List (List UInt8)) : ∀ {rs : List (Run l)} {a b : Nat}, Til rs a b → b ≤ l.length → tkn k rs = ((l.drop a).take (b - a)).filter (fun f => shw k f.path)
  | [], a, b, h, _ => by
    have : a = b := h
    subst this
    simp [tkn]
  | r :: rs, a, b, h, hb => by
    have h1 := Til.le h.2
    have h2 := r.lt
    have h3 := h.1
    have e : tkn k (r :: rs) = (if shD k r.d then r.fs else []) ++ tkn k rs := rfl
    rw [e, tkn_til k h.2 hb, ← filt_run, ← List.filter_append]
    congr 1
    unfold Run.fs
    rw [h3] at h2 ⊢
    have e2 : l.drop r.hi = (l.drop a).drop (r.hi - a) := by rw [List.drop_drop]; congr 1; omega
    rw [e2]
    have e3 : b - a = (r.hi - a) + (b - r.hi) := by omega
    rw [e3, List.take_add]
theorem tkn_all {l : List Fl} (k : List (List UInt8)) {rs : List (Run l)} (h : Til rs 0 l.length) : tkn k rs = l.filter (fun f => shw k f.path) := by
  rw [tkn_til k h (Nat.le_refl _)]
  simp
end Go.Proofs.YtkopjamednedfaaGreat
