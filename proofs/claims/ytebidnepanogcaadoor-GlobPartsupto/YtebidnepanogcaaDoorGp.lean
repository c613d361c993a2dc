/-
  Globs: literals, patterns, what fits, what a source names.
-/
import Derived.Test.YtebidnepanogcaaDoorFil
namespace Go.Proofs.YtebidnepanogcaaDoor

def wName : List UInt8 := [84, 65, 82, 71, 69, 84, 83]
/-- the first star made a letter -/
def rep1 : List UInt8 → List UInt8
  | [] => []
  | c :: r => if c = 42 then 97 :: r else c :: rep1 r
def gB (c : UInt8) : Bool := c == 42 || okB c
theorem sp_mem : ∀ (l : List UInt8) (c : UInt8), c ∈ l → c = 47 ∨ ∃ p ∈ sp l, c ∈ p
  | [], c, h => by cases h
  | d :: r, c, h => by
    have ih := sp_mem r c
    unfold sp
    by_cases hd : d = 47
    · rw [if_pos hd]
      rcases List.mem_cons.1 h with rfl | h
      · exact .inl hd
      · rcases ih h with h | ⟨p, hp, hc⟩
        · exact .inl h
        · exact .inr ⟨p, by simp [hp], hc⟩
    · rw [if_neg hd]
      cases hs : sp r with
      | nil => exact absurd hs (sp_ne r)
      | cons q qs =>
        rcases List.mem_cons.1 h with rfl | h
        · exact .inr ⟨c :: q, by simp, by simp⟩
        · rcases ih h with h | ⟨p, hp, hc⟩
          · exact .inl h
          · rw [hs] at hp
            rcases List.mem_cons.1 hp with rfl | hp
            · exact .inr ⟨d :: p, by simp, by simp [hc]⟩
            · exact .inr ⟨p, by simp [hp], hc⟩
theorem rep1_none : ∀ (l : List UInt8), (42 : UInt8) ∉ l → rep1 l = l
  | [], _ => rfl
  | c :: r, h => by
    have hc : c ≠ 42 := fun e => h (by simp [e])
    rw [rep1, if_neg hc, rep1_none r (fun e => h (by simp [e]))]
theorem rep1_some : ∀ (a b : List UInt8), (42 : UInt8) ∉ a → rep1 (a ++ 42 :: b) = a ++ 97 :: b
  | [], b, _ => by simp [rep1]
  | c :: r, b, h => by
    have hc : c ≠ 42 := fun e => h (by simp [e])
    rw [List.cons_append, rep1, if_neg hc, rep1_some r b (fun e => h (by simp [e]))]; rfl
theorem ib_app (c : UInt8) : ∀ (a b : List UInt8), c ∉ a → Lib.indexByte (a ++ c :: b) c = (a.length : Int)
  | [], b, _ => by simp [Lib.indexByte]
  | x :: r, b, h => by
    have hx : x ≠ c := fun e => h (by simp [e])
    have ih := ib_app c r b (fun e => h (by simp [e]))
    rw [List.cons_append, Lib.indexByte, ih]
    simp [hx]
theorem ib_none (c : UInt8) : ∀ (a : List UInt8), c ∉ a → Lib.indexByte a c = -1
  | [], _ => by simp [Lib.indexByte]
  | x :: r, h => by
    have hx : x ≠ c := fun e => h (by simp [e])
    have ih := ib_none c r (fun e => h (by simp [e]))
    rw [Lib.indexByte, ih]
    simp [hx]
theorem cut_split (c : UInt8) : ∀ (n : Nat) (l : List UInt8), l.length ≤ n → (c ∉ l) ∨ ∃ a b, l = a ++ c :: b ∧ c ∉ a
  | _, [], _ => .inl (by simp)
  | 0, x :: r, h => by simp at h
  | n + 1, x :: r, h => by
    by_cases hx : x = c
    · exact .inr ⟨[], r, by simp [hx], by simp⟩
    · rcases cut_split c n r (by simpa using h) with h1 | ⟨a, b, h1, h2⟩
      · exact .inl (by simp [h1, Ne.symm hx])
      · exact .inr ⟨x :: a, b, by simp [h1], by simp [h2, Ne.symm hx]⟩
theorem ib_contains (c : UInt8) (l : List UInt8) : decide (0 ≤ Lib.indexByte l c) = l.contains c := by
  rcases cut_split c l.length l (Nat.le_refl _) with h | ⟨a, b, rfl, h⟩
  · rw [ib_none c l h]; simp [h]
  · rw [ib_app c a b h]; simp
theorem okB_star : okB 42 = false := by decide
theorem okB_a : okB 97 = true := by decide
theorem rep1_split : ∀ (l : List UInt8), (42 : UInt8) ∈ l → ∃ x y, l = x ++ 42 :: y ∧ (42 : UInt8) ∉ x ∧ rep1 l = x ++ 97 :: y
  | [], h => by simp at h
  | c :: r, h => by
    by_cases hc : c = 42
    · subst hc
      exact ⟨[], r, rfl, by simp, by simp [rep1]⟩
    · have hr : (42 : UInt8) ∈ r := by
        rcases List.mem_cons.1 h with h | h
        · exact absurd h.symm hc
        · exact h
      obtain ⟨x, y, h1, h2, h3⟩ := rep1_split r hr
      refine ⟨c :: x, y, by rw [h1]; rfl, ?_, by rw [rep1, if_neg hc, h3]; rfl⟩
      simp only [List.mem_cons, not_or]
      exact ⟨fun e => hc e.symm, h2⟩
theorem rep1_app : ∀ (a b : List UInt8), rep1 (a ++ b) = if (42 : UInt8) ∈ a then rep1 a ++ b else a ++ rep1 b
  | [], b => by simp
  | c :: r, b => by
    by_cases hc : c = 42
    · subst hc; simp [rep1]
    · have ih := rep1_app r b
      have e : ((42 : UInt8) ∈ c :: r) ↔ (42 : UInt8) ∈ r := by simp [Ne.symm hc]
      rw [List.cons_append, rep1, if_neg hc, ih]
      by_cases h : (42 : UInt8) ∈ r
      · rw [if_pos h, if_pos (e.2 h), rep1, if_neg hc]; rfl
      · rw [if_neg h, if_neg (fun x => h (e.1 x))]; rfl
theorem okC_rep1 {b : List UInt8} (h : (42 : UInt8) ∈ b) : okC (rep1 b) = (b.all (fun c => c == 42 || okB c) && decide (b.count 42 = 1) && decide (b.length ≤ 32)) := by
  obtain ⟨x, y, rfl, hx, hr⟩ := rep1_split b h
  rw [hr]
  have hne : ∀ d : List UInt8, (97 : UInt8) ∉ d → (x ++ 97 :: y == d) = false := fun d hd => by
    rw [beq_eq_false_iff_ne]; intro e; apply hd; rw [← e]; simp
  unfold okC
  rw [hne [] (by simp), hne [46] (by decide), hne [46, 46] (by decide), hne [46, 46, 46] (by decide)]
  have cx : x.count 42 = 0 := List.count_eq_zero.2 hx
  have c1 : (x ++ 42 :: y).count 42 = y.count 42 + 1 := by simp [List.count_append, cx]
  rw [c1]
  have ax : x.all (fun c => c == 42 || okB c) = x.all okB := by
    rw [Bool.eq_iff_iff]; simp only [List.all_eq_true]
    constructor
    · intro h c hc
      have h1 := h c hc
      have : c ≠ 42 := fun e => hx (e ▸ hc)
      simpa [this] using h1
    · intro h c hc; simp [h c hc]
  simp only [List.all_append, List.all_cons, okB_a, Bool.true_and, ax, Bool.not_false, List.length_append, List.length_cons]
  by_cases hy : y.count 42 = 0
  · have ay : y.all (fun c => c == 42 || okB c) = y.all okB := by
      rw [Bool.eq_iff_iff]; simp only [List.all_eq_true]
      constructor
      · intro h c hc
        have h1 := h c hc
        have : c ≠ 42 := fun e => (List.count_eq_zero.1 hy) (e ▸ hc)
        simpa [this] using h1
      · intro h c hc; simp [h c hc]
    rw [ay, hy]
    simp [Bool.and_comm]
  · have h2 : y.all okB = false := by
      rw [Bool.eq_false_iff]
      intro h
      have hm : (42 : UInt8) ∈ y := by
        by_cases hm : (42 : UInt8) ∈ y
        · exact hm
        · exact absurd (List.count_eq_zero.2 hm) hy
      have := List.all_eq_true.1 h 42 hm
      rw [okB_star] at this; cases this
    have h3 : decide (y.count 42 + 1 = 1) = false := by simpa using hy
    rw [h2, h3]; simp
theorem okC_star {b : List UInt8} (h : (42 : UInt8) ∈ b) : okC b = false := by
  unfold okC
  have : b.all okB = false := by
    rw [Bool.eq_false_iff]; intro ha
    have := List.all_eq_true.1 ha 42 h
    rw [okB_star] at this; cases this
  rw [this]; simp
theorem rep1_length : ∀ (l : List UInt8), (rep1 l).length = l.length
  | [] => rfl
  | c :: r => by unfold rep1; split <;> simp [rep1_length r]
theorem rep1_count : ∀ (l : List UInt8), (rep1 l).count 47 = l.count 47
  | [] => rfl
  | c :: r => by
    unfold rep1
    split
    · rename_i h; subst h; simp
    · rw [List.count_cons, List.count_cons, rep1_count r]
theorem rep1_nil (l : List UInt8) : rep1 l = [] ↔ l = [] := by
  constructor
  · intro h
    have := congrArg List.length h
    rw [rep1_length] at this; exact List.eq_nil_of_length_eq_zero this
  · rintro rfl; rfl
theorem dep_rep1 (l : List UInt8) : dep (rep1 l) = dep l := by
  unfold dep
  by_cases h : l = []
  · subst h; rfl
  · rw [if_neg h, if_neg (fun e => h ((rep1_nil l).1 e)), rep1_count]
theorem sp_none {b : List UInt8} (h : b.count 47 = 0) : sp b = [b] := sp_one b (List.count_eq_zero.1 h)
theorem base_none {b : List UInt8} (h : b.count 47 = 0) : base b = b := by
  unfold base; rw [lst_none b h]; rfl

/-! ### literals, globs, patterns -/
def litP (s : List UInt8) : Bool := !decide (s = []) && okP s && !decide (base s = wName)
def starP (s : List UInt8) : Bool := (base s).contains 42 && okP (rep1 s)
def valP (s : List UInt8) : Bool := litP s || starP s
def patP (s : List UInt8) : Bool := s.contains 42 && okC (rep1 s)
/-- the document's pattern -/
def rPat (s : List UInt8) : Bool := decide (s.count 42 = 1) && decide (s.length ≤ 32) && s.all gB
/-- the document's glob -/
def rStar (s : List UInt8) : Bool := decide (s.length ≤ 120) && decide ((pcs s).length ≤ 12) && rPat (base s) && (decide ((pcs s).length = 1) || (!decide (dir s = []) && okP (dir s)))

theorem pat_eq (s : List UInt8) : patP s = rPat s := by
  unfold patP rPat
  by_cases h : (42 : UInt8) ∈ s
  · rw [okC_rep1 h, show s.contains 42 = true by simpa using h]
    show (true && (s.all gB && decide (s.count 42 = 1) && decide (s.length ≤ 32))) = _
    cases s.all gB <;> simp
  · rw [show s.contains 42 = false by simpa using h, List.count_eq_zero.2 h]; simp
theorem okP_no {s : List UInt8} {c : UInt8} (h : okP s = true) (hc : c ∈ s) (h47 : c ≠ 47) : okB c = true := by
  have hn : s ≠ [] := by rintro rfl; simp at hc
  have ha := okP_all h
  unfold pcs at ha
  rw [if_neg hn] at ha
  rcases sp_mem s c hc with h1 | ⟨q, hq, h2⟩
  · exact absurd h1 h47
  · have := List.all_eq_true.1 ha q hq
    unfold okC at this
    simp only [Bool.and_eq_true] at this
    exact List.all_eq_true.1 this.2 c h2
theorem okP_no42 {s : List UInt8} (h : okP s = true) : (42 : UInt8) ∉ s := fun hc => by
  have := okP_no h hc (by decide)
  rw [okB_star] at this; cases this
theorem base_mem {s : List UInt8} {c : UInt8} (h : c ∈ base s) : c ∈ s := by unfold base at h; exact List.mem_of_mem_drop h
/-- a path that is cut at a slash -/
theorem okP_cut {a b : List UInt8} (h : okP (a ++ 47 :: b) = true) : okP a = true ∧ okP b = true ∧ a ≠ [] ∧ b ≠ [] := by
  have ha := okP_all h
  have hl := okP_len h
  have e : pcs (a ++ 47 :: b) = sp a ++ sp b := by unfold pcs; rw [if_neg (by simp), sp_append]
  rw [e, List.all_append, Bool.and_eq_true] at ha
  have na : a ≠ [] := by rintro rfl; exact absurd ha.1 (by decide)
  have nb : b ≠ [] := by rintro rfl; exact absurd ha.2 (by decide)
  have l1 := hl.1
  have l2 := hl.2
  simp only [List.length_append, List.length_cons] at l1
  unfold dep at l2
  rw [if_neg (by simp)] at l2
  simp only [List.count_append, List.count_cons] at l2
  refine ⟨?_, ?_, na, nb⟩
  · unfold okP pcs dep
    rw [if_neg na, if_neg na, ha.1, decide_eq_true (by omega), decide_eq_true (by simp at l2; omega)]; rfl
  · unfold okP pcs dep
    rw [if_neg nb, if_neg nb, ha.2, decide_eq_true (by omega), decide_eq_true (by simp at l2; omega)]; rfl
theorem okP_glue {a b : List UInt8} (ha : okP a = true) (hb : okP b = true) (na : a ≠ []) (nb : b ≠ []) (h1 : a.length + b.length + 1 ≤ 120) (h2 : a.count 47 + b.count 47 + 2 ≤ 12) : okP (a ++ 47 :: b) = true := by
  have e : pcs (a ++ 47 :: b) = pcs a ++ pcs b := pcs_append a b na nb
  unfold okP
  rw [e, List.all_append, okP_all ha, okP_all hb]
  unfold dep
  rw [if_neg (by simp), decide_eq_true (by simp; omega), decide_eq_true (by simp; omega)]; rfl
theorem base_cut (d b : List UInt8) (h : b.count 47 = 0) : base (d ++ 47 :: b) = b := by rw [base_app, base_none h]
theorem dir_cut (d b : List UInt8) (h : b.count 47 = 0) : dir (d ++ 47 :: b) = d := by
  unfold dir
  have e := lst_app d b
  rw [lst_none b h] at e
  rw [if_neg (by omega), e]
  have : (↑d.length + 1 + -1 : Int).toNat = d.length := by omega
  rw [this]; simp
/-- a text is one piece, or two cut at its last slash -/
theorem two (s : List UInt8) : (s.count 47 = 0 ∧ base s = s ∧ dir s = []) ∨ ∃ d b, s = d ++ 47 :: b ∧ b.count 47 = 0 ∧ base s = b ∧ dir s = d := by
  by_cases h : s.count 47 = 0
  · exact .inl ⟨h, base_none h, by unfold dir; rw [lst_none s h]; rfl⟩
  · right
    have h0 : 0 ≤ lst s := lst_some s (by omega)
    have hcut := lst_cut s h0
    obtain ⟨d, hd⟩ : ∃ d, s.take (lst s).toNat = d := ⟨_, rfl⟩
    obtain ⟨b, hb⟩ : ∃ b, s.drop (lst s + 1).toNat = b := ⟨_, rfl⟩
    rw [hd, hb] at hcut
    have hb0 : b.count 47 = 0 := by
      by_cases e : b.count 47 = 0
      · exact e
      · have h1 := lst_some b (by omega)
        have h2 := lst_app d b
        rw [← hcut] at h2
        have h3 : d.length = (lst s).toNat := by
          rw [← hd, List.length_take]
          have := lst_lt s; omega
        omega
    exact ⟨d, b, hcut, hb0, by rw [hcut]; exact base_cut d b hb0, by rw [hcut]; exact dir_cut d b hb0⟩
theorem okP_one {s : List UInt8} (h : s.count 47 = 0) (hs : s ≠ []) : okP s = okC s := by
  unfold okP pcs dep
  rw [if_neg hs, if_neg hs, sp_none h, h]
  cases ho : okC s
  · simp [ho]
  · have : s.length ≤ 32 := by
      unfold okC at ho
      simp only [Bool.and_eq_true, decide_eq_true_eq] at ho
      exact ho.1.2
    rw [decide_eq_true (by omega)]; simp [ho]
theorem star_eq (s : List UInt8) : starP s = rStar s := by
  unfold starP rStar
  rw [← pat_eq]
  by_cases h42 : (42 : UInt8) ∈ base s
  rotate_left
  · have e1 : (base s).contains 42 = false := by simpa using h42
    unfold patP; rw [e1]; simp
  have e1 : (base s).contains 42 = true := by simpa using h42
  have hs : s ≠ [] := by rintro rfl; simp [base] at h42
  have hl : (pcs s).length = s.count 47 + 1 := by rw [dep_eq]; unfold dep; rw [if_neg hs]
  rw [e1, Bool.true_and, hl]
  rcases two s with ⟨hc, hb, hd⟩ | ⟨d, b, rfl, hb0, hb, hd⟩
  · rw [hc, hb]
    rw [hb] at h42
    have e2 : s.contains 42 = true := by simpa using h42
    have h1 : rep1 s ≠ [] := fun e => hs ((rep1_nil s).1 e)
    rw [okP_one (by rw [rep1_count]; exact hc) h1]
    unfold patP
    rw [e2]
    cases ho : okC (rep1 s)
    · simp
    · have : s.length ≤ 32 := by
        unfold okC at ho
        simp only [Bool.and_eq_true, decide_eq_true_eq, rep1_length] at ho
        exact ho.1.2
      rw [decide_eq_true (by omega : s.length ≤ 120)]; simp
  · rw [hb, hd]
    rw [hb] at h42
    have e2 : b.contains 42 = true := by simpa using h42
    have hcnt : (d ++ 47 :: b).count 47 = d.count 47 + 1 := by simp [hb0]
    rw [hcnt, decide_eq_false (by omega : ¬ d.count 47 + 1 + 1 = 1), Bool.false_or]
    have nb : b ≠ [] := by rintro rfl; simp at h42
    have nrb : rep1 b ≠ [] := fun e => nb ((rep1_nil b).1 e)
    have crb : (rep1 b).count 47 = 0 := by rw [rep1_count]; exact hb0
    rw [rep1_app]
    by_cases hd42 : (42 : UInt8) ∈ d
    · rw [if_pos hd42]
      have f1 : okP d = false := by
        cases ho : okP d
        · rfl
        · exact absurd hd42 (okP_no42 ho)
      have f2 : okP (rep1 d ++ 47 :: b) = false := by
        cases ho : okP (rep1 d ++ 47 :: b)
        · rfl
        · exact absurd h42 (okP_no42 (okP_cut ho).2.1)
      rw [f1, f2]; simp
    · rw [if_neg hd42]
      have e3 : rep1 (47 :: b) = 47 :: rep1 b := by rw [rep1, if_neg (by decide)]
      rw [e3]
      unfold patP
      rw [e2, Bool.true_and]
      rw [Bool.eq_iff_iff]
      constructor
      · intro h
        obtain ⟨o1, o2, n1, _⟩ := okP_cut h
        have hle := okP_len h
        have l1 := hle.1
        have l2 := hle.2
        simp only [List.length_append, List.length_cons, rep1_length] at l1
        unfold dep at l2
        rw [if_neg (by simp)] at l2
        simp only [List.count_append, List.count_cons, crb] at l2
        rw [okP_one crb nrb] at o2
        rw [o1, o2, decide_eq_false n1, decide_eq_true (by simp; omega), decide_eq_true (by simp at l2; omega)]; rfl
      · intro h
        simp only [Bool.and_eq_true, decide_eq_true_eq, Bool.not_eq_true', decide_eq_false_iff_not] at h
        obtain ⟨⟨⟨l1, l2⟩, o2⟩, n1, o1⟩ := h
        simp only [List.length_append, List.length_cons] at l1
        exact okP_glue o1 (by rw [okP_one crb nrb]; exact o2) n1 nrb (by rw [rep1_length]; omega) (by omega)
theorem star_pat {s : List UInt8} (h : starP s = true) : patP (base s) = true := by
  rw [star_eq] at h
  unfold rStar at h
  simp only [Bool.and_eq_true] at h
  rw [pat_eq]; exact h.1.2
theorem lit_no42 {s : List UInt8} (h : litP s = true) : (42 : UInt8) ∉ s := by
  unfold litP at h
  simp only [Bool.and_eq_true] at h
  exact okP_no42 h.1.2
theorem star_42 {s : List UInt8} (h : starP s = true) : (42 : UInt8) ∈ base s := by
  unfold starP at h
  simp only [Bool.and_eq_true] at h
  simpa using h.1
/-- a package's directory and a source together -/
def whl (p s : List UInt8) : List UInt8 := if p = [] then s else p ++ 47 :: s
theorem lit_whl {p s : List UInt8} (h : litP (whl p s) = true) : litP s = true ∧ okP p = true := by
  unfold whl at h
  by_cases hp : p = []
  · rw [if_pos hp] at h; subst hp; exact ⟨h, by decide⟩
  · rw [if_neg hp] at h
    unfold litP at h
    simp only [Bool.and_eq_true] at h
    obtain ⟨o1, o2, _, n2⟩ := okP_cut h.1.2
    refine ⟨?_, o1⟩
    unfold litP
    have := h.2
    rw [base_app] at this
    rw [decide_eq_false n2, o2, this]; rfl
theorem star_whl {p s : List UInt8} (h : starP (whl p s) = true) : starP s = true ∧ okP p = true := by
  unfold whl at h
  by_cases hp : p = []
  · rw [if_pos hp] at h; subst hp; exact ⟨h, by decide⟩
  · rw [if_neg hp] at h
    have hm := star_42 h
    unfold starP at h
    simp only [Bool.and_eq_true] at h
    rw [base_app] at h hm
    have h2 := h.2
    rw [rep1_app] at h2
    by_cases hd42 : (42 : UInt8) ∈ p
    · rw [if_pos hd42] at h2
      exact absurd (base_mem hm) (okP_no42 (okP_cut h2).2.1)
    · rw [if_neg hd42, rep1, if_neg (by decide)] at h2
      obtain ⟨o1, o2, _, _⟩ := okP_cut h2
      exact ⟨by unfold starP; rw [h.1, o2]; rfl, o1⟩
theorem val_whl {p s : List UInt8} (h : valP (whl p s) = true) : valP s = true ∧ okP p = true := by
  unfold valP at h ⊢
  rcases Bool.or_eq_true_iff.1 h with h | h
  · have := lit_whl h; rw [this.1]; exact ⟨rfl, this.2⟩
  · have := star_whl h; rw [this.1]; exact ⟨by simp, this.2⟩
theorem star_lit {p s : List UInt8} (h : starP s = true) : litP (whl p s) = false := by
  cases hl : litP (whl p s)
  · rfl
  · exact absurd (base_mem (star_42 h)) (lit_no42 (lit_whl hl).1)

/-! ### what fits -/
def fts (x y n : List UInt8) : Bool := decide (x.length + y.length ≤ n.length) && decide (n.take x.length = x) && decide (n.drop (n.length - y.length) = y)
def hd42 (p : List UInt8) : List UInt8 := p.take (Lib.indexByte p 42).toNat
def tl42 (p : List UInt8) : List UInt8 := p.drop ((Lib.indexByte p 42).toNat + 1)
def mat (p n : List UInt8) : Bool := patP p && fts (hd42 p) (tl42 p) n
theorem at42 {p : List UInt8} (h : (42 : UInt8) ∈ p) : p = hd42 p ++ 42 :: tl42 p ∧ (42 : UInt8) ∉ hd42 p ∧ Lib.indexByte p 42 = ((hd42 p).length : Int) := by
  rcases cut_split 42 p.length p (Nat.le_refl _) with h1 | ⟨a, b, rfl, h1⟩
  · exact absurd h h1
  · unfold hd42 tl42
    rw [ib_app 42 a b h1]
    simp [h1]
theorem pat_42 {p : List UInt8} (h : patP p = true) : (42 : UInt8) ∈ p := by
  unfold patP at h
  simp only [Bool.and_eq_true] at h
  simpa using h.1
theorem pat_len {p : List UInt8} (h : patP p = true) : p.length ≤ 32 := by
  rw [pat_eq] at h
  unfold rPat at h
  simp only [Bool.and_eq_true, decide_eq_true_eq] at h
  exact h.1.2
/-- some bytes stand for the star -/
theorem fts_iff (x y n : List UInt8) : fts x y n = true ↔ ∃ k, x.length + k ≤ n.length ∧ x ++ (n.drop x.length).take k ++ y = n := by
  unfold fts
  simp only [Bool.and_eq_true, decide_eq_true_eq]
  constructor
  · rintro ⟨⟨h1, h2⟩, h3⟩
    obtain ⟨m, hm⟩ : ∃ m, n.length - x.length - y.length = m := ⟨_, rfl⟩
    have hy : y = (n.drop x.length).drop m := by rw [List.drop_drop, show x.length + m = n.length - y.length by omega, h3]
    refine ⟨m, by omega, ?_⟩
    have e1 : (n.drop x.length).take m ++ y = n.drop x.length := by
      conv => lhs; rhs; rw [hy]
      exact List.take_append_drop _ _
    rw [List.append_assoc, e1]
    have e2 : n.take x.length ++ n.drop x.length = n := List.take_append_drop _ _
    rw [h2] at e2; exact e2
  · rintro ⟨k, h1, h2⟩
    obtain ⟨M, hM⟩ : ∃ M, (n.drop x.length).take k = M := ⟨_, rfl⟩
    rw [hM] at h2
    clear hM h1
    subst h2
    refine ⟨⟨by simp, ?_⟩, ?_⟩
    · rw [List.append_assoc]; simp
    · have : (x ++ M ++ y).length - y.length = (x ++ M).length := by simp; omega
      rw [this]; simp
theorem mat_iff {p n : List UInt8} (h : patP p = true) : mat p n = true ↔ ∃ k, (hd42 p).length + k ≤ n.length ∧ hd42 p ++ (n.drop (hd42 p).length).take k ++ tl42 p = n := by
  unfold mat; rw [h, Bool.true_and]; exact fts_iff _ _ _

/-! ### what a source names -/
def sel (J : List UInt8) (f : Fl) : Bool := decide (dir f.path = dir J) && !decide (base f.path = wName) && fts (hd42 (base J)) (tl42 (base J)) (base f.path)
def fnd (l : List Fl) (J : List UInt8) : Option Fl := l.find? (fun f => decide (f.path = J))
def exl (l : List Fl) (J : List UInt8) : List Fl × Bool :=
  if litP J = true then (match fnd l J with | some f => ([f], true) | none => ([], false))
  else if starP J = true then (l.filter (sel J), true) else ([], false)
theorem exl_len (l : List Fl) (J : List UInt8) : (exl l J).1.length ≤ l.length := by
  unfold exl
  split
  · cases h : fnd l J with
    | none => simp
    | some f =>
      have : f ∈ l := List.mem_of_find?_eq_some h
      show 1 ≤ l.length
      cases l with
      | nil => simp at this
      | cons _ _ => simp
  · split
    · exact List.length_filter_le _ _
    · simp
theorem exl_mem (l : List Fl) (J : List UInt8) : ∀ f ∈ (exl l J).1, f ∈ l := by
  intro f hf
  unfold exl at hf
  split at hf
  · cases h : fnd l J with
    | none => rw [h] at hf; simp at hf
    | some g =>
      rw [h] at hf
      have : f = g := by simpa using hf
      subst this
      exact List.mem_of_find?_eq_some h
  · split at hf
    · exact (List.mem_filter.1 hf).1
    · simp at hf
end Go.Proofs.YtebidnepanogcaaDoor
