/-
  Plain lists: what lies between tokens, tokens, and what follows of them.
-/
namespace Go.Proofs.Ytclpbhoopmdojaa

/-- a byte of words -/
def inW (c : UInt8) : Bool := (decide (97 ≤ c) && decide (c ≤ 122)) || (decide (65 ≤ c) && decide (c ≤ 90)) || (decide (48 ≤ c) && decide (c ≤ 57)) || [46, 95, 47, 42, 58, 45].contains c
/-- a blank -/
def isB (c : UInt8) : Bool := c == 9 || c == 10 || c == 13 || c == 32
/-- the kind of one of the six others; 0: it is none -/
def mkd (c : UInt8) : Nat :=
  if c = 123 then 2 else if c = 125 then 3 else if c = 91 then 4 else if c = 93 then 5 else if c = 44 then 6 else if c = 61 then 7 else 0
/-- the kind of the token that a byte begins -/
def kd (c : UInt8) : Nat := if inW c then 1 else mkd c

/-- how much is passed over (cm: within a comment) -/
def gp : Bool → List UInt8 → Nat
  | _, [] => 0
  | true, c :: r => 1 + gp (c != 10) r
  | false, c :: r => if c == 35 then 1 + gp true r else if isB c then 1 + gp false r else 0
/-- a stretch of blanks and comments alone? does it end within a comment? -/
def blk : Bool → List UInt8 → Bool × Bool
  | cm, [] => (true, cm)
  | true, c :: r => blk (c != 10) r
  | false, c :: r => if c == 35 then blk true r else if isB c then blk false r else (false, false)
/-- how many bytes of words -/
def wl : List UInt8 → Nat
  | [] => 0
  | c :: r => if inW c then 1 + wl r else 0
/-- how many more bytes the token has that this byte begins -/
def tl (c : UInt8) (r : List UInt8) : Nat := if inW c then wl r else 0

theorem gp_le : ∀ (b : Bool) (r : List UInt8), gp b r ≤ r.length
  | true, [] => by simp [gp]
  | false, [] => by simp [gp]
  | true, c :: r => by have := gp_le (c != 10) r; simp only [gp, List.length_cons]; omega
  | false, c :: r => by
    have h1 := gp_le true r
    have h2 := gp_le false r
    simp only [gp, List.length_cons]
    split
    · omega
    · split <;> omega
theorem wl_le : ∀ r : List UInt8, wl r ≤ r.length
  | [] => by simp [wl]
  | c :: r => by
    have h1 := wl_le r
    simp only [wl, List.length_cons]
    split <;> omega
theorem tl_le (c : UInt8) (r : List UInt8) : tl c r ≤ r.length := by
  have := wl_le r
  unfold tl
  split <;> omega

/-- a token -/
structure Tk where
  kind : Int
  text : List UInt8
  at' : Int
    deriving DecidableEq

/-- the tokens from a place that is not passed over -/
def tq (r : List UInt8) (n : Nat) : List Tk × Int :=
  match r with
  | [] => ([], -1)
  | c :: q => if kd c = 0 then ([], (n : Int)) else
    (⟨(kd c : Int), c :: q.take (tl c q), (n : Int)⟩ :: (tq ((q.drop (tl c q)).drop (gp false (q.drop (tl c q)))) (n + 1 + tl c q + gp false (q.drop (tl c q)))).1,
      (tq ((q.drop (tl c q)).drop (gp false (q.drop (tl c q)))) (n + 1 + tl c q + gp false (q.drop (tl c q)))).2)
  termination_by r.length
  decreasing_by all_goals (simp only [List.length_drop, List.length_cons]; omega)
/-- the tokens of what begins at a place -/
def tg (r : List UInt8) (n : Nat) : List Tk × Int := tq (r.drop (gp false r)) (n + gp false r)
def toks (s : List UInt8) : List Tk × Int := tg s 0

theorem tq_nil (n : Nat) : tq [] n = ([], -1) := by rw [tq]
theorem tq_bad {c : UInt8} {q : List UInt8} {n : Nat} (h : kd c = 0) : tq (c :: q) n = ([], (n : Int)) := by rw [tq, if_pos h]
theorem tq_tok {c : UInt8} {q : List UInt8} {n : Nat} (h : kd c ≠ 0) : tq (c :: q) n = (⟨(kd c : Int), c :: q.take (tl c q), (n : Int)⟩ :: (tg (q.drop (tl c q)) (n + 1 + tl c q)).1, (tg (q.drop (tl c q)) (n + 1 + tl c q)).2) := by
  rw [tq, if_neg h]; rfl

/-- what a place holds that is not passed over -/
theorem gp_head : ∀ (b : Bool) (r : List UInt8) {c : UInt8} {q : List UInt8}, r.drop (gp b r) = c :: q → c ≠ 35 ∧ isB c = false
  | true, [], c, q, h => by simp [gp] at h
  | false, [], c, q, h => by simp [gp] at h
  | true, d :: r, c, q, h => by
    rw [gp, Nat.add_comm, List.drop_succ_cons] at h
    exact gp_head _ r h
  | false, d :: r, c, q, h => by
    rw [gp] at h
    by_cases h1 : (d == 35) = true
    · rw [if_pos h1, Nat.add_comm, List.drop_succ_cons] at h; exact gp_head _ r h
    · rw [if_neg h1] at h
      by_cases h2 : isB d = true
      · rw [if_pos h2, Nat.add_comm, List.drop_succ_cons] at h; exact gp_head _ r h
      · rw [if_neg h2] at h
        simp only [List.drop_zero, List.cons.injEq] at h
        obtain ⟨rfl, _⟩ := h
        exact ⟨by simpa using h1, by simpa using h2⟩
/-- what is passed over is blanks and comments -/
theorem blk_gp : ∀ (b : Bool) (r : List UInt8), (blk b (r.take (gp b r))).1 = true ∧ (gp b r < r.length → (blk b (r.take (gp b r))).2 = false)
  | true, [] => by simp [gp, blk]
  | false, [] => by simp [gp, blk]
  | true, d :: r => by
    rw [gp, Nat.add_comm, List.take_succ_cons, blk]
    have := blk_gp (d != 10) r
    exact ⟨this.1, fun h => this.2 (by simp at h; omega)⟩
  | false, d :: r => by
    rw [gp]
    by_cases h1 : (d == 35) = true
    · rw [if_pos h1, Nat.add_comm, List.take_succ_cons, blk, if_pos h1]
      have := blk_gp true r
      exact ⟨this.1, fun h => this.2 (by simp at h; omega)⟩
    · rw [if_neg h1]
      by_cases h2 : isB d = true
      · rw [if_pos h2, Nat.add_comm, List.take_succ_cons, blk, if_neg h1, if_pos h2]
        have := blk_gp false r
        exact ⟨this.1, fun h => this.2 (by simp at h; omega)⟩
      · rw [if_neg h2]; simp [blk]

/-- a step of the document's reader: a blank, a comment -/
theorem gp_blank {c : UInt8} {r : List UInt8} (h : isB c = true) : gp false (c :: r) = 1 + gp false r := by
  rw [gp]
  have : (c == 35) = false := by
    simp only [isB, Bool.or_eq_true, beq_iff_eq] at h
    rcases h with ((rfl | rfl) | rfl) | rfl <;> decide
  rw [this, if_neg (by simp), if_pos h]
theorem tg_blank {c : UInt8} {r : List UInt8} {n : Nat} (h : isB c = true) : tg (c :: r) n = tg r (n + 1) := by
  unfold tg
  rw [gp_blank h, Nat.add_comm 1, List.drop_succ_cons, show n + (gp false r + 1) = n + 1 + gp false r by omega]
theorem tg_nil (n : Nat) : tg [] n = ([], -1) := by unfold tg; simp [gp, tq_nil]
/-- how long a comment is, up to the line's end -/
def cl : List UInt8 → Nat
  | [] => 0
  | c :: r => if c == 10 then 0 else 1 + cl r
theorem cl_le : ∀ r : List UInt8, cl r ≤ r.length
  | [] => by simp [cl]
  | c :: r => by
    have h1 := cl_le r
    simp only [cl, List.length_cons]
    split <;> omega
theorem gp_true : ∀ r : List UInt8, gp true r = cl r + gp false (r.drop (cl r))
  | [] => by simp [gp, cl]
  | c :: r => by
    rw [gp, cl]
    by_cases h : (c == 10) = true
    · have e : c = 10 := by simpa using h
      subst e
      rw [if_pos (by decide)]
      rw [show ((10 : UInt8) != 10) = false by decide]
      simp only [List.drop_zero, Nat.zero_add]
      rw [gp_blank (by decide)]
    · rw [if_neg h]
      have e : (c != 10) = true := by simpa using h
      rw [e, gp_true r, Nat.add_comm 1 (cl r), List.drop_succ_cons]; omega
theorem tg_comment {r : List UInt8} {n : Nat} : tg (35 :: r) n = tg (r.drop (cl r)) (n + 1 + cl r) := by
  unfold tg
  have e : gp false (35 :: r) = 1 + (cl r + gp false (r.drop (cl r))) := by rw [gp, if_pos (by decide), gp_true]
  rw [e, Nat.add_comm 1, List.drop_succ_cons, List.drop_drop]
  congr 1; omega
theorem gp_other {c : UInt8} {r : List UInt8} (h1 : c ≠ 35) (h2 : isB c = false) : gp false (c :: r) = 0 := by
  rw [gp, if_neg (by simpa using h1), if_neg (by simp [h2])]
theorem tg_other {c : UInt8} {r : List UInt8} {n : Nat} (h1 : c ≠ 35) (h2 : isB c = false) : tg (c :: r) n = tq (c :: r) n := by
  unfold tg
  rw [gp_other h1 h2]; rfl
/-- by all the bytes there are -/
theorem u8_all {P : UInt8 → Prop} (h : ∀ n : Fin 256, P (UInt8.ofFin n)) (c : UInt8) : P c := h c.toFin
/-- kinds part bytes -/
theorem kd_ne {c : UInt8} (h : kd c ≠ 0) : c ≠ 35 ∧ isB c = false :=
  u8_all (P := fun c => kd c ≠ 0 → c ≠ 35 ∧ isB c = false) (by decide +kernel) c h
theorem mkd_word {c : UInt8} (h : mkd c ≠ 0) : inW c = false :=
  u8_all (P := fun c => mkd c ≠ 0 → inW c = false) (by decide +kernel) c h
theorem kd_mark {c : UInt8} (h : mkd c ≠ 0) : kd c = mkd c := by unfold kd; rw [mkd_word h]; simp
theorem kd_word {c : UInt8} (h : inW c = true) : kd c = 1 := by unfold kd; rw [if_pos h]
theorem kd_le (c : UInt8) : kd c ≤ 7 := u8_all (P := fun c => kd c ≤ 7) (by decide +kernel) c
theorem tg_tok {c : UInt8} {q : List UInt8} {n : Nat} (h : kd c ≠ 0) : tg (c :: q) n = (⟨(kd c : Int), c :: q.take (tl c q), (n : Int)⟩ :: (tg (q.drop (tl c q)) (n + 1 + tl c q)).1, (tg (q.drop (tl c q)) (n + 1 + tl c q)).2) := by
  obtain ⟨h1, h2⟩ := kd_ne h
  rw [tg_other h1 h2, tq_tok h]
/-- how many tokens -/
theorem tq_len : ∀ (k : Nat) (r : List UInt8) (n : Nat), r.length ≤ k → (tq r n).1.length ≤ r.length
  | _, [], n, _ => by simp [tq_nil]
  | 0, c :: q, n, h => by simp at h
  | k + 1, c :: q, n, h => by
    by_cases hk : kd c = 0
    · rw [tq_bad hk]; simp
    · rw [tq_tok hk]
      simp only [List.length_cons, tg] at h ⊢
      have := tq_len k ((q.drop (tl c q)).drop (gp false (q.drop (tl c q)))) (n + 1 + tl c q + gp false (q.drop (tl c q))) (by simp only [List.length_drop]; omega)
      simp only [List.length_drop] at this
      omega
theorem tg_len (r : List UInt8) (n : Nat) : (tg r n).1.length ≤ r.length := by
  unfold tg
  have := tq_len _ (r.drop (gp false r)) (n + gp false r) (Nat.le_refl _)
  simp only [List.length_drop] at this
  omega
end Go.Proofs.Ytclpbhoopmdojaa
