/-
  Pieces of a text: plain lists.
-/
import Derived.Lib.Bytealg
namespace Go.Proofs.YtfdcfcalbongeaaGreat

/-- the pieces of a text that has at least one -/
def sp : List UInt8 → List (List UInt8)
  | [] => [[]]
  | c :: l => if c = 47 then [] :: sp l else match sp l with
    | [] => [[c]]
    | p :: ps => (c :: p) :: ps
/-- the first piece -/
def hd : List UInt8 → List UInt8
  | [] => []
  | c :: l => if c = 47 then [] else c :: hd l
/-- what stands behind the first slash -/
def tl : List UInt8 → List UInt8
  | [] => []
  | c :: l => if c = 47 then l else tl l
/-- is there a slash? -/
def sl : List UInt8 → Bool
  | [] => false
  | c :: l => if c = 47 then true else sl l
/-- the pieces -/
def pcs (l : List UInt8) : List (List UInt8) := if l = [] then [] else sp l
/-- what is left of a walk -/
def left (t : List UInt8) (m : Bool) : List (List UInt8) := if m then sp t else []

theorem sp_eq : ∀ l, sp l = hd l :: left (tl l) (sl l)
  | [] => rfl
  | c :: l => by
    have ih := sp_eq l
    by_cases h : c = 47
    · simp [sp, hd, tl, sl, left, h]
    · simp [sp, hd, tl, sl, left, h, ih]
theorem sp_ne (l) : sp l ≠ [] := by rw [sp_eq]; simp
theorem left_next (t : List UInt8) : left t true = hd t :: left (tl t) (sl t) := by rw [← sp_eq]; rfl
theorem left_false (t : List UInt8) : left t false = [] := rfl
theorem left_begin (l : List UInt8) : left l (decide (l ≠ [])) = pcs l := by
  unfold left pcs
  by_cases h : l = [] <;> simp [h]
theorem cut_eq : ∀ l, l = hd l ++ (if sl l then 47 :: tl l else [])
  | [] => rfl
  | c :: l => by
    have ih := cut_eq l
    by_cases h : c = 47
    · simp [hd, tl, sl, h]
    · simp only [hd, tl, sl, h, if_false, List.cons_append, List.cons.injEq, true_and]; exact ih
theorem indexByte_eq : ∀ l, Lib.indexByte l 47 = if sl l then ((hd l).length : Int) else -1
  | [] => rfl
  | c :: l => by
    have ih := indexByte_eq l
    unfold Lib.indexByte
    by_cases h : c = 47
    · simp [hd, sl, h]
    · have e : (c == 47) = false := by simpa using h
      rw [e, ih]
      simp only [hd, sl, h, if_false, Bool.false_eq_true]
      cases hs : sl l
      · simp
      · simp only [if_true, List.length_cons]
        have : ((((hd l).length : Int)) == -1) = false := by rw [beq_eq_false_iff_ne]; omega
        rw [this]; simp
theorem hd_len (l) (h : sl l = true) : (hd l).length + 1 + (tl l).length = l.length := by
  have := congrArg List.length (cut_eq l)
  rw [h] at this; simp at this; omega
theorem hd_all (l) (h : sl l = false) : hd l = l := by
  have := cut_eq l
  rw [h] at this; simpa using this.symm
theorem tl_none : ∀ l, sl l = false → tl l = []
  | [], _ => rfl
  | c :: l, h => by
    by_cases hc : c = 47
    · simp [sl, hc] at h
    · simp only [sl, hc, if_false] at h; simp only [tl, hc, if_false]; exact tl_none l h
theorem hd_le (l) : (hd l).length ≤ l.length := by
  cases h : sl l
  · rw [hd_all l h]; exact Nat.le_refl _
  · have := hd_len l h; omega
theorem tl_le (l) : (tl l).length ≤ l.length := by
  cases h : sl l
  · rw [tl_none l h]; simp
  · have := hd_len l h; omega
theorem tl_lt (l) (h : sl l = true) : (tl l).length < l.length := by have := hd_len l h; omega
theorem take_app {α : Type} {l a r : List α} (h : l = a ++ r) : l.take a.length = a := by rw [h]; simp
theorem drop_app {α : Type} {l a r : List α} (h : l = a ++ r) : l.drop a.length = r := by rw [h]; simp
theorem hd_take (l) : hd l = l.take (hd l).length := (take_app (cut_eq l)).symm
theorem tl_drop (l) (h : sl l = true) : tl l = l.drop ((hd l).length + 1) := by
  rw [← List.drop_drop, drop_app (cut_eq l), h]; rfl
theorem sp_length : ∀ l, (sp l).length = l.count 47 + 1
  | [] => rfl
  | c :: l => by
    have ih := sp_length l
    by_cases h : c = 47
    · simp [sp, h, ih]
    · have hc : List.count 47 (c :: l) = List.count 47 l := by rw [List.count_cons]; simp [h]
      rw [hc]
      unfold sp
      rw [if_neg h]
      cases hs : sp l with
      | nil => exact absurd hs (sp_ne l)
      | cons p ps => rw [hs] at ih; simpa using ih
/-- how many pieces -/
def dep (l : List UInt8) : Nat := if l = [] then 0 else l.count 47 + 1
theorem dep_eq (l) : (pcs l).length = dep l := by
  unfold pcs dep
  by_cases h : l = [] <;> simp [h, sp_length]
theorem dep_le (l) : dep l ≤ l.length + 1 := by
  unfold dep
  have := List.count_le_length (a := (47 : UInt8)) (l := l)
  split <;> omega

/-- pieces with a slash between them -/
def join : List (List UInt8) → List UInt8
  | [] => []
  | [p] => p
  | p :: q :: r => p ++ 47 :: join (q :: r)
theorem join_cons (p : List UInt8) (r : List (List UInt8)) (h : r ≠ []) : join (p :: r) = p ++ 47 :: join r := by
  cases r with
  | nil => exact absurd rfl h
  | cons q r => rfl
theorem join_sp : ∀ l, join (sp l) = l
  | [] => rfl
  | c :: l => by
    have ih := join_sp l
    by_cases h : c = 47
    · simp only [sp, h, if_true]; rw [join_cons _ _ (sp_ne l), ih]; rfl
    · unfold sp
      rw [if_neg h]
      cases hs : sp l with
      | nil => exact absurd hs (sp_ne l)
      | cons p ps =>
        rw [hs] at ih
        cases ps with
        | nil => simp only [join] at ih ⊢; rw [ih]
        | cons q r => simp only [join] at ih ⊢; rw [List.cons_append, ih]
theorem join_pcs (l) : join (pcs l) = l := by
  unfold pcs
  by_cases h : l = []
  · simp [h, join]
  · simp [h, join_sp]
theorem pcs_inj {a b : List UInt8} (h : pcs a = pcs b) : a = b := by rw [← join_pcs a, ← join_pcs b, h]
theorem pcs_nil : pcs [] = [] := rfl
theorem pcs_eq_nil (l) : pcs l = [] ↔ l = [] := by
  constructor
  · intro h; unfold pcs at h; by_cases hl : l = []
    · exact hl
    · rw [if_neg hl] at h; exact absurd h (sp_ne l)
  · rintro rfl; rfl

/-- the order of pieces -/
def cmpP : List (List UInt8) → List (List UInt8) → Int
  | [], [] => 0
  | [], _ :: _ => -1
  | _ :: _, [] => 1
  | p :: ps, q :: qs => if Lib.compareBytes p q = 0 then cmpP ps qs else Lib.compareBytes p q
/-- how many first pieces both have -/
def com : List (List UInt8) → List (List UInt8) → Nat
  | p :: ps, q :: qs => if p = q then com ps qs + 1 else 0
  | _, _ => 0
/-- the walk over both: how many bytes -/
def mt : Nat → Nat → List (List UInt8) → List (List UInt8) → Nat
  | st, sm, p :: ps, q :: qs => if Lib.compareBytes p q = 0 then mt (st + p.length + 1) (st + p.length) ps qs else sm
  | _, sm, _, _ => sm

theorem cb_refl : ∀ a, Lib.compareBytes a a = 0
  | [] => rfl
  | x :: a => by
    have : ¬ x < x := UInt8.lt_irrefl x
    simp [Lib.compareBytes, this, cb_refl a]
theorem cb_zero : ∀ {a b}, Lib.compareBytes a b = 0 → a = b
  | [], [], _ => rfl
  | [], _ :: _, h => by simp [Lib.compareBytes] at h
  | _ :: _, [], h => by simp [Lib.compareBytes] at h
  | x :: a, y :: b, h => by
    unfold Lib.compareBytes at h
    by_cases h1 : x < y
    · simp [h1] at h
    · by_cases h2 : y < x
      · simp [h1, h2] at h
      · simp only [h1, h2, if_false] at h
        have : x = y := UInt8.le_antisymm (UInt8.not_lt.1 h2) (UInt8.not_lt.1 h1)
        rw [this, cb_zero h]
theorem cb_iff {a b} : Lib.compareBytes a b = 0 ↔ a = b := ⟨cb_zero, fun h => h ▸ cb_refl _⟩
theorem cb_neg : ∀ a b, Lib.compareBytes b a = - Lib.compareBytes a b
  | [], [] => rfl
  | [], _ :: _ => rfl
  | _ :: _, [] => rfl
  | x :: a, y :: b => by
    unfold Lib.compareBytes
    by_cases h1 : x < y
    · have h2 : ¬ y < x := UInt8.not_lt.2 (UInt8.le_of_lt h1)
      simp [h1, h2]
    · by_cases h2 : y < x
      · simp [h1, h2]
      · simp [h1, h2, cb_neg a b]
theorem cb_range : ∀ a b, Lib.compareBytes a b = -1 ∨ Lib.compareBytes a b = 0 ∨ Lib.compareBytes a b = 1
  | [], [] => .inr (.inl rfl)
  | [], _ :: _ => .inl rfl
  | _ :: _, [] => .inr (.inr rfl)
  | x :: a, y :: b => by
    unfold Lib.compareBytes
    by_cases h1 : x < y
    · simp [h1]
    · by_cases h2 : y < x
      · simp [h1, h2]
      · simp only [h1, h2, if_false]; exact cb_range a b
theorem cb_trans : ∀ a b c, Lib.compareBytes a b = -1 → Lib.compareBytes b c = -1 → Lib.compareBytes a c = -1
  | [], [], _, h, _ => by simp [Lib.compareBytes] at h
  | [], _ :: _, [], _, h => by simp [Lib.compareBytes] at h
  | [], _ :: _, _ :: _, _, _ => rfl
  | _ :: _, [], _, h, _ => by simp [Lib.compareBytes] at h
  | _ :: _, _ :: _, [], _, h => by simp [Lib.compareBytes] at h
  | x :: a, y :: b, z :: c, h, h' => by
    unfold Lib.compareBytes at h h' ⊢
    have k1 : ∀ {p q : UInt8}, p < q ↔ p.toNat < q.toNat := UInt8.lt_iff_toNat_lt
    simp only [k1] at h h' ⊢
    by_cases h1 : x.toNat < y.toNat
    · by_cases h2 : y.toNat < z.toNat
      · rw [if_pos (by omega)]
      · by_cases h3 : z.toNat < y.toNat
        · rw [if_neg h2, if_pos h3] at h'; simp at h'
        · rw [if_pos (by omega)]
    · by_cases h2 : y.toNat < x.toNat
      · rw [if_neg h1, if_pos h2] at h; simp at h
      · rw [if_neg h1, if_neg h2] at h
        by_cases h3 : y.toNat < z.toNat
        · rw [if_pos (by omega)]
        · by_cases h4 : z.toNat < y.toNat
          · rw [if_neg h3, if_pos h4] at h'; simp at h'
          · rw [if_neg h3, if_neg h4] at h'
            rw [if_neg (by omega), if_neg (by omega)]
            exact cb_trans a b c h h'

theorem cmpP_refl : ∀ a, cmpP a a = 0
  | [] => rfl
  | p :: ps => by simp [cmpP, cb_refl, cmpP_refl ps]
theorem cmpP_zero : ∀ {a b}, cmpP a b = 0 → a = b
  | [], [], _ => rfl
  | [], _ :: _, h => by simp [cmpP] at h
  | _ :: _, [], h => by simp [cmpP] at h
  | p :: ps, q :: qs, h => by
    unfold cmpP at h
    by_cases h0 : Lib.compareBytes p q = 0
    · rw [if_pos h0] at h; rw [cb_zero h0, cmpP_zero h]
    · rw [if_neg h0] at h; exact absurd h h0
theorem cmpP_neg : ∀ a b, cmpP b a = - cmpP a b
  | [], [] => rfl
  | [], _ :: _ => rfl
  | _ :: _, [] => rfl
  | p :: ps, q :: qs => by
    unfold cmpP
    rw [cb_neg p q]
    by_cases h0 : Lib.compareBytes p q = 0
    · rw [if_pos (by omega), if_pos h0, cmpP_neg ps qs]
    · rw [if_neg (by omega), if_neg h0]
theorem cmpP_range : ∀ a b, cmpP a b = -1 ∨ cmpP a b = 0 ∨ cmpP a b = 1
  | [], [] => .inr (.inl rfl)
  | [], _ :: _ => .inl rfl
  | _ :: _, [] => .inr (.inr rfl)
  | p :: ps, q :: qs => by
    unfold cmpP
    by_cases h0 : Lib.compareBytes p q = 0
    · rw [if_pos h0]; exact cmpP_range ps qs
    · rw [if_neg h0]; exact cb_range p q
theorem cmpP_trans : ∀ a b c, cmpP a b = -1 → cmpP b c = -1 → cmpP a c = -1
  | [], [], _, h, _ => by simp [cmpP] at h
  | [], _ :: _, [], _, h => by simp [cmpP] at h
  | [], _ :: _, _ :: _, _, _ => rfl
  | _ :: _, [], _, h, _ => by simp [cmpP] at h
  | _ :: _, _ :: _, [], _, h => by simp [cmpP] at h
  | p :: ps, q :: qs, r :: rs, h, h' => by
    unfold cmpP at h h' ⊢
    by_cases h1 : Lib.compareBytes p q = 0
    · rw [if_pos h1] at h
      have := cb_zero h1; subst this
      by_cases h2 : Lib.compareBytes p r = 0
      · rw [if_pos h2] at h' ⊢; exact cmpP_trans ps qs rs h h'
      · rw [if_neg h2] at h' ⊢; exact h'
    · rw [if_neg h1] at h
      by_cases h2 : Lib.compareBytes q r = 0
      · have := cb_zero h2; subst this
        rw [if_neg h1]; exact h
      · rw [if_neg h2] at h'
        have := cb_trans p q r h h'
        rw [if_neg (by omega)]; exact this

/-- fewer pieces, and the other begins with them -/
def abv (a b : List (List UInt8)) : Bool := a.length < b.length && decide (com a b = a.length)
theorem com_le : ∀ a b, com a b ≤ a.length ∧ com a b ≤ b.length
  | [], b => by simp [com]
  | _ :: _, [] => by simp [com]
  | p :: ps, q :: qs => by
    have := com_le ps qs
    unfold com
    split <;> simp <;> omega
theorem com_take : ∀ a b : List (List UInt8), a.take (com a b) = b.take (com a b)
  | [], b => by simp [com]
  | _ :: _, [] => by simp [com]
  | p :: ps, q :: qs => by
    unfold com
    by_cases h : p = q
    · rw [if_pos h, List.take_succ_cons, List.take_succ_cons, com_take ps qs, h]
    · rw [if_neg h]; rfl
theorem com_symm : ∀ a b, com a b = com b a
  | [], [] => rfl
  | [], _ :: _ => rfl
  | _ :: _, [] => rfl
  | p :: ps, q :: qs => by
    unfold com
    by_cases h : p = q
    · rw [if_pos h, if_pos h.symm, com_symm ps qs]
    · rw [if_neg h, if_neg (fun e => h e.symm)]
theorem com_refl : ∀ a, com a a = a.length
  | [] => rfl
  | p :: ps => by simp [com, com_refl ps]

/-- the bytes of pieces, with the slashes between them and one ahead where 'st' says so -/
theorem mt_eq : ∀ (A B : List (List UInt8)) (st sm : Nat), mt st sm A B = if com A B = 0 then sm else st + (join (A.take (com A B))).length
  | [], _, _, _ => by simp [mt, com]
  | _ :: _, [], _, _ => by simp [mt, com]
  | p :: ps, q :: qs, st, sm => by
    unfold mt com
    by_cases h : p = q
    · rw [if_pos (cb_iff.2 h), if_pos h, mt_eq ps qs]
      rw [List.take_succ_cons]
      by_cases h0 : com ps qs = 0
      · rw [if_pos h0, h0]; simp [join]
      · rw [if_neg h0, if_neg (Nat.succ_ne_zero _)]
        have hne : ps.take (com ps qs) ≠ [] := by
          intro e
          have h1 := congrArg List.length e
          have h2 := (com_le ps qs).1
          simp at h1
          rcases h1 with h1 | h1
          · exact h0 h1
          · subst h1; simp [com] at h0
        rw [join_cons _ _ hne]
        simp; omega
    · rw [if_neg (fun e => h (cb_iff.1 e)), if_neg h]; simp
/-- the text of the first pieces that both have -/
def cmn (a b : List UInt8) : List UInt8 := join ((pcs a).take (com (pcs a) (pcs b)))
theorem mt_cmn (a b : List UInt8) : mt 0 0 (pcs a) (pcs b) = (cmn a b).length := by
  rw [mt_eq]
  unfold cmn
  by_cases h : com (pcs a) (pcs b) = 0
  · rw [if_pos h, h]; simp [join]
  · rw [if_neg h]; simp
theorem join_take : ∀ (L : List (List UInt8)) (k : Nat), ∃ r, join L = join (L.take k) ++ r
  | L, 0 => ⟨join L, by simp [join]⟩
  | [], _ + 1 => ⟨[], by simp [join]⟩
  | [p], k + 1 => ⟨[], by simp [join]⟩
  | p :: q :: r, k + 1 => by
    obtain ⟨s, hs⟩ := join_take (q :: r) k
    cases k with
    | zero => exact ⟨47 :: join (q :: r), by simp [join]⟩
    | succ k =>
      refine ⟨s, ?_⟩
      rw [List.take_succ_cons, List.take_succ_cons]
      rw [List.take_succ_cons] at hs
      simp only [join]
      rw [hs]; simp
theorem cmn_take (a b : List UInt8) : cmn a b = a.take (cmn a b).length := by
  obtain ⟨r, hr⟩ := join_take (pcs a) (com (pcs a) (pcs b))
  rw [join_pcs] at hr
  have e : a = cmn a b ++ r := hr
  exact (take_app e).symm
theorem cmn_le (a b : List UInt8) : (cmn a b).length ≤ a.length := by
  have := congrArg List.length (cmn_take a b)
  simp at this; omega

/-- the place of the last slash -/
def lst : List UInt8 → Int
  | [] => -1
  | c :: l => if 0 ≤ lst l then lst l + 1 else if c = 47 then 0 else -1
theorem lst_ge : ∀ l, -1 ≤ lst l
  | [] => by simp [lst]
  | c :: l => by have := lst_ge l; unfold lst; split; omega; split <;> omega
theorem lst_lt : ∀ l, lst l < l.length
  | [] => by simp [lst]
  | c :: l => by have := lst_lt l; unfold lst; simp; split; omega; split <;> omega
theorem lst_miss : ∀ (l : List UInt8), (∀ j : Nat, l[j]? ≠ some 47) → lst l = -1
  | [], _ => rfl
  | c :: l, h => by
    have ih := lst_miss l (fun j => by have := h (j + 1); simpa using this)
    have hc : c ≠ 47 := by have := h 0; simpa using this
    unfold lst; rw [ih]; simp [hc]
theorem lst_hit : ∀ (l : List UInt8) (i : Nat), l[i]? = some 47 → (∀ j : Nat, i < j → l[j]? ≠ some 47) → lst l = i
  | [], i, h, _ => by simp at h
  | c :: l, 0, h, h' => by
    have ih := lst_miss l (fun j => by have := h' (j + 1) (by omega); simpa using this)
    have hc : c = 47 := by simpa using h
    unfold lst; rw [ih]; simp [hc]
  | c :: l, i + 1, h, h' => by
    have ih := lst_hit l i (by simpa using h) (fun j hj => by have := h' (j + 1) (by omega); simpa using this)
    unfold lst; rw [ih]; simp
theorem lst_snoc : ∀ (l : List UInt8) (c : UInt8), lst (l ++ [c]) = if c = 47 then (l.length : Int) else lst l
  | [], c => by simp [lst]
  | x :: l, c => by
    rw [List.cons_append]
    unfold lst
    rw [lst_snoc l c]
    by_cases h : c = 47
    · simp [h]
    · simp [h]
/-- the text ahead of the last slash -/
def dir (l : List UInt8) : List UInt8 := if lst l < 0 then [] else l.take (lst l).toNat
/-- the text behind the last slash -/
def base (l : List UInt8) : List UInt8 := l.drop (lst l + 1).toNat

/-- may the byte stand in a component? -/
def okB (c : UInt8) : Bool := (97 ≤ c.toNat && c.toNat ≤ 122) || (65 ≤ c.toNat && c.toNat ≤ 90) || (48 ≤ c.toNat && c.toNat ≤ 57) || c.toNat == 46 || c.toNat == 95 || c.toNat == 45
/-- is it a component? -/
def okC (l : List UInt8) : Bool := !(l == []) && !(l == [46]) && !(l == [46, 46]) && !(l == [46, 46, 46]) && decide (l.length ≤ 32) && l.all okB
/-- is it a path? -/
def okP (l : List UInt8) : Bool := decide (l.length ≤ 120) && decide (dep l ≤ 12) && (pcs l).all okC
/-- what Join gives -/
def jn (a b : List UInt8) : List UInt8 × Int :=
  if okP a = true ∧ okP b = true then
    (if a = [] then (b, 0) else if b = [] then (a, 0) else if okP (a ++ 47 :: b) = true then (a ++ 47 :: b, 0) else ([], 7))
  else ([], 7)

end Go.Proofs.YtfdcfcalbongeaaGreat
