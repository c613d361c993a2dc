/-
  Pieces of a text: plain lists.
  The order of paths, and what is above: plain lists.
  Pieces, directories, joins: plain lists.
-/
import Derived.Lib.Bytealg
namespace Go.Proofs.YtddaoloabfkheaaGreatDoor

/-- the pieces of a text that has at least one -/
def sp : List UInt8 → List (List UInt8)
  | [] => [[]]
  | c :: l => if c = 47 then [] :: sp l else match sp l with
    | [] => [[c]]
    | p :: ps => (c :: p) :: ps
/-- the first piece -/
def hd : List UInt8 → List UInt8
  | [] => []
  | c :: l => if c = 47 then [] else c :: hd l
/-- what stands behind the first slash -/
def tl : List UInt8 → List UInt8
  | [] => []
  | c :: l => if c = 47 then l else tl l
/-- is there a slash? -/
def sl : List UInt8 → Bool
  | [] => false
  | c :: l => if c = 47 then true else sl l
/-- the pieces -/
def pcs (l : List UInt8) : List (List UInt8) := if l = [] then [] else sp l
/-- what is left of a walk -/
def left (t : List UInt8) (m : Bool) : List (List UInt8) := if m then sp t else []

theorem sp_eq : ∀ l, sp l = hd l :: left (tl l) (sl l)
  | [] => rfl
  | c :: l => by
    have ih := sp_eq l
    by_cases h : c = 47
    · simp [sp, hd, tl, sl, left, h]
    · simp [sp, hd, tl, sl, left, h, ih]
theorem sp_ne (l) : sp l ≠ [] := by rw [sp_eq]; simp
theorem left_next (t : List UInt8) : left t true = hd t :: left (tl t) (sl t) := by rw [← sp_eq]; rfl
theorem left_false (t : List UInt8) : left t false = [] := rfl
theorem cut_eq : ∀ l, l = hd l ++ (if sl l then 47 :: tl l else [])
  | [] => rfl
  | c :: l => by
    have ih := cut_eq l
    by_cases h : c = 47
    · simp [hd, tl, sl, h]
    · simp only [hd, tl, sl, h, if_false, List.cons_append, List.cons.injEq, true_and]; exact ih
theorem indexByte_eq : ∀ l, Lib.indexByte l 47 = if sl l then ((hd l).length : Int) else -1
  | [] => rfl
  | c :: l => by
    have ih := indexByte_eq l
    unfold Lib.indexByte
    by_cases h : c = 47
    · simp [hd, sl, h]
    · have e : (c == 47) = false := by simpa using h
      rw [e, ih]
      simp only [hd, sl, h, if_false, Bool.false_eq_true]
      cases hs : sl l
      · simp
      · simp only [if_true, List.length_cons]
        have : ((((hd l).length : Int)) == -1) = false := by rw [beq_eq_false_iff_ne]; omega
        rw [this]; simp
theorem hd_len (l) (h : sl l = true) : (hd l).length + 1 + (tl l).length = l.length := by
  have := congrArg List.length (cut_eq l)
  rw [h] at this; simp at this; omega
theorem hd_all (l) (h : sl l = false) : hd l = l := by
  have := cut_eq l
  rw [h] at this; simpa using this.symm
theorem tl_none : ∀ l, sl l = false → tl l = []
  | [], _ => rfl
  | c :: l, h => by
    by_cases hc : c = 47
    · simp [sl, hc] at h
    · simp only [sl, hc, if_false] at h; simp only [tl, hc, if_false]; exact tl_none l h
theorem hd_le (l) : (hd l).length ≤ l.length := by
  cases h : sl l
  · rw [hd_all l h]; exact Nat.le_refl _
  · have := hd_len l h; omega
theorem tl_le (l) : (tl l).length ≤ l.length := by
  cases h : sl l
  · rw [tl_none l h]; simp
  · have := hd_len l h; omega
theorem tl_lt (l) (h : sl l = true) : (tl l).length < l.length := by have := hd_len l h; omega
theorem take_app {α : Type} {l a r : List α} (h : l = a ++ r) : l.take a.length = a := by rw [h]; simp
theorem drop_app {α : Type} {l a r : List α} (h : l = a ++ r) : l.drop a.length = r := by rw [h]; simp
theorem hd_take (l) : hd l = l.take (hd l).length := (take_app (cut_eq l)).symm
theorem tl_drop (l) (h : sl l = true) : tl l = l.drop ((hd l).length + 1) := by
  rw [← List.drop_drop, drop_app (cut_eq l), h]; rfl
theorem sp_length : ∀ l, (sp l).length = l.count 47 + 1
  | [] => rfl
  | c :: l => by
    have ih := sp_length l
    by_cases h : c = 47
    · simp [sp, h, ih]
    · have hc : List.count 47 (c :: l) = List.count 47 l := by rw [List.count_cons]; simp [h]
      rw [hc]
      unfold sp
      rw [if_neg h]
      cases hs : sp l with
      | nil => exact absurd hs (sp_ne l)
      | cons p ps => rw [hs] at ih; simpa using ih
/-- how many pieces -/
def dep (l : List UInt8) : Nat := if l = [] then 0 else l.count 47 + 1
theorem dep_eq (l) : (pcs l).length = dep l := by
  unfold pcs dep
  by_cases h : l = [] <;> simp [h, sp_length]
theorem dep_le (l) : dep l ≤ l.length + 1 := by
  unfold dep
  have := List.count_le_length (a := (47 : UInt8)) (l := l)
  split <;> omega

/-- pieces with a slash between them -/
def join : List (List UInt8) → List UInt8
  | [] => []
  | [p] => p
  | p :: q :: r => p ++ 47 :: join (q :: r)
theorem join_cons (p : List UInt8) (r : List (List UInt8)) (h : r ≠ []) : join (p :: r) = p ++ 47 :: join r := by
  cases r with
  | nil => exact absurd rfl h
  | cons q r => rfl
theorem join_sp : ∀ l, join (sp l) = l
  | [] => rfl
  | c :: l => by
    have ih := join_sp l
    by_cases h : c = 47
    · simp only [sp, h, if_true]; rw [join_cons _ _ (sp_ne l), ih]; rfl
    · unfold sp
      rw [if_neg h]
      cases hs : sp l with
      | nil => exact absurd hs (sp_ne l)
      | cons p ps =>
        rw [hs] at ih
        cases ps with
        | nil => simp only [join] at ih ⊢; rw [ih]
        | cons q r => simp only [join] at ih ⊢; rw [List.cons_append, ih]
theorem join_pcs (l) : join (pcs l) = l := by
  unfold pcs
  by_cases h : l = []
  · simp [h, join]
  · simp [h, join_sp]
theorem pcs_nil : pcs [] = [] := rfl
theorem pcs_eq_nil (l) : pcs l = [] ↔ l = [] := by
  constructor
  · intro h; unfold pcs at h; by_cases hl : l = []
    · exact hl
    · rw [if_neg hl] at h; exact absurd h (sp_ne l)
  · rintro rfl; rfl

/-- the order of pieces -/
def cmpP : List (List UInt8) → List (List UInt8) → Int
  | [], [] => 0
  | [], _ :: _ => -1
  | _ :: _, [] => 1
  | p :: ps, q :: qs => if Lib.compareBytes p q = 0 then cmpP ps qs else Lib.compareBytes p q
/-- how many first pieces both have -/
def com : List (List UInt8) → List (List UInt8) → Nat
  | p :: ps, q :: qs => if p = q then com ps qs + 1 else 0
  | _, _ => 0
theorem cb_refl : ∀ a, Lib.compareBytes a a = 0
  | [] => rfl
  | x :: a => by
    have : ¬ x < x := UInt8.lt_irrefl x
    simp [Lib.compareBytes, this, cb_refl a]
theorem cmpP_refl : ∀ a, cmpP a a = 0
  | [] => rfl
  | p :: ps => by simp [cmpP, cb_refl, cmpP_refl ps]
theorem com_le : ∀ a b, com a b ≤ a.length ∧ com a b ≤ b.length
  | [], b => by simp [com]
  | _ :: _, [] => by simp [com]
  | p :: ps, q :: qs => by
    have := com_le ps qs
    unfold com
    split <;> simp <;> omega
/-- the text of the first pieces that both have -/
def cmn (a b : List UInt8) : List UInt8 := join ((pcs a).take (com (pcs a) (pcs b)))
/-- the place of the last slash -/
def lst : List UInt8 → Int
  | [] => -1
  | c :: l => if 0 ≤ lst l then lst l + 1 else if c = 47 then 0 else -1
theorem lst_ge : ∀ l, -1 ≤ lst l
  | [] => by simp [lst]
  | c :: l => by have := lst_ge l; unfold lst; split; omega; split <;> omega
theorem lst_lt : ∀ l, lst l < l.length
  | [] => by simp [lst]
  | c :: l => by have := lst_lt l; unfold lst; simp; split; omega; split <;> omega
theorem lst_miss : ∀ (l : List UInt8), (∀ j : Nat, l[j]? ≠ some 47) → lst l = -1
  | [], _ => rfl
  | c :: l, h => by
    have ih := lst_miss l (fun j => by have := h (j + 1); simpa using this)
    have hc : c ≠ 47 := by have := h 0; simpa using this
    unfold lst; rw [ih]; simp [hc]
theorem lst_hit : ∀ (l : List UInt8) (i : Nat), l[i]? = some 47 → (∀ j : Nat, i < j → l[j]? ≠ some 47) → lst l = i
  | [], i, h, _ => by simp at h
  | c :: l, 0, h, h' => by
    have ih := lst_miss l (fun j => by have := h' (j + 1) (by omega); simpa using this)
    have hc : c = 47 := by simpa using h
    unfold lst; rw [ih]; simp [hc]
  | c :: l, i + 1, h, h' => by
    have ih := lst_hit l i (by simpa using h) (fun j hj => by have := h' (j + 1) (by omega); simpa using this)
    unfold lst; rw [ih]; simp
theorem lst_snoc : ∀ (l : List UInt8) (c : UInt8), lst (l ++ [c]) = if c = 47 then (l.length : Int) else lst l
  | [], c => by simp [lst]
  | x :: l, c => by
    rw [List.cons_append]
    unfold lst
    rw [lst_snoc l c]
    by_cases h : c = 47
    · simp [h]
    · simp [h]
/-- the text ahead of the last slash -/
def dir (l : List UInt8) : List UInt8 := if lst l < 0 then [] else l.take (lst l).toNat
/-- the text behind the last slash -/
def base (l : List UInt8) : List UInt8 := l.drop (lst l + 1).toNat

/-- may the byte stand in a component? -/
def okB (c : UInt8) : Bool := (97 ≤ c.toNat && c.toNat ≤ 122) || (65 ≤ c.toNat && c.toNat ≤ 90) || (48 ≤ c.toNat && c.toNat ≤ 57) || c.toNat == 46 || c.toNat == 95 || c.toNat == 45
/-- is it a component? -/
def okC (l : List UInt8) : Bool := !(l == []) && !(l == [46]) && !(l == [46, 46]) && !(l == [46, 46, 46]) && decide (l.length ≤ 32) && l.all okB
/-- is it a path? -/
def okP (l : List UInt8) : Bool := decide (l.length ≤ 120) && decide (dep l ≤ 12) && (pcs l).all okC
/-- what Join gives -/
def jn (a b : List UInt8) : List UInt8 × Int :=
  if okP a = true ∧ okP b = true then
    (if a = [] then (b, 0) else if b = [] then (a, 0) else if okP (a ++ 47 :: b) = true then (a ++ 47 :: b, 0) else ([], 7))
  else ([], 7)

end Go.Proofs.YtddaoloabfkheaaGreatDoor

namespace Go.Proofs.YtddaoloabfkheaaGreatDoor

theorem join_cut : ∀ (L : List (List UInt8)) (k : Nat), 0 < k → k < L.length → join L = join (L.take k) ++ 47 :: join (L.drop k)
  | [], _, _, h => by simp at h
  | p :: r, 1, _, h => by
    have hr : r ≠ [] := by rintro rfl; simp at h
    rw [join_cons p r hr]; rfl
  | p :: r, k + 2, _, h => by
    have hl : k + 1 < r.length := by simp at h; omega
    have hr : r ≠ [] := by rintro rfl; simp at hl
    have ih := join_cut r (k + 1) (by omega) hl
    have ht : r.take (k + 1) ≠ [] := by
      intro e
      have := congrArg List.length e
      rw [List.length_take, List.length_nil] at this
      omega
    rw [join_cons p r hr, List.take_succ_cons, List.drop_succ_cons, join_cons p _ ht, ih]; simp
theorem cmn_len_iff (a b : List UInt8) : (cmn a b).length = a.length ↔ com (pcs a) (pcs b) = (pcs a).length := by
  constructor
  · intro h
    have hle := (com_le (pcs a) (pcs b)).1
    by_cases he : com (pcs a) (pcs b) = (pcs a).length
    · exact he
    · have hlt : com (pcs a) (pcs b) < (pcs a).length := by omega
      by_cases h0 : com (pcs a) (pcs b) = 0
      · unfold cmn at h
        rw [h0] at h
        have : a = [] := List.eq_nil_of_length_eq_zero (by simpa [join] using h.symm)
        subst this
        simp [pcs] at hlt
      · have hc := join_cut (pcs a) _ (by omega) hlt
        rw [join_pcs] at hc
        have := congrArg List.length hc
        unfold cmn at h
        rw [List.length_append, h] at this
        simp at this
  · intro h
    unfold cmn
    rw [h, List.take_length, join_pcs]
theorem com_pre : ∀ (A B : List (List UInt8)), com A B = A.length ↔ ∃ r, B = A ++ r
  | [], B => by simp [com]
  | p :: ps, [] => by simp [com]
  | p :: ps, q :: qs => by
    unfold com
    by_cases h : p = q
    · subst h
      rw [if_pos rfl, List.length_cons, Nat.add_right_cancel_iff, com_pre ps qs]
      simp
    · rw [if_neg h]
      constructor
      · intro e; simp at e
      · rintro ⟨r, e⟩; simp at e; exact absurd e.1.symm h
theorem cmpP_app : ∀ (A r : List (List UInt8)), r ≠ [] → cmpP A (A ++ r) = -1
  | [], r, h => by
    cases r with
    | nil => exact absurd rfl h
    | cons => rfl
  | p :: ps, r, h => by
    rw [List.cons_append]; unfold cmpP; rw [if_pos (cb_refl p), cmpP_app ps r h]
/-- as the program says it -/
def abvV (a b : List UInt8) : Bool := decide ((cmn a b).length = a.length) && decide (cmpP (pcs a) (pcs b) < 0)
theorem abvV_iff (a b : List UInt8) : abvV a b = true ↔ ∃ r, r ≠ [] ∧ pcs b = pcs a ++ r := by
  unfold abvV
  rw [Bool.and_eq_true, decide_eq_true_eq, decide_eq_true_eq, cmn_len_iff, com_pre]
  constructor
  · rintro ⟨⟨r, hr⟩, h⟩
    refine ⟨r, ?_, hr⟩
    rintro rfl
    rw [hr, List.append_nil, cmpP_refl] at h
    omega
  · rintro ⟨r, hne, hr⟩
    exact ⟨⟨r, hr⟩, by rw [hr, cmpP_app _ _ hne]; omega⟩
end Go.Proofs.YtddaoloabfkheaaGreatDoor

namespace Go.Proofs.YtddaoloabfkheaaGreatDoor

theorem sp_append : ∀ (a b : List UInt8), sp (a ++ 47 :: b) = sp a ++ sp b
  | [], b => by simp [sp]
  | c :: a, b => by
    have ih := sp_append a b
    rw [List.cons_append]
    by_cases h : c = 47
    · rw [sp.eq_2, if_pos h, ih, sp.eq_2 c a, if_pos h]; rfl
    · rw [sp.eq_2, if_neg h, ih, sp.eq_2 c a, if_neg h]
      cases hs : sp a with
      | nil => exact absurd hs (sp_ne a)
      | cons p ps => rfl
theorem pcs_append (a b : List UInt8) (ha : a ≠ []) (hb : b ≠ []) : pcs (a ++ 47 :: b) = pcs a ++ pcs b := by
  unfold pcs
  rw [if_neg (by simp), if_neg ha, if_neg hb, sp_append]
theorem sp_one : ∀ (p : List UInt8), (47 : UInt8) ∉ p → sp p = [p]
  | [], _ => rfl
  | c :: p, h => by
    have hc : c ≠ 47 := fun e => h (by simp [e])
    rw [sp.eq_2, if_neg hc, sp_one p (fun e => h (List.mem_cons_of_mem _ e))]
theorem okP_all {a : List UInt8} (h : okP a = true) : (pcs a).all okC = true := by
  unfold okP at h; rw [Bool.and_eq_true] at h; exact h.2
theorem okP_len {a : List UInt8} (h : okP a = true) : a.length ≤ 120 ∧ dep a ≤ 12 := by
  unfold okP at h; simp only [Bool.and_eq_true, decide_eq_true_eq] at h; exact h.1
theorem lst_none : ∀ (l : List UInt8), l.count 47 = 0 → lst l = -1
  | [], _ => rfl
  | c :: l, h => by
    rw [List.count_cons] at h
    have h1 : l.count 47 = 0 := by omega
    have h2 : c ≠ 47 := by rintro rfl; simp at h
    unfold lst; rw [lst_none l h1]; simp [h2]
theorem lst_some : ∀ (l : List UInt8), 0 < l.count 47 → 0 ≤ lst l
  | [], h => by simp at h
  | c :: l, h => by
    unfold lst
    by_cases h0 : 0 < l.count 47
    · have := lst_some l h0; rw [if_pos this]; omega
    · rw [List.count_cons] at h
      have hc : c = 47 := by
        by_cases e : c = 47
        · exact e
        · have hf : (c == 47) = false := by simpa using e
          rw [hf] at h
          simp only [Bool.false_eq_true, if_false, Nat.add_zero] at h
          exact absurd h h0
      have := lst_ge l
      rw [if_pos hc]
      split <;> omega
theorem lst_cut : ∀ (l : List UInt8), 0 ≤ lst l → l = l.take (lst l).toNat ++ 47 :: l.drop (lst l + 1).toNat
  | [], h => by simp [lst] at h
  | c :: l, h => by
    by_cases h0 : 0 ≤ lst l
    · have ih := lst_cut l h0
      have e : lst (c :: l) = lst l + 1 := by rw [lst, if_pos h0]
      rw [e]
      obtain ⟨n, hn⟩ : ∃ n : Nat, lst l = n := ⟨(lst l).toNat, by omega⟩
      rw [hn] at ih ⊢
      have e1 : ((n : Int) + 1).toNat = n + 1 := by omega
      have e2 : ((n : Int) + 1 + 1).toNat = n + 1 + 1 := by omega
      have e3 : (n : Int).toNat = n := by omega
      rw [e1, e2, List.take_succ_cons, List.drop_succ_cons, List.cons_append]
      rw [e1, e3] at ih
      rw [← ih]
    · have hc : c = 47 := by
        by_cases e : c = 47
        · exact e
        · rw [lst, if_neg h0, if_neg e] at h; omega
      have e : lst (c :: l) = 0 := by rw [lst, if_neg h0, if_pos hc]
      rw [e, hc]; rfl
theorem lst_app : ∀ (x b : List UInt8), lst (x ++ 47 :: b) = x.length + 1 + lst b
  | [], b => by
    have := lst_ge b
    rw [List.nil_append, lst]
    by_cases h : 0 ≤ lst b
    · rw [if_pos h]; simp; omega
    · rw [if_neg h, if_pos rfl]; simp; omega
  | c :: x, b => by
    have ih := lst_app x b
    have := lst_ge b
    rw [List.cons_append, lst, ih, if_pos (by omega)]
    simp; omega
theorem base_app (x b : List UInt8) : base (x ++ 47 :: b) = base b := by
  have := lst_ge b
  unfold base
  rw [lst_app]
  have e : ((x.length : Int) + 1 + lst b + 1).toNat = x.length + (1 + (lst b + 1).toNat) := by omega
  rw [e, ← List.drop_drop, List.drop_left, ← List.drop_drop]; rfl

theorem jn_bad (a b : List UInt8) (h : ¬ (okP a = true ∧ okP b = true)) : jn a b = ([], 7) := by unfold jn; rw [if_neg h]
set_option maxRecDepth 100000 in
theorem jn_left (b : List UInt8) (hb : okP b = true) : jn [] b = (b, 0) := by
  unfold jn; rw [if_pos ⟨by decide, hb⟩, if_pos rfl]
theorem okP_app (a b : List UInt8) (ha : okP a = true) (hb : okP b = true) (na : a ≠ []) (nb : b ≠ []) :
    okP (a ++ 47 :: b) = (decide (a.length + b.length + 1 ≤ 120) && decide ((pcs a).length + (pcs b).length ≤ 12)) := by
  have h1 := okP_all ha
  have h2 := okP_all hb
  unfold okP
  rw [← dep_eq, pcs_append a b na nb, List.all_append, h1, h2, List.length_append, List.length_append, List.length_cons]
  have : a.length + (b.length + 1) = a.length + b.length + 1 := by omega
  rw [this]; simp
theorem jn_both (a b : List UInt8) (ha : okP a = true) (hb : okP b = true) (na : a ≠ []) (nb : b ≠ []) :
    jn a b = if a.length + b.length + 1 ≤ 120 ∧ (pcs a).length + (pcs b).length ≤ 12 then (a ++ 47 :: b, 0) else ([], 7) := by
  unfold jn
  rw [if_pos ⟨ha, hb⟩, if_neg na, if_neg nb, okP_app a b ha hb na nb]
  simp only [Bool.and_eq_true, decide_eq_true_eq]

/-- may two paths be joined, by their lengths? -/
def whole (a b : List UInt8) : Bool := decide (a.length + b.length + 1 ≤ 120) || a.isEmpty || b.isEmpty
end Go.Proofs.YtddaoloabfkheaaGreatDoor
