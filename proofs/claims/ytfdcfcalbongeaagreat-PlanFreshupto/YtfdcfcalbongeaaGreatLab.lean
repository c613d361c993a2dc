/-
  Labels, their texts, see words: plain lists.
-/
import Derived.Test.YtfdcfcalbongeaaGreatJFil
namespace Go.Proofs.YtfdcfcalbongeaaGreat

def chd : List UInt8 → List UInt8
  | [] => []
  | c :: l => if c = 58 then [] else c :: chd l
def ctl : List UInt8 → List UInt8
  | [] => []
  | c :: l => if c = 58 then l else ctl l
def csl : List UInt8 → Bool
  | [] => false
  | c :: l => if c = 58 then true else csl l
theorem c_cut_eq : ∀ l, l = chd l ++ (if csl l then 58 :: ctl l else [])
  | [] => rfl
  | c :: l => by
    have ih := c_cut_eq l
    by_cases h : c = 58
    · simp [chd, ctl, csl, h]
    · simp only [chd, ctl, csl, h, if_false, List.cons_append, List.cons.injEq, true_and]; exact ih
theorem c_indexByte_eq : ∀ l, Lib.indexByte l 58 = if csl l then ((chd l).length : Int) else -1
  | [] => rfl
  | c :: l => by
    have ih := c_indexByte_eq l
    unfold Lib.indexByte
    by_cases h : c = 58
    · simp [chd, csl, h]
    · have e : (c == 58) = false := by simpa using h
      rw [e, ih]
      simp only [chd, csl, h, if_false, Bool.false_eq_true]
      cases hs : csl l
      · simp
      · simp only [if_true, List.length_cons]
        have : ((((chd l).length : Int)) == -1) = false := by rw [beq_eq_false_iff_ne]; omega
        rw [this]; simp
theorem c_hd_len (l) (h : csl l = true) : (chd l).length + 1 + (ctl l).length = l.length := by
  have := congrArg List.length (c_cut_eq l)
  rw [h] at this; simp at this; omega
theorem c_hd_all (l) (h : csl l = false) : chd l = l := by
  have := c_cut_eq l
  rw [h] at this; simpa using this.symm
theorem c_tl_none : ∀ l, csl l = false → ctl l = []
  | [], _ => rfl
  | c :: l, h => by
    by_cases hc : c = 58
    · simp [csl, hc] at h
    · simp only [csl, hc, if_false] at h; simp only [ctl, hc, if_false]; exact c_tl_none l h
theorem c_hd_le (l) : (chd l).length ≤ l.length := by
  cases h : csl l
  · rw [c_hd_all l h]; exact Nat.le_refl _
  · have := c_hd_len l h; omega
theorem c_tl_le (l) : (ctl l).length ≤ l.length := by
  cases h : csl l
  · rw [c_tl_none l h]; simp
  · have := c_hd_len l h; omega
theorem c_hd_take (l) : chd l = l.take (chd l).length := (take_app (c_cut_eq l)).symm
theorem c_tl_drop (l) (h : csl l = true) : ctl l = l.drop ((chd l).length + 1) := by
  rw [← List.drop_drop, drop_app (c_cut_eq l), h]; rfl

/-- a label -/
structure Lb where
  pkg : List UInt8
  name : List UInt8
  deriving DecidableEq
def zl : Lb := ⟨[], []⟩
def okL (l : Lb) : Bool := okP l.pkg && okC l.name
def prt (l : Lb) : List UInt8 := 47 :: 47 :: (l.pkg ++ 58 :: l.name)
def chk (l : Lb) : Lb × Int := if okL l then (l, 0) else (zl, 10)
def prs (s : List UInt8) : Lb × Int := if [47, 47].isPrefixOf s then chk ⟨chd (s.drop 2), ctl (s.drop 2)⟩ else (zl, 10)
def inn (p s : List UInt8) : Lb × Int := if okP p then (if [58].isPrefixOf s then chk ⟨p, s.drop 1⟩ else prs s) else (zl, 7)
def cmpL (a b : Lb) : Int := if cmpP (pcs a.pkg) (pcs b.pkg) = 0 then Lib.compareBytes a.name b.name else cmpP (pcs a.pkg) (pcs b.pkg)
/-- whom a see word names -/
inductive Kd where
  | nobody
  | all
  | one (p : List UInt8)
  | tree (p : List UInt8)
  deriving DecidableEq
def pub : List UInt8 := [112, 117, 98, 108, 105, 99]
def dots : List UInt8 := [47, 46, 46, 46]
def adots : List UInt8 := [47, 47, 46, 46, 46]
def kin (s : List UInt8) : Kd :=
  if s = pub then .all else if s = adots then .tree [] else if s = 47 :: 47 :: dots then .nobody else
  if [47, 47].isPrefixOf s then (if dots.isSuffixOf (s.drop 2) then .tree ((s.drop 2).take ((s.drop 2).length - 4)) else .one (s.drop 2)) else .nobody
def Kd.top : Kd → List UInt8
  | .nobody => []
  | .all => []
  | .one p => p
  | .tree p => p
def rdk (s : List UInt8) : Kd := if okP (kin s).top then kin s else .nobody
def nms : Kd → List UInt8 → Bool
  | .nobody, _ => false
  | .all, _ => true
  | .one p, f => decide (f = p)
  | .tree p, f => decide (f = p) || abvV p f
def ser (s : List UInt8) : Bool := !decide (rdk s = .nobody)
def ses (see : List (List UInt8)) (own from_ : List UInt8) : Bool := decide (own = from_) || see.any fun s => nms (rdk s) from_
/-- the document's word -/
def wrd (s : List UInt8) : Int × List UInt8 :=
  if s = pub ∨ s = adots then (1, []) else
  if [47, 47].isPrefixOf s then (if okP (s.drop 2) then (2, s.drop 2) else
    if 4 < (s.drop 2).length ∧ (s.drop 2).drop ((s.drop 2).length - 4) = dots ∧ okP ((s.drop 2).take ((s.drop 2).length - 4)) = true then (3, (s.drop 2).take ((s.drop 2).length - 4)) else (0, []))
  else (0, [])

theorem okP_nil : okP [] = true := by decide
theorem okC_dots : okC [46, 46, 46] = false := by decide
theorem okB_colon : okB 58 = false := by decide
theorem suffix_iff (d p : List UInt8) : d.isSuffixOf p = true ↔ d.length ≤ p.length ∧ p.drop (p.length - d.length) = d := by
  rw [List.isSuffixOf_iff_suffix]
  constructor
  · rintro ⟨r, rfl⟩
    exact ⟨by simp, by simp⟩
  · rintro ⟨h1, h2⟩
    exact ⟨p.take (p.length - d.length), by conv => rhs; rw [← List.take_append_drop (p.length - d.length) p, h2]⟩
theorem okP_dots (x : List UInt8) : okP (x ++ dots) = false := by
  have h : pcs (x ++ dots) = sp x ++ [[46, 46, 46]] := by
    unfold pcs
    rw [if_neg (by simp [dots])]
    unfold dots
    rw [sp_append]
    rfl
  unfold okP
  rw [h]
  simp [okC_dots]
theorem abv_root (f : List UInt8) : (decide (f = []) || abvV [] f) = true := by
  by_cases h : f = []
  · simp [h]
  · have : abvV [] f = true := (abvV_iff [] f).2 ⟨pcs f, by rw [Ne, pcs_eq_nil]; exact h, by simp [pcs_nil]⟩
    simp [this]
/-- the document's word is the program's -/
theorem wrd_kin (s f : List UInt8) : (decide ((wrd s).1 = 1) || (decide (2 ≤ (wrd s).1) && decide ((wrd s).2 = f)) || (decide ((wrd s).1 = 3) && abvV (wrd s).2 f)) = nms (rdk s) f ∧ decide (0 < (wrd s).1) = ser s := by
  unfold wrd ser rdk kin
  by_cases h1 : s = pub
  · simp [h1, Kd.top, okP_nil, nms]
  by_cases h2 : s = adots
  · have h0 : adots ≠ pub := by decide
    subst h2
    simp only [or_true, if_true, h0, if_false, Kd.top, okP_nil, nms, abv_root]
    simp
  simp only [h1, h2, or_self, if_false]
  cases h3 : List.isPrefixOf [47, 47] s
  · by_cases h4 : s = 47 :: 47 :: dots
    · subst h4; simp [List.isPrefixOf] at h3
    · simp [h4, nms]
  have h3' : ∃ p, s = 47 :: 47 :: p := by
    obtain ⟨p, hp⟩ := List.isPrefixOf_iff_prefix.1 h3
    exact ⟨p, hp.symm⟩
  obtain ⟨p, rfl⟩ := h3'
  simp only [if_true, List.drop_succ_cons, List.drop_zero]
  by_cases h4 : p = dots
  · subst h4
    have hk : okP dots = false := okP_dots []
    simp only [hk, if_true, Bool.false_eq_true, if_false, nms]
    simp [dots]
  have h4' : ¬ (47 :: 47 :: p = 47 :: 47 :: dots) := by simpa using h4
  simp only [h4', if_false]
  cases h5 : List.isSuffixOf dots p
  · have h6 : ¬ (4 < p.length ∧ p.drop (p.length - 4) = dots ∧ okP (p.take (p.length - 4)) = true) := by
      rintro ⟨h6, h7, _⟩
      have : List.isSuffixOf dots p = true := (suffix_iff dots p).2 ⟨by show 4 ≤ _; omega, h7⟩
      rw [this] at h5; exact absurd h5 (by simp)
    simp only [h6, if_false, Bool.false_eq_true, Kd.top]
    cases hk : okP p
    · simp [nms]
    · simp only [if_true, nms]
      constructor
      · by_cases he : p = f
        · simp [he]
        · have : ¬ (f = p) := fun e => he e.symm
          simp [he, this]
      · simp
  · obtain ⟨h6, h7⟩ := (suffix_iff dots p).1 h5
    have h6' : 4 ≤ p.length := h6
    have h7' : p.drop (p.length - 4) = dots := h7
    obtain ⟨x, hx⟩ : ∃ x, x = p.take (p.length - 4) := ⟨_, rfl⟩
    have hp : p = x ++ dots := by rw [hx, ← h7', List.take_append_drop]
    have hk : okP p = false := by rw [hp]; exact okP_dots x
    have h8 : 4 < p.length := by
      rcases Nat.lt_or_ge 4 p.length with h | h
      · exact h
      · exfalso; apply h4
        have : p.length - 4 = 0 := by omega
        rw [this] at h7'; simpa using h7'
    simp only [hk, Bool.false_eq_true, if_false, if_true, h8, h7', true_and, ← hx, Kd.top]
    cases hkx : okP x
    · simp [nms]
    · simp only [if_true, nms]
      constructor
      · by_cases he : x = f
        · simp [he]
        · have : ¬ (f = x) := fun e => he e.symm
          simp [he, this]
      · simp
/-- no colon in a path -/
theorem sp_mem : ∀ (l : List UInt8) (c : UInt8), c ∈ l → c = 47 ∨ ∃ p ∈ sp l, c ∈ p
  | [], c, h => by cases h
  | d :: r, c, h => by
    have ih := sp_mem r c
    unfold sp
    by_cases hd : d = 47
    · rw [if_pos hd]
      rcases List.mem_cons.1 h with rfl | h
      · exact .inl hd
      · rcases ih h with h | ⟨p, hp, hc⟩
        · exact .inl h
        · exact .inr ⟨p, by simp [hp], hc⟩
    · rw [if_neg hd]
      cases hs : sp r with
      | nil => exact absurd hs (sp_ne r)
      | cons q qs =>
        rcases List.mem_cons.1 h with rfl | h
        · exact .inr ⟨c :: q, by simp, by simp⟩
        · rcases ih h with h | ⟨p, hp, hc⟩
          · exact .inl h
          · rw [hs] at hp
            rcases List.mem_cons.1 hp with rfl | hp
            · exact .inr ⟨d :: p, by simp, by simp [hc]⟩
            · exact .inr ⟨p, by simp [hp], hc⟩
theorem okC_colon {p : List UInt8} (h : okC p = true) : (58 : UInt8) ∉ p := by
  intro hc
  have : p.all okB = true := by unfold okC at h; simp only [Bool.and_eq_true] at h; exact h.2
  have := List.all_eq_true.1 this 58 hc
  rw [okB_colon] at this; cases this
theorem okP_colon {p : List UInt8} (h : okP p = true) : (58 : UInt8) ∉ p := by
  intro hc
  have hne : p ≠ [] := by rintro rfl; cases hc
  have ha := okP_all h
  unfold pcs at ha
  rw [if_neg hne] at ha
  rcases sp_mem p 58 hc with h1 | ⟨q, hq, hc⟩
  · exact absurd h1 (by decide)
  · exact okC_colon (List.all_eq_true.1 ha q hq) hc
theorem cut_colon : ∀ (p n : List UInt8), (58 : UInt8) ∉ p → chd (p ++ 58 :: n) = p ∧ ctl (p ++ 58 :: n) = n
  | [], n, _ => by simp [chd, ctl]
  | c :: r, n, h => by
    have hc : c ≠ 58 := fun e => h (by simp [e])
    have ih := cut_colon r n (fun e => h (by simp [e]))
    simp only [List.cons_append, chd, ctl, hc, if_false]
    exact ⟨by rw [ih.1], ih.2⟩
theorem prs_prt (l : Lb) : prs (prt l) = chk ⟨chd (l.pkg ++ 58 :: l.name), ctl (l.pkg ++ 58 :: l.name)⟩ := by
  unfold prs prt
  simp [List.isPrefixOf]
theorem back_law (l : Lb) : okL l = (decide ((prs (prt l)).2 = 0) && decide ((prs (prt l)).1 = l)) := by
  rw [prs_prt]
  cases h : okL l
  · unfold chk
    by_cases hk : okL ⟨chd (l.pkg ++ 58 :: l.name), ctl (l.pkg ++ 58 :: l.name)⟩ = true
    · rw [if_pos hk]
      by_cases he : (⟨chd (l.pkg ++ 58 :: l.name), ctl (l.pkg ++ 58 :: l.name)⟩ : Lb) = l
      · rw [he] at hk; rw [hk] at h; cases h
      · simp [he]
    · rw [if_neg hk]; simp
  · have h' := h
    unfold okL at h'
    simp only [Bool.and_eq_true] at h'
    obtain ⟨e1, e2⟩ := cut_colon l.pkg l.name (okP_colon h'.1)
    rw [e1, e2]
    unfold chk
    rw [if_pos h]
    simp
theorem prt_inj {a b : Lb} (ha : okL a = true) (hb : okL b = true) : prt a = prt b ↔ a = b := by
  constructor
  · intro h
    have h1 := back_law a
    have h2 := back_law b
    rw [ha] at h1; rw [hb, ← h] at h2
    have h1 := h1.symm; have h2 := h2.symm
    simp only [Bool.and_eq_true, decide_eq_true_eq] at h1 h2
    rw [← h1.2, h2.2]
  · rintro rfl; rfl
theorem cmpL_neg (a b : Lb) : cmpL b a = - cmpL a b := by
  unfold cmpL
  rw [cmpP_neg (pcs a.pkg) (pcs b.pkg), cb_neg a.name b.name]
  by_cases h : cmpP (pcs a.pkg) (pcs b.pkg) = 0
  · simp [h]
  · have : ¬ (- cmpP (pcs a.pkg) (pcs b.pkg) = 0) := by omega
    simp [h, this]
theorem cmpL_range (a b : Lb) : cmpL a b = -1 ∨ cmpL a b = 0 ∨ cmpL a b = 1 := by
  unfold cmpL
  split
  · exact cb_range _ _
  · exact cmpP_range _ _
theorem cmpL_zero (a b : Lb) : cmpL a b = 0 ↔ a = b := by
  unfold cmpL
  constructor
  · intro h
    split at h
    · rename_i h1
      have e1 := pcs_inj (cmpP_zero h1)
      have e2 := cb_zero h
      cases a; cases b; simp only at e1 e2; rw [e1, e2]
    · rename_i h1; exact absurd h h1
  · rintro rfl
    rw [if_pos (cmpP_refl _)]; exact cb_refl _
theorem cmpL_trans (a b c : Lb) (h1 : cmpL a b ≤ 0) (h2 : cmpL b c ≤ 0) : cmpL a c ≤ 0 := by
  unfold cmpL at h1 h2 ⊢
  by_cases e1 : cmpP (pcs a.pkg) (pcs b.pkg) = 0
  · rw [if_pos e1] at h1
    have p1 := cmpP_zero e1
    rw [p1]
    by_cases e2 : cmpP (pcs b.pkg) (pcs c.pkg) = 0
    · rw [if_pos e2] at h2 ⊢
      rcases cb_range a.name b.name with q | q | q
      · rcases cb_range b.name c.name with r | r | r
        · rw [cb_trans _ _ _ q r]; decide
        · rw [← cb_zero r, q]; decide
        · omega
      · rw [cb_zero q]; exact h2
      · omega
    · rw [if_neg e2] at h2 ⊢; exact h2
  · rw [if_neg e1] at h1
    have q1 : cmpP (pcs a.pkg) (pcs b.pkg) = -1 := by rcases cmpP_range (pcs a.pkg) (pcs b.pkg) with q | q | q <;> omega
    by_cases e2 : cmpP (pcs b.pkg) (pcs c.pkg) = 0
    · rw [← cmpP_zero e2, if_neg e1]; exact h1
    · rw [if_neg e2] at h2
      have q2 : cmpP (pcs b.pkg) (pcs c.pkg) = -1 := by rcases cmpP_range (pcs b.pkg) (pcs c.pkg) with q | q | q <;> omega
      have q3 := cmpP_trans _ _ _ q1 q2
      rw [if_neg (by rw [q3]; decide), q3]; decide
/-- what lies below, by its bytes -/
theorem abv_bytes (a c : List UInt8) (ha : a ≠ []) : abvV a c = true ↔ a.length < c.length ∧ c.take a.length = a ∧ c[a.length]? = some 47 := by
  rw [abvV_iff]
  have pa : pcs a = sp a := by unfold pcs; rw [if_neg ha]
  constructor
  · rintro ⟨r, hr, hc⟩
    have h1 : c = a ++ 47 :: join r := by
      have h0 := join_cut (pcs a ++ r) (pcs a).length (by rw [pa]; have := sp_ne a; cases h : sp a with | nil => exact absurd h this | cons => simp) (by
        cases r with
        | nil => exact absurd rfl hr
        | cons => simp)
      rw [← join_pcs c, hc, h0]
      simp [join_pcs]
    rw [h1]; simp
  · rintro ⟨h1, h2, h3⟩
    have hc : c = a ++ 47 :: c.drop (a.length + 1) := by
      conv => lhs; rw [← List.take_append_drop a.length c, h2]
      congr 1
      rw [List.drop_eq_getElem_cons h1]
      congr 1
      rw [List.getElem?_eq_getElem h1] at h3; exact Option.some.inj h3
    have hne : c ≠ [] := by rintro rfl; simp at h1
    refine ⟨sp (c.drop (a.length + 1)), sp_ne _, ?_⟩
    rw [pa]
    conv => lhs; rw [hc]
    unfold pcs
    rw [if_neg (by simp), sp_append]
end Go.Proofs.YtfdcfcalbongeaaGreat
