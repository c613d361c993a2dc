/-
  Rising lists by a key, and changes: plain lists.
-/
import Derived.Test.YtinhdjoidbcfaaaFil
import Derived.Test.YtinhdjoidbcfaaaSets
namespace Go.Proofs.Ytinhdjoidbcfaaa

section
variable {α : Type} (key : α → List UInt8)
/-- rising by the key -/
def RUp (l : List α) : Prop := l.Pairwise fun a b => cf (key a) (key b) < 0
/-- the first of a key -/
def lk : List α → List UInt8 → Option α
  | [], _ => none
  | x :: l, p => if key x = p then some x else lk l p
variable {key}
theorem lk_some {l : List α} {p : List UInt8} {x : α} (h : lk key l p = some x) : x ∈ l ∧ key x = p := by
  induction l with
  | nil => simp [lk] at h
  | cons y l ih =>
    simp only [lk] at h
    split at h
    · rename_i e; injection h with h; subst h; exact ⟨by simp, e⟩
    · have := ih h; exact ⟨by simp [this.1], this.2⟩
theorem lk_none {l : List α} {p : List UInt8} : lk key l p = none ↔ ∀ x ∈ l, key x ≠ p := by
  induction l with
  | nil => simp [lk]
  | cons y l ih =>
    simp only [lk, List.mem_cons, forall_eq_or_imp]
    split
    · rename_i e; simp [e]
    · rename_i e; rw [ih]; simp [e]
theorem lk_isSome {l : List α} {p : List UInt8} : (lk key l p).isSome = true ↔ ∃ x ∈ l, key x = p := by
  cases h : lk key l p with
  | none => simp only [Option.isSome_none, Bool.false_eq_true, false_iff]; rintro ⟨x, hx, e⟩; exact (lk_none.1 h) x hx e
  | some x => simp only [Option.isSome_some, true_iff]; have := lk_some h; exact ⟨x, this.1, this.2⟩
theorem lt_ne {a b : List UInt8} (h : cf a b < 0) : a ≠ b := by
  intro e; subst e; rw [cf_self] at h; omega
theorem RUp.tail {x : α} {l : List α} (h : RUp key (x :: l)) : RUp key l := (List.pairwise_cons.1 h).2
theorem RUp.head {x : α} {l : List α} (h : RUp key (x :: l)) {y : α} (hy : y ∈ l) : cf (key x) (key y) < 0 := (List.pairwise_cons.1 h).1 y hy
theorem lk_mem {l : List α} (h : RUp key l) {x : α} (hx : x ∈ l) : lk key l (key x) = some x := by
  induction l with
  | nil => simp at hx
  | cons y l ih =>
    simp only [lk]
    rcases List.mem_cons.1 hx with rfl | hx
    · simp
    · rw [if_neg (lt_ne (h.head hx))]; exact ih h.tail hx
theorem lk_under {x : α} {l : List α} (h : RUp key (x :: l)) {p : List UInt8} (hp : cf p (key x) < 0) : lk key (x :: l) p = none := by
  rw [lk_none]
  intro y hy e
  subst e
  rcases List.mem_cons.1 hy with rfl | hy
  · rw [cf_self] at hp; omega
  · have h1 := h.head hy
    have h2 := cf_trans hp h1
    rw [cf_self] at h2; omega
theorem lk_tail_self {x : α} {l : List α} (h : RUp key (x :: l)) : lk key l (key x) = none := by
  rw [lk_none]; intro y hy e; exact lt_ne (h.head hy) e.symm
theorem RUp.ext {l m : List α} (hl : RUp key l) (hm : RUp key m) (h : ∀ p, lk key l p = lk key m p) : l = m := by
  induction l generalizing m with
  | nil =>
    cases m with
    | nil => rfl
    | cons y m => have := h (key y); simp [lk] at this
  | cons x l ih =>
    cases m with
    | nil => have := h (key x); simp [lk] at this
    | cons y m =>
      have exy : key x = key y := by
        rcases cf_range (key x) (key y) with e | e | e
        · have h1 := h (key x)
          rw [lk_under hm (by omega)] at h1
          simp [lk] at h1
        · exact cf_zero.1 e
        · have h1 := h (key y)
          rw [lk_under hl (by rw [cf_neg]; omega)] at h1
          simp [lk] at h1
      have e := h (key x)
      simp only [lk] at e
      rw [if_pos trivial, if_pos exy.symm] at e
      injection e with e
      subst e
      congr 1
      refine ih hl.tail hm.tail fun p => ?_
      have h1 := h p
      simp only [lk] at h1
      by_cases hp : key x = p
      · subst hp
        rw [lk_tail_self hl, lk_tail_self hm]
      · rwa [if_neg hp, if_neg hp] at h1
theorem RUp.cons {x : α} {r : List α} (h : RUp key r) (hx : ∀ p, (lk key r p).isSome = true → cf (key x) p < 0) : RUp key (x :: r) :=
  List.pairwise_cons.2 ⟨fun y hy => hx _ (lk_isSome.2 ⟨y, hy, rfl⟩), h⟩
theorem RUp.keys {l : List α} (h : RUp key l) : Up (l.map key) := by
  induction l with
  | nil => exact List.Pairwise.nil
  | cons x l ih =>
    refine List.pairwise_cons.2 ⟨fun p hp => ?_, ih h.tail⟩
    obtain ⟨y, hy, rfl⟩ := List.mem_map.1 hp
    exact h.head hy
/-- what is picked path by path -/
theorem fm_up {l : List (List UInt8)} (h : Up l) {g : List UInt8 → Option α} (hg : ∀ p c, g p = some c → key c = p) : RUp key (l.filterMap g) ∧ ∀ p, lk key (l.filterMap g) p = if p ∈ l then g p else none := by
  induction l with
  | nil => exact ⟨List.Pairwise.nil, fun p => by simp [lk]⟩
  | cons q l ih =>
    obtain ⟨h1, h2⟩ := ih (List.pairwise_cons.1 h).2
    have hq := (List.pairwise_cons.1 h).1
    have hqn : q ∉ l := fun hm => by have := hq q hm; rw [cf_self] at this; omega
    cases e : g q with
    | none =>
      rw [List.filterMap_cons_none e]
      refine ⟨h1, fun p => ?_⟩
      rw [h2]
      by_cases hp : p = q
      · subst hp; simp [e]
      · simp [hp]
    | some c =>
      rw [List.filterMap_cons_some e]
      have hk := hg q c e
      refine ⟨h1.cons fun p hp => ?_, fun p => ?_⟩
      · rw [h2] at hp
        rw [hk]
        by_cases hm : p ∈ l
        · exact hq p hm
        · rw [if_neg hm] at hp; simp at hp
      · simp only [lk]
        rw [hk, h2]
        by_cases hp : q = p
        · subst hp; simp [e]
        · rw [if_neg hp]; simp [Ne.symm hp]
end

def zf : Fl := ⟨[], [], 0, 0⟩
/-- A change. -/
structure Ch where
  path : List UInt8
  had : Bool
  has : Bool
  old : Fl
  new : Fl
def ceq (a b : Ch) : Bool := a.path == b.path && a.had == b.had && a.has == b.has && feq a.old b.old && feq a.new b.new
theorem ceq_iff (a b : Ch) : ceq a b = true ↔ a = b := by
  obtain ⟨p, h1, h2, o, n⟩ := a
  obtain ⟨p', h1', h2', o', n'⟩ := b
  simp [ceq, and_assoc, feq_iff]
def lceq : List Ch → List Ch → Bool
  | [], [] => true
  | a :: l, b :: m => ceq a b && lceq l m
  | _, _ => false
theorem lceq_iff : ∀ (l m : List Ch), lceq l m = true ↔ l = m
  | [], [] => by simp [lceq]
  | [], _ :: _ => by simp [lceq]
  | _ :: _, [] => by simp [lceq]
  | a :: l, b :: m => by
    simp only [lceq, Bool.and_eq_true, ceq_iff, lceq_iff l m, List.cons.injEq]
def side (p : List UInt8) (b : Bool) (f : Fl) : Bool := if b then f.path == p else feq f zf
def may (c : Ch) : Bool := pathOk c.path && side c.path c.had c.old && side c.path c.has c.new && !feq c.old c.new
def rise : List Ch → Bool
  | a :: b :: r => decide (cf a.path b.path < 0) && rise (b :: r)
  | _ => true
def vd (d : List Ch) : Bool := d.all may && rise d

/-- what is there, if anything -/
def po (b : Bool) (f : Fl) : Option Fl := if b then some f else none
def ch (p : List UInt8) (x y : Option Fl) : Ch := ⟨p, x.isSome, y.isSome, x.getD zf, y.getD zf⟩
/-- a file at a path, or none -/
def at' (p : List UInt8) (x : Option Fl) : Prop := ∀ f, x = some f → f.path = p
theorem pathOk_ne {p : List UInt8} (h : pathOk p = true) : p ≠ [] := by
  rintro rfl; simp [pathOk] at h
theorem getD_inj {p : List UInt8} (hp : p ≠ []) {x y : Option Fl} (hx : at' p x) (hy : at' p y) : x.getD zf = y.getD zf ↔ x = y := by
  constructor
  · intro h
    cases x with
    | none =>
      cases y with
      | none => rfl
      | some g => simp only [Option.getD_none, Option.getD_some] at h; have := hy g rfl; rw [← h] at this; exact absurd this.symm hp
    | some f =>
      cases y with
      | none => simp only [Option.getD_none, Option.getD_some] at h; have := hx f rfl; rw [h] at this; exact absurd this.symm hp
      | some g => simp only [Option.getD_some] at h; rw [h]
  · rintro rfl; rfl
theorem side_po {p : List UInt8} {b : Bool} {f : Fl} (h : side p b f = true) : at' p (po b f) ∧ (po b f).isSome = b ∧ (po b f).getD zf = f := by
  cases b with
  | true =>
    simp only [side, if_true, beq_iff_eq] at h
    exact ⟨fun g e => by simp only [po, if_true] at e; injection e with e; rw [← e]; exact h, rfl, rfl⟩
  | false =>
    simp only [side, Bool.false_eq_true, if_false, feq_iff] at h
    exact ⟨fun g e => by simp [po] at e, rfl, by rw [h]; rfl⟩
theorem side_of {p : List UInt8} {x : Option Fl} (h : at' p x) : side p x.isSome (x.getD zf) = true := by
  cases x with
  | none => simp [side, feq_self]
  | some f => simp [side, h f rfl]
/-- a change that may be: two sides that part -/
theorem may_iff (c : Ch) : may c = true ↔ ∃ p x y, c = ch p x y ∧ pathOk p = true ∧ at' p x ∧ at' p y ∧ x ≠ y := by
  constructor
  · intro h
    simp only [may, Bool.and_eq_true, Bool.not_eq_true'] at h
    obtain ⟨⟨⟨h1, h2⟩, h3⟩, h4⟩ := h
    obtain ⟨a1, a2, a3⟩ := side_po h2
    obtain ⟨b1, b2, b3⟩ := side_po h3
    refine ⟨c.path, po c.had c.old, po c.has c.new, ?_, h1, a1, b1, fun e => ?_⟩
    · obtain ⟨p, u, v, o, n⟩ := c
      simp only [ch, a2, a3, b2, b3]
    · have e2 : c.old = c.new := by rw [← a3, ← b3, e]
      rw [(feq_iff _ _).2 e2] at h4; simp at h4
  · rintro ⟨p, x, y, rfl, h1, h2, h3, h4⟩
    simp only [may, ch, Bool.and_eq_true, Bool.not_eq_true']
    refine ⟨⟨⟨h1, side_of h2⟩, side_of h3⟩, ?_⟩
    cases e : feq (x.getD zf) (y.getD zf) with
    | false => rfl
    | true => exact absurd ((getD_inj (pathOk_ne h1) h2 h3).1 ((feq_iff _ _).1 e)) h4
theorem rise_up : ∀ (d : List Ch), rise d = true ↔ RUp Ch.path d
  | [] => by simp [rise, RUp]
  | [a] => by simp [rise, RUp]
  | a :: b :: r => by
    simp only [rise, Bool.and_eq_true, decide_eq_true_eq]
    rw [rise_up (b :: r)]
    constructor
    · rintro ⟨h1, h2⟩
      refine List.pairwise_cons.2 ⟨fun y hy => ?_, h2⟩
      rcases List.mem_cons.1 hy with rfl | hy
      · exact h1
      · exact cf_trans h1 (h2.head hy)
    · intro h; exact ⟨h.head (by simp), h.tail⟩
structure Dl (d : List Ch) : Prop where
  each : ∀ c ∈ d, may c = true
  up : RUp Ch.path d
theorem vd_iff (d : List Ch) : vd d = true ↔ Dl d := by
  unfold vd
  rw [Bool.and_eq_true, List.all_eq_true, rise_up]
  exact ⟨fun h => ⟨h.1, h.2⟩, fun h => ⟨h.each, h.up⟩⟩
theorem Dl.tail {c : Ch} {d : List Ch} (h : Dl (c :: d)) : Dl d := ⟨fun x hx => h.each x (by simp [hx]), h.up.tail⟩
theorem Dl.at {d : List Ch} (h : Dl d) {p : List UInt8} {c : Ch} (e : lk Ch.path d p = some c) : ∃ x y, c = ch p x y ∧ pathOk p = true ∧ at' p x ∧ at' p y ∧ x ≠ y := by
  obtain ⟨h1, h2⟩ := lk_some e
  obtain ⟨q, x, y, rfl, hp⟩ := (may_iff c).1 (h.each c h1)
  have : q = p := h2
  subst this
  exact ⟨x, y, rfl, hp⟩

/-! files that stand -/
theorem chain_up : ∀ (l : List Fl), chain l = true → RUp Fl.path l
  | [], _ => List.Pairwise.nil
  | [a], _ => by simp [RUp]
  | a :: b :: r, h => by
    simp only [chain, Bool.and_eq_true] at h
    have h2 := chain_up (b :: r) h.2
    have h1 : cf a.path b.path < 0 := by
      have := h.1
      simp only [fol, Bool.and_eq_true, decide_eq_true_eq] at this
      exact this.1
    refine List.pairwise_cons.2 ⟨fun y hy => ?_, h2⟩
    rcases List.mem_cons.1 hy with rfl | hy
    · exact h1
    · exact cf_trans h1 (h2.head hy)
theorem stand_up {l : List Fl} (h : stand l = true) : RUp Fl.path l := by
  unfold stand at h
  simp only [Bool.and_eq_true] at h
  exact chain_up l h.2
theorem stand_len {l : List Fl} (h : stand l = true) : l.length ≤ 512 := by
  unfold stand at h
  simp only [Bool.and_eq_true, decide_eq_true_eq] at h
  exact h.1.1
theorem stand_ok {l : List Fl} (h : stand l = true) {f : Fl} (hf : f ∈ l) : pathOk f.path = true := ((fileE_zero f).1 (stand_all h f hf)).1
theorem lk_at {l : List Fl} {p : List UInt8} : at' p (lk Fl.path l p) := fun _ e => (lk_some e).2
theorem lk_ok {l : List Fl} (h : stand l = true) {p : List UInt8} {f : Fl} (e : lk Fl.path l p = some f) : pathOk p = true := by
  obtain ⟨h1, h2⟩ := lk_some e
  rw [← h2]; exact stand_ok h h1

/-! turned back, from nothing -/
def cv (c : Ch) : Ch := ⟨c.path, c.has, c.had, c.new, c.old⟩
def inv (d : List Ch) : List Ch := d.map cv
def frm (l : List Fl) : List Ch := l.map fun f => ⟨f.path, false, true, zf, f⟩
theorem inv_inv (d : List Ch) : inv (inv d) = d := by
  induction d with
  | nil => rfl
  | cons c d ih => simp only [inv, List.map_cons] at ih ⊢; rw [ih]; rfl
theorem cv_ch (p : List UInt8) (x y : Option Fl) : cv (ch p x y) = ch p y x := rfl
theorem may_cv {c : Ch} (h : may c = true) : may (cv c) = true := by
  obtain ⟨p, x, y, rfl, h1, h2, h3, h4⟩ := (may_iff c).1 h
  exact (may_iff _).2 ⟨p, y, x, rfl, h1, h3, h2, h4.symm⟩
theorem lk_inv (d : List Ch) (p : List UInt8) : lk Ch.path (inv d) p = (lk Ch.path d p).map cv := by
  induction d with
  | nil => rfl
  | cons c d ih =>
    simp only [inv, List.map_cons] at ih ⊢
    simp only [lk]
    rw [ih]
    show (if c.path = p then _ else _) = _
    split <;> rfl
theorem Dl.inv {d : List Ch} (h : Dl d) : Dl (inv d) := by
  refine ⟨fun c hc => ?_, ?_⟩
  · obtain ⟨c', hc', rfl⟩ := List.mem_map.1 hc
    exact may_cv (h.each c' hc')
  · exact List.pairwise_map.2 h.up
theorem lk_frm (l : List Fl) (p : List UInt8) : lk Ch.path (frm l) p = (lk Fl.path l p).map fun f => ch p none (some f) := by
  induction l with
  | nil => rfl
  | cons f l ih =>
    simp only [frm, List.map_cons] at ih ⊢
    simp only [lk]
    rw [ih]
    split
    · rename_i e; subst e; rfl
    · rfl
theorem frm_dl {l : List Fl} (h : stand l = true) : Dl (frm l) := by
  refine ⟨fun c hc => ?_, ?_⟩
  · obtain ⟨f, hf, rfl⟩ := List.mem_map.1 hc
    exact (may_iff _).2 ⟨f.path, none, some f, rfl, stand_ok h hf, fun g e => by simp at e, fun g e => by injection e with e; rw [e], by simp⟩
  · exact List.pairwise_map.2 (stand_up h)

/-! one behind the other -/
def oeq : Option Fl → Option Fl → Bool
  | none, none => true
  | some a, some b => feq a b
  | _, _ => false
theorem oeq_iff (x y : Option Fl) : oeq x y = true ↔ x = y := by
  cases x <;> cases y <;> simp [oeq, feq_iff]
theorem oeq_self (x : Option Fl) : oeq x x = true := (oeq_iff x x).2 rfl
theorem oeq_not {x y : Option Fl} (h : x ≠ y) : oeq x y = false := by
  cases e : oeq x y with
  | false => rfl
  | true => exact absurd ((oeq_iff x y).1 e) h
theorem feq_getD {p : List UInt8} (hp : p ≠ []) {x y : Option Fl} (hx : at' p x) (hy : at' p y) : feq (x.getD zf) (y.getD zf) = oeq x y := by
  rw [Bool.eq_iff_iff, feq_iff, oeq_iff]; exact getD_inj hp hx hy
def fo (c e : Ch) : Option Ch := if c.has == e.had && feq c.new e.old then some ⟨c.path, c.had, e.has, c.old, e.new⟩ else none
theorem fo_ch {p : List UInt8} (hp : p ≠ []) {x y y' z : Option Fl} (h : at' p y) (h' : at' p y') : fo (ch p x y) (ch p y' z) = if oeq y y' then some (ch p x z) else none := by
  have e0 : (y.isSome == y'.isSome && feq (y.getD zf) (y'.getD zf)) = oeq y y' := by
    rw [feq_getD hp h h']
    by_cases e : y = y'
    · subst e; rw [oeq_self]; simp
    · rw [oeq_not e]; simp
  show (if (y.isSome == y'.isSome && feq (y.getD zf) (y'.getD zf)) = true then some (ch p x z) else none) = _
  rw [e0]
/-- what parts two files at a path -/
def dlt (p : List UInt8) (x y : Option Fl) : Option Ch := if oeq x y then none else some (ch p x y)
def cb : Option Ch → Option Ch → Option Ch
  | none, y => y
  | some x, none => some x
  | some x, some y => (fo x y).bind fun c => if feq c.old c.new then none else some c
theorem cb_none (x : Option Ch) : cb x none = x := by cases x <;> rfl
def mrg : List Ch → List Ch → Option (List Ch)
  | [], e => some e
  | x :: d, [] => some (x :: d)
  | x :: d, y :: e =>
    if cf x.path y.path < 0 then (mrg d (y :: e)).map (x :: ·)
    else if 0 < cf x.path y.path then (mrg (x :: d) e).map (y :: ·)
    else (fo x y).bind fun c => (mrg d e).map fun r => if feq c.old c.new then r else c :: r
termination_by d e => d.length + e.length
theorem mrg_nil (e : List Ch) : mrg [] e = some e := by simp [mrg]
theorem mrg_nil' (d : List Ch) : mrg d [] = some d := by cases d <;> simp [mrg]
theorem mrg_lt {x y : Ch} (d e : List Ch) (h : cf x.path y.path < 0) : mrg (x :: d) (y :: e) = (mrg d (y :: e)).map (x :: ·) := by rw [mrg, if_pos h]
theorem mrg_gt {x y : Ch} (d e : List Ch) (h : 0 < cf x.path y.path) : mrg (x :: d) (y :: e) = (mrg (x :: d) e).map (y :: ·) := by rw [mrg, if_neg (by omega), if_pos h]
theorem mrg_eq {x y : Ch} (d e : List Ch) (h : cf x.path y.path = 0) : mrg (x :: d) (y :: e) = (fo x y).bind fun c => (mrg d e).map fun r => if feq c.old c.new then r else c :: r := by rw [mrg, if_neg (by omega), if_neg (by omega)]
theorem fo_may {x y c : Ch} (hx : may x = true) (hy : may y = true) (e : x.path = y.path) (h : fo x y = some c) (hc : feq c.old c.new = false) : may c = true ∧ c.path = x.path := by
  obtain ⟨p, a, b, rfl, h1, h2, h3, h4⟩ := (may_iff x).1 hx
  obtain ⟨q, a', b', rfl, k1, k2, k3, k4⟩ := (may_iff y).1 hy
  have e' : p = q := e
  subst e'
  rw [fo_ch (pathOk_ne h1) h3 k2] at h
  split at h
  · injection h with h
    subst h
    refine ⟨(may_iff _).2 ⟨p, a, b', rfl, h1, h2, k3, fun e => ?_⟩, rfl⟩
    subst e
    simp [ch, feq_self] at hc
  · simp at h
theorem mrg_spec : ∀ (n : Nat) (d e : List Ch), d.length + e.length ≤ n → Dl d → Dl e →
    match mrg d e with
    | none => ∃ p x y, lk Ch.path d p = some x ∧ lk Ch.path e p = some y ∧ fo x y = none
    | some r => Dl r ∧ (∀ p, lk Ch.path r p = cb (lk Ch.path d p) (lk Ch.path e p)) ∧ (∀ p x y, lk Ch.path d p = some x → lk Ch.path e p = some y → fo x y ≠ none) := by
  intro n
  induction n with
  | zero =>
    intro d e hn hd he
    have h1 : d = [] := List.eq_nil_of_length_eq_zero (by omega)
    have h2 : e = [] := List.eq_nil_of_length_eq_zero (by omega)
    subst h1 h2
    rw [mrg_nil]
    exact ⟨he, fun p => rfl, fun p x y hx => by simp [lk] at hx⟩
  | succ n ih =>
    intro d e hn hd he
    cases d with
    | nil => rw [mrg_nil]; exact ⟨he, fun p => rfl, fun p x y hx => by simp [lk] at hx⟩
    | cons x d =>
      cases e with
      | nil => rw [mrg_nil']; exact ⟨hd, fun p => by simp only [lk]; rw [cb_none], fun p x y _ hy => by simp [lk] at hy⟩
      | cons y e =>
        simp only [List.length_cons] at hn
        rcases cf_range x.path y.path with hc | hc | hc
        · rw [mrg_lt d e (by omega)]
          have h := ih d (y :: e) (by simp only [List.length_cons]; omega) hd.tail he
          have hno : ∀ p, x.path = p → lk Ch.path (y :: e) p = none := fun p hp => by subst hp; exact lk_under he.up (by omega)
          cases hm : mrg d (y :: e) with
          | none =>
            rw [hm] at h
            obtain ⟨p, a, b, h1, h2, h3⟩ := h
            refine ⟨p, a, b, ?_, h2, h3⟩
            simp only [lk]
            rw [if_neg, h1]
            intro hp; rw [hno p hp] at h2; simp at h2
          | some r =>
            rw [hm] at h
            obtain ⟨h1, h2, h3⟩ := h
            refine ⟨⟨?_, ?_⟩, ?_, ?_⟩
            · intro c hc'
              rcases List.mem_cons.1 hc' with rfl | hc'
              · exact hd.each _ (by simp)
              · exact h1.each c hc'
            · refine h1.up.cons fun p hp => ?_
              rw [h2] at hp
              cases e1 : lk Ch.path d p with
              | some a => obtain ⟨k1, k2⟩ := lk_some e1; rw [← k2]; exact hd.up.head k1
              | none =>
                rw [e1] at hp
                simp only [cb] at hp
                obtain ⟨b, hb, rfl⟩ := lk_isSome.1 hp
                rcases List.mem_cons.1 hb with rfl | hb
                · omega
                · exact cf_trans (by omega) (he.up.head hb)
            · intro p
              show (if x.path = p then some x else lk Ch.path r p) = cb (if x.path = p then some x else lk Ch.path d p) _
              by_cases hp : x.path = p
              · rw [if_pos hp, if_pos hp, hno p hp]; rfl
              · rw [if_neg hp, if_neg hp]; exact h2 p
            · intro p a b ha hb
              simp only [lk] at ha
              by_cases hp : x.path = p
              · rw [hno p hp] at hb; simp at hb
              · rw [if_neg hp] at ha; exact h3 p a b ha hb
        · rw [mrg_eq d e hc]
          have hp : x.path = y.path := cf_zero.1 hc
          cases hf : fo x y with
          | none => exact ⟨x.path, x, y, by simp [lk], by simp [lk, hp], hf⟩
          | some c =>
            have h := ih d e (by omega) hd.tail he.tail
            cases hm : mrg d e with
            | none =>
              rw [hm] at h
              obtain ⟨p, a, b, h1, h2, h3⟩ := h
              refine ⟨p, a, b, ?_, ?_, h3⟩
              · simp only [lk]; rw [if_neg, h1]; intro q; subst q; rw [lk_tail_self hd.up] at h1; simp at h1
              · simp only [lk]; rw [if_neg, h2]; intro q; subst q; rw [lk_tail_self he.up] at h2; simp at h2
            | some r =>
              rw [hm] at h
              obtain ⟨h1, h2, h3⟩ := h
              have hr : ∀ p, (lk Ch.path r p).isSome = true → cf x.path p < 0 := fun p hp' => by
                rw [h2] at hp'
                cases e1 : lk Ch.path d p with
                | some a => obtain ⟨k1, k2⟩ := lk_some e1; rw [← k2]; exact hd.up.head k1
                | none =>
                  rw [e1] at hp'
                  simp only [cb] at hp'
                  obtain ⟨b, hb, rfl⟩ := lk_isSome.1 hp'
                  rw [hp]; exact he.up.head hb
              have hcom : ∀ p a b, lk Ch.path (x :: d) p = some a → lk Ch.path (y :: e) p = some b → fo a b ≠ none := by
                intro p a b ha hb
                simp only [lk] at ha hb
                by_cases hq : x.path = p
                · rw [if_pos hq] at ha
                  rw [if_pos (by rw [← hp]; exact hq)] at hb
                  injection ha with ha; injection hb with hb
                  subst ha hb; rw [hf]; simp
                · rw [if_neg hq] at ha
                  rw [if_neg (by rw [← hp]; exact hq)] at hb
                  exact h3 p a b ha hb
              cases hz : feq c.old c.new with
              | true =>
                simp only [Option.bind_some, Option.map_some, hz, if_true]
                refine ⟨h1, fun p => ?_, hcom⟩
                simp only [lk]
                by_cases hq : x.path = p
                · rw [if_pos hq, if_pos (by rw [← hp]; exact hq)]
                  simp only [cb, hf, Option.bind_some, hz, if_true]
                  cases e1 : lk Ch.path r p with
                  | none => rfl
                  | some a => have := hr p (by rw [e1]; rfl); rw [hq, cf_self] at this; omega
                · rw [if_neg hq, if_neg (by rw [← hp]; exact hq)]; exact h2 p
              | false =>
                simp only [Option.bind_some, Option.map_some, hz, Bool.false_eq_true, if_false]
                obtain ⟨m1, m2⟩ := fo_may (hd.each x (by simp)) (he.each y (by simp)) hp hf hz
                refine ⟨⟨fun z hz' => ?_, h1.up.cons fun p hp' => ?_⟩, fun p => ?_, hcom⟩
                · rcases List.mem_cons.1 hz' with rfl | hz'
                  · exact m1
                  · exact h1.each z hz'
                · rw [m2]; exact hr p hp'
                · simp only [lk]
                  rw [m2]
                  by_cases hq : x.path = p
                  · rw [if_pos hq, if_pos hq, if_pos (by rw [← hp]; exact hq)]
                    simp only [cb, hf, Option.bind_some, hz, Bool.false_eq_true, if_false]
                  · rw [if_neg hq, if_neg hq, if_neg (by rw [← hp]; exact hq)]; exact h2 p
        · rw [mrg_gt d e (by omega)]
          have h := ih (x :: d) e (by simp only [List.length_cons]; omega) hd he.tail
          have hno : ∀ p, y.path = p → lk Ch.path (x :: d) p = none := fun p hp => by subst hp; exact lk_under hd.up (by rw [cf_neg]; omega)
          cases hm : mrg (x :: d) e with
          | none =>
            rw [hm] at h
            obtain ⟨p, a, b, h1, h2, h3⟩ := h
            refine ⟨p, a, b, h1, ?_, h3⟩
            simp only [lk]
            rw [if_neg, h2]
            intro hp; rw [hno p hp] at h1; simp at h1
          | some r =>
            rw [hm] at h
            obtain ⟨h1, h2, h3⟩ := h
            refine ⟨⟨?_, ?_⟩, ?_, ?_⟩
            · intro c hc'
              rcases List.mem_cons.1 hc' with rfl | hc'
              · exact he.each _ (by simp)
              · exact h1.each c hc'
            · refine h1.up.cons fun p hp => ?_
              rw [h2] at hp
              cases e1 : lk Ch.path (x :: d) p with
              | some a =>
                obtain ⟨k1, k2⟩ := lk_some e1
                rw [← k2]
                have hyx : cf y.path x.path < 0 := by rw [cf_neg]; omega
                rcases List.mem_cons.1 k1 with rfl | k1
                · exact hyx
                · exact cf_trans hyx (hd.up.head k1)
              | none =>
                rw [e1] at hp
                simp only [cb] at hp
                obtain ⟨b, hb, rfl⟩ := lk_isSome.1 hp
                exact he.up.head hb
            · intro p
              show (if y.path = p then some y else lk Ch.path r p) = cb _ (if y.path = p then some y else lk Ch.path e p)
              by_cases hp : y.path = p
              · rw [if_pos hp, if_pos hp, hno p hp]; rfl
              · rw [if_neg hp, if_neg hp]; exact h2 p
            · intro p a b ha hb
              have hb' : (if y.path = p then some y else lk Ch.path e p) = some b := hb
              by_cases hp : y.path = p
              · rw [hno p hp] at ha; simp at ha
              · rw [if_neg hp] at hb'; exact h3 p a b ha hb'
theorem mrg_some {d e r : List Ch} (hd : Dl d) (he : Dl e) (h : mrg d e = some r) : Dl r ∧ (∀ p, lk Ch.path r p = cb (lk Ch.path d p) (lk Ch.path e p)) := by
  have := mrg_spec _ d e (Nat.le_refl _) hd he
  rw [h] at this; exact ⟨this.1, this.2.1⟩
theorem mrg_ok {d e : List Ch} (hd : Dl d) (he : Dl e) (h : ∀ p x y, lk Ch.path d p = some x → lk Ch.path e p = some y → fo x y ≠ none) : ∃ r, mrg d e = some r ∧ Dl r ∧ ∀ p, lk Ch.path r p = cb (lk Ch.path d p) (lk Ch.path e p) := by
  have := mrg_spec _ d e (Nat.le_refl _) hd he
  cases hm : mrg d e with
  | none => rw [hm] at this; obtain ⟨p, x, y, h1, h2, h3⟩ := this; exact absurd h3 (h p x y h1 h2)
  | some r => rw [hm] at this; exact ⟨r, rfl, this.1, this.2.1⟩
theorem mrg_len : ∀ (n : Nat) (d e r : List Ch), d.length + e.length ≤ n → mrg d e = some r → r.length ≤ d.length + e.length := by
  intro n
  induction n with
  | zero =>
    intro d e r hn h
    have h1 : d = [] := List.eq_nil_of_length_eq_zero (by omega)
    subst h1
    rw [mrg_nil] at h; injection h with h; subst h; simp
  | succ n ih =>
    intro d e r hn h
    cases d with
    | nil => rw [mrg_nil] at h; injection h with h; subst h; simp
    | cons x d =>
      cases e with
      | nil => rw [mrg_nil'] at h; injection h with h; subst h; simp
      | cons y e =>
        simp only [List.length_cons] at hn ⊢
        rcases cf_range x.path y.path with hc | hc | hc
        · rw [mrg_lt d e (by omega)] at h
          obtain ⟨r', h1, rfl⟩ := Option.map_eq_some_iff.1 h
          have := ih d (y :: e) r' (by simp only [List.length_cons]; omega) h1
          simp only [List.length_cons] at this ⊢; omega
        · rw [mrg_eq d e hc] at h
          obtain ⟨c, _, h⟩ := Option.bind_eq_some_iff.1 h
          obtain ⟨r', h1, rfl⟩ := Option.map_eq_some_iff.1 h
          have := ih d e r' (by omega) h1
          split
          · omega
          · simp only [List.length_cons]; omega
        · rw [mrg_gt d e (by omega)] at h
          obtain ⟨r', h1, rfl⟩ := Option.map_eq_some_iff.1 h
          have := ih (x :: d) e r' (by simp only [List.length_cons]; omega) h1
          simp only [List.length_cons] at this ⊢; omega
end Go.Proofs.Ytinhdjoidbcfaaa
