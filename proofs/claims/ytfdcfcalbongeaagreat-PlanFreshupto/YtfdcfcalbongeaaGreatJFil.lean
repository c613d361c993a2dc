/-
  Pieces, directories, joins: plain lists.
  Files and their texts: plain lists.
-/
import Derived.Test.YtfdcfcalbongeaaGreatPath
import Derived.Test.YtfdcfcalbongeaaGreatBase
import Derived.Test.YtfdcfcalbongeaaGreatSets
import Derived.Test.YtfdcfcalbongeaaGreatJOrd
namespace Go.Proofs.YtfdcfcalbongeaaGreat
open Go.RowKit

theorem Own.only {S : List Nat} {base : Nat} {w w' : World} {v : Value} {l : List (List UInt8)} (h : Own base w v l) (ho : Only S w w') (hn : ∀ k, v.ownBlock = some k → k ∉ S) : Own base w' v l := by
  refine ⟨h.1, ?_⟩
  rcases h.2 with ⟨rfl, h0⟩ | ⟨g, cap, cur, rfl, hb, hg, hr⟩
  · exact .inl ⟨rfl, h0⟩
  · exact .inr ⟨g, cap, cur, rfl, hb, by rw [ho.block g (Array.getElem?_eq_some_iff.1 hg).1 (hn g rfl)]; exact hg, hr⟩
theorem Own.later {base : Nat} {w w' : World} {v : Value} {l : List (List UInt8)} (h : Own base w v l) (hb : Below w.heap.size w w') : Own base w' v l :=
  h.only (Only.of_below hb []) (by simp)
theorem Own.lt {base : Nat} {w : World} {v : Value} {l : List (List UInt8)} (h : Own base w v l) {k : Nat} (hk : v.ownBlock = some k) : base ≤ k ∧ k < w.heap.size := World.ownsRow.lt h k hk

theorem cell_one_str (w : World) (u : Value) (k : TypeId) : ∀ j x, [u][j]? = some x → (w.alloc (.cells #[u] k)).cell? ((⟨w.heap.size, 0, none⟩ : Addr).add j) = some x := by
  intro j x hx
  cases j with
  | zero => simp at hx; subst hx; rw [add_lit]; simp
  | succ j => simp at hx
theorem src_one (w : World) (p : List UInt8) : Src Tryz.prog 1 26 (.slice (some ⟨w.heap.size, 0, none⟩) 1 1) [p].length (sc [p]) (w.alloc (.cells #[.string (bs p)] 9)) :=
  Src.ofSlice _ und50 ⟨w.heap.size, 0, none⟩ 1 1 (sc [p]) (by simp [sc]) (cell_one_str w _ 9) (sc_one _)

/-- append of one text onto texts of the call's own -/
theorem app_one {w : World} {base : Nat} {v : Value} {l : List (List UInt8)} (p : List UInt8) (hown : Own base w v l) (hb : l.length + 1 ≤ 8796093022208) (hbase : base ≤ w.heap.size)
    {ops : Array Oper} {rest : List Oper} {o : Oper} {a : Act} {Q : Exit → Act → World → Prop} (hgd : o.guard = none) (s y : Operand)
    (ho : o.op = .call { callee := .builtin .append, args := #[s, y], argTypes := #[26, 26] }) (hv : a.eval s = v) (hx : a.eval y = .slice (some ⟨w.heap.size, 0, none⟩) 1 1)
    (h : ∀ v' w', Own base w' v' (l ++ [p]) → Below base w w' → base ≤ w'.heap.size → w.grownBy w' v.ownBlock → (v'.ownBlock = v.ownBlock ∨ v'.ownBlock = some (w.heap.size + 1)) → wpList Tryz.prog ops Q rest (a.put o.dst v') w') :
    wpList Tryz.prog ops Q (o :: rest) a (w.alloc (.cells #[.string (bs p)] 9)) := by
  refine app_strs (base := base) (l := l) (k := [p]) (World.ownsRow.alloc hown _) (src_one w p) (by simpa using hb) (by simp; omega) hgd s y ho hv hx ?_
  intro v' w' h1 h2 h3
  have hlt := World.ownsRow.lt hown
  have hB : Below base w w' := ((Below.refl _ _).alloc hbase _).grown h2 (by simp; omega) (fun k hk => (hlt k hk).1)
  refine h v' w' h1 hB (Nat.le_trans hbase hB.size) ((World.grownBy_alloc w _ _).trans h2) (by simpa using h3)

theorem SS.form {w : World} {v : Value} {L : List (List UInt8)} (h : SS w v L) : ∃ a c, v = .slice a L.length c ∧ (∀ k, (hk : k < L.length) → ∃ b off, a = some ⟨b, off, none⟩ ∧ b < w.heap.size ∧ w.cell? ⟨b, off + k, none⟩ = some (.string (bs L[k]))) := by
  rcases h with ⟨⟨a, c, rfl⟩, rfl⟩ | ⟨b, off, cap, rfl, hc, hlt, hcell⟩
  · exact ⟨a, c, rfl, fun k hk => by simp at hk⟩
  · exact ⟨_, _, rfl, fun k hk => ⟨b, off, rfl, hlt, hcell k _ (by simp [sc_get, hk])⟩⟩

theorem drop_same {α : Type} [DecidableEq α] {A B : List α} {k : Nat} (ha : k < A.length) (hb : k < B.length) : decide (A.drop k = B.drop k) = (decide (A[k] = B[k]) && decide (A.drop (k + 1) = B.drop (k + 1))) := by
  have e1 := List.drop_eq_getElem_cons ha
  have e2 := List.drop_eq_getElem_cons hb
  rw [Bool.eq_iff_iff]
  simp only [Bool.and_eq_true, decide_eq_true_eq]
  rw [e1, e2, List.cons.injEq]

/-- a list of texts that a machine has -/
structure Sm (l : List (List UInt8)) : Prop where
  len : l.length ≤ 4000000
  each : ∀ x ∈ l, x.length ≤ 1000000000
theorem Sm.norm {l : List (List UInt8)} (h : Sm l) : Sm (norm l) := ⟨Nat.le_trans (norm_len l) h.len, fun x hx => h.each x ((mem_norm x l).1 hx)⟩
theorem Sm.at {l : List (List UInt8)} (h : Sm l) {k : Nat} (hk : k < l.length) : (l[k]'hk).length ≤ 1000000000 := h.each _ (List.getElem_mem _)
theorem bstep {a b c : World} (h : Below a.heap.size a b) (k : Below b.heap.size b c) : Below a.heap.size a c := below_trans h (below_mono k h.size)
theorem Laid.below' {w w' : World} (h : Laid w w') : Below w.heap.size w w' := h.below

end Go.Proofs.YtfdcfcalbongeaaGreat

namespace Go.Proofs.YtfdcfcalbongeaaGreat

theorem sp_append : ∀ (a b : List UInt8), sp (a ++ 47 :: b) = sp a ++ sp b
  | [], b => by simp [sp]
  | c :: a, b => by
    have ih := sp_append a b
    rw [List.cons_append]
    by_cases h : c = 47
    · rw [sp.eq_2, if_pos h, ih, sp.eq_2 c a, if_pos h]; rfl
    · rw [sp.eq_2, if_neg h, ih, sp.eq_2 c a, if_neg h]
      cases hs : sp a with
      | nil => exact absurd hs (sp_ne a)
      | cons p ps => rfl
theorem pcs_append (a b : List UInt8) (ha : a ≠ []) (hb : b ≠ []) : pcs (a ++ 47 :: b) = pcs a ++ pcs b := by
  unfold pcs
  rw [if_neg (by simp), if_neg ha, if_neg hb, sp_append]
theorem sp_noslash : ∀ (l : List UInt8), ∀ p ∈ sp l, (47 : UInt8) ∉ p
  | [], p, hp => by simp [sp] at hp; subst hp; simp
  | c :: l, p, hp => by
    have ih := sp_noslash l
    rw [sp.eq_2] at hp
    by_cases h : c = 47
    · rw [if_pos h] at hp
      rcases List.mem_cons.1 hp with rfl | hp
      · simp
      · exact ih p hp
    · rw [if_neg h] at hp
      cases hs : sp l with
      | nil => exact absurd hs (sp_ne l)
      | cons q qs =>
        rw [hs] at hp ih
        rcases List.mem_cons.1 hp with rfl | hp
        · intro hm
          rcases List.mem_cons.1 hm with e | hm
          · exact h e.symm
          · exact ih q (List.mem_cons_self ..) hm
        · exact ih p (List.mem_cons_of_mem _ hp)
theorem pcs_noslash (l : List UInt8) : ∀ p ∈ pcs l, (47 : UInt8) ∉ p := by
  intro p hp
  unfold pcs at hp
  split at hp
  · simp at hp
  · exact sp_noslash l p hp
theorem sp_one : ∀ (p : List UInt8), (47 : UInt8) ∉ p → sp p = [p]
  | [], _ => rfl
  | c :: p, h => by
    have hc : c ≠ 47 := fun e => h (by simp [e])
    rw [sp.eq_2, if_neg hc, sp_one p (fun e => h (List.mem_cons_of_mem _ e))]
theorem sp_join : ∀ (X : List (List UInt8)), X ≠ [] → (∀ p ∈ X, (47 : UInt8) ∉ p) → sp (join X) = X
  | [], h, _ => absurd rfl h
  | [p], _, h => by simp only [join]; exact sp_one p (h p (by simp))
  | p :: q :: r, _, h => by
    have ih := sp_join (q :: r) (by simp) (fun x hx => h x (List.mem_cons_of_mem _ hx))
    rw [join_cons p _ (by simp), sp_append, ih, sp_one p (h p (by simp))]
    rfl
theorem pcs_join (X : List (List UInt8)) (h : ∀ p ∈ X, (47 : UInt8) ∉ p) (hne : X ≠ [[]]) : pcs (join X) = X := by
  unfold pcs
  by_cases hx : X = []
  · subst hx; simp [join]
  · have hs := sp_join X hx h
    by_cases hj : join X = []
    · rw [hj] at hs
      exact absurd hs.symm hne
    · rw [if_neg hj, hs]

theorem okC_nil : okC [] = false := by decide
/-- of a path: its common part with another is its first pieces -/
theorem pcs_cmn (a b : List UInt8) (ha : (pcs a).all okC = true) : pcs (cmn a b) = (pcs a).take (com (pcs a) (pcs b)) := by
  unfold cmn
  refine pcs_join _ (fun p hp => pcs_noslash a p (List.mem_of_mem_take hp)) ?_
  intro e
  have hm : ([] : List UInt8) ∈ pcs a := List.mem_of_mem_take (i := com (pcs a) (pcs b)) (by rw [e]; simp)
  have := List.all_eq_true.1 ha [] hm
  rw [okC_nil] at this
  cases this
theorem cmn_comm (a b : List UInt8) : cmn b a = cmn a b := by
  unfold cmn
  rw [com_symm (pcs b) (pcs a), com_take]
theorem cmn_self (a : List UInt8) : cmn a a = a := by
  unfold cmn
  rw [com_refl, List.take_length, join_pcs]
theorem okP_all {a : List UInt8} (h : okP a = true) : (pcs a).all okC = true := by
  unfold okP at h; rw [Bool.and_eq_true] at h; exact h.2
theorem okP_len {a : List UInt8} (h : okP a = true) : a.length ≤ 120 ∧ dep a ≤ 12 := by
  unfold okP at h; simp only [Bool.and_eq_true, decide_eq_true_eq] at h; exact h.1
theorem abv_cmn (a b : List UInt8) (ha : (pcs a).all okC = true) (hne : cmn a b ≠ a) : abvV (cmn a b) a = true := by
  rw [abvV_iff, pcs_cmn a b ha]
  refine ⟨(pcs a).drop (com (pcs a) (pcs b)), ?_, (List.take_append_drop _ _).symm⟩
  intro e
  apply hne
  unfold cmn
  have : (pcs a).length ≤ com (pcs a) (pcs b) := List.drop_eq_nil_iff.1 e
  rw [List.take_of_length_le this, join_pcs]
theorem cmn_eq_iff (a b : List UInt8) : cmn a b = a ↔ com (pcs a) (pcs b) = (pcs a).length := by
  rw [← cmn_len_iff]
  constructor
  · intro h; rw [h]
  · intro h; rw [cmn_take, h, List.take_length]
theorem abv_iff_cmn (a b : List UInt8) : abvV a b = (decide (cmn a b = a) && !decide (a = b)) := by
  rw [Bool.eq_iff_iff, abvV_iff]
  simp only [Bool.and_eq_true, decide_eq_true_eq, Bool.not_eq_true', decide_eq_false_iff_not]
  rw [cmn_eq_iff, com_pre]
  constructor
  · rintro ⟨r, hne, e⟩
    refine ⟨⟨r, e⟩, ?_⟩
    rintro rfl
    have := congrArg List.length e
    have h2 := List.length_pos_iff.2 hne
    rw [List.length_append] at this
    omega
  · rintro ⟨⟨r, e⟩, hab⟩
    refine ⟨r, ?_, e⟩
    rintro rfl
    rw [List.append_nil] at e
    exact hab (pcs_inj e.symm)
theorem com_part : ∀ (A B : List (List UInt8)) (h1 : com A B < A.length) (h2 : com A B < B.length), A[com A B] ≠ B[com A B]
  | [], _, h, _ => by simp [com] at h
  | _ :: _, [], _, h => by simp [com] at h
  | p :: ps, q :: qs, h1, h2 => by
    by_cases h : p = q
    · have e : com (p :: ps) (q :: qs) = com ps qs + 1 := by simp [com, h]
      have h1' : com ps qs < ps.length := by rw [e] at h1; simpa using h1
      have h2' : com ps qs < qs.length := by rw [e] at h2; simpa using h2
      have ih := com_part ps qs h1' h2'
      simpa only [e, List.getElem_cons_succ] using ih
    · have e : com (p :: ps) (q :: qs) = 0 := by simp [com, h]
      simpa only [e, List.getElem_cons_zero] using h

theorem lst_none : ∀ (l : List UInt8), l.count 47 = 0 → lst l = -1
  | [], _ => rfl
  | c :: l, h => by
    rw [List.count_cons] at h
    have h1 : l.count 47 = 0 := by omega
    have h2 : c ≠ 47 := by rintro rfl; simp at h
    unfold lst; rw [lst_none l h1]; simp [h2]
theorem lst_some : ∀ (l : List UInt8), 0 < l.count 47 → 0 ≤ lst l
  | [], h => by simp at h
  | c :: l, h => by
    unfold lst
    by_cases h0 : 0 < l.count 47
    · have := lst_some l h0; rw [if_pos this]; omega
    · rw [List.count_cons] at h
      have hc : c = 47 := by
        by_cases e : c = 47
        · exact e
        · have hf : (c == 47) = false := by simpa using e
          rw [hf] at h
          simp only [Bool.false_eq_true, if_false, Nat.add_zero] at h
          exact absurd h h0
      have := lst_ge l
      rw [if_pos hc]
      split <;> omega
theorem lst_cut : ∀ (l : List UInt8), 0 ≤ lst l → l = l.take (lst l).toNat ++ 47 :: l.drop (lst l + 1).toNat
  | [], h => by simp [lst] at h
  | c :: l, h => by
    by_cases h0 : 0 ≤ lst l
    · have ih := lst_cut l h0
      have e : lst (c :: l) = lst l + 1 := by rw [lst, if_pos h0]
      rw [e]
      obtain ⟨n, hn⟩ : ∃ n : Nat, lst l = n := ⟨(lst l).toNat, by omega⟩
      rw [hn] at ih ⊢
      have e1 : ((n : Int) + 1).toNat = n + 1 := by omega
      have e2 : ((n : Int) + 1 + 1).toNat = n + 1 + 1 := by omega
      have e3 : (n : Int).toNat = n := by omega
      rw [e1, e2, List.take_succ_cons, List.drop_succ_cons, List.cons_append]
      rw [e1, e3] at ih
      rw [← ih]
    · have hc : c = 47 := by
        by_cases e : c = 47
        · exact e
        · rw [lst, if_neg h0, if_neg e] at h; omega
      have e : lst (c :: l) = 0 := by rw [lst, if_neg h0, if_pos hc]
      rw [e, hc]; rfl
theorem dir_base (l : List UInt8) (h : 1 < (pcs l).length) : dir l ++ [47] ++ base l = l := by
  rw [dep_eq] at h
  have hc : 0 < l.count 47 := by unfold dep at h; split at h <;> omega
  have h0 := lst_some l hc
  have := lst_cut l h0
  unfold dir base
  rw [if_neg (by omega)]
  conv => rhs; rw [this]
  simp
theorem dir_base0 (l : List UInt8) (h : ¬ 1 < (pcs l).length) : dir l = [] ∧ base l = l := by
  rw [dep_eq] at h
  have hc : l.count 47 = 0 := by
    unfold dep at h
    split at h
    · subst_vars; rfl
    · omega
  have h0 := lst_none l hc
  unfold dir base
  rw [h0]
  exact ⟨by simp, by simp⟩
theorem lst_app : ∀ (x b : List UInt8), lst (x ++ 47 :: b) = x.length + 1 + lst b
  | [], b => by
    have := lst_ge b
    rw [List.nil_append, lst]
    by_cases h : 0 ≤ lst b
    · rw [if_pos h]; simp; omega
    · rw [if_neg h, if_pos rfl]; simp; omega
  | c :: x, b => by
    have ih := lst_app x b
    have := lst_ge b
    rw [List.cons_append, lst, ih, if_pos (by omega)]
    simp; omega
theorem base_app (x b : List UInt8) : base (x ++ 47 :: b) = base b := by
  have := lst_ge b
  unfold base
  rw [lst_app]
  have e : ((x.length : Int) + 1 + lst b + 1).toNat = x.length + (1 + (lst b + 1).toNat) := by omega
  rw [e, ← List.drop_drop, List.drop_left, ← List.drop_drop]; rfl

theorem jn_bad (a b : List UInt8) (h : ¬ (okP a = true ∧ okP b = true)) : jn a b = ([], 7) := by unfold jn; rw [if_neg h]
set_option maxRecDepth 100000 in
theorem jn_left (b : List UInt8) (hb : okP b = true) : jn [] b = (b, 0) := by
  unfold jn; rw [if_pos ⟨by decide, hb⟩, if_pos rfl]
theorem jn_right (a : List UInt8) (ha : okP a = true) : jn a [] = (a, 0) := by
  unfold jn
  rw [if_pos ⟨ha, by decide⟩]
  by_cases h : a = []
  · rw [if_pos h, h]
  · rw [if_neg h, if_pos rfl]
theorem okP_app (a b : List UInt8) (ha : okP a = true) (hb : okP b = true) (na : a ≠ []) (nb : b ≠ []) :
    okP (a ++ 47 :: b) = (decide (a.length + b.length + 1 ≤ 120) && decide ((pcs a).length + (pcs b).length ≤ 12)) := by
  have h1 := okP_all ha
  have h2 := okP_all hb
  unfold okP
  rw [← dep_eq, pcs_append a b na nb, List.all_append, h1, h2, List.length_append, List.length_append, List.length_cons]
  have : a.length + (b.length + 1) = a.length + b.length + 1 := by omega
  rw [this]; simp
theorem jn_both (a b : List UInt8) (ha : okP a = true) (hb : okP b = true) (na : a ≠ []) (nb : b ≠ []) :
    jn a b = if a.length + b.length + 1 ≤ 120 ∧ (pcs a).length + (pcs b).length ≤ 12 then (a ++ 47 :: b, 0) else ([], 7) := by
  unfold jn
  rw [if_pos ⟨ha, hb⟩, if_neg na, if_neg nb, okP_app a b ha hb na nb]
  simp only [Bool.and_eq_true, decide_eq_true_eq]

/-- may two paths be joined, by their lengths? -/
def whole (a b : List UInt8) : Bool := decide (a.length + b.length + 1 ≤ 120) || a.isEmpty || b.isEmpty
theorem join_facts (a b : List UInt8) (ha : okP a = true) (hb : okP b = true) :
    (∃ J, jn a b = (J, 0) ∧ pcs J = pcs a ++ pcs b ∧ J.length ≤ 241 ∧ (b ≠ [] → abvV a J = true ∧ base J = base b) ∧ whole a b = true ∧ (pcs a).length + (pcs b).length ≤ 12) ∨
    (jn a b = ([], 7) ∧ (whole a b && decide ((pcs a).length + (pcs b).length ≤ 12)) = false) := by
  have la := okP_len ha
  have lb := okP_len hb
  rw [← dep_eq] at la lb
  by_cases na : a = []
  · subst na
    refine .inl ⟨b, jn_left b hb, rfl, by omega, fun h => ⟨(abvV_iff _ _).2 ⟨pcs b, fun e => h ((pcs_eq_nil b).1 e), rfl⟩, rfl⟩, by simp [whole], by rw [pcs_nil]; simpa using lb.2⟩
  · by_cases nb : b = []
    · subst nb
      exact .inl ⟨a, jn_right a ha, by rw [pcs_nil, List.append_nil], by omega, fun h => absurd rfl h, by simp [whole], by rw [pcs_nil]; simpa using la.2⟩
    · have hj := jn_both a b ha hb na nb
      have hwh : whole a b = decide (a.length + b.length + 1 ≤ 120) := by
        unfold whole
        have i1 : a.isEmpty = false := by cases a; exact absurd rfl na; rfl
        have i2 : b.isEmpty = false := by cases b; exact absurd rfl nb; rfl
        rw [i1, i2]; simp
      by_cases h : a.length + b.length + 1 ≤ 120 ∧ (pcs a).length + (pcs b).length ≤ 12
      · rw [if_pos h] at hj
        refine .inl ⟨a ++ 47 :: b, hj, pcs_append a b na nb, by simp; omega, fun _ => ⟨(abvV_iff _ _).2 ⟨pcs b, fun e => nb ((pcs_eq_nil b).1 e), pcs_append a b na nb⟩, base_app a b⟩, by rw [hwh]; simpa using h.1, h.2⟩
      · rw [if_neg h] at hj
        refine .inr ⟨hj, ?_⟩
        rw [hwh]
        by_cases h1 : a.length + b.length + 1 ≤ 120
        · have h2 : ¬ (pcs a).length + (pcs b).length ≤ 12 := fun e => h ⟨h1, e⟩
          simp [h2]
        · simp [h1]
end Go.Proofs.YtfdcfcalbongeaaGreat

namespace Go.Proofs.YtfdcfcalbongeaaGreat

/-- A file. -/
structure Fl where
  path : List UInt8
  text : List UInt8
  blob : Int
  size : Int

def feq (a b : Fl) : Bool := a.path == b.path && a.text == b.text && a.blob == b.blob && a.size == b.size
theorem feq_iff (a b : Fl) : feq a b = true ↔ a = b := by
  obtain ⟨p, t, b1, s⟩ := a
  obtain ⟨p', t', b', s'⟩ := b
  simp [feq, and_assoc]
theorem feq_self (a : Fl) : feq a a = true := (feq_iff a a).2 rfl
def leq : List Fl → List Fl → Bool
  | [], [] => true
  | a :: l, b :: m => feq a b && leq l m
  | _, _ => false
theorem leq_iff : ∀ (l m : List Fl), leq l m = true ↔ l = m
  | [], [] => by simp [leq]
  | [], _ :: _ => by simp [leq]
  | _ :: _, [] => by simp [leq]
  | a :: l, b :: m => by
    simp only [leq, Bool.and_eq_true, feq_iff, leq_iff l m, List.cons.injEq]

/-- TARGETS -/
def tgt : List UInt8 := [84, 65, 82, 71, 69, 84, 83]
def isM (p : List UInt8) : Bool := base p == tgt
def fits (f : Fl) : Bool :=
  if isM f.path then f.blob == 0 && f.size == (f.text.length : Int)
  else f.text == [] && (decide (0 ≤ f.blob) && decide (f.blob ≤ 1152921504606846976)) && (decide (0 ≤ f.size) && decide (f.size ≤ 4611686018427387904))
def pathOk (p : List UInt8) : Bool := !(p == []) && okP p
def fileE (f : Fl) : Int := if pathOk f.path then (if fits f then 0 else 8) else 7
theorem fileE_seven (f : Fl) : fileE f = 7 ↔ pathOk f.path = false := by
  unfold fileE; cases pathOk f.path <;> cases fits f <;> simp
theorem fileE_zero (f : Fl) : fileE f = 0 ↔ pathOk f.path = true ∧ fits f = true := by
  unfold fileE; cases pathOk f.path <;> cases fits f <;> simp
/-- may q stand right behind p? -/
def fol (p q : List UInt8) : Bool := decide (cmpP (pcs p) (pcs q) < 0) && !abvV p q
def chain : List Fl → Bool
  | a :: b :: r => fol a.path b.path && chain (b :: r)
  | _ => true
def stand (l : List Fl) : Bool := decide (l.length ≤ 512) && l.all (fun f => fileE f == 0) && chain l
def validE (l : List Fl) : Int := if l.all (fun f => pathOk f.path) then (if stand l then 0 else 8) else 7
theorem stand_all {l : List Fl} (h : stand l = true) : ∀ f ∈ l, fileE f = 0 := by
  unfold stand at h
  simp only [Bool.and_eq_true, List.all_eq_true, beq_iff_eq] at h
  exact h.1.2
theorem validE_zero (l : List Fl) : validE l = 0 ↔ stand l = true := by
  unfold validE
  constructor
  · intro h; cases hs : stand l
    · rw [hs] at h; revert h; split <;> simp
    · rfl
  · intro h
    have : l.all (fun f => pathOk f.path) = true := List.all_eq_true.2 fun f hf => ((fileE_zero f).1 (stand_all h f hf)).1
    rw [this, h]; rfl

end Go.Proofs.YtfdcfcalbongeaaGreat
