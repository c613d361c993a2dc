/-
  Sets of texts as rising lists: plain lists.
  Pieces, directories, joins: plain lists.
  Files and their texts: plain lists.
-/
import Derived.Test.YtlkkmcibjhoneaaGreatDoorJOrd
import Derived.Lib.SlicesCompact
import Derived.Test.YtlkkmcibjhoneaaGreatDoorPath
import Derived.Test.YtlkkmcibjhoneaaGreatDoorBase
namespace Go.Proofs.YtlkkmcibjhoneaaGreatDoor

/-- the order of texts -/
def cf (a b : List UInt8) : Int := cmpP (pcs a) (pcs b)
theorem cf_range (a b : List UInt8) : cf a b = -1 ∨ cf a b = 0 ∨ cf a b = 1 := cmpP_range _ _
theorem cf_zero {a b : List UInt8} : cf a b = 0 ↔ a = b := ⟨fun h => pcs_inj (cmpP_zero h), fun h => by subst h; exact cmpP_refl _⟩
theorem cf_self (a : List UInt8) : cf a a = 0 := cf_zero.2 rfl
theorem cf_neg (a b : List UInt8) : cf b a = - cf a b := cmpP_neg _ _
theorem cf_trans {a b c : List UInt8} (h : cf a b < 0) (k : cf b c < 0) : cf a c < 0 := by
  have h1 : cf a b = -1 := by rcases cf_range a b with e | e | e <;> omega
  have k1 : cf b c = -1 := by rcases cf_range b c with e | e | e <;> omega
  have := cmpP_trans _ _ _ h1 k1
  unfold cf; omega
theorem cf_le_lt {a b c : List UInt8} (h : cf a b ≤ 0) (k : cf b c < 0) : cf a c < 0 := by
  by_cases e : cf a b = 0
  · rw [cf_zero.1 e]; exact k
  · exact cf_trans (by omega) k
theorem cf_le_trans {a b c : List UInt8} (h : cf a b ≤ 0) (k : cf b c ≤ 0) : cf a c ≤ 0 := by
  by_cases e : cf b c = 0
  · rw [← cf_zero.1 e]; exact h
  · have := cf_le_lt h (show cf b c < 0 by omega); omega

/-- it rises -/
def Up (l : List (List UInt8)) : Prop := l.Pairwise fun a b => cf a b < 0

theorem up_unique : ∀ {a b : List (List UInt8)}, Up a → Up b → (∀ x, x ∈ a ↔ x ∈ b) → a = b
  | [], [], _, _, _ => rfl
  | [], y :: _, _, _, h => absurd ((h y).2 (by simp)) (by simp)
  | x :: _, [], _, _, h => absurd ((h x).1 (by simp)) (by simp)
  | x :: a, y :: b, ha, hb, h => by
    have ha' := List.pairwise_cons.1 ha
    have hb' := List.pairwise_cons.1 hb
    have exy : x = y := by
      have h1 := (h x).1 (by simp)
      have h2 := (h y).2 (by simp)
      rcases List.mem_cons.1 h1 with e | h1
      · exact e
      rcases List.mem_cons.1 h2 with e | h2
      · exact e.symm
      have k1 := ha'.1 y h2
      have k2 := hb'.1 x h1
      rw [cf_neg] at k2; omega
    subst exy
    congr 1
    refine up_unique ha'.2 hb'.2 (fun z => ⟨fun hz => ?_, fun hz => ?_⟩)
    · rcases List.mem_cons.1 ((h z).1 (by simp [hz])) with e | e
      · subst e; have := ha'.1 z hz; rw [cf_self] at this; omega
      · exact e
    · rcases List.mem_cons.1 ((h z).2 (by simp [hz])) with e | e
      · subst e; have := hb'.1 z hz; rw [cf_self] at this; omega
      · exact e

/-- a text put in its place -/
def ins (x : List UInt8) : List (List UInt8) → List (List UInt8)
  | [] => [x]
  | y :: l => if cf x y < 0 then x :: y :: l else if cf x y = 0 then y :: l else y :: ins x l

theorem mem_ins (x z : List UInt8) : ∀ l, z ∈ ins x l ↔ z = x ∨ z ∈ l
  | [] => by simp [ins]
  | y :: l => by
    unfold ins
    split
    · simp
    · split
      · rename_i _ h
        have := cf_zero.1 h
        subst this
        simp
      · simp [mem_ins x z l]
        constructor
        · rintro (h | h | h) <;> simp [h]
        · rintro (h | h | h) <;> simp [h]
theorem up_ins (x : List UInt8) : ∀ l, Up l → Up (ins x l)
  | [], _ => by simp [ins, Up]
  | y :: l, h => by
    have h' := List.pairwise_cons.1 h
    unfold ins
    split
    · rename_i hx
      refine List.pairwise_cons.2 ⟨fun z hz => ?_, h⟩
      rcases List.mem_cons.1 hz with e | e
      · subst e; exact hx
      · exact cf_trans hx (h'.1 z e)
    · split
      · exact h
      · rename_i h1 h2
        refine List.pairwise_cons.2 ⟨fun z hz => ?_, up_ins x l h'.2⟩
        rcases (mem_ins x z l).1 hz with e | e
        · subst e; rw [cf_neg]; omega
        · exact h'.1 z e

/-- the texts in their order, each once -/
def norm : List (List UInt8) → List (List UInt8)
  | [] => []
  | x :: l => ins x (norm l)
theorem up_norm : ∀ l, Up (norm l)
  | [] => by simp [norm, Up]
  | x :: l => up_ins x _ (up_norm l)
theorem mem_norm (z : List UInt8) : ∀ l, z ∈ norm l ↔ z ∈ l
  | [] => by simp [norm]
  | x :: l => by simp [norm, mem_ins, mem_norm z l]
theorem norm_len : ∀ l, (norm l).length ≤ l.length
  | [] => by simp [norm]
  | x :: l => by
    have ih := norm_len l
    have key : ∀ m, (ins x m).length ≤ m.length + 1 := by
      intro m
      induction m with
      | nil => simp [ins]
      | cons y m ih =>
        unfold ins
        split
        · simp
        · split
          · simp
          · simp; omega
    have := key (norm l)
    simp [norm]; omega
theorem up_filter {l : List (List UInt8)} (h : Up l) (p : List UInt8 → Bool) : Up (l.filter p) := List.Pairwise.filter p h
theorem up_get {l : List (List UInt8)} (h : Up l) {i j : Nat} (hij : i < j) (hj : j < l.length) : cf (l[i]'(by omega)) (l[j]'hj) < 0 :=
  List.pairwise_iff_getElem.1 h i j _ hj hij

def drs (a : List (List UInt8)) : List (List UInt8) := norm (a.map dir)
def hds (l : List (List UInt8)) : List (List UInt8) := l.filter fun x => !l.any fun y => abvV y x
/-- above, and the order -/
theorem abv_cf {a b : List UInt8} (h : abvV a b = true) : cf a b < 0 := by
  unfold abvV at h; simp at h; exact h.2
theorem abv_trans {a b c : List UInt8} (h : abvV a b = true) (k : abvV b c = true) : abvV a c = true := by
  obtain ⟨r, hr, e⟩ := (abvV_iff a b).1 h
  obtain ⟨s, hs, e2⟩ := (abvV_iff b c).1 k
  exact (abvV_iff a c).2 ⟨r ++ s, by simp [hr], by rw [e2, e, List.append_assoc]⟩
theorem abv_between {a b c : List UInt8} (h : abvV a c = true) (h1 : cf a b < 0) (h2 : cf b c < 0) : abvV a b = true := by
  obtain ⟨r, hr, e⟩ := (abvV_iff a c).1 h
  have h1' : cmpP (pcs a) (pcs b) = -1 := by rcases cf_range a b with k | k | k <;> simp only [cf] at * <;> omega
  have h2' : cmpP (pcs b) (pcs a ++ r) ≤ 0 := by rw [← e]; simp only [cf] at h2; omega
  exact (abvV_iff a b).2 (cmpP_between _ _ _ h1' h2')
end Go.Proofs.YtlkkmcibjhoneaaGreatDoor

namespace Go.Proofs.YtlkkmcibjhoneaaGreatDoor
open Go.RowKit

theorem Own.only {S : List Nat} {base : Nat} {w w' : World} {v : Value} {l : List (List UInt8)} (h : Own base w v l) (ho : Only S w w') (hn : ∀ k, v.ownBlock = some k → k ∉ S) : Own base w' v l := by
  refine ⟨h.1, ?_⟩
  rcases h.2 with ⟨rfl, h0⟩ | ⟨g, cap, cur, rfl, hb, hg, hr⟩
  · exact .inl ⟨rfl, h0⟩
  · exact .inr ⟨g, cap, cur, rfl, hb, by rw [ho.block g (Array.getElem?_eq_some_iff.1 hg).1 (hn g rfl)]; exact hg, hr⟩
theorem Own.lt {base : Nat} {w : World} {v : Value} {l : List (List UInt8)} (h : Own base w v l) {k : Nat} (hk : v.ownBlock = some k) : base ≤ k ∧ k < w.heap.size := World.ownsRow.lt h k hk

theorem cell_one_str (w : World) (u : Value) (k : TypeId) : ∀ j x, [u][j]? = some x → (w.alloc (.cells #[u] k)).cell? ((⟨w.heap.size, 0, none⟩ : Addr).add j) = some x := by
  intro j x hx
  cases j with
  | zero => simp at hx; subst hx; rw [add_lit]; simp
  | succ j => simp at hx
theorem src_one (w : World) (p : List UInt8) : Src Tryz.prog 1 42 (.slice (some ⟨w.heap.size, 0, none⟩) 1 1) [p].length (sc [p]) (w.alloc (.cells #[.string (bs p)] 9)) :=
  Src.ofSlice _ und52 ⟨w.heap.size, 0, none⟩ 1 1 (sc [p]) (by simp [sc]) (cell_one_str w _ 9) (sc_one _)

theorem SS.form {w : World} {v : Value} {L : List (List UInt8)} (h : SS w v L) : ∃ a c, v = .slice a L.length c ∧ (∀ k, (hk : k < L.length) → ∃ b off, a = some ⟨b, off, none⟩ ∧ b < w.heap.size ∧ w.cell? ⟨b, off + k, none⟩ = some (.string (bs L[k]))) := by
  rcases h with ⟨⟨a, c, rfl⟩, rfl⟩ | ⟨b, off, cap, rfl, hc, hlt, hcell⟩
  · exact ⟨a, c, rfl, fun k hk => by simp at hk⟩
  · exact ⟨_, _, rfl, fun k hk => ⟨b, off, rfl, hlt, hcell k _ (by simp [sc_get, hk])⟩⟩

theorem drop_same {α : Type} [DecidableEq α] {A B : List α} {k : Nat} (ha : k < A.length) (hb : k < B.length) : decide (A.drop k = B.drop k) = (decide (A[k] = B[k]) && decide (A.drop (k + 1) = B.drop (k + 1))) := by
  have e1 := List.drop_eq_getElem_cons ha
  have e2 := List.drop_eq_getElem_cons hb
  rw [Bool.eq_iff_iff]
  simp only [Bool.and_eq_true, decide_eq_true_eq]
  rw [e1, e2, List.cons.injEq]

/-- a list of texts that a machine has -/
structure Sm (l : List (List UInt8)) : Prop where
  len : l.length ≤ 4000000
  each : ∀ x ∈ l, x.length ≤ 1000000000
theorem bstep {a b c : World} (h : Below a.heap.size a b) (k : Below b.heap.size b c) : Below a.heap.size a c := below_trans h (below_mono k h.size)
end Go.Proofs.YtlkkmcibjhoneaaGreatDoor

namespace Go.Proofs.YtlkkmcibjhoneaaGreatDoor

theorem sp_append : ∀ (a b : List UInt8), sp (a ++ 47 :: b) = sp a ++ sp b
  | [], b => by simp [sp]
  | c :: a, b => by
    have ih := sp_append a b
    rw [List.cons_append]
    by_cases h : c = 47
    · rw [sp.eq_2, if_pos h, ih, sp.eq_2 c a, if_pos h]; rfl
    · rw [sp.eq_2, if_neg h, ih, sp.eq_2 c a, if_neg h]
      cases hs : sp a with
      | nil => exact absurd hs (sp_ne a)
      | cons p ps => rfl
theorem pcs_append (a b : List UInt8) (ha : a ≠ []) (hb : b ≠ []) : pcs (a ++ 47 :: b) = pcs a ++ pcs b := by
  unfold pcs
  rw [if_neg (by simp), if_neg ha, if_neg hb, sp_append]
theorem sp_one : ∀ (p : List UInt8), (47 : UInt8) ∉ p → sp p = [p]
  | [], _ => rfl
  | c :: p, h => by
    have hc : c ≠ 47 := fun e => h (by simp [e])
    rw [sp.eq_2, if_neg hc, sp_one p (fun e => h (List.mem_cons_of_mem _ e))]
theorem sp_join : ∀ (X : List (List UInt8)), X ≠ [] → (∀ p ∈ X, (47 : UInt8) ∉ p) → sp (join X) = X
  | [], h, _ => absurd rfl h
  | [p], _, h => by simp only [join]; exact sp_one p (h p (by simp))
  | p :: q :: r, _, h => by
    have ih := sp_join (q :: r) (by simp) (fun x hx => h x (List.mem_cons_of_mem _ hx))
    rw [join_cons p _ (by simp), sp_append, ih, sp_one p (h p (by simp))]
    rfl
theorem okP_all {a : List UInt8} (h : okP a = true) : (pcs a).all okC = true := by
  unfold okP at h; rw [Bool.and_eq_true] at h; exact h.2
theorem okP_len {a : List UInt8} (h : okP a = true) : a.length ≤ 120 ∧ dep a ≤ 12 := by
  unfold okP at h; simp only [Bool.and_eq_true, decide_eq_true_eq] at h; exact h.1
theorem lst_none : ∀ (l : List UInt8), l.count 47 = 0 → lst l = -1
  | [], _ => rfl
  | c :: l, h => by
    rw [List.count_cons] at h
    have h1 : l.count 47 = 0 := by omega
    have h2 : c ≠ 47 := by rintro rfl; simp at h
    unfold lst; rw [lst_none l h1]; simp [h2]
theorem lst_some : ∀ (l : List UInt8), 0 < l.count 47 → 0 ≤ lst l
  | [], h => by simp at h
  | c :: l, h => by
    unfold lst
    by_cases h0 : 0 < l.count 47
    · have := lst_some l h0; rw [if_pos this]; omega
    · rw [List.count_cons] at h
      have hc : c = 47 := by
        by_cases e : c = 47
        · exact e
        · have hf : (c == 47) = false := by simpa using e
          rw [hf] at h
          simp only [Bool.false_eq_true, if_false, Nat.add_zero] at h
          exact absurd h h0
      have := lst_ge l
      rw [if_pos hc]
      split <;> omega
theorem lst_cut : ∀ (l : List UInt8), 0 ≤ lst l → l = l.take (lst l).toNat ++ 47 :: l.drop (lst l + 1).toNat
  | [], h => by simp [lst] at h
  | c :: l, h => by
    by_cases h0 : 0 ≤ lst l
    · have ih := lst_cut l h0
      have e : lst (c :: l) = lst l + 1 := by rw [lst, if_pos h0]
      rw [e]
      obtain ⟨n, hn⟩ : ∃ n : Nat, lst l = n := ⟨(lst l).toNat, by omega⟩
      rw [hn] at ih ⊢
      have e1 : ((n : Int) + 1).toNat = n + 1 := by omega
      have e2 : ((n : Int) + 1 + 1).toNat = n + 1 + 1 := by omega
      have e3 : (n : Int).toNat = n := by omega
      rw [e1, e2, List.take_succ_cons, List.drop_succ_cons, List.cons_append]
      rw [e1, e3] at ih
      rw [← ih]
    · have hc : c = 47 := by
        by_cases e : c = 47
        · exact e
        · rw [lst, if_neg h0, if_neg e] at h; omega
      have e : lst (c :: l) = 0 := by rw [lst, if_neg h0, if_pos hc]
      rw [e, hc]; rfl
theorem dir_base (l : List UInt8) (h : 1 < (pcs l).length) : dir l ++ [47] ++ base l = l := by
  rw [dep_eq] at h
  have hc : 0 < l.count 47 := by unfold dep at h; split at h <;> omega
  have h0 := lst_some l hc
  have := lst_cut l h0
  unfold dir base
  rw [if_neg (by omega)]
  conv => rhs; rw [this]
  simp
theorem dir_base0 (l : List UInt8) (h : ¬ 1 < (pcs l).length) : dir l = [] ∧ base l = l := by
  rw [dep_eq] at h
  have hc : l.count 47 = 0 := by
    unfold dep at h
    split at h
    · subst_vars; rfl
    · omega
  have h0 := lst_none l hc
  unfold dir base
  rw [h0]
  exact ⟨by simp, by simp⟩
end Go.Proofs.YtlkkmcibjhoneaaGreatDoor

namespace Go.Proofs.YtlkkmcibjhoneaaGreatDoor

/-- A file. -/
structure Fl where
  path : List UInt8
  text : List UInt8
  blob : Int
  size : Int

def feq (a b : Fl) : Bool := a.path == b.path && a.text == b.text && a.blob == b.blob && a.size == b.size
theorem feq_iff (a b : Fl) : feq a b = true ↔ a = b := by
  obtain ⟨p, t, b1, s⟩ := a
  obtain ⟨p', t', b', s'⟩ := b
  simp [feq, and_assoc]
def leq : List Fl → List Fl → Bool
  | [], [] => true
  | a :: l, b :: m => feq a b && leq l m
  | _, _ => false
theorem leq_iff : ∀ (l m : List Fl), leq l m = true ↔ l = m
  | [], [] => by simp [leq]
  | [], _ :: _ => by simp [leq]
  | _ :: _, [] => by simp [leq]
  | a :: l, b :: m => by
    simp only [leq, Bool.and_eq_true, feq_iff, leq_iff l m, List.cons.injEq]

/-- TARGETS -/
def tgt : List UInt8 := [84, 65, 82, 71, 69, 84, 83]
def isM (p : List UInt8) : Bool := base p == tgt
def fits (f : Fl) : Bool :=
  if isM f.path then f.blob == 0 && f.size == (f.text.length : Int)
  else f.text == [] && (decide (0 ≤ f.blob) && decide (f.blob ≤ 1152921504606846976)) && (decide (0 ≤ f.size) && decide (f.size ≤ 4611686018427387904))
def pathOk (p : List UInt8) : Bool := !(p == []) && okP p
def fileE (f : Fl) : Int := if pathOk f.path then (if fits f then 0 else 8) else 7
theorem fileE_seven (f : Fl) : fileE f = 7 ↔ pathOk f.path = false := by
  unfold fileE; cases pathOk f.path <;> cases fits f <;> simp
theorem fileE_zero (f : Fl) : fileE f = 0 ↔ pathOk f.path = true ∧ fits f = true := by
  unfold fileE; cases pathOk f.path <;> cases fits f <;> simp
/-- may q stand right behind p? -/
def fol (p q : List UInt8) : Bool := decide (cmpP (pcs p) (pcs q) < 0) && !abvV p q
def chain : List Fl → Bool
  | a :: b :: r => fol a.path b.path && chain (b :: r)
  | _ => true
def stand (l : List Fl) : Bool := decide (l.length ≤ 512) && l.all (fun f => fileE f == 0) && chain l
def validE (l : List Fl) : Int := if l.all (fun f => pathOk f.path) then (if stand l then 0 else 8) else 7
theorem stand_all {l : List Fl} (h : stand l = true) : ∀ f ∈ l, fileE f = 0 := by
  unfold stand at h
  simp only [Bool.and_eq_true, List.all_eq_true, beq_iff_eq] at h
  exact h.1.2
theorem validE_zero (l : List Fl) : validE l = 0 ↔ stand l = true := by
  unfold validE
  constructor
  · intro h; cases hs : stand l
    · rw [hs] at h; revert h; split <;> simp
    · rfl
  · intro h
    have : l.all (fun f => pathOk f.path) = true := List.all_eq_true.2 fun f hf => ((fileE_zero f).1 (stand_all h f hf)).1
    rw [this, h]; rfl

end Go.Proofs.YtlkkmcibjhoneaaGreatDoor
