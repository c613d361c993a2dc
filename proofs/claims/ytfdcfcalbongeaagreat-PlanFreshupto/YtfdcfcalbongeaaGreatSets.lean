/-
  Sets of texts as rising lists: plain lists.
-/
import Derived.Test.YtfdcfcalbongeaaGreatJOrd
import Derived.Lib.SlicesCompact
namespace Go.Proofs.YtfdcfcalbongeaaGreat

/-- the order of texts -/
def cf (a b : List UInt8) : Int := cmpP (pcs a) (pcs b)
theorem cf_range (a b : List UInt8) : cf a b = -1 ∨ cf a b = 0 ∨ cf a b = 1 := cmpP_range _ _
theorem cf_zero {a b : List UInt8} : cf a b = 0 ↔ a = b := ⟨fun h => pcs_inj (cmpP_zero h), fun h => by subst h; exact cmpP_refl _⟩
theorem cf_self (a : List UInt8) : cf a a = 0 := cf_zero.2 rfl
theorem cf_neg (a b : List UInt8) : cf b a = - cf a b := cmpP_neg _ _
theorem cf_trans {a b c : List UInt8} (h : cf a b < 0) (k : cf b c < 0) : cf a c < 0 := by
  have h1 : cf a b = -1 := by rcases cf_range a b with e | e | e <;> omega
  have k1 : cf b c = -1 := by rcases cf_range b c with e | e | e <;> omega
  have := cmpP_trans _ _ _ h1 k1
  unfold cf; omega
theorem cf_le_lt {a b c : List UInt8} (h : cf a b ≤ 0) (k : cf b c < 0) : cf a c < 0 := by
  by_cases e : cf a b = 0
  · rw [cf_zero.1 e]; exact k
  · exact cf_trans (by omega) k
theorem cf_le_trans {a b c : List UInt8} (h : cf a b ≤ 0) (k : cf b c ≤ 0) : cf a c ≤ 0 := by
  by_cases e : cf b c = 0
  · rw [← cf_zero.1 e]; exact h
  · have := cf_le_lt h (show cf b c < 0 by omega); omega

/-- it rises -/
def Up (l : List (List UInt8)) : Prop := l.Pairwise fun a b => cf a b < 0

theorem up_unique : ∀ {a b : List (List UInt8)}, Up a → Up b → (∀ x, x ∈ a ↔ x ∈ b) → a = b
  | [], [], _, _, _ => rfl
  | [], y :: _, _, _, h => absurd ((h y).2 (by simp)) (by simp)
  | x :: _, [], _, _, h => absurd ((h x).1 (by simp)) (by simp)
  | x :: a, y :: b, ha, hb, h => by
    have ha' := List.pairwise_cons.1 ha
    have hb' := List.pairwise_cons.1 hb
    have exy : x = y := by
      have h1 := (h x).1 (by simp)
      have h2 := (h y).2 (by simp)
      rcases List.mem_cons.1 h1 with e | h1
      · exact e
      rcases List.mem_cons.1 h2 with e | h2
      · exact e.symm
      have k1 := ha'.1 y h2
      have k2 := hb'.1 x h1
      rw [cf_neg] at k2; omega
    subst exy
    congr 1
    refine up_unique ha'.2 hb'.2 (fun z => ⟨fun hz => ?_, fun hz => ?_⟩)
    · rcases List.mem_cons.1 ((h z).1 (by simp [hz])) with e | e
      · subst e; have := ha'.1 z hz; rw [cf_self] at this; omega
      · exact e
    · rcases List.mem_cons.1 ((h z).2 (by simp [hz])) with e | e
      · subst e; have := hb'.1 z hz; rw [cf_self] at this; omega
      · exact e

/-- a text put in its place -/
def ins (x : List UInt8) : List (List UInt8) → List (List UInt8)
  | [] => [x]
  | y :: l => if cf x y < 0 then x :: y :: l else if cf x y = 0 then y :: l else y :: ins x l

theorem mem_ins (x z : List UInt8) : ∀ l, z ∈ ins x l ↔ z = x ∨ z ∈ l
  | [] => by simp [ins]
  | y :: l => by
    unfold ins
    split
    · simp
    · split
      · rename_i _ h
        have := cf_zero.1 h
        subst this
        simp
      · simp [mem_ins x z l]
        constructor
        · rintro (h | h | h) <;> simp [h]
        · rintro (h | h | h) <;> simp [h]
theorem up_ins (x : List UInt8) : ∀ l, Up l → Up (ins x l)
  | [], _ => by simp [ins, Up]
  | y :: l, h => by
    have h' := List.pairwise_cons.1 h
    unfold ins
    split
    · rename_i hx
      refine List.pairwise_cons.2 ⟨fun z hz => ?_, h⟩
      rcases List.mem_cons.1 hz with e | e
      · subst e; exact hx
      · exact cf_trans hx (h'.1 z e)
    · split
      · exact h
      · rename_i h1 h2
        refine List.pairwise_cons.2 ⟨fun z hz => ?_, up_ins x l h'.2⟩
        rcases (mem_ins x z l).1 hz with e | e
        · subst e; rw [cf_neg]; omega
        · exact h'.1 z e

/-- the texts in their order, each once -/
def norm : List (List UInt8) → List (List UInt8)
  | [] => []
  | x :: l => ins x (norm l)
theorem up_norm : ∀ l, Up (norm l)
  | [] => by simp [norm, Up]
  | x :: l => up_ins x _ (up_norm l)
theorem mem_norm (z : List UInt8) : ∀ l, z ∈ norm l ↔ z ∈ l
  | [] => by simp [norm]
  | x :: l => by simp [norm, mem_ins, mem_norm z l]
theorem norm_of {r l : List (List UInt8)} (h : Up r) (hm : ∀ x, x ∈ r ↔ x ∈ l) : norm l = r :=
  up_unique (up_norm l) h fun x => (mem_norm x l).trans (hm x).symm
theorem norm_up {l : List (List UInt8)} (h : Up l) : norm l = l := norm_of h fun _ => Iff.rfl
theorem norm_snoc (l : List (List UInt8)) (x : List UInt8) : norm (l ++ [x]) = ins x (norm l) :=
  norm_of (up_ins _ _ (up_norm l)) fun z => by rw [mem_ins, mem_norm]; simp [or_comm]
theorem ins_mem {x : List UInt8} {l : List (List UInt8)} (h : Up l) (hx : x ∈ l) : ins x l = l :=
  up_unique (up_ins x l h) h fun z => by
    rw [mem_ins]
    refine ⟨?_, Or.inr⟩
    rintro (e | e)
    · rw [e]; exact hx
    · exact e
theorem norm_len : ∀ l, (norm l).length ≤ l.length
  | [] => by simp [norm]
  | x :: l => by
    have ih := norm_len l
    have key : ∀ m, (ins x m).length ≤ m.length + 1 := by
      intro m
      induction m with
      | nil => simp [ins]
      | cons y m ih =>
        unfold ins
        split
        · simp
        · split
          · simp
          · simp; omega
    have := key (norm l)
    simp [norm]; omega
theorem up_filter {l : List (List UInt8)} (h : Up l) (p : List UInt8 → Bool) : Up (l.filter p) := List.Pairwise.filter p h
theorem up_get {l : List (List UInt8)} (h : Up l) {i j : Nat} (hij : i < j) (hj : j < l.length) : cf (l[i]'(by omega)) (l[j]'hj) < 0 :=
  List.pairwise_iff_getElem.1 h i j _ hj hij

/-- what stays of a list that is sorted when each run is made one -/
theorem compact_up (d : Array (List UInt8)) (hs : ∀ i j, i < j → j < d.size → cf d[i]! d[j]! ≤ 0) : ∀ m, m ≤ d.size →
    Up (Lib.compactUpTo d m) ∧ (∀ x, x ∈ Lib.compactUpTo d m ↔ ∃ j, j < m ∧ d[j]! = x)
  | 0, _ => by simp [Lib.compactUpTo, Up]
  | m + 1, hm => by
    obtain ⟨h1, h2⟩ := compact_up d hs m (by omega)
    rw [Lib.compactUpTo_succ]
    cases hk : Lib.keeps d m with
    | true =>
      simp only [Lib.keeps, decide_eq_true_eq] at hk
      simp only [if_true]
      refine ⟨List.pairwise_append.2 ⟨h1, by simp, fun x hx y hy => ?_⟩, fun x => ?_⟩
      · simp at hy; subst hy
        obtain ⟨j, hj, rfl⟩ := (h2 x).1 hx
        have hm0 : m ≠ 0 := by omega
        have hne : d[m]! ≠ d[m - 1]! := by rcases hk with e | e; · exact absurd e hm0
                                           · exact e
        have hlt : cf d[m - 1]! d[m]! < 0 := by
          have := hs (m - 1) m (by omega) (by omega)
          have h0 : cf d[m - 1]! d[m]! ≠ 0 := fun e => hne (cf_zero.1 e).symm
          omega
        by_cases e : j = m - 1
        · rw [e]; exact hlt
        · exact cf_le_lt (hs j (m - 1) (by omega) (by omega)) hlt
      · rw [List.mem_append, h2]
        constructor
        · rintro (⟨j, hj, e⟩ | e)
          · exact ⟨j, by omega, e⟩
          · simp at e; exact ⟨m, by omega, e.symm⟩
        · rintro ⟨j, hj, e⟩
          by_cases hjm : j = m
          · subst hjm; right; simp [e]
          · left; exact ⟨j, by omega, e⟩
    | false =>
      simp only [Lib.keeps, decide_eq_false_iff_not, not_or] at hk
      simp only [Bool.false_eq_true, if_false, List.append_nil]
      refine ⟨h1, fun x => ?_⟩
      rw [h2]
      constructor
      · rintro ⟨j, hj, e⟩; exact ⟨j, by omega, e⟩
      · rintro ⟨j, hj, e⟩
        by_cases hjm : j = m
        · subst hjm
          have e2 : d[j]! = d[j - 1]! := Classical.not_not.1 hk.2
          exact ⟨j - 1, by omega, by rw [← e2]; exact e⟩
        · exact ⟨j, by omega, e⟩
theorem compact_norm (l s : List (List UInt8)) (hp : s.Perm l) (hs : s.Pairwise fun a b => cf a b ≤ 0) : Lib.compactUpTo s.toArray s.toArray.size = norm l := by
  have h := compact_up s.toArray (fun i j hij hj => by
    have hj' : j < s.length := by simpa using hj
    have hi' : i < s.length := by omega
    simp [hj', hi']
    exact List.pairwise_iff_getElem.1 hs i j hi' hj' hij) s.toArray.size (Nat.le_refl _)
  refine (norm_of h.1 fun x => ?_).symm
  rw [h.2 x, ← hp.mem_iff]
  constructor
  · rintro ⟨j, hj, e⟩
    have hj' : j < s.length := by simpa using hj
    simp [hj'] at e
    rw [← e]; exact List.getElem_mem _
  · intro hx
    obtain ⟨j, hj, e⟩ := List.getElem_of_mem hx
    exact ⟨j, by simpa using hj, by simp [hj, e]⟩

/-- of two lists that rise: those of the first alone, of both, of the second alone, as they are wanted -/
def pick (f m s : Bool) (a b : List (List UInt8)) : List (List UInt8) :=
  (norm (a ++ b)).filter fun x => if x ∈ a then (if x ∈ b then m else f) else s
theorem up_pick (f m s : Bool) (a b : List (List UInt8)) : Up (pick f m s a b) := up_filter (up_norm _) _
theorem mem_pick (f m s : Bool) (a b : List (List UInt8)) (x : List UInt8) :
    x ∈ pick f m s a b ↔ (x ∈ a ∧ x ∈ b ∧ m = true) ∨ (x ∈ a ∧ x ∉ b ∧ f = true) ∨ (x ∉ a ∧ x ∈ b ∧ s = true) := by
  unfold pick
  rw [List.mem_filter, mem_norm, List.mem_append]
  by_cases ha : x ∈ a <;> by_cases hb : x ∈ b <;> simp [ha, hb]
theorem up_opt {x : List UInt8} {l : List (List UInt8)} (h : Up l) (hx : ∀ z ∈ l, cf x z < 0) (f : Bool) : Up ((if f then [x] else []) ++ l) := by
  cases f
  · simpa using h
  · exact List.pairwise_cons.2 ⟨hx, h⟩
theorem pick_lt (f m s : Bool) {x y : List UInt8} {a b : List (List UInt8)} (ha : Up (x :: a)) (hb : Up (y :: b)) (h : cf x y < 0) :
    pick f m s (x :: a) (y :: b) = (if f then [x] else []) ++ pick f m s a (y :: b) := by
  have ha' := List.pairwise_cons.1 ha
  have hb' := List.pairwise_cons.1 hb
  have hall : ∀ z, z ∈ a ∨ z ∈ y :: b → cf x z < 0 := by
    rintro z (hz | hz)
    · exact ha'.1 z hz
    · rcases List.mem_cons.1 hz with e | e
      · rw [e]; exact h
      · exact cf_trans h (hb'.1 z e)
  have hxa : x ∉ a := fun e => by have := hall x (Or.inl e); rw [cf_self] at this; omega
  have hxb : x ∉ y :: b := fun e => by have := hall x (Or.inr e); rw [cf_self] at this; omega
  refine up_unique (up_pick _ _ _ _ _) (up_opt (up_pick _ _ _ _ _) (fun z hz => hall z (by
    rcases (mem_pick f m s a (y :: b) z).1 hz with e | e | e
    · exact Or.inl e.1
    · exact Or.inl e.1
    · exact Or.inr e.2.1)) f) (fun z => ?_)
  rw [mem_pick, List.mem_append, mem_pick]
  by_cases hz : z = x
  · subst hz
    cases f <;> simp_all
  · have e1 : z ∈ x :: a ↔ z ∈ a := by simp [hz]
    rw [e1]
    cases f <;> simp [hz]
theorem pick_comm (f m s : Bool) (a b : List (List UInt8)) : pick f m s a b = pick s m f b a :=
  up_unique (up_pick _ _ _ _ _) (up_pick _ _ _ _ _) fun z => by
    rw [mem_pick, mem_pick]
    by_cases ha : z ∈ a <;> by_cases hb : z ∈ b <;> simp [ha, hb]
theorem pick_gt (f m s : Bool) {x y : List UInt8} {a b : List (List UInt8)} (ha : Up (x :: a)) (hb : Up (y :: b)) (h : 0 < cf x y) :
    pick f m s (x :: a) (y :: b) = (if s then [y] else []) ++ pick f m s (x :: a) b := by
  rw [pick_comm, pick_lt s m f hb ha (by rw [cf_neg]; omega), pick_comm]
theorem pick_eq (f m s : Bool) {x : List UInt8} {a b : List (List UInt8)} (ha : Up (x :: a)) (hb : Up (x :: b)) :
    pick f m s (x :: a) (x :: b) = (if m then [x] else []) ++ pick f m s a b := by
  have ha' := List.pairwise_cons.1 ha
  have hb' := List.pairwise_cons.1 hb
  have hxa : x ∉ a := fun e => by have := ha'.1 x e; rw [cf_self] at this; omega
  have hxb : x ∉ b := fun e => by have := hb'.1 x e; rw [cf_self] at this; omega
  refine up_unique (up_pick _ _ _ _ _) (up_opt (up_pick _ _ _ _ _) (fun z hz => by
    rcases (mem_pick f m s a b z).1 hz with e | e | e
    · exact ha'.1 z e.1
    · exact ha'.1 z e.1
    · exact hb'.1 z e.2.1) m) (fun z => ?_)
  rw [mem_pick, List.mem_append, mem_pick]
  by_cases hz : z = x
  · subst hz
    cases m <;> simp_all
  · cases m <;> simp [hz]
theorem pick_nil (f m s : Bool) {a : List (List UInt8)} (ha : Up a) : pick f m s a [] = if f then a else [] := by
  refine up_unique (up_pick _ _ _ _ _) (by cases f; · simp [Up]
                                           · simpa using ha) fun z => ?_
  rw [mem_pick]
  cases f <;> simp
theorem nil_pick (f m s : Bool) {b : List (List UInt8)} (hb : Up b) : pick f m s [] b = if s then b else [] := by
  rw [pick_comm, pick_nil _ _ _ hb]

/-- the document's sets -/
def uni (a b : List (List UInt8)) : List (List UInt8) := norm (a ++ b)
def som (a b : List (List UInt8)) (i : Bool) : List (List UInt8) := norm (a.filter fun x => decide (x ∈ b) == i)
def drs (a : List (List UInt8)) : List (List UInt8) := norm (a.map dir)
def hds (l : List (List UInt8)) : List (List UInt8) := l.filter fun x => !l.any fun y => abvV y x
theorem mem_uni {a b : List (List UInt8)} {x : List UInt8} : x ∈ uni a b ↔ x ∈ a ∨ x ∈ b := by unfold uni; rw [mem_norm]; simp
theorem mem_met {a b : List (List UInt8)} {x : List UInt8} : x ∈ som a b true ↔ x ∈ a ∧ x ∈ b := by unfold som; rw [mem_norm]; simp
theorem mem_mns {a b : List (List UInt8)} {x : List UInt8} : x ∈ som a b false ↔ x ∈ a ∧ x ∉ b := by unfold som; rw [mem_norm]; simp
theorem mem_drs {a : List (List UInt8)} {x : List UInt8} : x ∈ drs a ↔ ∃ p, p ∈ a ∧ dir p = x := by unfold drs; rw [mem_norm]; simp
theorem up_uni (a b : List (List UInt8)) : Up (uni a b) := up_norm _
theorem up_som (a b : List (List UInt8)) (i : Bool) : Up (som a b i) := up_norm _
theorem up_drs (a : List (List UInt8)) : Up (drs a) := up_norm _
theorem pick_uni (a b : List (List UInt8)) : pick true true true (norm a) (norm b) = uni a b :=
  up_unique (up_pick _ _ _ _ _) (up_uni _ _) fun z => by
    rw [mem_pick, mem_norm, mem_norm, mem_uni]
    by_cases ha : z ∈ a <;> by_cases hb : z ∈ b <;> simp [ha, hb]
theorem pick_met (a b : List (List UInt8)) : pick false true false (norm a) (norm b) = som a b true :=
  up_unique (up_pick _ _ _ _ _) (up_som _ _ _) fun z => by
    rw [mem_pick, mem_norm, mem_norm, mem_met]
    by_cases ha : z ∈ a <;> by_cases hb : z ∈ b <;> simp [ha, hb]
theorem pick_mns (a b : List (List UInt8)) : pick true false false (norm a) (norm b) = som a b false :=
  up_unique (up_pick _ _ _ _ _) (up_som _ _ _) fun z => by
    rw [mem_pick, mem_norm, mem_norm, mem_mns]
    by_cases ha : z ∈ a <;> by_cases hb : z ∈ b <;> simp [ha, hb]

/-- above, and the order -/
theorem abv_cf {a b : List UInt8} (h : abvV a b = true) : cf a b < 0 := by
  unfold abvV at h; simp at h; exact h.2
theorem abv_trans {a b c : List UInt8} (h : abvV a b = true) (k : abvV b c = true) : abvV a c = true := by
  obtain ⟨r, hr, e⟩ := (abvV_iff a b).1 h
  obtain ⟨s, hs, e2⟩ := (abvV_iff b c).1 k
  exact (abvV_iff a c).2 ⟨r ++ s, by simp [hr], by rw [e2, e, List.append_assoc]⟩
theorem abv_between {a b c : List UInt8} (h : abvV a c = true) (h1 : cf a b < 0) (h2 : cf b c < 0) : abvV a b = true := by
  obtain ⟨r, hr, e⟩ := (abvV_iff a c).1 h
  have h1' : cmpP (pcs a) (pcs b) = -1 := by rcases cf_range a b with k | k | k <;> simp only [cf] at * <;> omega
  have h2' : cmpP (pcs b) (pcs a ++ r) ≤ 0 := by rw [← e]; simp only [cf] at h2; omega
  exact (abvV_iff a b).2 (cmpP_between _ _ _ h1' h2')
theorem mem_hds {l : List (List UInt8)} {x : List UInt8} : x ∈ hds l ↔ x ∈ l ∧ ∀ y ∈ l, abvV y x = false := by
  unfold hds; rw [List.mem_filter]; simp
theorem hds_cover (l : List (List UInt8)) : ∀ (n : Nat) (x : List UInt8), (pcs x).length ≤ n → x ∈ l → ∃ h, h ∈ hds l ∧ (h = x ∨ abvV h x = true)
  | n, x, hn, hx => by
    by_cases hh : ∀ y ∈ l, abvV y x = false
    · exact ⟨x, mem_hds.2 ⟨hx, hh⟩, Or.inl rfl⟩
    · simp only [Classical.not_forall] at hh
      obtain ⟨y, hy, hyx⟩ := hh
      have hyx : abvV y x = true := by simpa using hyx
      obtain ⟨r, hr, e⟩ := (abvV_iff y x).1 hyx
      have hlen : (pcs y).length < (pcs x).length := by
        rw [e, List.length_append]
        have : 0 < r.length := List.length_pos_iff.2 hr
        omega
      cases n with
      | zero => omega
      | succ n =>
        obtain ⟨h, hm, hz⟩ := hds_cover l n y (by omega) hy
        refine ⟨h, hm, Or.inr ?_⟩
        rcases hz with rfl | hz
        · exact hyx
        · exact abv_trans hz hyx
theorem hds_up {l : List (List UInt8)} (h : Up l) : Up (hds l) := up_filter h _
/-- one text more, behind all others -/
theorem hds_snoc {P : List (List UInt8)} {p : List UInt8} (h : Up (P ++ [p])) :
    hds (P ++ [p]) = if (match (hds P).getLast? with | none => true | some q => !abvV q p) then hds P ++ [p] else hds P := by
  have hP := (List.pairwise_append.1 h).1
  have hlt : ∀ x ∈ P, cf x p < 0 := fun x hx => (List.pairwise_append.1 h).2.2 x hx p (by simp)
  have hpx : ∀ x ∈ P, abvV p x = false := fun x hx => by
    cases e : abvV p x with
    | false => rfl
    | true => have := abv_cf e; have := hlt x hx; rw [cf_neg] at this; omega
  have hpp : abvV p p = false := by
    cases e : abvV p p with
    | false => rfl
    | true => have := abv_cf e; rw [cf_self] at this; omega
  have e1 : hds (P ++ [p]) = hds P ++ (if P.any (fun y => abvV y p) then [] else [p]) := by
    unfold hds
    rw [List.filter_append]
    congr 1
    · apply List.filter_congr
      intro x hx
      simp [hpx x hx]
    · cases hany : P.any (fun y => abvV y p) <;> simp [hpp, hany]
  have e2 : P.any (fun y => abvV y p) = (match (hds P).getLast? with | none => false | some q => abvV q p) := by
    cases hl : (hds P).getLast? with
    | none =>
      have h0 : hds P = [] := List.getLast?_eq_none_iff.1 hl
      have hPn : P = [] := by
        cases P with
        | nil => rfl
        | cons x P' =>
          obtain ⟨q, hq, _⟩ := hds_cover (x :: P') _ x (Nat.le_refl _) (by simp)
          rw [h0] at hq; simp at hq
      subst hPn; rfl
    | some q =>
      obtain ⟨ys, hys⟩ := List.getLast?_eq_some_iff.1 hl
      have hq : q ∈ hds P := by rw [hys]; simp
      have hqP := (mem_hds.1 hq).1
      show _ = abvV q p
      cases hqp : abvV q p with
      | true => exact List.any_eq_true.2 ⟨q, hqP, hqp⟩
      | false =>
        rw [List.any_eq_false]
        intro y hy hyp
        obtain ⟨z, hz, hzy⟩ := hds_cover P _ y (Nat.le_refl _) hy
        have hzp : abvV z p = true := by
          rcases hzy with rfl | hzy
          · exact hyp
          · exact abv_trans hzy hyp
        have hUp := hds_up hP
        rw [hys] at hz hUp
        rcases List.mem_append.1 hz with hz | hz
        · have hzq : cf z q < 0 := (List.pairwise_append.1 hUp).2.2 z hz q (by simp)
          have := abv_between hzp hzq (hlt q hqP)
          have h2 := (mem_hds.1 hq).2 z (mem_hds.1 (by rw [hys]; simp [hz])).1
          rw [h2] at this; cases this
        · simp at hz; subst hz
          rw [hzp] at hqp; cases hqp
  rw [e1, e2]
  cases (hds P).getLast? with
  | none => simp
  | some q => cases h : abvV q p <;> simp [h]
theorem hds_norm (l : List (List UInt8)) : norm (hds l) = hds (norm l) :=
  norm_of (hds_up (up_norm l)) fun x => by
    rw [mem_hds, mem_hds, mem_norm]
    simp only [mem_norm]

/-- how many -/
theorem len_parts (p : List UInt8 → Bool) : ∀ l : List (List UInt8), l.length = (l.filter p).length + (l.filter fun x => !p x).length
  | [] => rfl
  | x :: l => by
    have := len_parts p l
    cases h : p x <;> simp [h] <;> omega
theorem len_sets (a b : List (List UInt8)) : (uni a b).length + (som a b true).length = (norm a).length + (norm b).length := by
  have h1 := len_parts (fun x => decide (x ∈ b)) (uni a b)
  have h2 := len_parts (fun x => decide (x ∈ b)) (norm a)
  have e1 : (uni a b).filter (fun x => decide (x ∈ b)) = norm b := (norm_of (up_filter (up_uni a b) _) fun z => by
    rw [List.mem_filter, mem_uni]; simp only [decide_eq_true_eq]; exact ⟨fun h => h.2, fun h => ⟨Or.inr h, h⟩⟩).symm
  have e2 : (uni a b).filter (fun x => !decide (x ∈ b)) = som a b false := up_unique (up_filter (up_uni a b) _) (up_som _ _ _) fun z => by
    rw [List.mem_filter, mem_uni, mem_mns]
    by_cases ha : z ∈ a <;> by_cases hb : z ∈ b <;> simp [ha, hb]
  have e3 : (norm a).filter (fun x => decide (x ∈ b)) = som a b true := up_unique (up_filter (up_norm a) _) (up_som _ _ _) fun z => by
    rw [List.mem_filter, mem_norm, mem_met]; simp
  have e4 : (norm a).filter (fun x => !decide (x ∈ b)) = som a b false := up_unique (up_filter (up_norm a) _) (up_som _ _ _) fun z => by
    rw [List.mem_filter, mem_norm, mem_mns]; simp
  rw [e1, e2] at h1
  rw [e3, e4] at h2
  omega
theorem set_joins (a b : List (List UInt8)) : uni (som a b true) (som a b false) = norm a :=
  up_unique (up_uni _ _) (up_norm _) fun z => by
    rw [mem_uni, mem_met, mem_mns, mem_norm]
    by_cases ha : z ∈ a <;> by_cases hb : z ∈ b <;> simp [ha, hb]
theorem met_comm (a b : List (List UInt8)) : som b a true = som a b true :=
  up_unique (up_som _ _ _) (up_som _ _ _) fun z => by rw [mem_met, mem_met]; exact And.comm
theorem uni_comm (a b : List (List UInt8)) : uni b a = uni a b :=
  up_unique (up_uni _ _) (up_uni _ _) fun z => by rw [mem_uni, mem_uni]; exact Or.comm
theorem met_none (a b : List (List UInt8)) : som (som a b false) b true = [] :=
  up_unique (up_som _ _ _) (by simp [Up]) fun z => by
    rw [mem_met, mem_mns]; simp
end Go.Proofs.YtfdcfcalbongeaaGreat
