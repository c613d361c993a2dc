/-
  Lists and sums that are told.
-/
import Derived.Test.YtbaheiimcnfaaaaGreatJTri3
namespace Go.Proofs.YtbaheiimcnfaaaaGreat

def Nd.isF : Nd → Bool
  | .file _ => true
  | .dir _ _ _ => false
/-- what is at a text -/
def nod (L : List Fl) (d : List UInt8) : Option Nd := if okP d then st L (pcs d) else none
def isD (L : List Fl) (d : List UInt8) : Bool := d == [] || (okP d && L.any fun f => abvV d f.path)
theorem okP_nilT : okP [] = true := by decide
theorem isD_ok {L : List Fl} {d : List UInt8} (h : isD L d = true) : okP d = true := by
  unfold isD at h
  simp only [Bool.or_eq_true, beq_iff_eq, Bool.and_eq_true] at h
  rcases h with rfl | h
  · exact okP_nilT
  · exact h.1
theorem isD_iff {L : List Fl} (h : GoodT L) {d : List UInt8} : isD L d = true ↔ nod L d = some (.dir (cnt L (pcs d)) (tot L (pcs d)) (own L (pcs d))) := by
  unfold nod
  constructor
  · intro hd
    rw [if_pos (isD_ok hd)]
    apply st_dir h
    unfold isD at hd
    simp only [Bool.or_eq_true, beq_iff_eq, Bool.and_eq_true, List.any_eq_true] at hd
    rcases hd with rfl | ⟨_, f, hf, hp⟩
    · exact .inl rfl
    · rw [abv_pre] at hp
      exact .inr ⟨f, hf, hp⟩
  · intro e
    split at e
    · rename_i ho
      obtain ⟨_, _, _, h1, _⟩ := st_dir_inv e
      unfold isD
      simp only [Bool.or_eq_true, beq_iff_eq, Bool.and_eq_true, List.any_eq_true]
      rcases h1 with h1 | h1
      · exact .inl ((pcs_eq_nil d).1 h1)
      · obtain ⟨f, hf, hp⟩ := cnt_pos.1 h1
        exact .inr ⟨ho, f, hf, by rw [abv_pre]; exact hp⟩
    · cases e
theorem nod_cases {L : List Fl} (h : GoodT L) (d : List UInt8) :
    (isD L d = true ∧ nod L d = some (.dir (cnt L (pcs d)) (tot L (pcs d)) (own L (pcs d)))) ∨ (isD L d = false ∧ (nod L d = none ∨ ∃ s, nod L d = some (.file s))) := by
  cases hd : isD L d
  · right
    refine ⟨rfl, ?_⟩
    cases e : nod L d with
    | none => exact .inl rfl
    | some x =>
      cases x with
      | file s => exact .inr ⟨s, rfl⟩
      | dir c a o =>
        exfalso
        have e2 : nod L d = some (.dir (cnt L (pcs d)) (tot L (pcs d)) (own L (pcs d))) := by
          have e0 := e
          unfold nod at e0
          split at e0
          · obtain ⟨rfl, rfl, rfl, _⟩ := st_dir_inv e0
            exact e
          · cases e0
        rw [(isD_iff h).2 e2] at hd; cases hd
  · exact .inl ⟨rfl, (isD_iff h).1 hd⟩
def countS (L : List Fl) (d : List UInt8) : Nat := if isD L d then cnt L (pcs d) else 0
def cap (n : Nat) : Int := if n ≤ 9223372036854775807 then n else 9223372036854775807
def sizeS (L : List Fl) (d : List UInt8) : Int := if isD L d then cap (tot L (pcs d)) else 0
def ownS (L : List Fl) (d : List UInt8) : Int := if isD L d then cap (own L (pcs d)) else 0
/-- what is right in a directory: files, or directories -/
def inS (L : List Fl) (k : Bool) (d x : List UInt8) : Prop := ∃ n y, st L (pcs d ++ [n]) = some y ∧ y.isF = k ∧ x = join (pcs d ++ [n])

theorem part_of {L : List Fl} {q : Q} (hq : (st L q).isSome = true) : q = [] ∨ ∃ f ∈ L, q <+: pp f := by
  cases e : st L q with
  | none => rw [e] at hq; cases hq
  | some x =>
    cases x with
    | file s =>
      obtain ⟨f, hf, rfl, _⟩ := st_file_inv e
      exact .inr ⟨f, hf, List.prefix_refl _⟩
    | dir c a o =>
      obtain ⟨_, _, _, h1, _⟩ := st_dir_inv e
      rcases h1 with h1 | h1
      · exact .inl h1
      · obtain ⟨f, hf, hp⟩ := cnt_pos.1 h1
        obtain ⟨n, r, e2⟩ := pre_iff.1 hp
        exact .inr ⟨f, hf, ⟨n :: r, e2.symm⟩⟩
theorem GoodT.ok {L : List Fl} (h : GoodT L) {f : Fl} (hf : f ∈ L) : okP f.path = true := (path_of (h.each f hf)).2
theorem pcs_of {L : List Fl} (h : GoodT L) {q : Q} (hq : (st L q).isSome = true) : pcs (join q) = q ∧ okP (join q) = true := by
  rcases part_of hq with rfl | ⟨f, hf, hp⟩
  · exact ⟨rfl, okP_nilT⟩
  · exact ⟨pcs_part (okP_all (h.ok hf)) hp, okP_part (h.ok hf) hp⟩
theorem dir_pp {L : List Fl} (h : GoodT L) {f : Fl} (hf : f ∈ L) : pcs (dir f.path) = (pp f).dropLast := (dir_pcs (okP_all (h.ok hf)) (path_of (h.each f hf)).1).1
theorem pp_last {L : List Fl} (h : GoodT L) {f : Fl} (hf : f ∈ L) : pp f = (pp f).dropLast ++ [base f.path] := (dir_pcs (okP_all (h.ok hf)) (path_of (h.each f hf)).1).2
theorem dir_eq {L : List Fl} (h : GoodT L) {f : Fl} (hf : f ∈ L) (d : List UInt8) : (dir f.path = d) ↔ (pp f).dropLast = pcs d := by
  rw [← dir_pp h hf]
  exact ⟨fun e => by rw [e], fun e => pcs_inj e⟩

/-- the files right in it, in their order -/
def rfiles (L : List Fl) (d : List UInt8) : List (List UInt8) := (L.filter fun f => dir f.path == d).map (·.path)
theorem rfiles_up {L : List Fl} (h : Srt L) (d : List UInt8) : Up (rfiles L d) := by
  unfold rfiles Up
  rw [List.pairwise_map]
  exact List.Pairwise.filter _ h
theorem mem_rfiles {L : List Fl} (h : GoodT L) (d x : List UInt8) : x ∈ rfiles L d ↔ inS L true d x := by
  unfold rfiles inS
  simp only [List.mem_map, List.mem_filter, beq_iff_eq]
  constructor
  · rintro ⟨f, ⟨hf, hd⟩, rfl⟩
    rw [dir_eq h hf] at hd
    have e := pp_last h hf
    rw [hd] at e
    refine ⟨base f.path, .file (sz f), by rw [← e]; exact st_file h hf, rfl, ?_⟩
    rw [← e]; exact (join_pcs _).symm
  · rintro ⟨n, y, hs, hy, rfl⟩
    cases y with
    | dir c a o => cases hy
    | file s =>
      obtain ⟨f, hf, hp, _⟩ := st_file_inv hs
      refine ⟨f, ⟨hf, (dir_eq h hf d).2 (by rw [hp]; simp)⟩, ?_⟩
      rw [← hp]; exact (join_pcs _).symm
/-- the list of files is what the document says -/
theorem files_eq {L : List Fl} (h : GoodT L) (hs : Srt L) {d : List UInt8} {X : List (List UInt8)} (hu : Up X) (hm : ∀ x, x ∈ X ↔ inS L true d x) : X = rfiles L d :=
  up_unique hu (rfiles_up hs d) (fun x => by rw [hm, mem_rfiles h])

theorem cmpP_take : ∀ (k : Nat) (A B : Q), cmpP A B ≤ 0 → cmpP (A.take k) (B.take k) ≤ 0
  | 0, A, B, _ => by simp [cmpP]
  | k + 1, [], [], _ => by simp [cmpP]
  | k + 1, [], _ :: _, _ => by simp [cmpP]
  | k + 1, _ :: _, [], h => by simp [cmpP] at h
  | k + 1, a :: A, b :: B, h => by
    simp only [cmpP, List.take_succ_cons] at h ⊢
    split
    · rename_i e
      rw [if_pos e] at h
      exact cmpP_take k A B h
    · rename_i e
      rw [if_neg e] at h; exact h
/-- its head below a directory of k pieces -/
def hed (k : Nat) (f : Fl) : List UInt8 := join ((pp f).take (k + 1))
def deep (q : Q) (f : Fl) : Bool := pre q (pp f) && decide (q.length + 2 ≤ (pp f).length)
def rdirs (q : Q) : List Fl → List (List UInt8) → List (List UInt8)
  | [], acc => acc
  | f :: r, acc => rdirs q r (if deep q f then (if acc.getLast? = some (hed q.length f) then acc else acc ++ [hed q.length f]) else acc)
theorem pcs_hed {f : Fl} (h : okP f.path = true) (k : Nat) : pcs (hed k f) = (pp f).take (k + 1) := pcs_part (okP_all h) (List.take_prefix _ _)
theorem hed_le {f g : Fl} (hf : okP f.path = true) (hg : okP g.path = true) (h : cf f.path g.path < 0) (k : Nat) : cf (hed k f) (hed k g) ≤ 0 := by
  unfold cf
  rw [pcs_hed hf, pcs_hed hg]
  exact cmpP_take _ _ _ (by unfold cf at h; unfold pp; omega)
theorem rdirs_spec (q : Q) : ∀ (L : List Fl) (acc : List (List UInt8)), Srt L → (∀ f ∈ L, okP f.path = true) → Up acc → (∀ x ∈ acc, ∀ f ∈ L, deep q f = true → cf x (hed q.length f) ≤ 0) →
    Up (rdirs q L acc) ∧ ∀ x, x ∈ rdirs q L acc ↔ x ∈ acc ∨ ∃ f ∈ L, deep q f = true ∧ hed q.length f = x
  | [], acc, _, _, hu, _ => by simp [rdirs, hu]
  | f :: r, acc, hs, ho, hu, hb => by
    have hs' := List.pairwise_cons.1 hs
    have ho' : ∀ g ∈ r, okP g.path = true := fun g hg => ho g (by simp [hg])
    simp only [rdirs]
    cases hd : deep q f
    · have ih := rdirs_spec q r acc hs'.2 ho' hu (fun x hx g hg hdg => hb x hx g (by simp [hg]) hdg)
      simp only [Bool.false_eq_true, if_false]
      refine ⟨ih.1, fun x => ?_⟩
      rw [ih.2]
      simp [hd]
    · simp only [if_true]
      have hle : ∀ g ∈ r, cf (hed q.length f) (hed q.length g) ≤ 0 := fun g hg => hed_le (ho f (by simp)) (ho' g hg) (hs'.1 g hg) _
      by_cases hl : acc.getLast? = some (hed q.length f)
      · rw [if_pos hl]
        have hin : hed q.length f ∈ acc := List.mem_of_getLast? hl
        have ih := rdirs_spec q r acc hs'.2 ho' hu (fun x hx g hg hdg => hb x hx g (by simp [hg]) hdg)
        refine ⟨ih.1, fun x => ?_⟩
        rw [ih.2]
        simp only [List.mem_cons, exists_eq_or_imp, hd, true_and]
        constructor
        · rintro (h | h)
          · exact .inl h
          · exact .inr (.inr h)
        · rintro (h | h | h)
          · exact .inl h
          · exact .inl (h ▸ hin)
          · exact .inr h
      · rw [if_neg hl]
        have hlt : ∀ x ∈ acc, cf x (hed q.length f) < 0 := by
          intro x hx
          have h1 := hb x hx f (by simp) hd
          by_cases h0 : cf x (hed q.length f) = 0
          · exfalso
            have e := cf_zero.1 h0
            subst e
            obtain ⟨y, hy⟩ : ∃ y, acc.getLast? = some y := by
              cases e : acc.getLast? with
              | none => rw [List.getLast?_eq_none_iff] at e; subst e; simp at hx
              | some y => exact ⟨y, rfl⟩
            have hym := List.mem_of_getLast? hy
            have hne : y ≠ hed q.length f := fun e => hl (by rw [hy, e])
            have h2 := hb y hym f (by simp) hd
            obtain ⟨pre0, e2⟩ : ∃ pre0, acc = pre0 ++ [y] := ⟨acc.dropLast, by
              have hn : acc ≠ [] := by rintro rfl; simp at hx
              have := List.dropLast_concat_getLast hn
              rw [List.getLast?_eq_some_getLast hn] at hy
              rw [← Option.some.inj hy]; exact this.symm⟩
            rw [e2] at hx hu
            rcases List.mem_append.1 hx with hx | hx
            · have h3 := (List.pairwise_append.1 hu).2.2 _ hx y (by simp)
              rw [cf_neg] at h3; omega
            · simp at hx
              exact hne hx.symm
          · omega
        have hu2 : Up (acc ++ [hed q.length f]) := List.pairwise_append.2 ⟨hu, by simp, fun x hx y hy => by simp at hy; subst hy; exact hlt x hx⟩
        have ih := rdirs_spec q r (acc ++ [hed q.length f]) hs'.2 ho' hu2 (fun x hx g hg hdg => by
          rcases List.mem_append.1 hx with hx | hx
          · exact hb x hx g (by simp [hg]) hdg
          · simp at hx; subst hx; exact hle g hg)
        refine ⟨ih.1, fun x => ?_⟩
        rw [ih.2]
        simp only [List.mem_append, List.mem_cons, exists_eq_or_imp, hd, true_and, List.not_mem_nil, or_false]
        constructor
        · rintro ((h | h) | h)
          · exact .inl h
          · exact .inr (.inl h.symm)
          · exact .inr (.inr h)
        · rintro (h | h | h)
          · exact .inl (.inl h)
          · exact .inl (.inr h.symm)
          · exact .inr h
theorem mem_rdirs {L : List Fl} (h : GoodT L) (hs : Srt L) (d x : List UInt8) : x ∈ rdirs (pcs d) L [] ↔ inS L false d x := by
  rw [(rdirs_spec (pcs d) L [] hs (fun f hf => h.ok hf) .nil (by simp)).2]
  unfold inS
  constructor
  · rintro (h0 | ⟨f, hf, hd, rfl⟩)
    · simp at h0
    · unfold deep at hd
      simp only [Bool.and_eq_true, decide_eq_true_eq] at hd
      obtain ⟨n, r, e⟩ := pre_iff.1 hd.1
      have hp : pre (pcs d ++ [n]) (pp f) = true := by
        cases r with
        | nil => have := hd.2; rw [e] at this; simp at this
        | cons m r => exact pre_iff.2 ⟨m, r, by rw [e]; simp⟩
      refine ⟨n, _, st_dir h (.inr ⟨f, hf, hp⟩), rfl, ?_⟩
      unfold hed
      congr 1
      rw [e, List.take_append, List.take_of_length_le (by omega)]; simp
  · rintro ⟨n, y, hst, hy, rfl⟩
    cases y with
    | file s => cases hy
    | dir c a o =>
      obtain ⟨_, _, _, h1, _⟩ := st_dir_inv hst
      rcases h1 with h1 | h1
      · simp at h1
      · obtain ⟨f, hf, hp⟩ := cnt_pos.1 h1
        obtain ⟨m, r, e⟩ := pre_iff.1 hp
        refine .inr ⟨f, hf, ?_, ?_⟩
        · unfold deep
          rw [pre_snoc hp, e]; simp
        · unfold hed
          rw [e, List.append_assoc, List.take_append, List.take_of_length_le (by omega)]; simp
theorem dirs_eq {L : List Fl} (h : GoodT L) (hs : Srt L) {d : List UInt8} {X : List (List UInt8)} (hu : Up X) (hm : ∀ x, x ∈ X ↔ inS L false d x) : X = rdirs (pcs d) L [] :=
  up_unique hu (rdirs_spec (pcs d) L [] hs (fun f hf => h.ok hf) .nil (by simp)).1 (fun x => by rw [hm, mem_rdirs h hs])

/-- sums that stop -/
def addC (a b : Int) : Int := if a > 9223372036854775807 - b then 9223372036854775807 else a + b
theorem addC_cap (n m : Nat) (hm : m ≤ 9223372036854775807) : addC (cap n) m = cap (n + m) := by
  unfold addC cap
  split <;> split <;> split <;> omega
def sumC (P : Fl → Bool) : List Fl → Int → Int
  | [], n => n
  | f :: r, n => sumC P r (if P f then addC n f.size else n)
theorem sumC_cap (P : Fl → Bool) : ∀ (L : List Fl) (n : Nat), (∀ f ∈ L, 0 ≤ f.size ∧ f.size ≤ 9223372036854775807) → sumC P L (cap n) = cap (n + (L.map fun f => if P f then sz f else 0).sum)
  | [], n, _ => by simp [sumC]
  | f :: r, n, h => by
    have hf := h f (by simp)
    have hz : f.size = (sz f : Int) := by unfold sz; omega
    simp only [sumC, List.map_cons, List.sum_cons]
    cases hp : P f
    · simp only [Bool.false_eq_true, if_false]
      rw [sumC_cap P r n (fun g hg => h g (by simp [hg]))]; congr 1; omega
    · simp only [if_true]
      rw [hz, addC_cap n (sz f) (by omega), sumC_cap P r _ (fun g hg => h g (by simp [hg]))]; congr 1; omega
theorem tot_sum (q : Q) : ∀ (L : List Fl), (L.map fun f => if pre q (pp f) then sz f else 0).sum = tot L q
  | [] => rfl
  | f :: r => by simp only [List.map_cons, List.sum_cons, tot, tot_sum q r]
theorem own_sum {d : List UInt8} : ∀ (L : List Fl), (∀ f ∈ L, fileE f = 0) → (L.map fun f => if dir f.path == d then sz f else 0).sum = own L (pcs d)
  | [], _ => rfl
  | f :: r, h => by
    simp only [List.map_cons, List.sum_cons, own, own_sum r (fun g hg => h g (by simp [hg]))]
    have hp := path_of (h f (by simp))
    have e := (dir_pcs (okP_all hp.2) hp.1).1
    congr 1
    by_cases hd : dir f.path = d
    · have e2 : (pp f).dropLast = pcs d := by rw [← hd]; exact e.symm
      rw [if_pos e2]; simp [hd]
    · have e2 : ¬ (pp f).dropLast = pcs d := fun e2 => hd (pcs_inj (e.trans e2))
      rw [if_neg e2]; simp [hd]
theorem cnt_count (d : List UInt8) : ∀ (L : List Fl), L.countP (fun f => abvV d f.path) = cnt L (pcs d)
  | [] => rfl
  | f :: r => by
    rw [List.countP_cons, cnt_count d r, cnt, abv_pre]
    unfold pp; omega
end Go.Proofs.YtbaheiimcnfaaaaGreat
