/-
  Lists and sums that are told.
  From a directory down each file once; sums by halves.
  A step by what is hidden, as plain lists: what is shown, what it costs, which candidate is the best.
-/
import Derived.Test.YtbaheiimcnfaaaaGreatJTri3
import Derived.Test.YtbaheiimcnfaaaaGreatJMg2
namespace Go.Proofs.YtbaheiimcnfaaaaGreat

def Nd.isF : Nd → Bool
  | .file _ => true
  | .dir _ _ _ => false
/-- what is at a text -/
def nod (L : List Fl) (d : List UInt8) : Option Nd := if okP d then st L (pcs d) else none
def isD (L : List Fl) (d : List UInt8) : Bool := d == [] || (okP d && L.any fun f => abvV d f.path)
theorem okP_nilT : okP [] = true := by decide
theorem isD_ok {L : List Fl} {d : List UInt8} (h : isD L d = true) : okP d = true := by
  unfold isD at h
  simp only [Bool.or_eq_true, beq_iff_eq, Bool.and_eq_true] at h
  rcases h with rfl | h
  · exact okP_nilT
  · exact h.1
theorem isD_iff {L : List Fl} (h : GoodT L) {d : List UInt8} : isD L d = true ↔ nod L d = some (.dir (cnt L (pcs d)) (tot L (pcs d)) (own L (pcs d))) := by
  unfold nod
  constructor
  · intro hd
    rw [if_pos (isD_ok hd)]
    apply st_dir h
    unfold isD at hd
    simp only [Bool.or_eq_true, beq_iff_eq, Bool.and_eq_true, List.any_eq_true] at hd
    rcases hd with rfl | ⟨_, f, hf, hp⟩
    · exact .inl rfl
    · rw [abv_pre] at hp
      exact .inr ⟨f, hf, hp⟩
  · intro e
    split at e
    · rename_i ho
      obtain ⟨_, _, _, h1, _⟩ := st_dir_inv e
      unfold isD
      simp only [Bool.or_eq_true, beq_iff_eq, Bool.and_eq_true, List.any_eq_true]
      rcases h1 with h1 | h1
      · exact .inl ((pcs_eq_nil d).1 h1)
      · obtain ⟨f, hf, hp⟩ := cnt_pos.1 h1
        exact .inr ⟨ho, f, hf, by rw [abv_pre]; exact hp⟩
    · cases e
theorem nod_cases {L : List Fl} (h : GoodT L) (d : List UInt8) :
    (isD L d = true ∧ nod L d = some (.dir (cnt L (pcs d)) (tot L (pcs d)) (own L (pcs d)))) ∨ (isD L d = false ∧ (nod L d = none ∨ ∃ s, nod L d = some (.file s))) := by
  cases hd : isD L d
  · right
    refine ⟨rfl, ?_⟩
    cases e : nod L d with
    | none => exact .inl rfl
    | some x =>
      cases x with
      | file s => exact .inr ⟨s, rfl⟩
      | dir c a o =>
        exfalso
        have e2 : nod L d = some (.dir (cnt L (pcs d)) (tot L (pcs d)) (own L (pcs d))) := by
          have e0 := e
          unfold nod at e0
          split at e0
          · obtain ⟨rfl, rfl, rfl, _⟩ := st_dir_inv e0
            exact e
          · cases e0
        rw [(isD_iff h).2 e2] at hd; cases hd
  · exact .inl ⟨rfl, (isD_iff h).1 hd⟩
def countS (L : List Fl) (d : List UInt8) : Nat := if isD L d then cnt L (pcs d) else 0
def cap (n : Nat) : Int := if n ≤ 9223372036854775807 then n else 9223372036854775807
def sizeS (L : List Fl) (d : List UInt8) : Int := if isD L d then cap (tot L (pcs d)) else 0
def ownS (L : List Fl) (d : List UInt8) : Int := if isD L d then cap (own L (pcs d)) else 0
/-- what is right in a directory: files, or directories -/
def inS (L : List Fl) (k : Bool) (d x : List UInt8) : Prop := ∃ n y, st L (pcs d ++ [n]) = some y ∧ y.isF = k ∧ x = join (pcs d ++ [n])

theorem part_of {L : List Fl} {q : Q} (hq : (st L q).isSome = true) : q = [] ∨ ∃ f ∈ L, q <+: pp f := by
  cases e : st L q with
  | none => rw [e] at hq; cases hq
  | some x =>
    cases x with
    | file s =>
      obtain ⟨f, hf, rfl, _⟩ := st_file_inv e
      exact .inr ⟨f, hf, List.prefix_refl _⟩
    | dir c a o =>
      obtain ⟨_, _, _, h1, _⟩ := st_dir_inv e
      rcases h1 with h1 | h1
      · exact .inl h1
      · obtain ⟨f, hf, hp⟩ := cnt_pos.1 h1
        obtain ⟨n, r, e2⟩ := pre_iff.1 hp
        exact .inr ⟨f, hf, ⟨n :: r, e2.symm⟩⟩
theorem GoodT.ok {L : List Fl} (h : GoodT L) {f : Fl} (hf : f ∈ L) : okP f.path = true := (path_of (h.each f hf)).2
theorem pcs_of {L : List Fl} (h : GoodT L) {q : Q} (hq : (st L q).isSome = true) : pcs (join q) = q ∧ okP (join q) = true := by
  rcases part_of hq with rfl | ⟨f, hf, hp⟩
  · exact ⟨rfl, okP_nilT⟩
  · exact ⟨pcs_part (okP_all (h.ok hf)) hp, okP_part (h.ok hf) hp⟩
theorem dir_pp {L : List Fl} (h : GoodT L) {f : Fl} (hf : f ∈ L) : pcs (dir f.path) = (pp f).dropLast := (dir_pcs (okP_all (h.ok hf)) (path_of (h.each f hf)).1).1
theorem pp_last {L : List Fl} (h : GoodT L) {f : Fl} (hf : f ∈ L) : pp f = (pp f).dropLast ++ [base f.path] := (dir_pcs (okP_all (h.ok hf)) (path_of (h.each f hf)).1).2
theorem dir_eq {L : List Fl} (h : GoodT L) {f : Fl} (hf : f ∈ L) (d : List UInt8) : (dir f.path = d) ↔ (pp f).dropLast = pcs d := by
  rw [← dir_pp h hf]
  exact ⟨fun e => by rw [e], fun e => pcs_inj e⟩

/-- the files right in it, in their order -/
def rfiles (L : List Fl) (d : List UInt8) : List (List UInt8) := (L.filter fun f => dir f.path == d).map (·.path)
theorem rfiles_up {L : List Fl} (h : Srt L) (d : List UInt8) : Up (rfiles L d) := by
  unfold rfiles Up
  rw [List.pairwise_map]
  exact List.Pairwise.filter _ h
theorem mem_rfiles {L : List Fl} (h : GoodT L) (d x : List UInt8) : x ∈ rfiles L d ↔ inS L true d x := by
  unfold rfiles inS
  simp only [List.mem_map, List.mem_filter, beq_iff_eq]
  constructor
  · rintro ⟨f, ⟨hf, hd⟩, rfl⟩
    rw [dir_eq h hf] at hd
    have e := pp_last h hf
    rw [hd] at e
    refine ⟨base f.path, .file (sz f), by rw [← e]; exact st_file h hf, rfl, ?_⟩
    rw [← e]; exact (join_pcs _).symm
  · rintro ⟨n, y, hs, hy, rfl⟩
    cases y with
    | dir c a o => cases hy
    | file s =>
      obtain ⟨f, hf, hp, _⟩ := st_file_inv hs
      refine ⟨f, ⟨hf, (dir_eq h hf d).2 (by rw [hp]; simp)⟩, ?_⟩
      rw [← hp]; exact (join_pcs _).symm
/-- the list of files is what the document says -/
theorem files_eq {L : List Fl} (h : GoodT L) (hs : Srt L) {d : List UInt8} {X : List (List UInt8)} (hu : Up X) (hm : ∀ x, x ∈ X ↔ inS L true d x) : X = rfiles L d :=
  up_unique hu (rfiles_up hs d) (fun x => by rw [hm, mem_rfiles h])

theorem cmpP_take : ∀ (k : Nat) (A B : Q), cmpP A B ≤ 0 → cmpP (A.take k) (B.take k) ≤ 0
  | 0, A, B, _ => by simp [cmpP]
  | k + 1, [], [], _ => by simp [cmpP]
  | k + 1, [], _ :: _, _ => by simp [cmpP]
  | k + 1, _ :: _, [], h => by simp [cmpP] at h
  | k + 1, a :: A, b :: B, h => by
    simp only [cmpP, List.take_succ_cons] at h ⊢
    split
    · rename_i e
      rw [if_pos e] at h
      exact cmpP_take k A B h
    · rename_i e
      rw [if_neg e] at h; exact h
/-- its head below a directory of k pieces -/
def hed (k : Nat) (f : Fl) : List UInt8 := join ((pp f).take (k + 1))
def deep (q : Q) (f : Fl) : Bool := pre q (pp f) && decide (q.length + 2 ≤ (pp f).length)
def rdirs (q : Q) : List Fl → List (List UInt8) → List (List UInt8)
  | [], acc => acc
  | f :: r, acc => rdirs q r (if deep q f then (if acc.getLast? = some (hed q.length f) then acc else acc ++ [hed q.length f]) else acc)
theorem pcs_hed {f : Fl} (h : okP f.path = true) (k : Nat) : pcs (hed k f) = (pp f).take (k + 1) := pcs_part (okP_all h) (List.take_prefix _ _)
theorem hed_le {f g : Fl} (hf : okP f.path = true) (hg : okP g.path = true) (h : cf f.path g.path < 0) (k : Nat) : cf (hed k f) (hed k g) ≤ 0 := by
  unfold cf
  rw [pcs_hed hf, pcs_hed hg]
  exact cmpP_take _ _ _ (by unfold cf at h; unfold pp; omega)
theorem rdirs_spec (q : Q) : ∀ (L : List Fl) (acc : List (List UInt8)), Srt L → (∀ f ∈ L, okP f.path = true) → Up acc → (∀ x ∈ acc, ∀ f ∈ L, deep q f = true → cf x (hed q.length f) ≤ 0) →
    Up (rdirs q L acc) ∧ ∀ x, x ∈ rdirs q L acc ↔ x ∈ acc ∨ ∃ f ∈ L, deep q f = true ∧ hed q.length f = x
  | [], acc, _, _, hu, _ => by simp [rdirs, hu]
  | f :: r, acc, hs, ho, hu, hb => by
    have hs' := List.pairwise_cons.1 hs
    have ho' : ∀ g ∈ r, okP g.path = true := fun g hg => ho g (by simp [hg])
    simp only [rdirs]
    cases hd : deep q f
    · have ih := rdirs_spec q r acc hs'.2 ho' hu (fun x hx g hg hdg => hb x hx g (by simp [hg]) hdg)
      simp only [Bool.false_eq_true, if_false]
      refine ⟨ih.1, fun x => ?_⟩
      rw [ih.2]
      simp [hd]
    · simp only [if_true]
      have hle : ∀ g ∈ r, cf (hed q.length f) (hed q.length g) ≤ 0 := fun g hg => hed_le (ho f (by simp)) (ho' g hg) (hs'.1 g hg) _
      by_cases hl : acc.getLast? = some (hed q.length f)
      · rw [if_pos hl]
        have hin : hed q.length f ∈ acc := List.mem_of_getLast? hl
        have ih := rdirs_spec q r acc hs'.2 ho' hu (fun x hx g hg hdg => hb x hx g (by simp [hg]) hdg)
        refine ⟨ih.1, fun x => ?_⟩
        rw [ih.2]
        simp only [List.mem_cons, exists_eq_or_imp, hd, true_and]
        constructor
        · rintro (h | h)
          · exact .inl h
          · exact .inr (.inr h)
        · rintro (h | h | h)
          · exact .inl h
          · exact .inl (h ▸ hin)
          · exact .inr h
      · rw [if_neg hl]
        have hlt : ∀ x ∈ acc, cf x (hed q.length f) < 0 := by
          intro x hx
          have h1 := hb x hx f (by simp) hd
          by_cases h0 : cf x (hed q.length f) = 0
          · exfalso
            have e := cf_zero.1 h0
            subst e
            obtain ⟨y, hy⟩ : ∃ y, acc.getLast? = some y := by
              cases e : acc.getLast? with
              | none => rw [List.getLast?_eq_none_iff] at e; subst e; simp at hx
              | some y => exact ⟨y, rfl⟩
            have hym := List.mem_of_getLast? hy
            have hne : y ≠ hed q.length f := fun e => hl (by rw [hy, e])
            have h2 := hb y hym f (by simp) hd
            obtain ⟨pre0, e2⟩ : ∃ pre0, acc = pre0 ++ [y] := ⟨acc.dropLast, by
              have hn : acc ≠ [] := by rintro rfl; simp at hx
              have := List.dropLast_concat_getLast hn
              rw [List.getLast?_eq_some_getLast hn] at hy
              rw [← Option.some.inj hy]; exact this.symm⟩
            rw [e2] at hx hu
            rcases List.mem_append.1 hx with hx | hx
            · have h3 := (List.pairwise_append.1 hu).2.2 _ hx y (by simp)
              rw [cf_neg] at h3; omega
            · simp at hx
              exact hne hx.symm
          · omega
        have hu2 : Up (acc ++ [hed q.length f]) := List.pairwise_append.2 ⟨hu, by simp, fun x hx y hy => by simp at hy; subst hy; exact hlt x hx⟩
        have ih := rdirs_spec q r (acc ++ [hed q.length f]) hs'.2 ho' hu2 (fun x hx g hg hdg => by
          rcases List.mem_append.1 hx with hx | hx
          · exact hb x hx g (by simp [hg]) hdg
          · simp at hx; subst hx; exact hle g hg)
        refine ⟨ih.1, fun x => ?_⟩
        rw [ih.2]
        simp only [List.mem_append, List.mem_cons, exists_eq_or_imp, hd, true_and, List.not_mem_nil, or_false]
        constructor
        · rintro ((h | h) | h)
          · exact .inl h
          · exact .inr (.inl h.symm)
          · exact .inr (.inr h)
        · rintro (h | h | h)
          · exact .inl (.inl h)
          · exact .inl (.inr h.symm)
          · exact .inr h
theorem mem_rdirs {L : List Fl} (h : GoodT L) (hs : Srt L) (d x : List UInt8) : x ∈ rdirs (pcs d) L [] ↔ inS L false d x := by
  rw [(rdirs_spec (pcs d) L [] hs (fun f hf => h.ok hf) .nil (by simp)).2]
  unfold inS
  constructor
  · rintro (h0 | ⟨f, hf, hd, rfl⟩)
    · simp at h0
    · unfold deep at hd
      simp only [Bool.and_eq_true, decide_eq_true_eq] at hd
      obtain ⟨n, r, e⟩ := pre_iff.1 hd.1
      have hp : pre (pcs d ++ [n]) (pp f) = true := by
        cases r with
        | nil => have := hd.2; rw [e] at this; simp at this
        | cons m r => exact pre_iff.2 ⟨m, r, by rw [e]; simp⟩
      refine ⟨n, _, st_dir h (.inr ⟨f, hf, hp⟩), rfl, ?_⟩
      unfold hed
      congr 1
      rw [e, List.take_append, List.take_of_length_le (by omega)]; simp
  · rintro ⟨n, y, hst, hy, rfl⟩
    cases y with
    | file s => cases hy
    | dir c a o =>
      obtain ⟨_, _, _, h1, _⟩ := st_dir_inv hst
      rcases h1 with h1 | h1
      · simp at h1
      · obtain ⟨f, hf, hp⟩ := cnt_pos.1 h1
        obtain ⟨m, r, e⟩ := pre_iff.1 hp
        refine .inr ⟨f, hf, ?_, ?_⟩
        · unfold deep
          rw [pre_snoc hp, e]; simp
        · unfold hed
          rw [e, List.append_assoc, List.take_append, List.take_of_length_le (by omega)]; simp
theorem dirs_eq {L : List Fl} (h : GoodT L) (hs : Srt L) {d : List UInt8} {X : List (List UInt8)} (hu : Up X) (hm : ∀ x, x ∈ X ↔ inS L false d x) : X = rdirs (pcs d) L [] :=
  up_unique hu (rdirs_spec (pcs d) L [] hs (fun f hf => h.ok hf) .nil (by simp)).1 (fun x => by rw [hm, mem_rdirs h hs])

/-- sums that stop -/
def addC (a b : Int) : Int := if a > 9223372036854775807 - b then 9223372036854775807 else a + b
theorem addC_cap (n m : Nat) (hm : m ≤ 9223372036854775807) : addC (cap n) m = cap (n + m) := by
  unfold addC cap
  split <;> split <;> split <;> omega
def sumC (P : Fl → Bool) : List Fl → Int → Int
  | [], n => n
  | f :: r, n => sumC P r (if P f then addC n f.size else n)
theorem sumC_cap (P : Fl → Bool) : ∀ (L : List Fl) (n : Nat), (∀ f ∈ L, 0 ≤ f.size ∧ f.size ≤ 9223372036854775807) → sumC P L (cap n) = cap (n + (L.map fun f => if P f then sz f else 0).sum)
  | [], n, _ => by simp [sumC]
  | f :: r, n, h => by
    have hf := h f (by simp)
    have hz : f.size = (sz f : Int) := by unfold sz; omega
    simp only [sumC, List.map_cons, List.sum_cons]
    cases hp : P f
    · simp only [Bool.false_eq_true, if_false]
      rw [sumC_cap P r n (fun g hg => h g (by simp [hg]))]; congr 1; omega
    · simp only [if_true]
      rw [hz, addC_cap n (sz f) (by omega), sumC_cap P r _ (fun g hg => h g (by simp [hg]))]; congr 1; omega
theorem tot_sum (q : Q) : ∀ (L : List Fl), (L.map fun f => if pre q (pp f) then sz f else 0).sum = tot L q
  | [] => rfl
  | f :: r => by simp only [List.map_cons, List.sum_cons, tot, tot_sum q r]
theorem own_sum {d : List UInt8} : ∀ (L : List Fl), (∀ f ∈ L, fileE f = 0) → (L.map fun f => if dir f.path == d then sz f else 0).sum = own L (pcs d)
  | [], _ => rfl
  | f :: r, h => by
    simp only [List.map_cons, List.sum_cons, own, own_sum r (fun g hg => h g (by simp [hg]))]
    have hp := path_of (h f (by simp))
    have e := (dir_pcs (okP_all hp.2) hp.1).1
    congr 1
    by_cases hd : dir f.path = d
    · have e2 : (pp f).dropLast = pcs d := by rw [← hd]; exact e.symm
      rw [if_pos e2]; simp [hd]
    · have e2 : ¬ (pp f).dropLast = pcs d := fun e2 => hd (pcs_inj (e.trans e2))
      rw [if_neg e2]; simp [hd]
theorem cnt_count (d : List UInt8) : ∀ (L : List Fl), L.countP (fun f => abvV d f.path) = cnt L (pcs d)
  | [] => rfl
  | f :: r => by
    rw [List.countP_cons, cnt_count d r, cnt, abv_pre]
    unfold pp; omega
end Go.Proofs.YtbaheiimcnfaaaaGreat

namespace Go.Proofs.YtbaheiimcnfaaaaGreat

def csum (M : List Fl) : List (List UInt8) → Nat
  | [] => 0
  | x :: r => cnt M (pcs x) + csum M r
theorem csum_snoc (M : List Fl) : ∀ (X : List (List UInt8)) (x : List UInt8), csum M (X ++ [x]) = csum M X + cnt M (pcs x)
  | [], x => by simp [csum]
  | y :: r, x => by simp only [List.cons_append, csum, csum_snoc M r x]; omega
theorem csum_nil : ∀ X, csum [] X = 0
  | [] => rfl
  | x :: r => by simp [csum, cnt, csum_nil r]
theorem csum_cons (f : Fl) (M : List Fl) : ∀ X, csum (f :: M) X = (X.countP fun x => pre (pcs x) (pp f)) + csum M X
  | [] => rfl
  | x :: r => by
    simp only [csum, csum_cons f M r, cnt, List.countP_cons]; omega
theorem split_all {q : Q} {X : List (List UInt8)} : ∀ (M : List Fl), (∀ f ∈ M, (if pre q (pp f) then 1 else 0) = (if (pp f).dropLast = q then 1 else 0) + X.countP fun x => pre (pcs x) (pp f)) →
    cnt M q = (M.countP fun f => (pp f).dropLast == q) + csum M X
  | [], _ => by simp [cnt, csum_nil]
  | f :: r, h => by
    have ih := split_all r (fun g hg => h g (by simp [hg]))
    have hf := h f (by simp)
    rw [cnt, ih, hf, csum_cons, List.countP_cons]
    by_cases e : (pp f).dropLast = q
    · simp [e]; omega
    · simp [e]; omega
theorem count_one {X : List (List UInt8)} {y : List UInt8} {P : List UInt8 → Bool} (hn : X.Nodup) (hy : y ∈ X) (hP : ∀ x ∈ X, P x = true ↔ x = y) : X.countP P = 1 := by
  induction X with
  | nil => simp at hy
  | cons x r ih =>
    have hn' := List.nodup_cons.1 hn
    rw [List.countP_cons]
    by_cases e : x = y
    · subst e
      have h0 : r.countP P = 0 := by
        rw [List.countP_eq_zero]
        intro z hz hPz
        have := (hP z (by simp [hz])).1 hPz
        subst this; exact hn'.1 hz
      rw [h0, (hP x (by simp)).2 rfl]; rfl
    · have h1 := ih hn'.2 (by rcases List.mem_cons.1 hy with h | h; exact absurd h.symm e; exact h) (fun z hz => hP z (by simp [hz]))
      have : P x = false := by
        cases h : P x
        · rfl
        · exact absurd ((hP x (by simp)).1 h) e
      rw [h1, this]; rfl
theorem up_nodup {X : List (List UInt8)} (h : Up X) : X.Nodup := h.imp (fun {a b} h e => by subst e; rw [cf_self] at h; omega)
/-- how many are in and below: those in it, and those below what is in it -/
theorem cnt_split {L : List Fl} (h : GoodT L) {d : List UInt8} {X Y : List (List UInt8)} (hX : Up X) (mX : ∀ x, x ∈ X ↔ inS L true d x) (hY : Up Y) (mY : ∀ x, x ∈ Y ↔ inS L false d x) :
    cnt L (pcs d) = X.length + csum L Y := by
  rw [split_all (X := Y) (q := pcs d) L ?_]
  · congr 1
    have hperm : X.Perm ((L.filter fun f => (pp f).dropLast == pcs d).map (·.path)) := by
      refine (List.perm_ext_iff_of_nodup (up_nodup hX) ?_).2 (fun x => ?_)
      · rw [List.Nodup, List.pairwise_map]
        exact (h.apart.filter _).imp (fun {f g} hfg e => hfg.1 (by unfold pp; rw [e]))
      · rw [mX, ← mem_rfiles h]
        unfold rfiles
        simp only [List.mem_map, List.mem_filter, beq_iff_eq]
        constructor
        · rintro ⟨f, ⟨hf, hd⟩, rfl⟩
          exact ⟨f, ⟨hf, (dir_eq h hf d).1 hd⟩, rfl⟩
        · rintro ⟨f, ⟨hf, hd⟩, rfl⟩
          exact ⟨f, ⟨hf, (dir_eq h hf d).2 hd⟩, rfl⟩
    rw [hperm.length_eq, List.length_map, List.countP_eq_length_filter]
  · intro f hf
    have hne : pp f ≠ [] := h.ne f hf
    have hpY : ∀ y ∈ Y, ∃ n, pcs y = pcs d ++ [n] := by
      intro y hy
      obtain ⟨n, z, hs, _, rfl⟩ := (mY y).1 hy
      exact ⟨n, (pcs_of h (by rw [hs]; rfl)).1⟩
    by_cases hp : pre (pcs d) (pp f) = true
    · rw [if_pos hp]
      obtain ⟨n, r, e⟩ := pre_iff.1 hp
      cases r with
      | nil =>
        have e1 : (pp f).dropLast = pcs d := by rw [e]; simp
        rw [if_pos e1]
        have : (Y.countP fun x => pre (pcs x) (pp f)) = 0 := by
          rw [List.countP_eq_zero]
          intro y hy hpy
          obtain ⟨m, em⟩ := hpY y hy
          have := pre_len hpy
          rw [em, e] at this; simp at this
        omega
      | cons m r =>
        have e1 : ¬ (pp f).dropLast = pcs d := by
          intro e2
          have := congrArg List.length e2
          rw [e] at this; simp at this
        rw [if_neg e1]
        have hpn : pre (pcs d ++ [n]) (pp f) = true := pre_iff.2 ⟨m, r, by rw [e]; simp⟩
        have hs := st_dir h (.inr ⟨f, hf, hpn⟩)
        have hin : join (pcs d ++ [n]) ∈ Y := (mY _).2 ⟨n, _, hs, rfl, rfl⟩
        have hpc := (pcs_of h (q := pcs d ++ [n]) (by rw [hs]; rfl)).1
        rw [count_one (up_nodup hY) hin]
        intro y hy
        obtain ⟨k, ek⟩ := hpY y hy
        constructor
        · intro hpy
          rw [ek] at hpy
          obtain ⟨a, t, e3⟩ := pre_iff.1 hpy
          rw [e, List.append_assoc] at e3
          have e4 := List.append_cancel_left e3
          simp only [List.singleton_append, List.cons.injEq] at e4
          rw [← e4.1] at ek
          exact pcs_inj (ek.trans hpc.symm)
        · rintro rfl
          rw [hpc]; exact hpn
    · rw [if_neg hp]
      have e1 : ¬ (pp f).dropLast = pcs d := fun e => hp (drop_pre hne e)
      rw [if_neg e1]
      have : (Y.countP fun x => pre (pcs x) (pp f)) = 0 := by
        rw [List.countP_eq_zero]
        intro y hy hpy
        obtain ⟨m, em⟩ := hpY y hy
        rw [em] at hpy
        exact hp (pre_snoc hpy)
      omega
/-- a file in or below is in it, or below what is in it -/
theorem below_split {L : List Fl} (h : GoodT L) {d : List UInt8} {X Y : List (List UInt8)} (mX : ∀ x, x ∈ X ↔ inS L true d x) (mY : ∀ x, x ∈ Y ↔ inS L false d x) {f : Fl} (hf : f ∈ L) (hp : pre (pcs d) (pp f) = true) :
    f.path ∈ X ∨ ∃ y ∈ Y, pre (pcs y) (pp f) = true := by
  obtain ⟨n, r, e⟩ := pre_iff.1 hp
  cases r with
  | nil =>
    left
    rw [mX]
    refine ⟨n, _, by rw [← e]; exact st_file h hf, rfl, ?_⟩
    rw [← e]; exact (join_pcs _).symm
  | cons m r =>
    right
    have hpn : pre (pcs d ++ [n]) (pp f) = true := pre_iff.2 ⟨m, r, by rw [e]; simp⟩
    have hs := st_dir h (.inr ⟨f, hf, hpn⟩)
    exact ⟨join (pcs d ++ [n]), (mY _).2 ⟨n, _, hs, rfl, rfl⟩, by rw [(pcs_of h (q := pcs d ++ [n]) (by rw [hs]; rfl)).1]; exact hpn⟩
/-- what is in a directory that is a directory -/
theorem inS_dir {L : List Fl} (h : GoodT L) {d x : List UInt8} (hx : inS L false d x) : okP x = true ∧ nod L x = some (.dir (cnt L (pcs x)) (tot L (pcs x)) (own L (pcs x))) ∧ 0 < cnt L (pcs x) ∧ (pcs x).length = (pcs d).length + 1 := by
  obtain ⟨n, y, hs, hy, rfl⟩ := hx
  cases y with
  | file s => cases hy
  | dir c a o =>
    have hp := pcs_of h (q := pcs d ++ [n]) (by rw [hs]; rfl)
    obtain ⟨rfl, rfl, rfl, h1, _⟩ := st_dir_inv hs
    refine ⟨hp.2, ?_, ?_, by rw [hp.1]; simp⟩
    · unfold nod
      rw [if_pos hp.2, hp.1]; exact hs
    · rw [hp.1]
      rcases h1 with h1 | h1
      · simp at h1
      · exact h1
theorem st_short {L : List Fl} (h : GoodT L) {q : Q} (hq : (st L q).isSome = true) : q.length ≤ 12 := by
  have := pcs_of h hq
  have h2 := (okP_len this.2).2
  rw [← dep_eq, this.1] at h2; exact h2

theorem countS_eq {L : List Fl} (h : GoodT L) (d : List UInt8) : countS L d = cnt L (pcs d) := by
  unfold countS
  cases hd : isD L d
  · symm
    simp only [Bool.false_eq_true, if_false]
    rcases Nat.eq_zero_or_pos (cnt L (pcs d)) with h0 | h0
    · exact h0
    · exfalso
      obtain ⟨f, hf, hp⟩ := cnt_pos.1 h0
      obtain ⟨n, r, e⟩ := pre_iff.1 hp
      have : okP d = true := by
        have := okP_part (h.ok hf) (X := pcs d) ⟨n :: r, e.symm⟩
        rw [join_pcs] at this; exact this
      unfold isD at hd
      rw [this, Bool.true_and, Bool.or_eq_false_iff] at hd
      have h2 := hd.2
      rw [List.any_eq_false] at h2
      exact h2 f hf (by rw [abv_pre]; exact hp)
  · rfl
theorem sizeS_eq {L : List Fl} (h : GoodT L) (d : List UInt8) : sizeS L d = cap (tot L (pcs d)) := by
  have hc := countS_eq h d
  unfold countS at hc
  unfold sizeS
  cases hd : isD L d
  · rw [hd] at hc
    simp only [Bool.false_eq_true, if_false] at hc ⊢
    rw [tot_zero hc.symm]; rfl
  · rfl
theorem ownS_eq {L : List Fl} (h : GoodT L) (d : List UInt8) : ownS L d = cap (own L (pcs d)) := by
  have hc := countS_eq h d
  unfold countS at hc
  unfold ownS
  cases hd : isD L d
  · rw [hd] at hc
    simp only [Bool.false_eq_true, if_false] at hc ⊢
    rw [cnt_zero_own h hc.symm]; rfl
  · rfl
theorem cnt_root {L : List Fl} (h : GoodT L) : cnt L [] = L.length := by
  have : ∀ M : List Fl, (∀ f ∈ M, pp f ≠ []) → cnt M [] = M.length := by
    intro M
    induction M with
    | nil => intro _; rfl
    | cons f r ih =>
      intro hm
      rw [cnt, ih (fun g hg => hm g (by simp [hg])), if_pos (pre_nil (hm f (by simp)))]
      simp; omega
  exact this L h.ne
theorem tot_root {L : List Fl} (h : GoodT L) : tot L [] = (L.map sz).sum := by
  have : ∀ M : List Fl, (∀ f ∈ M, pp f ≠ []) → tot M [] = (M.map sz).sum := by
    intro M
    induction M with
    | nil => intro _; rfl
    | cons f r ih =>
      intro hm
      rw [tot, ih (fun g hg => hm g (by simp [hg])), if_pos (pre_nil (hm f (by simp)))]
      simp
  exact this L h.ne
end Go.Proofs.YtbaheiimcnfaaaaGreat

namespace Go.Proofs.YtbaheiimcnfaaaaGreat

/-- the files that are not shown -/
def hid (l : List Fl) (k : List (List UInt8)) : List Fl := l.filter (fun f => !shw k f.path)
/-- what those below p cost -/
def ads (L : List Fl) (p : List UInt8) : Int := min (sumZ (L.filter (fun f => abvV p f.path))) 9223372036854775807
def tog (a b : Int) : Int := if b > 9223372036854775807 - a then 9223372036854775807 else a + b

theorem abv_in {p x : List UInt8} (hx : okP x = true) (hn : x ≠ []) : abvV p x = true ↔ dir x = p ∨ abvV p (dir x) = true := by
  have h1 := abv_dir hx hn
  constructor
  · intro h
    rcases abv_comp h h1 with e | e | e
    · exact .inl e.symm
    · exact .inr e
    · exfalso
      obtain ⟨r, hr, e1⟩ := (abvV_iff _ _).1 h
      obtain ⟨s, hs, e2⟩ := (abvV_iff _ _).1 e
      have e3 := congrArg List.length (dir_pcs (okP_all hx) hn).1
      have l1 := congrArg List.length e1
      have l2 := congrArg List.length e2
      have := List.length_pos_iff.2 hr
      have := List.length_pos_iff.2 hs
      rw [List.length_dropLast] at e3
      rw [List.length_append] at l1 l2
      omega
  · rintro (e | e)
    · rw [← e]; exact h1
    · exact abv_trans e h1
theorem cone_in {k : List (List UInt8)} (h : coneE k = 0) {d : List UInt8} (hd : d ∈ cds k) : ∃ a ∈ k, abvV d a = true := by
  obtain ⟨a, ha, b, hb, hne, _, hok, ea, eb, han⟩ := cone_two h hd
  rcases ea with ea | ea
  · rcases eb with eb | eb
    · exact absurd (ea.trans eb.symm) hne
    · exact ⟨b, hb, eb⟩
  · exact ⟨a, ha, ea⟩
theorem cone_out {k : List (List UInt8)} (h : coneE k = 0) {d : List UInt8} (hd : d ∈ cds k) : d ∉ k := fun hm => by
  obtain ⟨a, ha, e⟩ := cone_in h hd
  rw [cone_anti h hm ha] at e
  cases e
/-- merged at a candidate: what was shown, and what is below it -/
theorem wid_shw {k : List (List UInt8)} (h : coneE k = 0) {d x : List UInt8} (hd : d ∈ cds k) (hx : okP x = true) (hn : x ≠ []) : shw (wid d false k) x = (shw k x || abvV d x) := by
  obtain ⟨a, ha, ea⟩ := cone_in h hd
  rw [Bool.eq_iff_iff, Bool.or_eq_true]
  constructor
  · intro hs
    unfold shw at hs ⊢
    rw [shD_iff] at hs
    rcases hs with hs | ⟨c, hc, e⟩
    · exact .inl (shD_iff.2 (.inl hs))
    · rcases wid_mem hc with ⟨rfl, _, _⟩ | ⟨hc, _, _⟩
      · rcases e with e | e | e
        · exact .inr ((abv_in hx hn).2 (.inl e))
        · exact .inr ((abv_in hx hn).2 (.inr e))
        · exact .inl (shD_iff.2 (.inr ⟨a, ha, .inr (.inr (abv_trans e ea))⟩))
      · exact .inl (shD_iff.2 (.inr ⟨c, hc, e⟩))
  · rintro (hs | hs)
    · exact wid_shows hs
    · unfold shw
      refine shD_iff.2 (.inr ⟨d, (mem_wid ha).2 (.inr ea) rfl, ?_⟩)
      rcases (abv_in hx hn).1 hs with e | e
      · exact .inl e
      · exact .inr (.inl e)
theorem sum_parts {f g : Fl → Bool} : ∀ l : List Fl, sumZ (l.filter (fun x => f x || g x)) = sumZ (l.filter f) + sumZ ((l.filter (fun x => !f x)).filter g)
  | [] => rfl
  | a :: r => by
    have ih := sum_parts (f := f) (g := g) r
    simp only [List.filter_cons]
    cases hf : f a <;> cases hg : g a <;> simp [hg, sumZ_cons, ih] <;> omega
theorem filt_congr {α : Type} {f g : α → Bool} : ∀ {l : List α}, (∀ x ∈ l, f x = g x) → l.filter f = l.filter g
  | [], _ => rfl
  | a :: r, h => by
    have := filt_congr (l := r) (f := f) (g := g) fun x hx => h x (by simp [hx])
    rw [List.filter_cons, List.filter_cons, h a (by simp), this]
/-- the files of a snapshot -/
def Fls (l : List Fl) : Prop := ∀ f ∈ l, okP f.path = true ∧ f.path ≠ [] ∧ 0 ≤ f.size
theorem sum_pos : ∀ {l : List Fl}, (∀ f ∈ l, 0 ≤ f.size) → 0 ≤ sumZ l
  | [], _ => by simp [sumZ]
  | a :: r, h => by
    have := sum_pos (l := r) fun f hf => h f (by simp [hf])
    have := h a (by simp)
    rw [sumZ_cons]; omega
section
variable {l : List Fl} {k : List (List UInt8)}
theorem Fls.pos (hl : Fls l) {f : Fl → Bool} : 0 ≤ sumZ (l.filter f) := sum_pos fun x hx => (hl x (List.mem_filter.1 hx).1).2.2
theorem Fls.hid (hl : Fls l) : Fls (hid l k) := fun f hf => hl f (List.mem_filter.1 hf).1
theorem cw_eq (hl : Fls l) (h : coneE k = 0) {d : List UInt8} (hd : d ∈ cds k) : cw l k d = tog (cst l k) (ads (hid l k) d) := by
  have e : sumZ (l.filter (fun f => shw (wid d false k) f.path)) = sumZ (l.filter (fun f => shw k f.path)) + sumZ ((hid l k).filter (fun f => abvV d f.path)) := by
    rw [filt_congr (g := fun f => shw k f.path || abvV d f.path) fun f hf => wid_shw h hd (hl f hf).1 (hl f hf).2.1]
    exact sum_parts l
  have h1 := Fls.pos hl (f := fun f => shw k f.path)
  have h2 := Fls.pos (Fls.hid hl (k := k)) (f := fun f => abvV d f.path)
  unfold cw cst ads tog
  rw [e]
  split <;> omega
theorem hid_wid (hl : Fls l) (h : coneE k = 0) {d : List UInt8} (hd : d ∈ cds k) : hid l (wid d false k) = (hid l k).filter (fun f => !abvV d f.path) := by
  unfold hid
  rw [List.filter_filter]
  refine filt_congr fun f hf => ?_
  rw [wid_shw h hd (hl f hf).1 (hl f hf).2.1, Bool.not_or, Bool.and_comm]
theorem ads_le (hl : Fls l) {a b : List UInt8} (hab : abvV a b = true) : ads l b ≤ ads l a := by
  have := sum_le (f := fun f => abvV b f.path) (g := fun f => abvV a f.path) (fun x hx => abv_trans hab hx) l fun x hx => (hl x hx).2.2
  unfold ads
  omega
theorem ads_pos (hl : Fls l) {a : List UInt8} : 0 ≤ ads l a ∧ ads l a ≤ 9223372036854775807 := by
  have := Fls.pos hl (f := fun f => abvV a f.path)
  unfold ads
  omega
theorem cst_pos (hl : Fls l) : 0 ≤ cst l k ∧ cst l k ≤ 9223372036854775807 := by
  have := Fls.pos hl (f := fun f => shw k f.path)
  unfold cst
  omega
end
theorem tog_mono {a b c : Int} (h : b ≤ c) : tog a b ≤ tog a c := by
  unfold tog
  split <;> split <;> omega
/-- better is an order -/
theorem btr_iff {l : List Fl} {k : List (List UInt8)} {p q : List UInt8} : btr l k p q = true ↔ cw l k p < cw l k q ∨ (cw l k p = cw l k q ∧ (dep q < dep p ∨ (dep p = dep q ∧ cf p q < 0))) := by
  unfold btr
  simp only [Bool.or_eq_true, Bool.and_eq_true, decide_eq_true_eq]
theorem btr_tr {l : List Fl} {k : List (List UInt8)} {p q r : List UInt8} (h : btr l k p q = true) (g : btr l k q r = true) : btr l k p r = true := by
  rw [btr_iff] at h g ⊢
  have ht : cf p q < 0 → cf q r < 0 → cf p r < 0 := cf_trans
  omega
theorem btr_tot {l : List Fl} {k : List (List UInt8)} (p q : List UInt8) (hn : p ≠ q) (h : btr l k p q = false) : btr l k q p = true := by
  rw [← Bool.not_eq_true, btr_iff] at h
  rw [btr_iff]
  have h1 : cf p q ≠ 0 := fun e => hn (cf_zero.1 e)
  have h2 := cf_neg p q
  omega
theorem btr_irr {l : List Fl} {k : List (List UInt8)} (p : List UInt8) : btr l k p p = false := by
  rw [← Bool.not_eq_true, btr_iff]
  have := cf_self p
  omega
theorem bst_btr {l : List Fl} {k : List (List UInt8)} : ∀ (r : List (List UInt8)) (q : List UInt8), ∀ p ∈ q :: r, p = bstF l k q r ∨ btr l k (bstF l k q r) p = true
  | [], q, p, hp => by
    rw [List.mem_singleton.1 hp]
    exact .inl rfl
  | x :: r, q, p, hp => by
    have ih := bst_btr (l := l) (k := k) r (if btr l k x q then x else q)
    unfold bstF
    have hq := ih _ (List.mem_cons_self ..)
    obtain ⟨m, hm⟩ : ∃ m, (if btr l k x q then x else q) = m := ⟨_, rfl⟩
    rw [hm] at hq ih ⊢
    have hb : ∀ y, y = x ∨ y = q → y = m ∨ btr l k m y = true := by
      cases e : btr l k x q with
      | true =>
        rw [e, if_pos rfl] at hm
        subst hm
        rintro y (rfl | rfl)
        · exact .inl rfl
        · exact .inr e
      | false =>
        rw [e, if_neg (by simp)] at hm
        subst hm
        rintro y (rfl | rfl)
        · by_cases hy : y = q
          · exact .inl hy
          · exact .inr (btr_tot _ _ hy e)
        · exact .inl rfl
    have hb2 : ∀ y, y = x ∨ y = q → y = bstF l k m r ∨ btr l k (bstF l k m r) y = true := fun y hy => by
      rcases hb y hy with rfl | h1
      · exact hq
      · rcases hq with h2 | h2
        · rw [← h2]; exact .inr h1
        · exact .inr (btr_tr h2 h1)
    rcases List.mem_cons.1 hp with rfl | hp
    · exact hb2 _ (.inr rfl)
    · rcases List.mem_cons.1 hp with rfl | hp
      · exact hb2 _ (.inl rfl)
      · exact ih p (by simp [hp])
/-- the best one is the one -/
theorem stp_best {l : List Fl} {k : List (List UInt8)} {d : List UInt8} (hd : d ∈ cds k) (hb : ∀ p ∈ cds k, p ≠ d → btr l k d p = true) : stp l k = wid d false k := by
  unfold stp
  cases e : cds k with
  | nil => rw [e] at hd; cases hd
  | cons p r =>
    show wid (bstF l k p r) false k = _
    rw [e] at hd hb
    have h1 := bst_mem (l := l) (k := k) r p
    by_cases hn : bstF l k p r = d
    · rw [hn]
    · have h2 := hb _ h1 hn
      rcases bst_btr (l := l) (k := k) r p d hd with h3 | h3
      · exact absurd h3.symm hn
      · have := btr_tr h2 h3
        rw [btr_irr] at this
        cases this
/-- no candidate is below the best one -/
theorem best_low {l : List Fl} {k : List (List UInt8)} (hl : Fls l) (h : coneE k = 0) {d : List UInt8} (hd : d ∈ cds k) (hb : ∀ p ∈ cds k, p ≠ d → btr l k d p = true) {q : List UInt8} (hq : q ∈ cds k) : abvV d q = false := by
  cases e : abvV d q with
  | false => rfl
  | true =>
    have hn : q ≠ d := fun e2 => by rw [e2, abv_irr] at e; cases e
    have h1 := hb q hq hn
    have h2 := ads_le (Fls.hid hl (k := k)) e
    rw [btr_iff, cw_eq hl h hd, cw_eq hl h hq] at h1
    have h3 := tog_mono (a := cst l k) h2
    obtain ⟨r, hr, e1⟩ := (abvV_iff _ _).1 e
    have l1 := congrArg List.length e1
    have := List.length_pos_iff.2 hr
    rw [List.length_append, dep_eq, dep_eq] at l1
    omega
end Go.Proofs.YtbaheiimcnfaaaaGreat
