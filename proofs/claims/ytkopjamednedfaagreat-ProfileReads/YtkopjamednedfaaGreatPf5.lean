/-
  Cones as a text, as plain lists, as the program goes about it: directory by directory; the directories left open.
-/
import Derived.Test.YtkopjamednedfaaGreatPf4
namespace Go.Proofs.YtkopjamednedfaaGreat

/-- what a cone adds behind the one ahead of it, and whether it is the cone -/
def dirB (last c : List UInt8) : List (List UInt8 × Bool) := ((List.range (dep c)).drop (dep (cmn last c))).map (fun j => (join ((pcs c).take (j + 1)), decide (j + 1 = dep c)))
def dsB : List UInt8 → List (List UInt8) → List (List UInt8 × Bool)
  | _, [] => []
  | last, c :: k => dirB last c ++ dsB c k
/-- the same, or above -/
def lqq (x c : List UInt8) : Prop := x = c ∨ abvV x c = true
theorem lqq_pre {x c : List UInt8} : lqq x c ↔ ∃ r, pcs c = pcs x ++ r := by
  unfold lqq
  rw [abvV_iff]
  constructor
  · rintro (rfl | ⟨r, _, h⟩)
    · exact ⟨[], by simp⟩
    · exact ⟨r, h⟩
  · rintro ⟨r, h⟩
    by_cases hr : r = []
    · subst hr
      rw [List.append_nil] at h
      exact .inl (pcs_inj h.symm)
    · exact .inr ⟨r, hr, h⟩
theorem dep_cmn {last c : List UInt8} (hl : (pcs last).all okC = true) : dep (cmn last c) = com (pcs last) (pcs c) := by
  rw [← dep_eq, pcs_cmn _ _ hl, List.length_take]
  have := (com_le (pcs last) (pcs c)).1
  omega
theorem pcs_tk {c : List UInt8} (hc : (pcs c).all okC = true) (j : Nat) : pcs (join ((pcs c).take j)) = (pcs c).take j := pcs_part hc (List.take_prefix _ _)
theorem mem_dirB {last c : List UInt8} (hl : (pcs last).all okC = true) (hc : (pcs c).all okC = true) {x : List UInt8} : x ∈ (dirB last c).map Prod.fst ↔ x ≠ [] ∧ lqq x c ∧ ¬ lqq x last := by
  have hd := dep_cmn (c := c) hl
  have hle := com_le (pcs last) (pcs c)
  unfold dirB
  rw [List.map_map, hd]
  constructor
  · intro h
    obtain ⟨j, hj, rfl⟩ := List.mem_map.1 h
    obtain ⟨i, hi, e⟩ := List.mem_iff_getElem.1 hj
    rw [List.length_drop, List.length_range] at hi
    rw [List.getElem_drop, List.getElem_range] at e
    have hjd : j < (pcs c).length := by rw [dep_eq]; omega
    have hp := pcs_tk hc (j + 1)
    refine ⟨fun e0 => ?_, ?_, ?_⟩
    · have e0' : join ((pcs c).take (j + 1)) = [] := e0
      rw [e0', pcs_nil] at hp
      have := congrArg List.length hp
      simp at this
      omega
    · exact lqq_pre.2 ⟨(pcs c).drop (j + 1), by show pcs c = pcs (join ((pcs c).take (j + 1))) ++ _; rw [hp, List.take_append_drop]⟩
    · intro h0
      obtain ⟨r, hr⟩ := lqq_pre.1 h0
      have hr' : pcs last = pcs (join ((pcs c).take (j + 1))) ++ r := hr
      rw [hp] at hr'
      have hln := congrArg List.length hr'
      rw [List.length_append, List.length_take] at hln
      have h1 : com (pcs last) (pcs c) < (pcs last).length := by omega
      have h2 : com (pcs last) (pcs c) < (pcs c).length := by omega
      refine com_part _ _ h1 h2 ?_
      have h3 : (pcs last)[com (pcs last) (pcs c)]? = (pcs c)[com (pcs last) (pcs c)]? := by
        generalize com (pcs last) (pcs c) = m at *
        rw [hr', List.getElem?_append_left (by rw [List.length_take]; omega), List.getElem?_take_of_lt (by omega)]
      rw [List.getElem?_eq_getElem h1, List.getElem?_eq_getElem h2] at h3
      injection h3
  · rintro ⟨hx, hxc, hxl⟩
    obtain ⟨r, hr⟩ := lqq_pre.1 hxc
    have hm : 0 < (pcs x).length := List.length_pos_iff.2 (fun e => hx ((pcs_eq_nil x).1 e))
    have htk : (pcs c).take (pcs x).length = pcs x := by rw [hr, List.take_left]
    have hmc : (pcs x).length ≤ (pcs c).length := by rw [hr]; simp
    have hcm : com (pcs last) (pcs c) < (pcs x).length := by
      rcases Nat.lt_or_ge (com (pcs last) (pcs c)) (pcs x).length with h | h
      · exact h
      · exfalso
        apply hxl
        have h1 := com_take (pcs last) (pcs c)
        have h2 := congrArg (List.take (pcs x).length) h1
        rw [List.take_take, List.take_take, Nat.min_eq_left h, htk] at h2
        exact lqq_pre.2 ⟨(pcs last).drop (pcs x).length, by
          have := List.take_append_drop (pcs x).length (pcs last)
          rw [h2] at this; exact this.symm⟩
    refine List.mem_map.2 ⟨(pcs x).length - 1, ?_, ?_⟩
    · refine List.mem_iff_getElem.2 ⟨(pcs x).length - 1 - com (pcs last) (pcs c), ?_, ?_⟩
      · rw [List.length_drop, List.length_range, ← dep_eq]; omega
      · rw [List.getElem_drop, List.getElem_range]; omega
    · show join ((pcs c).take ((pcs x).length - 1 + 1)) = x
      rw [show (pcs x).length - 1 + 1 = (pcs x).length by omega, htk, join_pcs]
theorem lqq_lt {x c d : List UInt8} (h : lqq x d) (hc : ¬ lqq x c) (hd : cf c d < 0) : cf c x < 0 := by
  rcases cf_tri c x with h1 | h1 | h1
  · exact h1
  · exact absurd (.inl h1.symm) hc
  · exfalso
    rcases h with rfl | h
    · have := cf_neg c x
      omega
    · exact hc (.inr (abv_between h h1 hd))
theorem lqq_cf {x c : List UInt8} (h : lqq x c) : cf x c ≤ 0 := by
  rcases h with rfl | h
  · rw [cf_self]; exact Int.le_refl _
  · have := abv_cf h; omega
theorem mem_dsB : ∀ (k : List (List UInt8)) (last : List UInt8), (pcs last).all okC = true → (∀ c ∈ k, (pcs c).all okC = true) → (last :: k).Pairwise (fun a b => cf a b < 0) → ∀ x, x ∈ (dsB last k).map Prod.fst ↔ x ≠ [] ∧ (∃ c ∈ k, lqq x c) ∧ ¬ lqq x last
  | [], last, _, _, _, x => by simp [dsB]
  | c :: k, last, hl, hk, hp, x => by
    obtain ⟨p1, p2⟩ := List.pairwise_cons.1 hp
    have ih := mem_dsB k c (hk c (by simp)) (fun d hd => hk d (by simp [hd])) p2 x
    rw [dsB, List.map_append, List.mem_append, ih, mem_dirB hl (hk c (by simp))]
    constructor
    · rintro (⟨h1, h2, h3⟩ | ⟨h1, ⟨d, hd, h2⟩, h3⟩)
      · exact ⟨h1, ⟨c, by simp, h2⟩, h3⟩
      · refine ⟨h1, ⟨d, by simp [hd], h2⟩, fun h4 => ?_⟩
        have h5 := lqq_lt h2 h3 ((List.pairwise_cons.1 p2).1 d hd)
        have h6 := lqq_cf h4
        have h7 := cf_le_lt h6 (p1 c (by simp))
        have := cf_neg c x
        omega
    · rintro ⟨h1, ⟨d, hd, h2⟩, h3⟩
      by_cases h4 : lqq x c
      · exact .inl ⟨h1, h4, h3⟩
      · rcases List.mem_cons.1 hd with rfl | hd
        · exact absurd h2 h4
        · exact .inr ⟨h1, ⟨d, hd, h2⟩, h4⟩
theorem up_dirB {last c : List UInt8} (hc : (pcs c).all okC = true) : Up ((dirB last c).map Prod.fst) := by
  unfold dirB Up
  rw [List.map_map, List.pairwise_map]
  have h1 : ((List.range (dep c)).drop (dep (cmn last c))).Pairwise (fun a b => a < b ∧ b < dep c) := by
    refine List.Pairwise.sublist (List.drop_sublist _ _) ?_
    rw [List.pairwise_iff_getElem]
    intro i j hi hj hij
    simp at hi hj ⊢
    exact ⟨hij, hj⟩
  refine h1.imp fun {a b} hab => ?_
  show cf (join ((pcs c).take (a + 1))) (join ((pcs c).take (b + 1))) < 0
  refine abv_cf ((abvV_iff _ _).2 ⟨((pcs c).take (b + 1)).drop (a + 1), ?_, ?_⟩)
  · intro e
    have := congrArg List.length e
    rw [List.length_drop, List.length_take, dep_eq, List.length_nil] at this
    omega
  · rw [pcs_tk hc, pcs_tk hc]
    have := List.take_append_drop (a + 1) ((pcs c).take (b + 1))
    rw [List.take_take, Nat.min_eq_left (by omega)] at this
    exact this.symm
theorem up_dsB : ∀ (k : List (List UInt8)) (last : List UInt8), (pcs last).all okC = true → (∀ c ∈ k, (pcs c).all okC = true) → (last :: k).Pairwise (fun a b => cf a b < 0) → Up ((dsB last k).map Prod.fst)
  | [], last, _, _, _ => by simp [dsB, Up]
  | c :: k, last, hl, hk, hp => by
    obtain ⟨p1, p2⟩ := List.pairwise_cons.1 hp
    rw [dsB, List.map_append]
    refine List.pairwise_append.2 ⟨up_dirB (hk c (by simp)), up_dsB k c (hk c (by simp)) (fun d hd => hk d (by simp [hd])) p2, fun x hx y hy => ?_⟩
    obtain ⟨_, h2, _⟩ := (mem_dirB hl (hk c (by simp))).1 hx
    obtain ⟨_, ⟨d, hd, h4⟩, h5⟩ := (mem_dsB k c (hk c (by simp)) (fun d hd => hk d (by simp [hd])) p2 y).1 hy
    exact cf_le_lt (lqq_cf h2) (lqq_lt h4 h5 ((List.pairwise_cons.1 p2).1 d hd))
theorem cf_nil {c : List UInt8} (h : c ≠ []) : cf [] c < 0 := by
  refine abv_cf ((abvV_iff _ _).2 ⟨pcs c, fun e => h ((pcs_eq_nil c).1 e), by rw [pcs_nil]; rfl⟩)
theorem root_no {k : List (List UInt8)} (hk : coneE k = 0) (hne : k ≠ [[]]) : [] ∉ k := fun hm => by
  apply hne
  refine root_only hk hm fun x hx => ?_
  rcases Classical.em (x = []) with e | e
  · exact e
  · exfalso
    have h1 : abvV [] x = true := (abvV_iff _ _).2 ⟨pcs x, fun e0 => e ((pcs_eq_nil x).1 e0), by rw [pcs_nil]; rfl⟩
    rw [cone_anti hk hm hx] at h1; cases h1
theorem cones_up {k : List (List UInt8)} (hk : coneE k = 0) (hne : k ≠ [[]]) : (([] : List UInt8) :: k).Pairwise (fun a b => cf a b < 0) :=
  List.pairwise_cons.2 ⟨fun _ hx => cf_nil fun e => root_no hk hne (e ▸ hx), (coneB_iff.1 (coneE_zero.1 hk)).2.imp fun hf => fol_lt hf⟩
theorem cones_ok {k : List (List UInt8)} (hk : coneE k = 0) : ∀ c ∈ k, (pcs c).all okC = true := fun c hc => okP_all ((coneB_iff.1 (coneE_zero.1 hk)).1 c hc)
theorem dsB_dsL {k : List (List UInt8)} (hk : coneE k = 0) (hne : k ≠ [[]]) : (dsB [] k).map Prod.fst = dsL k := by
  refine up_unique (up_dsB k [] rfl (cones_ok hk) (cones_up hk hne)) (up_norm _) fun x => ?_
  rw [mem_dsB k [] rfl (cones_ok hk) (cones_up hk hne) x]
  constructor
  · rintro ⟨h1, ⟨c, hc, h2⟩, _⟩
    exact mem_dsL hk hc h1 h2
  · intro h
    obtain ⟨_, h1, c, hc, h2⟩ := dsL_ok hk h
    refine ⟨h1, ⟨c, hc, h2⟩, ?_⟩
    rintro (h3 | h3)
    · exact h1 h3
    · rw [abv_nil] at h3; cases h3
theorem dsB_flag {K : List (List UInt8)} (hK : coneE K = 0) : ∀ (k : List (List UInt8)) (last : List UInt8), (∀ c ∈ k, c ∈ K) → ∀ x ∈ dsB last k, x.2 = decide (x.1 ∈ K)
  | [], _, _, _, hx => by cases hx
  | c :: k, last, hs, x, hx => by
    rw [dsB, List.mem_append] at hx
    rcases hx with hx | hx
    · have hcK := hs c (by simp)
      have hc := cones_ok hK c hcK
      unfold dirB at hx
      obtain ⟨j, hj, rfl⟩ := List.mem_map.1 hx
      have hjd : j < dep c := by
        have := List.mem_of_mem_drop hj
        simpa using this
      show decide (j + 1 = dep c) = decide (join ((pcs c).take (j + 1)) ∈ K)
      rw [Bool.eq_iff_iff, decide_eq_true_eq, decide_eq_true_eq]
      constructor
      · intro e
        rw [e, ← dep_eq, List.take_length, join_pcs]; exact hcK
      · intro hm
        rcases Nat.lt_or_ge (j + 1) (dep c) with h | h
        · exfalso
          have ha : abvV (join ((pcs c).take (j + 1))) c = true := (abvV_iff _ _).2 ⟨(pcs c).drop (j + 1), fun e => by
            have := congrArg List.length e
            rw [List.length_drop, dep_eq, List.length_nil] at this
            omega, by rw [pcs_tk hc, List.take_append_drop]⟩
          rw [cone_anti hK hm hcK] at ha; cases ha
        · omega
    · exact dsB_flag hK k c (fun d hd => hs d (by simp [hd])) x hx
/-- what is told of directories: the root first -/
def dsR (k : List (List UInt8)) : List (List UInt8 × Bool) := ([], decide ([] ∈ k)) :: dsB [] k
def shwL (d : List UInt8) : List UInt8 := if d = [] then [47, 42, 10] else dl d ++ [10]
def hidL (d : List UInt8) : List UInt8 := if d = [] then [33, 47, 42, 47, 10] else nl d ++ [10]
/-- the lines of one directory -/
def lnR (x : List UInt8 × Bool) : List (List UInt8) := if x.2 then [shwL x.1] else [shwL x.1, hidL x.1]
theorem lnR_dln {k : List (List UInt8)} : ∀ (D : List (List UInt8 × Bool)), (∀ x ∈ D, x.1 ≠ [] ∧ x.2 = decide (x.1 ∈ k)) → D.flatMap lnR = (dln k (D.map Prod.fst)).map (fun l => l ++ [10])
  | [], _ => rfl
  | (d, b) :: D, h => by
    obtain ⟨h1, h2⟩ := h (d, b) (by simp)
    have h1' : d ≠ [] := h1
    have h2' : b = decide (d ∈ k) := h2
    have e : dln k (((d, b) :: D).map Prod.fst) = (if d ∈ k then [dl d] else [dl d, nl d]) ++ dln k (D.map Prod.fst) := by simp [dln]
    rw [List.flatMap_cons, e, List.map_append, lnR_dln D fun x hx => h x (by simp [hx])]
    congr 1
    unfold lnR shwL hidL
    subst h2'
    by_cases hk : d ∈ k <;> simp [hk, h1']
theorem lnR_lns {k : List (List UInt8)} (hk : coneE k = 0) : (dsR k).flatMap lnR = (lns k).map (fun l => l ++ [10]) := by
  unfold dsR lns
  by_cases h : k = [[]]
  · subst h
    decide
  · rw [if_neg h]
    have hr := root_no hk h
    have hne : ∀ x ∈ dsB [] k, x.1 ≠ [] ∧ x.2 = decide (x.1 ∈ k) := fun x hx => by
      refine ⟨?_, dsB_flag hk k [] (fun _ hc => hc) x hx⟩
      have : x.1 ∈ (dsB [] k).map Prod.fst := List.mem_map_of_mem hx
      rw [dsB_dsL hk h] at this
      exact dsL_ne hk _ this
    rw [List.flatMap_cons, lnR_dln _ hne, dsB_dsL hk h]
    have e : lnR ([], decide (([] : List UInt8) ∈ k)) = [[47, 42, 10], [33, 47, 42, 47, 10]] := by
      rw [decide_eq_false hr]; rfl
    rw [e]
    rfl
theorem wrt_lnR {k : List (List UInt8)} (hk : coneE k = 0) : ((dsR k).flatMap lnR).flatten = wrt k := by
  rw [lnR_lns hk]
  unfold wrt wrL
  rw [List.flatMap_def]
/-- a text's lines, each with its end -/
def lnz : List UInt8 → List (List UInt8)
  | [] => []
  | c :: r => if c = 10 then [10] :: lnz r else match lnz r with
    | [] => [[c]]
    | l :: t => if r = [] then [[c]] else (c :: l) :: t
theorem lnz_line : ∀ (l r : List UInt8), 10 ∉ l → lnz (l ++ 10 :: r) = (l ++ [10]) :: lnz r
  | [], r, _ => by simp [lnz]
  | c :: l, r, h => by
    have hc : c ≠ 10 := fun e => h (by simp [e])
    have ih := lnz_line l r (fun hm => h (by simp [hm]))
    show lnz (c :: (l ++ 10 :: r)) = _
    rw [lnz, if_neg hc, ih]
    simp
theorem lnz_free : ∀ (l : List UInt8), l ≠ [] → 10 ∉ l → lnz l = [l]
  | [], h, _ => absurd rfl h
  | [c], _, h => by
    have hc : c ≠ 10 := fun e => h (by simp [e])
    simp [lnz, hc]
  | c :: d :: r, _, h => by
    have hc : c ≠ 10 := fun e => h (by simp [e])
    have ih := lnz_free (d :: r) (by simp) (fun hm => h (by simp [List.mem_cons.1 hm]))
    rw [lnz, if_neg hc, ih]
    simp
theorem lnz_wr : ∀ (L : List (List UInt8)), (∀ l ∈ L, 10 ∉ l) → lnz (wrL L) = L.map (fun l => l ++ [10])
  | [], _ => rfl
  | l :: L, h => by
    have e : wrL (l :: L) = l ++ 10 :: wrL L := by simp [wrL]
    rw [e, lnz_line l _ (h l (by simp)), lnz_wr L fun x hx => h x (by simp [hx])]
    rfl
/-- what a line shows -/
def shB (l : List UInt8) : List UInt8 :=
  if l = [47, 42, 10] then [] else
  let t := if [47].isPrefixOf l then l.drop 1 else l
  if [47, 10].isSuffixOf t then t.take (t.length - 2) else t
def stO (o : List (List UInt8)) (l : List UInt8) : List (List UInt8) := if [33].isPrefixOf l then o.dropLast else o ++ [shB l]
/-- the directories left open -/
def lo (s : List UInt8) : List (List UInt8) := (lnz s).foldl stO []
theorem shB_dl {d : List UInt8} (h : d ≠ []) : shB (dl d ++ [10]) = d := by
  unfold shB dl
  rw [if_neg (fun e => by
    have h1 := congrArg List.length e
    have h2 := List.length_pos_iff.2 h
    simp only [List.length_append, List.length_cons, List.length_nil] at h1
    omega)]
  have e1 : [47].isPrefixOf (47 :: (d ++ [47]) ++ [10]) = true := by simp
  have e2 : (47 :: (d ++ [47]) ++ [10]).drop 1 = d ++ [47, 10] := by simp
  have e3 : [47, 10].isSuffixOf (d ++ [47, 10]) = true := by
    rw [List.isSuffixOf_iff_suffix]
    exact ⟨d, rfl⟩
  simp only [e1, e2, e3, if_true]
  simp
theorem stO_dir {k : List (List UInt8)} {d : List UInt8} (h : d ≠ []) (o : List (List UInt8)) : ((if d ∈ k then [dl d] else [dl d, nl d]).map (fun l => l ++ [10])).foldl stO o = if d ∈ k then o ++ [d] else o := by
  have h1 : stO o (dl d ++ [10]) = o ++ [d] := by
    have h0 : [33].isPrefixOf (dl d ++ [10]) = false := by unfold dl; simp [List.isPrefixOf]
    unfold stO
    rw [h0, shB_dl h]
    rfl
  by_cases hk : d ∈ k
  · rw [if_pos hk, if_pos hk]
    exact h1
  · rw [if_neg hk, if_neg hk]
    show stO (stO o (dl d ++ [10])) (nl d ++ [10]) = o
    rw [h1]
    unfold stO nl
    simp [List.isPrefixOf]
theorem stO_dirs {k : List (List UInt8)} : ∀ (D o : List (List UInt8)), (∀ d ∈ D, d ≠ []) → ((dln k D).map (fun l => l ++ [10])).foldl stO o = o ++ D.filter (fun d => decide (d ∈ k))
  | [], o, _ => by simp [dln]
  | d :: D, o, h => by
    have e : dln k (d :: D) = (if d ∈ k then [dl d] else [dl d, nl d]) ++ dln k D := by simp [dln]
    rw [e, List.map_append, List.foldl_append, stO_dir (h d (by simp)), stO_dirs D _ fun x hx => h x (by simp [hx]), List.filter_cons]
    by_cases hk : d ∈ k <;> simp [hk]
theorem lo_wrt {k : List (List UInt8)} (hk : coneE k = 0) : lo (wrt k) = k := by
  unfold lo wrt
  rw [lnz_wr _ (lns_ten hk)]
  by_cases h : k = [[]]
  · subst h; decide
  · have hp := pick_lns hk h
    unfold lns at hp ⊢
    rw [if_neg h] at hp ⊢
    show ((dln k (dsL k)).map (fun l => l ++ [10])).foldl stO (stO (stO [] [47, 42, 10]) [33, 47, 42, 47, 10]) = k
    rw [stO_dirs _ _ (dsL_ne hk)]
    have e0 : isD' [47, 42] = false := by decide
    have e1 : isD' [33, 47, 42, 47] = false := by decide
    have hp' : pck ([47, 42] :: [33, 47, 42, 47] :: (dln k (dsL k) ++ [[]])) = k := hp
    rw [pck_cons_no e0, pck_cons_no e1, pck_dl _ (dsL_ne hk)] at hp'
    rw [hp']
    have e2 : stO (stO [] [47, 42, 10]) [33, 47, 42, 47, 10] = [] := by decide
    rw [e2, List.nil_append]
theorem pwr_ok {k : List (List UInt8)} {s : List UInt8} (h : pwr k = (s, 0)) : coneE k = 0 ∧ wrt k = s ∧ s.length ≤ 65536 := by
  unfold pwr at h
  split at h
  · rename_i hk
    split at h
    · rename_i hl
      injection h with h1 _
      exact ⟨hk, h1, by rw [← h1]; exact hl⟩
    · cases h
  · cases h
/-- Read as the program goes about it -/
theorem prd_lo (s : List UInt8) : prd s = if s.length ≤ 65536 ∧ pwr (lo s) = (s, 0) then (lo s, 0) else ([], 18) := by
  by_cases h : pwr (lo s) = (s, 0)
  · obtain ⟨_, _, h3⟩ := pwr_ok h
    rw [if_pos ⟨h3, h⟩]
    exact prd_wrt h
  · rw [if_neg (fun hh => h hh.2)]
    unfold prd
    rw [if_neg]
    intro h1
    obtain ⟨h2, h3, _⟩ := pwr_ok h1
    apply h
    have : lo s = rk s := by
      conv => lhs; rw [← h3]
      exact lo_wrt h2
    rw [this]; exact h1
end Go.Proofs.YtkopjamednedfaaGreat
