/-
  Views of snapshots, as plain lists.
  Fewer cones, as plain lists.
  The step to fewer cones, and all steps, as plain lists.
-/
import Derived.Test.YtbaheiimcnfaaaaGreatJKn1
import Derived.Test.YtbaheiimcnfaaaaGreatJFil
namespace Go.Proofs.YtbaheiimcnfaaaaGreat

theorem abv_dir {c : List UInt8} (h : okP c = true) (hn : c ≠ []) : abvV (dir c) c = true := by
  by_cases h1 : 1 < (pcs c).length
  · have e := dir_base c h1
    have hall := okP_all h
    have hnd : dir c ≠ [] := fun e0 => by
      rw [e0] at e
      have : [] ∈ pcs c := by
        rw [← e]
        show [] ∈ pcs (47 :: base c)
        unfold pcs
        rw [if_neg (by simp)]
        simp [sp]
      have := List.all_eq_true.1 hall [] this
      revert this
      decide
    have hp : pcs c = pcs (dir c) ++ sp (base c) := by
      conv => lhs; rw [← e, List.append_assoc]
      unfold pcs
      rw [if_neg (by simp), if_neg hnd]
      exact sp_append _ _
    exact (abvV_iff _ _).2 ⟨_, sp_ne _, hp⟩
  · rw [(dir_base0 c h1).1]
    exact (abvV_iff _ _).2 ⟨pcs c, fun e => hn ((pcs_eq_nil c).1 e), rfl⟩
theorem abv_irr (a : List UInt8) : abvV a a = false := by
  cases e : abvV a a with
  | false => rfl
  | true =>
    have := abv_cf e
    rw [cf_self] at this
    omega
theorem abv_asym {a b : List UInt8} (h : cf b a < 0) : abvV a b = false := by
  cases e : abvV a b with
  | false => rfl
  | true =>
    have h1 := cf_trans (abv_cf e) h
    rw [cf_self] at h1
    omega
theorem pw_anti : ∀ {k : List (List UInt8)}, k.Pairwise (fun a b => fol a b = true) → ∀ a ∈ k, ∀ b ∈ k, abvV a b = false
  | [], _, a, ha, _, _ => by cases ha
  | x :: r, h, a, ha, b, hb => by
    obtain ⟨h1, h2⟩ := List.pairwise_cons.1 h
    rcases List.mem_cons.1 ha with rfl | ha'
    · rcases List.mem_cons.1 hb with rfl | hb'
      · exact abv_irr _
      · exact (fol_iff.1 (h1 b hb')).2
    · rcases List.mem_cons.1 hb with rfl | hb'
      · exact abv_asym (fol_lt (h1 a ha'))
      · exact pw_anti h2 a ha' b hb'
/-- no cone is above another -/
theorem cone_anti {k : List (List UInt8)} (h : coneE k = 0) {a b : List UInt8} (ha : a ∈ k) (hb : b ∈ k) : abvV a b = false :=
  pw_anti (coneB_iff.1 (coneE_zero.1 h)).2 a ha b hb
theorem abv_nil (a : List UInt8) : abvV a [] = false := by
  cases e : abvV a [] with
  | false => rfl
  | true =>
    obtain ⟨r, hr, e1⟩ := (abvV_iff a []).1 e
    rw [pcs_nil] at e1
    have := List.append_eq_nil_iff.1 e1.symm
    exact absurd this.2 hr
/-- a cone gives way to the directory above it -/
theorem wid_ok {k : List (List UInt8)} {c : List UInt8} (h : coneE k = 0) (hc : c ∈ k) : coneE (wid (dir c) false k) = 0 := by
  have hok := (coneB_iff.1 (coneE_zero.1 h)).1
  refine wid_cones h (okP_dir (hok c hc)) (fun x hx => ?_)
  by_cases hn : c = []
  · subst hn
    rw [show dir ([] : List UInt8) = [] from by decide]
    exact abv_nil x
  · cases e : abvV x (dir c) with
    | false => rfl
    | true =>
      have h1 := abv_trans e (abv_dir (hok c hc) hn)
      rw [cone_anti h hx hc] at h1
      cases h1
theorem fchain_pw : ∀ l : List Fl, chain l = true ↔ l.Pairwise (fun a b => fol a.path b.path = true)
  | [] => by simp [chain]
  | [a] => by simp [chain]
  | a :: b :: r => by
    have ih := fchain_pw (b :: r)
    rw [List.pairwise_cons]
    simp only [chain, Bool.and_eq_true]
    rw [ih]
    constructor
    · rintro ⟨h, h1⟩
      refine ⟨fun x hx => ?_, h1⟩
      rcases List.mem_cons.1 hx with rfl | hx
      · exact h
      · exact fol_tr h ((List.pairwise_cons.1 h1).1 x hx)
    · rintro ⟨h, h1⟩
      exact ⟨h b (by simp), h1⟩
/-- a part of a snapshot is one -/
theorem snap_sub {l p : List Fl} (hs : p.Sublist l) (h : validE l = 0) : validE p = 0 := by
  have h1 := (validE_zero l).1 h
  rw [validE_zero]
  unfold stand at h1 ⊢
  simp only [Bool.and_eq_true, decide_eq_true_eq, List.all_eq_true] at h1 ⊢
  refine ⟨⟨Nat.le_trans hs.length_le h1.1.1, fun f hf => h1.1.2 f (hs.subset hf)⟩, ?_⟩
  exact (fchain_pw p).2 (((fchain_pw l).1 h1.2).sublist hs)
theorem viw_ok {l : List Fl} {k : List (List UInt8)} (h : validE l = 0) (hk : coneE k = 0) : viw l k = (l.filter (fun f => shw k f.path), 0) := by
  unfold viw
  rw [if_pos h, if_pos hk]
theorem viw_err (l : List Fl) (k : List (List UInt8)) : ((viw l k).2 = 0 ∧ validE l = 0 ∧ coneE k = 0) ∨ ((viw l k).2 ≠ 0 ∧ (viw l k).1 = [] ∧ ((viw l k).2 = validE l ∨ (viw l k).2 = 13 ∧ coneE k = 13)) := by
  unfold viw
  by_cases h : validE l = 0
  · rw [if_pos h]
    by_cases hk : coneE k = 0
    · rw [if_pos hk]; exact .inl ⟨rfl, h, hk⟩
    · rw [if_neg hk]
      refine .inr ⟨by simp, rfl, .inr ⟨rfl, ?_⟩⟩
      unfold coneE at hk ⊢
      split
      · rename_i e; rw [if_pos e] at hk; exact absurd rfl hk
      · rfl
  · rw [if_neg h]
    exact .inr ⟨h, rfl, .inl rfl⟩
/-- the view of a view -/
theorem viw_again {l : List Fl} {k : List (List UInt8)} (h : validE l = 0) (hk : coneE k = 0) : viw (l.filter (fun f => shw k f.path)) k = (l.filter (fun f => shw k f.path), 0) := by
  rw [viw_ok (snap_sub List.filter_sublist h) hk, List.filter_filter]
  simp
theorem shw_root (p : List UInt8) : shw [[]] p = true := by
  unfold shw
  rw [shD_iff]
  by_cases h : dir p = []
  · exact .inl h
  · exact .inr ⟨[], by simp, .inr (.inl ((abvV_iff _ _).2 ⟨pcs (dir p), fun e => h ((pcs_eq_nil _).1 e), rfl⟩))⟩
theorem viw_root {l : List Fl} (h : validE l = 0) : viw l [[]] = (l, 0) := by
  rw [viw_ok h (by decide)]
  rw [List.filter_eq_self.2 (fun f _ => shw_root f.path)]
theorem shw_none (p : List UInt8) : shw [] p = decide (dir p = []) := by
  unfold shw shD
  simp
theorem viw_none {l : List Fl} (h : validE l = 0) : viw l [] = (l.filter (fun f => decide (dir f.path = [])), 0) := by
  rw [viw_ok h (by decide)]
  simp only [shw_none]
theorem filt_len {α : Type} {f g : α → Bool} (h : ∀ x, f x = true → g x = true) : ∀ l : List α, (l.filter f).length ≤ (l.filter g).length
  | [] => by simp
  | x :: r => by
    have ih := filt_len h r
    rw [List.filter_cons, List.filter_cons]
    cases e : f x with
    | true =>
      rw [if_pos rfl, h x e, if_pos rfl]
      simp only [List.length_cons]
      omega
    | false =>
      rw [if_neg (by simp)]
      split
      · simp only [List.length_cons]; omega
      · exact ih
/-- wider cones show no less -/
theorem viw_wider {l : List Fl} {k : List (List UInt8)} {c : List UInt8} (h : validE l = 0) (hk : coneE k = 0) (hc : c ∈ k) : (viw l (wid (dir c) false k)).2 = 0 ∧ (l.filter (fun f => shw k f.path)).length ≤ (viw l (wid (dir c) false k)).1.length ∧ ∀ f ∈ l.filter (fun f => shw k f.path), shw (wid (dir c) false k) f.path = true := by
  rw [viw_ok h (wid_ok hk hc)]
  exact ⟨rfl, filt_len (fun f hf => wid_shows hf) l, fun f hf => wid_shows (List.mem_filter.1 hf).2⟩
end Go.Proofs.YtbaheiimcnfaaaaGreat

namespace Go.Proofs.YtbaheiimcnfaaaaGreat

/-- how much is shown; what is above the most counts as the most -/
def sumZ (l : List Fl) : Int := (l.map Fl.size).foldr (· + ·) 0
def cst (l : List Fl) (k : List (List UInt8)) : Int := min (sumZ (l.filter (fun f => shw k f.path))) 9223372036854775807
theorem sumZ_cons (a : Fl) (l : List Fl) : sumZ (a :: l) = a.size + sumZ l := rfl
theorem sum_le {f g : Fl → Bool} (h : ∀ x, f x = true → g x = true) : ∀ l : List Fl, (∀ x ∈ l, 0 ≤ x.size) → sumZ (l.filter f) ≤ sumZ (l.filter g)
  | [], _ => by simp
  | a :: r, hz => by
    have ih := sum_le h r (fun x hx => hz x (by simp [hx]))
    have h0 := hz a (by simp)
    cases hf : f a with
    | true => rw [List.filter_cons, if_pos hf, List.filter_cons, if_pos (h a hf), sumZ_cons, sumZ_cons]; omega
    | false =>
      rw [List.filter_cons, if_neg (by simp [hf]), List.filter_cons]
      cases hg : g a with
      | true => rw [if_pos rfl, sumZ_cons]; omega
      | false => rw [if_neg (by simp)]; exact ih
theorem cst_le {l : List Fl} {k m : List (List UInt8)} (hz : ∀ x ∈ l, 0 ≤ x.size) (h : ∀ p, shw k p = true → shw m p = true) : cst l k ≤ cst l m := by
  unfold cst
  have := sum_le (f := fun f => shw k f.path) (g := fun f => shw m f.path) (fun x hx => h _ hx) l hz
  omega
/-- a directory above a valid path is one -/
theorem okP_abv {a b : List UInt8} (h : okP b = true) (k : abvV a b = true) : okP a = true := by
  obtain ⟨r, hr, e⟩ := (abvV_iff a b).1 k
  have hall := okP_all h
  have hl := okP_len h
  rw [e, List.all_append, Bool.and_eq_true] at hall
  have h2 := abv_iff_cmn a b
  rw [k] at h2
  have h3 : cmn a b = a := by
    have := h2.symm
    rw [Bool.and_eq_true, decide_eq_true_eq] at this
    exact this.1
  have h4 : a.length ≤ b.length := by
    rw [← h3, ← cmn_comm]
    exact cmn_le b a
  unfold okP
  simp only [Bool.and_eq_true, decide_eq_true_eq]
  refine ⟨⟨by omega, ?_⟩, hall.1⟩
  have h5 := hl.2
  rw [← dep_eq] at h5 ⊢
  rw [e, List.length_append] at h5
  omega
theorem cmn_in {a b : List UInt8} (h : okP a = true) : a = cmn a b ∨ abvV (cmn a b) a = true := by
  by_cases e : cmn a b = a
  · exact .inl e.symm
  · exact .inr (abv_cmn a b (okP_all h) e)
theorem cmn_in2 {a b : List UInt8} (h : okP b = true) : b = cmn a b ∨ abvV (cmn a b) b = true := by
  rw [← cmn_comm]; exact cmn_in h
theorem okP_cmn {a b : List UInt8} (h : okP a = true) : okP (cmn a b) = true := by
  rcases cmn_in (b := b) h with e | e
  · rw [← e]; exact h
  · exact okP_abv h e
/-- each cone is one of them, or below one -/
theorem wid_cover {d : List UInt8} : ∀ {k : List (List UInt8)} {done : Bool} {c : List UInt8}, c ∈ k → (done = true ∧ (c = d ∨ abvV d c = true)) ∨ ∃ x ∈ wid d done k, x = c ∨ abvV x c = true
  | e :: r, done, c, h => by
    unfold wid
    rcases List.mem_cons.1 h with rfl | h
    · by_cases hb : (decide (c = d) || abvV d c) = true
      · have hb' : c = d ∨ abvV d c = true := by simpa using hb
        cases done with
        | true => exact .inl ⟨rfl, hb'⟩
        | false =>
          rw [if_pos hb]
          refine .inr ⟨d, by simp, ?_⟩
          rcases hb' with e | e
          · exact .inl e.symm
          · exact .inr e
      · rw [if_neg hb]
        exact .inr ⟨c, by simp, .inl rfl⟩
    · by_cases hb : (decide (e = d) || abvV d e) = true
      · rw [if_pos hb]
        cases done with
        | true =>
          rcases wid_cover (d := d) (done := true) h with h1 | ⟨x, hx, h1⟩
          · exact .inl h1
          · exact .inr ⟨x, by simpa using hx, h1⟩
        | false =>
          rcases wid_cover (d := d) (done := true) h with ⟨_, h1⟩ | ⟨x, hx, h1⟩
          · refine .inr ⟨d, by simp, ?_⟩
            rcases h1 with e | e
            · exact .inl e.symm
            · exact .inr e
          · exact .inr ⟨x, by simp [hx], h1⟩
      · rw [if_neg hb]
        rcases wid_cover (d := d) (done := done) h with h1 | ⟨x, hx, h1⟩
        · exact .inl h1
        · exact .inr ⟨x, by simp [hx], h1⟩
/-- how many there are -/
theorem wid_count {d : List UInt8} : ∀ (k : List (List UInt8)) (done : Bool), (wid d done k).length + (k.filter (fun c => decide (c = d) || abvV d c)).length = k.length + (if done = false ∧ (k.any (fun c => decide (c = d) || abvV d c)) = true then 1 else 0)
  | [], done => by cases done <;> simp [wid]
  | c :: r, done => by
    have h1 := wid_count (d := d) r true
    have h2 := wid_count (d := d) r done
    unfold wid
    by_cases hb : (decide (c = d) || abvV d c) = true
    · rw [if_pos hb, List.filter_cons, if_pos hb, List.any_cons, hb, Bool.true_or]
      cases done with
      | true => simp at h1 ⊢; omega
      | false => simp at h1 ⊢; omega
    · rw [if_neg hb, List.filter_cons, if_neg hb, List.any_cons, Bool.eq_false_iff.2 hb, Bool.false_or]
      simp only [List.length_cons]
      omega
theorem wid_fewer {d a b : List UInt8} {k : List (List UInt8)} (ha : a ∈ k) (hb : b ∈ k) (hne : a ≠ b) (ea : a = d ∨ abvV d a = true) (eb : b = d ∨ abvV d b = true) : (wid d false k).length < k.length := by
  have h1 := wid_count (d := d) k false
  have h2 : 2 ≤ (k.filter (fun c => decide (c = d) || abvV d c)).length := by
    have ma : a ∈ k.filter (fun c => decide (c = d) || abvV d c) := List.mem_filter.2 ⟨ha, by simpa using ea⟩
    have mb : b ∈ k.filter (fun c => decide (c = d) || abvV d c) := List.mem_filter.2 ⟨hb, by simpa using eb⟩
    match hF : k.filter (fun c => decide (c = d) || abvV d c) with
    | [] => rw [hF] at ma; cases ma
    | [x] =>
      rw [hF] at ma mb
      exact absurd ((List.mem_singleton.1 ma).trans (List.mem_singleton.1 mb).symm) hne
    | _ :: _ :: _ => simp
  split at h1 <;> omega
end Go.Proofs.YtbaheiimcnfaaaaGreat

namespace Go.Proofs.YtbaheiimcnfaaaaGreat

/-- of each two neighbours the deepest directory above both -/
def cds : List (List UInt8) → List (List UInt8)
  | a :: b :: r => cmn a b :: cds (b :: r)
  | _ => []
theorem cds_mem : ∀ {k : List (List UInt8)} {p : List UInt8}, k.Pairwise (fun a b => fol a b = true) → p ∈ cds k → ∃ a ∈ k, ∃ b ∈ k, cf a b < 0 ∧ p = cmn a b
  | a :: b :: r, p, hk, h => by
    obtain ⟨h1, h2⟩ := List.pairwise_cons.1 hk
    rcases List.mem_cons.1 h with rfl | h
    · exact ⟨a, by simp, b, by simp, (fol_iff.1 (h1 b (by simp))).1, rfl⟩
    · obtain ⟨x, hx, y, hy, hc, e⟩ := cds_mem h2 h
      exact ⟨x, by simp [hx], y, by simp [hy], hc, e⟩
  | [a], p, _, h => by cases h
  | [], p, _, h => by cases h
theorem cds_nil {k : List (List UInt8)} : cds k = [] ↔ k.length < 2 := by
  match k with
  | [] => simp [cds]
  | [a] => simp [cds]
  | a :: b :: r => simp [cds]
theorem cds_len : ∀ k : List (List UInt8), (cds k).length = k.length - 1
  | [] => rfl
  | [_] => rfl
  | a :: b :: r => by
    have := cds_len (b :: r)
    simp only [cds, List.length_cons] at this ⊢
    omega
theorem cds_get : ∀ (k : List (List UInt8)) (i : Nat) (h : i + 1 < k.length), (cds k)[i]? = some (cmn k[i] k[i + 1])
  | a :: b :: r, 0, _ => rfl
  | a :: b :: r, i + 1, h => by
    have := cds_get (b :: r) i (by simpa using h)
    simpa [cds] using this
  | [a], i, h => by simp at h
  | [], i, h => by simp at h
/-- what merging at p costs -/
def cw (l : List Fl) (k : List (List UInt8)) (p : List UInt8) : Int := cst l (wid p false k)
/-- is p better than q? -/
def btr (l : List Fl) (k : List (List UInt8)) (p q : List UInt8) : Bool := decide (cw l k p < cw l k q) || (decide (cw l k p = cw l k q) && (decide (dep q < dep p) || (decide (dep p = dep q) && decide (cf p q < 0))))
def bstF (l : List Fl) (k : List (List UInt8)) : List UInt8 → List (List UInt8) → List UInt8
  | q, [] => q
  | q, p :: r => bstF l k (if btr l k p q then p else q) r
theorem bst_mem {l : List Fl} {k : List (List UInt8)} : ∀ (r : List (List UInt8)) (q : List UInt8), bstF l k q r ∈ q :: r
  | [], q => by simp [bstF]
  | p :: r, q => by
    have := bst_mem (l := l) (k := k) r (if btr l k p q then p else q)
    unfold bstF
    rcases List.mem_cons.1 this with h | h
    · rw [h]
      split <;> simp
    · simp [h]
theorem bst_least {l : List Fl} {k : List (List UInt8)} : ∀ (r : List (List UInt8)) (q : List UInt8), ∀ p ∈ q :: r, cw l k (bstF l k q r) ≤ cw l k p
  | [], q, p, hp => by
    rw [List.mem_singleton.1 hp]
    exact Int.le_refl _
  | x :: r, q, p, hp => by
    have ih := bst_least (l := l) (k := k) r (if btr l k x q then x else q)
    unfold bstF
    have hq := ih _ (by simp : (if btr l k x q then x else q) ∈ _)
    have hb : cw l k (if btr l k x q then x else q) ≤ cw l k x ∧ cw l k (if btr l k x q then x else q) ≤ cw l k q := by
      cases e : btr l k x q with
      | true =>
        rw [if_pos rfl]
        refine ⟨Int.le_refl _, ?_⟩
        unfold btr at e
        simp only [Bool.or_eq_true, Bool.and_eq_true, decide_eq_true_eq] at e
        omega
      | false =>
        rw [if_neg (by simp)]
        refine ⟨?_, Int.le_refl _⟩
        unfold btr at e
        simp only [Bool.or_eq_false_iff, decide_eq_false_iff_not] at e
        omega
    rcases List.mem_cons.1 hp with rfl | hp
    · omega
    · rcases List.mem_cons.1 hp with rfl | hp
      · omega
      · exact ih p (by simp [hp])
/-- one step -/
def stp (l : List Fl) (k : List (List UInt8)) : List (List UInt8) := match cds k with
  | [] => k
  | p :: r => wid (bstF l k p r) false k
theorem stp_at {l : List Fl} {k : List (List UInt8)} (h2 : 2 ≤ k.length) : ∃ d ∈ cds k, stp l k = wid d false k ∧ ∀ p ∈ cds k, cw l k d ≤ cw l k p := by
  unfold stp
  cases e : cds k with
  | nil => rw [cds_nil] at e; omega
  | cons p r => exact ⟨_, bst_mem r p, rfl, bst_least r p⟩
theorem stp_short {l : List Fl} {k : List (List UInt8)} (h : k.length < 2) : stp l k = k := by
  unfold stp
  rw [cds_nil.2 h]
section
variable {l : List Fl} {k : List (List UInt8)}
theorem cone_two (h : coneE k = 0) {d : List UInt8} (hd : d ∈ cds k) : ∃ a ∈ k, ∃ b ∈ k, a ≠ b ∧ d = cmn a b ∧ okP d = true ∧ (a = d ∨ abvV d a = true) ∧ (b = d ∨ abvV d b = true) ∧ ∀ c ∈ k, abvV c d = false := by
  have hk := coneB_iff.1 (coneE_zero.1 h)
  obtain ⟨a, ha, b, hb, hc, rfl⟩ := cds_mem hk.2 hd
  refine ⟨a, ha, b, hb, fun e => ?_, rfl, okP_cmn (hk.1 a ha), cmn_in (hk.1 a ha), cmn_in2 (hk.1 b hb), fun c hcc => ?_⟩
  · subst e
    have : cf a a = 0 := cf_zero.2 rfl
    omega
  · cases e : abvV c (cmn a b) with
    | false => rfl
    | true =>
      have h1 : abvV c a = true := by
        rcases cmn_in (b := b) (hk.1 a ha) with e2 | e2
        · rw [← e2] at e; exact e
        · exact abv_trans e e2
      rw [cone_anti h hcc ha] at h1
      cases h1
theorem wid_two (h : coneE k = 0) {d : List UInt8} (hd : d ∈ cds k) : coneE (wid d false k) = 0 ∧ (wid d false k).length < k.length ∧ 1 ≤ (wid d false k).length := by
  obtain ⟨a, ha, b, hb, hne, _, hok, ea, eb, han⟩ := cone_two h hd
  refine ⟨wid_cones h hok han, wid_fewer ha hb hne ea eb, ?_⟩
  rcases wid_cover (d := d) (done := false) ha with ⟨h1, _⟩ | ⟨x, hx, _⟩
  · cases h1
  · exact List.length_pos_of_mem hx
theorem stp_ok (h : coneE k = 0) : coneE (stp l k) = 0 := by
  by_cases h2 : 2 ≤ k.length
  · obtain ⟨d, hd, e, _⟩ := stp_at (l := l) h2
    rw [e]; exact (wid_two h hd).1
  · rw [stp_short (by omega)]; exact h
theorem stp_fewer (h : coneE k = 0) (h2 : 2 ≤ k.length) : (stp l k).length < k.length ∧ 1 ≤ (stp l k).length := by
  obtain ⟨d, hd, e, _⟩ := stp_at (l := l) h2
  rw [e]; exact (wid_two h hd).2
theorem stp_cover {c : List UInt8} (hc : c ∈ k) : ∃ x ∈ stp l k, x = c ∨ abvV x c = true := by
  by_cases h2 : 2 ≤ k.length
  · obtain ⟨d, _, e, _⟩ := stp_at (l := l) h2
    rw [e]
    rcases wid_cover (d := d) (done := false) hc with ⟨h1, _⟩ | h1
    · cases h1
    · exact h1
  · rw [stp_short (by omega)]; exact ⟨c, hc, .inl rfl⟩
theorem stp_shows {p : List UInt8} (hp : shw k p = true) : shw (stp l k) p = true := by
  by_cases h2 : 2 ≤ k.length
  · obtain ⟨d, _, e, _⟩ := stp_at (l := l) h2
    rw [e]; exact wid_shows hp
  · rw [stp_short (by omega)]; exact hp
theorem stp_costs (hz : ∀ x ∈ l, 0 ≤ x.size) : cst l k ≤ cst l (stp l k) := cst_le hz (fun _ hp => stp_shows hp)
theorem stp_least (h2 : 2 ≤ k.length) {p : List UInt8} (hp : p ∈ cds k) : cst l (stp l k) ≤ cst l (wid p false k) := by
  obtain ⟨d, _, e, hl⟩ := stp_at (l := l) h2
  rw [e]; exact hl p hp
end
/-- all steps -/
def dwnF (l : List Fl) (b : Nat) : Nat → List (List UInt8) → List (List UInt8)
  | 0, k => k
  | n + 1, k => if k.length ≤ b then k else dwnF l b n (stp l k)
def dwn (l : List Fl) (b : Nat) (k : List (List UInt8)) : List (List UInt8) := dwnF l b k.length k
theorem dwn_fuel {l : List Fl} {b : Nat} (hb : 1 ≤ b) : ∀ (n : Nat) (k : List (List UInt8)), coneE k = 0 → k.length ≤ n → dwnF l b n k = dwn l b k
  | 0, k, _, hn => by
    have : k = [] := List.eq_nil_of_length_eq_zero (by omega)
    subst this
    rfl
  | n + 1, k, hk, hn => by
    unfold dwn
    by_cases hl : k.length ≤ b
    · rw [dwnF, if_pos hl]
      cases e : k.length with
      | zero => rfl
      | succ m => rw [dwnF, if_pos hl]
    · have h2 : 2 ≤ k.length := by omega
      have hf := (stp_fewer (l := l) hk h2).1
      obtain ⟨m, hm⟩ : ∃ m, k.length = m + 1 := ⟨k.length - 1, by omega⟩
      rw [hm, dwnF, if_neg hl, dwnF, if_neg hl, dwn_fuel hb n _ (stp_ok hk) (by omega), dwn_fuel hb m _ (stp_ok hk) (by omega)]
  termination_by n => n
  decreasing_by all_goals omega
theorem dwn_done {l : List Fl} {b : Nat} {k : List (List UInt8)} (h : k.length ≤ b) : dwn l b k = k := by
  unfold dwn
  cases e : k.length with
  | zero => rfl
  | succ n => rw [dwnF, if_pos h]
theorem dwn_step {l : List Fl} {b : Nat} {k : List (List UInt8)} (hb : 1 ≤ b) (hk : coneE k = 0) (h : b < k.length) : dwn l b k = dwn l b (stp l k) := by
  have h2 : 2 ≤ k.length := by omega
  have hf := (stp_fewer (l := l) hk h2).1
  obtain ⟨m, hm⟩ : ∃ m, k.length = m + 1 := ⟨k.length - 1, by omega⟩
  rw [dwn, hm, dwnF, if_neg (by omega), dwn_fuel hb m _ (stp_ok hk) (by omega)]
end Go.Proofs.YtbaheiimcnfaaaaGreat
