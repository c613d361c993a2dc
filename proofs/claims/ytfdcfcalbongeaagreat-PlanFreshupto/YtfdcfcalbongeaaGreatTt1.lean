/-
  A tree, plain: its files, its directories, its journal; its steps; what stays true behind any.
-/
import Derived.Test.YtfdcfcalbongeaaGreatJKn2
namespace Go.Proofs.YtfdcfcalbongeaaGreat

theorem base_no : ∀ l : List UInt8, (47 : UInt8) ∉ base l
  | [] => by simp [base]
  | c :: l => by
    have ih := base_no l
    have hg := lst_ge l
    unfold base at ih ⊢
    rw [lst]
    by_cases h : 0 ≤ lst l
    · rw [if_pos h]
      have e : (lst l + 1 + 1).toNat = (lst l + 1).toNat + 1 := by omega
      rw [e, List.drop_succ_cons]; exact ih
    · have e0 : (lst l + 1).toNat = 0 := by omega
      rw [e0, List.drop_zero] at ih
      rw [if_neg h]
      by_cases hc : c = 47
      · rw [if_pos hc]; simpa using ih
      · rw [if_neg hc]
        simp only [Int.reduceNeg, Int.add_left_neg, Int.toNat_zero, List.drop_zero, List.mem_cons, not_or]
        exact ⟨fun e => hc e.symm, ih⟩
theorem dir_lt {p : List UInt8} (h : p ≠ []) : (dir p).length < p.length := by
  have := lst_lt p
  have hp := List.length_pos_iff.2 h
  unfold dir
  split
  · simpa using hp
  · rw [List.length_take]; omega
theorem dir_nil : dir ([] : List UInt8) = [] := by decide
theorem sp_free {b : List UInt8} (h : (47 : UInt8) ∉ b) : sp b = [b] := by
  have := sp_join [b] (by simp) (by simpa using h)
  simpa [join] using this
/-- the pieces of a path: those of its directory, and one -/
theorem pcs_dir {q : List UInt8} (hq : okP q = true) (hn : q ≠ []) : pcs q = pcs (dir q) ++ [base q] := by
  by_cases h1 : 1 < (pcs q).length
  · have e := dir_base q h1
    have hall := okP_all hq
    have hnd : dir q ≠ [] := fun e0 => by
      rw [e0] at e
      have : [] ∈ pcs q := by
        rw [← e]
        show [] ∈ pcs (47 :: base q)
        unfold pcs
        rw [if_neg (by simp)]
        simp [sp]
      have := List.all_eq_true.1 hall [] this
      revert this
      decide
    have hp : pcs q = pcs (dir q) ++ sp (base q) := by
      conv => lhs; rw [← e, List.append_assoc]
      unfold pcs
      rw [if_neg (by simp), if_neg hnd]
      exact sp_append _ _
    rw [hp, sp_free (base_no q)]
  · obtain ⟨e1, e2⟩ := dir_base0 q h1
    have hb := base_no q
    rw [e2] at hb
    rw [e1, e2, pcs_nil, List.nil_append]
    unfold pcs
    rw [if_neg hn, sp_free hb]
/-- what is above a path is its directory, or above that -/
theorem abv_up {p q : List UInt8} (hq : okP q = true) (h : abvV p q = true) : p = dir q ∨ abvV p (dir q) = true := by
  have hn : q ≠ [] := fun e => by rw [e, abv_nil] at h; cases h
  obtain ⟨r, hr, e⟩ := (abvV_iff p q).1 h
  rw [pcs_dir hq hn] at e
  obtain ⟨r', x, rfl⟩ : ∃ r' x, r = r' ++ [x] := ⟨_, _, (List.dropLast_concat_getLast hr).symm⟩
  rw [← List.append_assoc] at e
  have e1 := List.append_inj_left' e rfl
  by_cases h0 : r' = []
  · left
    rw [h0, List.append_nil] at e1
    exact (pcs_inj e1).symm
  · exact .inr ((abvV_iff _ _).2 ⟨r', h0, e1⟩)

/-- a path and what is above it, but the root; the deepest first -/
def ups : Nat → List UInt8 → List (List UInt8)
  | 0, _ => []
  | n + 1, p => if p = [] then [] else p :: ups n (dir p)
theorem ups_fuel : ∀ (n m : Nat) (p : List UInt8), p.length ≤ n → p.length ≤ m → ups n p = ups m p
  | 0, 0, _, _, _ => rfl
  | 0, m + 1, p, h, _ => by
    have : p = [] := List.eq_nil_of_length_eq_zero (by omega)
    simp [ups, this]
  | n + 1, 0, p, _, h => by
    have : p = [] := List.eq_nil_of_length_eq_zero (by omega)
    simp [ups, this]
  | n + 1, m + 1, p, h1, h2 => by
    by_cases e : p = []
    · simp [ups, e]
    · have := dir_lt e
      simp only [ups, if_neg e]
      rw [ups_fuel n m (dir p) (by omega) (by omega)]
def upl (p : List UInt8) : List (List UInt8) := ups p.length p
theorem upl_nil : upl [] = [] := rfl
theorem upl_cons {p : List UInt8} (h : p ≠ []) : upl p = p :: upl (dir p) := by
  have := dir_lt h
  unfold upl
  obtain ⟨n, hn⟩ : ∃ n, p.length = n + 1 := ⟨p.length - 1, by omega⟩
  rw [hn, ups, if_neg h, ups_fuel n (dir p).length _ (by omega) (Nat.le_refl _)]
/-- a path and what is above it -/
theorem mem_upl : ∀ (n : Nat) {p x : List UInt8}, p.length ≤ n → okP p = true → (x ∈ upl p ↔ x ≠ [] ∧ (x = p ∨ abvV x p = true))
  | n, p, x, hn, hp => by
    by_cases e : p = []
    · subst e
      rw [upl_nil, abv_nil]
      simp
    · have hlt := dir_lt e
      have hd := okP_dir hp
      obtain ⟨n, rfl⟩ : ∃ m, n = m + 1 := ⟨n - 1, by have := List.length_pos_iff.2 e; omega⟩
      rw [upl_cons e, List.mem_cons, mem_upl n (by omega) hd]
      constructor
      · rintro (rfl | ⟨h0, rfl | h1⟩)
        · exact ⟨e, .inl rfl⟩
        · exact ⟨h0, .inr (abv_dir hp e)⟩
        · exact ⟨h0, .inr (abv_trans h1 (abv_dir hp e))⟩
      · rintro ⟨h0, rfl | h1⟩
        · exact .inl rfl
        · exact .inr ⟨h0, abv_up hp h1⟩
/-- all directories above files, but the root -/
def nds (l : List Fl) : List (List UInt8) := norm (l.flatMap (fun f => upl (dir f.path)))

structure TT where
  fs : List Fl
  ds : List (List UInt8)
  jl : List UInt8
  st : Nat
  sp : Int
  dn : Bool
  tn : List UInt8
def newT (l : List Fl) : TT := ⟨l, nds l, [], 0, 0, false, []⟩
def hasF (l : List Fl) (p : List UInt8) : Bool := l.any (fun f => f.path == p)
def hasD (D : List (List UInt8)) (p : List UInt8) : Bool := p == [] || decide (p ∈ D)
/-- a step is called: is it done? -/
def TT.cnt (T : TT) (b : List UInt8) : TT × Bool :=
  if T.sp = 0 then ({ T with st := T.st + 1 }, true)
  else if 1 < T.sp then ({ T with st := T.st + 1, sp := T.sp - 1 }, true)
  else if T.dn then ({ T with st := T.st + 1 }, false)
  else ({ T with st := T.st + 1, dn := true, tn := b }, false)
def TT.step (T : TT) (b : List UInt8) (g : TT → TT × Int) : TT × Int := if (T.cnt b).2 then g (T.cnt b).1 else ((T.cnt b).1, 15)
def mkB (T : TT) (p : List UInt8) : Bool := okP p && !hasF T.fs p && !hasD T.ds p && hasD T.ds (dir p)
def mkG (p : List UInt8) (T : TT) : TT × Int := if mkB T p then ({ T with ds := ins p T.ds }, 0) else (T, 16)
def TT.mk' (T : TT) (p : List UInt8) : TT × Int := T.step [] (mkG p)
/-- a file laid among files, in place of the one of its path -/
def insF (f : Fl) : List Fl → List Fl
  | [] => [f]
  | g :: r => if cf g.path f.path < 0 then g :: insF f r else if g.path = f.path then f :: r else f :: g :: r
def wrB (T : TT) (f : Fl) : Bool := !hasD T.ds f.path && hasD T.ds (dir f.path)
def wrG (f : Fl) (T : TT) : TT × Int := if fileE f = 0 then (if wrB T f then ({ T with fs := insF f T.fs }, 0) else (T, 16)) else (T, fileE f)
def TT.wr (T : TT) (f : Fl) : TT × Int := T.step [] (wrG f)
def dlG (p : List UInt8) (T : TT) : TT × Int := if hasF T.fs p then ({ T with fs := T.fs.filter (fun f => !(f.path == p)) }, 0) else (T, 16)
def TT.dl (T : TT) (p : List UInt8) : TT × Int := T.step [] (dlG p)
/-- is nothing right in a directory? -/
def emp (T : TT) (p : List UInt8) : Bool := T.fs.all (fun f => !(dir f.path == p)) && T.ds.all (fun d => !(dir d == p))
def rmB (T : TT) (p : List UInt8) : Bool := !(p == []) && hasD T.ds p && emp T p
def rmG (p : List UInt8) (T : TT) : TT × Int := if rmB T p then ({ T with ds := T.ds.filter (fun d => !(d == p)) }, 0) else (T, 16)
def TT.rm (T : TT) (p : List UInt8) : TT × Int := T.step [] (rmG p)
def apG (b : List UInt8) (T : TT) : TT × Int := ({ T with jl := T.jl ++ b }, 0)
def TT.ap (T : TT) (b : List UInt8) : TT × Int := T.step b (apG b)
def clG (T : TT) : TT × Int := ({ T with jl := [] }, 0)
def TT.cl (T : TT) : TT × Int := T.step [] clG
def TT.stop (T : TT) (n : Int) : TT := if T.dn then T else { T with sp := if 1 ≤ n then n else 0 }
def rst (n : Int) (k : Nat) : Nat := (n % ((k : Int) + 1)).toNat
theorem rst_le (n : Int) (k : Nat) : rst n k ≤ k := by
  have h1 := Int.emod_nonneg n (show ((k : Int) + 1) ≠ 0 by omega)
  have h2 := Int.emod_lt_of_pos n (show 0 < ((k : Int) + 1) by omega)
  unfold rst
  omega
def TT.cr (T : TT) (n : Int) : TT := ⟨T.fs, T.ds, T.jl ++ T.tn.take (rst n T.tn.length), 0, 0, false, []⟩

/-- what stays true -/
structure TOk (T : TT) : Prop where
  fe : ∀ f ∈ T.fs, fileE f = 0
  fu : T.fs.Pairwise (fun a b => cf a.path b.path < 0)
  du : Up T.ds
  de : ∀ d ∈ T.ds, d ≠ [] ∧ okP d = true
  fd : ∀ f ∈ T.fs, hasD T.ds (dir f.path) = true
  dd : ∀ d ∈ T.ds, hasD T.ds (dir d) = true
  no : ∀ f ∈ T.fs, f.path ∉ T.ds
  sp0 : 0 ≤ T.sp
  dn1 : T.dn = true → T.sp = 1
  tn0 : T.dn = false → T.tn = []
theorem hasD_iff {D : List (List UInt8)} {p : List UInt8} : hasD D p = true ↔ p = [] ∨ p ∈ D := by simp [hasD]
theorem hasF_iff {l : List Fl} {p : List UInt8} : hasF l p = true ↔ ∃ f ∈ l, f.path = p := by simp [hasF]
theorem fileE_path {f : Fl} (h : fileE f = 0) : f.path ≠ [] ∧ okP f.path = true := by
  have := (fileE_zero f).1 h
  have h1 := this.1
  unfold pathOk at h1
  simpa using h1
/-- what is above something that is there is there -/
theorem TOk.above {T : TT} (h : TOk T) : ∀ (n : Nat) {x q : List UInt8}, q.length ≤ n → okP q = true → hasD T.ds (dir q) = true → abvV x q = true → hasD T.ds x = true
  | n, x, q, hn, hq, hd, ha => by
    have hne : q ≠ [] := fun e => by rw [e, abv_nil] at ha; cases ha
    have hlt := dir_lt hne
    rcases abv_up hq ha with rfl | h1
    · exact hd
    · rcases hasD_iff.1 hd with e | hm
      · rw [e, abv_nil] at h1; cases h1
      · obtain ⟨n, rfl⟩ : ∃ m, n = m + 1 := ⟨n - 1, by omega⟩
        exact h.above n (by omega) (h.de _ hm).2 (h.dd _ hm) h1
theorem TOk.fol {T : TT} (h : TOk T) : (T.fs.map Fl.path).Pairwise (fun a b => fol a b = true) := by
  rw [List.pairwise_map]
  refine (List.pairwise_iff_forall_sublist.2 fun {a b} hs => ?_)
  have hc := List.pairwise_iff_forall_sublist.1 h.fu hs
  have ha : a ∈ T.fs := hs.subset (by simp)
  have hb : b ∈ T.fs := hs.subset (by simp)
  rw [fol_iff]
  refine ⟨hc, ?_⟩
  cases e : abvV a.path b.path with
  | false => rfl
  | true =>
    rcases hasD_iff.1 (h.above _ (Nat.le_refl _) (fileE_path (h.fe b hb)).2 (h.fd b hb) e) with e0 | hm
    · exact absurd e0 (fileE_path (h.fe a ha)).1
    · exact absurd hm (h.no a ha)
theorem chain_pw : ∀ l : List Fl, chain l = true ↔ (l.map Fl.path).Pairwise (fun a b => fol a b = true)
  | [] => by simp [chain]
  | [a] => by simp [chain]
  | a :: b :: r => by
    have ih := chain_pw (b :: r)
    have h2 := chnP_pw (a.path :: b.path :: r.map Fl.path)
    have h3 := chnP_pw (b.path :: r.map Fl.path)
    simp only [List.map_cons] at ih ⊢
    rw [← h2]
    rw [← h3] at ih
    simp only [chain, chnP, Bool.and_eq_true, ih]
/-- the files are a snapshot, as long as they are not too many -/
theorem TOk.valid {T : TT} (h : TOk T) (hl : T.fs.length ≤ 512) : validE T.fs = 0 := by
  rw [validE_zero]
  unfold stand
  simp only [Bool.and_eq_true, decide_eq_true_eq, List.all_eq_true, beq_iff_eq]
  exact ⟨⟨hl, h.fe⟩, (chain_pw _).2 h.fol⟩

/-! ### the steps keep it -/
theorem stand_iff {l : List Fl} : stand l = true ↔ l.length ≤ 512 ∧ (∀ f ∈ l, fileE f = 0) ∧ (l.map Fl.path).Pairwise (fun a b => fol a b = true) := by
  unfold stand
  simp only [Bool.and_eq_true, decide_eq_true_eq, List.all_eq_true, beq_iff_eq, chain_pw, and_assoc]
theorem mem_nds {l : List Fl} (h : ∀ f ∈ l, fileE f = 0) {x : List UInt8} : x ∈ nds l ↔ x ≠ [] ∧ ∃ f ∈ l, abvV x f.path = true := by
  unfold nds
  rw [mem_norm]
  simp only [List.mem_flatMap]
  constructor
  · rintro ⟨f, hf, hx⟩
    have hp := fileE_path (h f hf)
    rw [mem_upl _ (Nat.le_refl _) (okP_dir hp.2)] at hx
    refine ⟨hx.1, f, hf, ?_⟩
    rcases hx.2 with rfl | h1
    · exact abv_dir hp.2 hp.1
    · exact abv_trans h1 (abv_dir hp.2 hp.1)
  · rintro ⟨h0, f, hf, hx⟩
    have hp := fileE_path (h f hf)
    refine ⟨f, hf, ?_⟩
    rw [mem_upl _ (Nat.le_refl _) (okP_dir hp.2)]
    exact ⟨h0, abv_up hp.2 hx⟩
theorem okP_abv : ∀ (n : Nat) {x q : List UInt8}, q.length ≤ n → okP q = true → abvV x q = true → okP x = true
  | n, x, q, hn, hq, ha => by
    have hne : q ≠ [] := fun e => by rw [e, abv_nil] at ha; cases ha
    have hlt := dir_lt hne
    obtain ⟨n, rfl⟩ : ∃ m, n = m + 1 := ⟨n - 1, by omega⟩
    rcases abv_up hq ha with rfl | h1
    · exact okP_dir hq
    · exact okP_abv n (by omega) (okP_dir hq) h1
theorem TOk.new {l : List Fl} (hv : validE l = 0) : TOk (newT l) := by
  obtain ⟨h1, h2, h3⟩ := stand_iff.1 ((validE_zero l).1 hv)
  have hm := @mem_nds l h2
  refine ⟨h2, ?_, up_norm _, ?_, ?_, ?_, ?_, Int.le_refl 0, by simp [newT], by simp [newT]⟩
  · rw [List.pairwise_map] at h3
    exact h3.imp fun h => (fol_iff.1 h).1
  · intro d hd
    obtain ⟨h0, f, hf, ha⟩ := hm.1 hd
    exact ⟨h0, okP_abv _ (Nat.le_refl _) (fileE_path (h2 f hf)).2 ha⟩
  · intro f hf
    have hp := fileE_path (h2 f hf)
    rw [hasD_iff]
    by_cases e : dir f.path = []
    · exact .inl e
    · exact .inr (hm.2 ⟨e, f, hf, abv_dir hp.2 hp.1⟩)
  · intro d hd
    obtain ⟨h0, f, hf, ha⟩ := hm.1 hd
    have ho := okP_abv _ (Nat.le_refl _) (fileE_path (h2 f hf)).2 ha
    rw [hasD_iff]
    by_cases e : dir d = []
    · exact .inl e
    · exact .inr (hm.2 ⟨e, f, hf, abv_trans (abv_dir ho h0) ha⟩)
  · intro f hf hd
    obtain ⟨_, g, hg, ha⟩ := hm.1 hd
    have := pw_anti h3 f.path (List.mem_map.2 ⟨f, hf, rfl⟩) g.path (List.mem_map.2 ⟨g, hg, rfl⟩)
    rw [this] at ha
    cases ha
theorem TOk.cnt {T : TT} (h : TOk T) (b : List UInt8) : TOk (T.cnt b).1 := by
  have h0 := h.sp0
  unfold TT.cnt
  split
  · exact ⟨h.fe, h.fu, h.du, h.de, h.fd, h.dd, h.no, h.sp0, h.dn1, h.tn0⟩
  · split
    · refine ⟨h.fe, h.fu, h.du, h.de, h.fd, h.dd, h.no, ?_, ?_, h.tn0⟩
      · show 0 ≤ T.sp - 1
        omega
      · intro hd
        have := h.dn1 hd
        omega
    · split
      · exact ⟨h.fe, h.fu, h.du, h.de, h.fd, h.dd, h.no, h.sp0, h.dn1, h.tn0⟩
      · refine ⟨h.fe, h.fu, h.du, h.de, h.fd, h.dd, h.no, h.sp0, ?_, by simp⟩
        intro _
        show T.sp = 1
        omega
theorem TOk.step {T : TT} (h : TOk T) (b : List UInt8) {g : TT → TT × Int} (hg : ∀ T', TOk T' → TOk (g T').1) : TOk (T.step b g).1 := by
  unfold TT.step
  split
  · exact hg _ (h.cnt b)
  · exact h.cnt b
theorem TOk.mkG {T : TT} (h : TOk T) (p : List UInt8) : TOk (mkG p T).1 := by
  unfold Go.Proofs.YtfdcfcalbongeaaGreat.mkG
  split
  · rename_i hb
    unfold mkB at hb
    simp only [Bool.and_eq_true, Bool.not_eq_true'] at hb
    obtain ⟨⟨⟨h1, h2⟩, h3⟩, h4⟩ := hb
    have hp : p ≠ [] := fun e => by rw [e] at h3; simp [hasD] at h3
    have hd : ∀ {x}, hasD T.ds x = true → hasD (ins p T.ds) x = true := fun {x} hx => by
      rw [hasD_iff] at hx ⊢
      rcases hx with hx | hx
      · exact .inl hx
      · exact .inr ((mem_ins p x _).2 (.inr hx))
    refine ⟨h.fe, h.fu, up_ins p _ h.du, ?_, fun f hf => hd (h.fd f hf), ?_, ?_, h.sp0, h.dn1, h.tn0⟩
    · intro d hm
      rcases (mem_ins p d _).1 hm with rfl | hm
      · exact ⟨hp, h1⟩
      · exact h.de d hm
    · intro d hm
      rcases (mem_ins p d _).1 hm with rfl | hm
      · exact hd h4
      · exact hd (h.dd d hm)
    · intro f hf hm
      rcases (mem_ins p f.path _).1 hm with e | hm
      · rw [hasF_iff.2 ⟨f, hf, e⟩] at h2
        cases h2
      · exact h.no f hf hm
  · exact h
theorem mem_insF {f x : Fl} : ∀ {l : List Fl}, x ∈ insF f l → x = f ∨ x ∈ l
  | [], h => by simpa [insF] using h
  | g :: r, h => by
    unfold insF at h
    split at h
    · rcases List.mem_cons.1 h with rfl | h
      · exact .inr (by simp)
      · rcases mem_insF h with e | h
        · exact .inl e
        · exact .inr (List.mem_cons_of_mem _ h)
    · split at h
      · rcases List.mem_cons.1 h with rfl | h
        · exact .inl rfl
        · exact .inr (List.mem_cons_of_mem _ h)
      · rcases List.mem_cons.1 h with rfl | h
        · exact .inl rfl
        · exact .inr h
theorem pw_insF {f : Fl} : ∀ {l : List Fl}, l.Pairwise (fun a b => cf a.path b.path < 0) → (insF f l).Pairwise (fun a b => cf a.path b.path < 0)
  | [], _ => by simp [insF]
  | g :: r, h => by
    obtain ⟨h1, h2⟩ := List.pairwise_cons.1 h
    unfold insF
    split
    · rename_i hl
      refine List.pairwise_cons.2 ⟨fun x hx => ?_, pw_insF h2⟩
      rcases mem_insF hx with rfl | hx
      · exact hl
      · exact h1 x hx
    · rename_i hl
      split
      · rename_i he
        refine List.pairwise_cons.2 ⟨fun x hx => ?_, h2⟩
        rw [← he]
        exact h1 x hx
      · rename_i he
        have hfg : cf f.path g.path < 0 := by
          rcases cf_tri f.path g.path with h | h | h
          · exact h
          · exact absurd h.symm he
          · exact absurd h hl
        refine List.pairwise_cons.2 ⟨fun x hx => ?_, h⟩
        rcases List.mem_cons.1 hx with rfl | hx
        · exact hfg
        · exact cf_trans hfg (h1 x hx)
theorem TOk.wrG {T : TT} (h : TOk T) (f : Fl) : TOk (wrG f T).1 := by
  unfold Go.Proofs.YtfdcfcalbongeaaGreat.wrG
  split
  · rename_i he
    split
    · rename_i hb
      unfold wrB at hb
      simp only [Bool.and_eq_true, Bool.not_eq_true'] at hb
      refine ⟨?_, pw_insF h.fu, h.du, h.de, ?_, h.dd, ?_, h.sp0, h.dn1, h.tn0⟩
      · intro x hx
        rcases mem_insF hx with rfl | hx
        · exact he
        · exact h.fe x hx
      · intro x hx
        rcases mem_insF hx with rfl | hx
        · exact hb.2
        · exact h.fd x hx
      · intro x hx hm
        rcases mem_insF hx with rfl | hx
        · rw [hasD_iff.2 (.inr hm)] at hb
          cases hb.1
        · exact h.no x hx hm
    · exact h
  · exact h
theorem TOk.dlG {T : TT} (h : TOk T) (p : List UInt8) : TOk (dlG p T).1 := by
  unfold Go.Proofs.YtfdcfcalbongeaaGreat.dlG
  split
  · have hs : ∀ {x}, x ∈ T.fs.filter (fun f => !(f.path == p)) → x ∈ T.fs := fun {x} hx => (List.mem_filter.1 hx).1
    exact ⟨fun f hf => h.fe f (hs hf), h.fu.filter _, h.du, h.de, fun f hf => h.fd f (hs hf), h.dd, fun f hf => h.no f (hs hf), h.sp0, h.dn1, h.tn0⟩
  · exact h
theorem TOk.rmG {T : TT} (h : TOk T) (p : List UInt8) : TOk (rmG p T).1 := by
  unfold Go.Proofs.YtfdcfcalbongeaaGreat.rmG
  split
  · rename_i hb
    unfold rmB emp at hb
    simp only [Bool.and_eq_true, Bool.not_eq_true', List.all_eq_true, beq_eq_false_iff_ne] at hb
    obtain ⟨⟨h1, h2⟩, h3, h4⟩ := hb
    have hs : ∀ {x}, x ∈ T.ds.filter (fun d => !(d == p)) → x ∈ T.ds := fun {x} hx => (List.mem_filter.1 hx).1
    have hd : ∀ {x}, hasD T.ds x = true → x ≠ p → hasD (T.ds.filter (fun d => !(d == p))) x = true := fun {x} hx hn => by
      rw [hasD_iff] at hx ⊢
      rcases hx with hx | hx
      · exact .inl hx
      · exact .inr (List.mem_filter.2 ⟨hx, by simpa using hn⟩)
    exact ⟨h.fe, h.fu, up_filter h.du _, fun d hm => h.de d (hs hm), fun f hf => hd (h.fd f hf) (h3 f hf), fun d hm => hd (h.dd d (hs hm)) (h4 d (hs hm)),
      fun f hf hm => h.no f hf (hs hm), h.sp0, h.dn1, h.tn0⟩
  · exact h
theorem TOk.apG {T : TT} (h : TOk T) (b : List UInt8) : TOk (apG b T).1 := ⟨h.fe, h.fu, h.du, h.de, h.fd, h.dd, h.no, h.sp0, h.dn1, h.tn0⟩
theorem TOk.clG {T : TT} (h : TOk T) : TOk (clG T).1 := ⟨h.fe, h.fu, h.du, h.de, h.fd, h.dd, h.no, h.sp0, h.dn1, h.tn0⟩
theorem TOk.stop {T : TT} (h : TOk T) (n : Int) : TOk (T.stop n) := by
  unfold TT.stop
  split
  · exact h
  · rename_i hd
    refine ⟨h.fe, h.fu, h.du, h.de, h.fd, h.dd, h.no, ?_, fun e => absurd e hd, h.tn0⟩
    show (0 : Int) ≤ if 1 ≤ n then n else 0
    split <;> omega
theorem TOk.cr {T : TT} (h : TOk T) (n : Int) : TOk (T.cr n) := ⟨h.fe, h.fu, h.du, h.de, h.fd, h.dd, h.no, Int.le_refl 0, (fun e => by cases e), fun _ => rfl⟩
theorem TOk.mk' {T : TT} (h : TOk T) (p : List UInt8) : TOk (T.mk' p).1 := h.step [] (fun _ h => h.mkG p)
theorem TOk.wr {T : TT} (h : TOk T) (f : Fl) : TOk (T.wr f).1 := h.step [] (fun _ h => h.wrG f)
theorem TOk.dl {T : TT} (h : TOk T) (p : List UInt8) : TOk (T.dl p).1 := h.step [] (fun _ h => h.dlG p)
theorem TOk.rm {T : TT} (h : TOk T) (p : List UInt8) : TOk (T.rm p).1 := h.step [] (fun _ h => h.rmG p)
theorem TOk.ap {T : TT} (h : TOk T) (b : List UInt8) : TOk (T.ap b).1 := h.step b (fun _ h => h.apG b)
theorem TOk.cl {T : TT} (h : TOk T) : TOk T.cl.1 := h.step [] (fun _ h => h.clG)
end Go.Proofs.YtfdcfcalbongeaaGreat
