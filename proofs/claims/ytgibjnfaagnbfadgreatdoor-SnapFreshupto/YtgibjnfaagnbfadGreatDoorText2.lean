/-
  Files and their texts, as the document tells them; what is kept, what is found: plain lists.
-/
import Derived.Test.YtgibjnfaagnbfadGreatDoorText
namespace Go.Proofs.YtgibjnfaagnbfadGreatDoor

/-! ### the document's reader -/
def numV (acc : Nat) : List UInt8 → Option Nat
  | [] => some acc
  | c :: r => if 48 ≤ c.toNat ∧ c.toNat ≤ 57 then numV (acc * 10 + (c.toNat - 48)) r else none
def numR (l : List UInt8) : Int :=
  if l.length = 0 ∨ 19 < l.length then -1 else (match numV 0 l with | some v => if 9223372036854775807 < v then -1 else (v : Int) | none => -1)
theorem numV_app : ∀ (l : List UInt8) (acc u : Nat) (c : UInt8), numV acc l = some u → 48 ≤ c.toNat → c.toNat ≤ 57 → numV acc (l ++ [c]) = some (u * 10 + (c.toNat - 48))
  | [], acc, u, c, h, h1, h2 => by
    simp only [numV, Option.some.injEq] at h; subst h
    simp [numV, h1, h2]
  | x :: r, acc, u, c, h, h1, h2 => by
    simp only [numV] at h
    split at h
    · rename_i hx
      rw [List.cons_append, numV, if_pos hx]
      exact numV_app r _ u c h h1 h2
    · cases h
theorem numV_dec (u : Nat) : numV 0 (Lib.decDigits u) = some u := by
  induction u using Nat.strongRecOn with
  | ind u ih =>
    rw [Lib.decDigits]
    split
    · rename_i h
      have e : (UInt8.ofNat (48 + u)).toNat = 48 + u := by simp [UInt8.toNat_ofNat]; omega
      simp only [numV, e]
      rw [if_pos ⟨by omega, by omega⟩]; congr 1; omega
    · rename_i h
      have e : (UInt8.ofNat (48 + u % 10)).toNat = 48 + u % 10 := by simp [UInt8.toNat_ofNat]; omega
      rw [numV_app _ _ _ _ (ih (u / 10) (by omega)) (by omega) (by omega), e]
      congr 1; omega
theorem dec_len (k : Nat) : ∀ (u : Nat), u < 10 ^ (k + 1) → (Lib.decDigits u).length ≤ k + 1 := by
  induction k with
  | zero => intro u hu; rw [Lib.decDigits, dif_pos (by simpa using hu)]; simp
  | succ k ih =>
    intro u hu
    rw [Lib.decDigits]
    split
    · simp
    · have := ih (u / 10) (by rw [Nat.pow_succ] at hu; omega)
      simp; omega
theorem numR_dec (u : Nat) (h : u ≤ 9223372036854775807) : numR (Lib.decDigits u) = (u : Int) := by
  have h1 := dec_len 18 u (by have : (10 : Nat) ^ (18 + 1) = 10000000000000000000 := by decide
                              omega)
  have h2 : (Lib.decDigits u).length ≠ 0 := fun e => dec_ne u (List.length_eq_zero_iff.1 e)
  unfold numR
  rw [if_neg (by omega), numV_dec]
  simp only
  rw [if_neg (by omega)]
theorem numR_itoa (n : Int) (h : 0 ≤ n) (h2 : n ≤ 9223372036854775807) : numR (Lib.itoa n) = n := by
  rw [itoa_nat n h, numR_dec _ (by omega)]; omega
/-- a small digit's value; of another byte 0 -/
def hl (c : UInt8) : Nat := if 48 ≤ c.toNat ∧ c.toNat ≤ 57 then c.toNat - 48 else if 97 ≤ c.toNat ∧ c.toNat ≤ 102 then c.toNat - 87 else 0
def unhexR : List UInt8 → List UInt8
  | a :: b :: r => UInt8.ofNat (16 * hl a + hl b) :: unhexR r
  | _ => []
theorem hl_hx : ∀ n, n < 16 → hl (hx n) = n := by decide
theorem unhexR_hexs : ∀ l, unhexR (hexs l) = l
  | [] => rfl
  | c :: r => by
    have h := c.toNat_lt
    rw [hexs, unhexR, unhexR_hexs r, hl_hx _ (by omega), hl_hx _ (by omega)]
    have : 16 * (c.toNat / 16) + c.toNat % 16 = c.toNat := by omega
    rw [this]; simp
def zf : Fl := ⟨[], [], 0, 0⟩
def fileR : List (List UInt8) → Fl
  | [k, p, h] => if k = [116] then ⟨p, unhexR h, 0, (unhexR h).length⟩ else zf
  | [k, p, b, z] => if k = [102] then ⟨p, [], numR b, numR z⟩ else zf
  | _ => zf
/-- the lines that have an end, without it -/
def lnc : List UInt8 → List (List UInt8)
  | [] => []
  | x :: r => if x = 10 then [] :: lnc r else (match lnc r with | [] => [] | h :: t => (x :: h) :: t)
theorem lnc_app : ∀ (a b : List UInt8), (10 : UInt8) ∉ a → lnc (a ++ 10 :: b) = a :: lnc b
  | [], b, _ => by simp [lnc]
  | x :: r, b, h => by
    have hx : x ≠ 10 := fun e => h (by simp [e])
    rw [List.cons_append, lnc, if_neg hx, lnc_app r b (fun e => h (by simp [e]))]
theorem lnc_free : ∀ (a : List UInt8), (10 : UInt8) ∉ a → lnc a = []
  | [], _ => rfl
  | x :: r, h => by
    have hx : x ≠ 10 := fun e => h (by simp [e])
    rw [lnc, if_neg hx, lnc_free r (fun e => h (by simp [e]))]
def rdR (s : List UInt8) : List Fl := (lnc s).map (fun x => fileR (cutAt 32 x))
theorem fileR_words {f : Fl} (h : fileE f = 0) : fileR (wordsOf f) = f := by
  obtain ⟨hp, hf⟩ := (fileE_zero f).1 h
  unfold wordsOf
  unfold fits at hf
  split
  · rename_i hm
    rw [if_pos hm] at hf
    simp only [Bool.and_eq_true, beq_iff_eq] at hf
    simp only [fileR, if_true, unhexR_hexs]
    obtain ⟨p, t, b, s⟩ := f
    simp only at hf ⊢
    rw [hf.1, hf.2]
  · rename_i hm
    rw [if_neg hm] at hf
    simp only [Bool.and_eq_true, decide_eq_true_eq, beq_iff_eq] at hf
    simp only [fileR, if_true]
    rw [numR_itoa _ hf.1.2.1 (by omega), numR_itoa _ hf.2.1 (by omega)]
    obtain ⟨p, t, b, s⟩ := f
    simp only at hf ⊢
    rw [hf.1.1]
theorem rdR_prt : ∀ (l : List Fl), (∀ f ∈ l, fileE f = 0) → rdR (prt l) = l
  | [], _ => rfl
  | f :: r, h => by
    have hf := words_free (h f (by simp))
    have h10 : (10 : UInt8) ∉ blanks (wordsOf f) := blanks_free _ fun x hx e => (hf x hx 10 e).2 rfl
    rw [prt, line, List.append_assoc]
    show rdR (blanks (wordsOf f) ++ 10 :: prt r) = _
    unfold rdR
    rw [lnc_app _ _ h10, List.map_cons, cutAt_blanks _ (wordsOf_ne f) (fun x hx e => (hf x hx 32 e).1 rfl), fileR_words (h f (by simp))]
    have := rdR_prt r (fun g hg => h g (by simp [hg]))
    unfold rdR at this
    rw [this]
theorem rd_R (s : List UInt8) : rd s = if stand (rdR s) = true ∧ prt (rdR s) = s then some (rdR s) else none :=
  rd_unique rdR (fun _ h => rdR_prt _ (stand_all h)) s
theorem rd_long (s : List UInt8) (h : 512 < (rdR s).length) : rd s = none := by
  rw [rd_R, if_neg]
  rintro ⟨h1, _⟩
  unfold stand at h1
  simp only [Bool.and_eq_true, decide_eq_true_eq] at h1
  omega
theorem rd_length {s : List UInt8} {l : List Fl} (h : rd s = some l) : l.length ≤ 512 := by
  have h1 := (rd_some h).1
  unfold stand at h1
  simp only [Bool.and_eq_true, decide_eq_true_eq] at h1
  exact h1.1.1

/-! ### neighbours, and all others -/
theorem fol_iff (p q : List UInt8) : fol p q = true ↔ cmpP (pcs p) (pcs q) = -1 ∧ abvV p q = false := by
  unfold fol
  rcases cmpP_range (pcs p) (pcs q) with h | h | h <;> rw [h] <;> simp
theorem fol_trans {a b c : List UInt8} (h : fol a b = true) (k : fol b c = true) : fol a c = true := by
  rw [fol_iff] at h k ⊢
  refine ⟨cmpP_trans _ _ _ h.1 k.1, ?_⟩
  cases hx : abvV a c with
  | false => rfl
  | true =>
    obtain ⟨r, _, hr⟩ := (abvV_iff a c).1 hx
    obtain ⟨s, hs, hb⟩ := cmpP_between (pcs a) (pcs b) r h.1 (by rw [← hr, k.1]; decide)
    have := (abvV_iff a b).2 ⟨s, hs, hb⟩
    rw [h.2] at this; cases this
theorem chain_pair : ∀ (l : List Fl), chain l = true → l.Pairwise (fun a b => fol a.path b.path = true)
  | [], _ => List.Pairwise.nil
  | [a], _ => by simp
  | a :: b :: r, h => by
    rw [chain, Bool.and_eq_true] at h
    have ih := chain_pair (b :: r) h.2
    refine List.Pairwise.cons ?_ ih
    intro c hc
    rcases List.mem_cons.1 hc with rfl | hc
    · exact h.1
    · exact fol_trans h.1 ((List.pairwise_cons.1 ih).1 c hc)
theorem pair_chain : ∀ (l : List Fl), l.Pairwise (fun a b => fol a.path b.path = true) → chain l = true
  | [], _ => rfl
  | [a], _ => rfl
  | a :: b :: r, h => by
    rw [chain, Bool.and_eq_true]
    rw [List.pairwise_cons] at h
    exact ⟨h.1 b (by simp), pair_chain (b :: r) h.2⟩
theorem stand_iff (l : List Fl) : stand l = true ↔ l.length ≤ 512 ∧ (∀ f ∈ l, fileE f = 0) ∧ l.Pairwise (fun a b => fol a.path b.path = true) := by
  unfold stand
  simp only [Bool.and_eq_true, decide_eq_true_eq, List.all_eq_true, beq_iff_eq, and_assoc]
  constructor
  · rintro ⟨h1, h2, h3⟩; exact ⟨h1, h2, chain_pair l h3⟩
  · rintro ⟨h1, h2, h3⟩; exact ⟨h1, h2, pair_chain l h3⟩
/-- those whose path is one of some -/
def keep (l : List Fl) (ps : List (List UInt8)) : List Fl := l.filter (fun f => decide (f.path ∈ ps))
theorem keep_stand {l : List Fl} (ps : List (List UInt8)) (h : stand l = true) : stand (keep l ps) = true := by
  rw [stand_iff] at h ⊢
  refine ⟨Nat.le_trans (List.length_filter_le _ _) h.1, fun f hf => h.2.1 f (List.mem_filter.1 hf).1, h.2.2.filter _⟩
theorem keep_valid {l : List Fl} (ps : List (List UInt8)) (h : validE l = 0) : validE (keep l ps) = 0 := by
  rw [validE_zero] at h ⊢; exact keep_stand ps h
theorem keep_cons (f : Fl) (l : List Fl) (ps) : keep (f :: l) ps = if f.path ∈ ps then f :: keep l ps else keep l ps := by
  unfold keep; rw [List.filter_cons]; by_cases h : f.path ∈ ps <;> simp [h]
theorem keep_app (a b : List Fl) (ps) : keep (a ++ b) ps = keep a ps ++ keep b ps := by unfold keep; exact List.filter_append ..
theorem keep_congr (l : List Fl) {ps qs : List (List UInt8)} (h : ∀ p, p ∈ ps ↔ p ∈ qs) : keep l ps = keep l qs := by
  unfold keep; congr 1; funext f; simp [h f.path]
/-- the first at a path -/
def fnd : List Fl → List UInt8 → Option Fl
  | [], _ => none
  | f :: r, p => if f.path = p then some f else fnd r p
theorem fnd_app : ∀ (a b : List Fl) (p : List UInt8), (∀ f ∈ a, f.path ≠ p) → fnd (a ++ b) p = fnd b p
  | [], b, p, _ => rfl
  | f :: r, b, p, h => by rw [List.cons_append, fnd, if_neg (h f (by simp)), fnd_app r b p (fun g hg => h g (by simp [hg]))]
theorem fnd_none : ∀ (a : List Fl) (p : List UInt8), (∀ f ∈ a, f.path ≠ p) → fnd a p = none
  | [], p, _ => rfl
  | f :: r, p, h => by rw [fnd, if_neg (h f (by simp)), fnd_none r p (fun g hg => h g (by simp [hg]))]
theorem fol_ne {p q : List UInt8} (h : fol p q = true) : p ≠ q := by
  rintro rfl
  rw [fol_iff, cmpP_refl] at h
  cases h.1
theorem fnd_each : ∀ (l : List Fl), l.Pairwise (fun a b => fol a.path b.path = true) → ∀ f ∈ l, fnd l f.path = some f
  | [], _, f, hf => by simp at hf
  | a :: r, h, f, hf => by
    rw [List.pairwise_cons] at h
    rw [fnd]
    rcases List.mem_cons.1 hf with rfl | hf
    · rw [if_pos rfl]
    · rw [if_neg (fol_ne (h.1 f hf))]; exact fnd_each r h.2 f hf
theorem abv_cmp {p q : List UInt8} (h : abvV p q = true) : cmpP (pcs p) (pcs q) = -1 := by
  obtain ⟨r, hr, e⟩ := (abvV_iff p q).1 h
  rw [e]; exact cmpP_app _ _ hr
theorem abv_irr (p : List UInt8) : abvV p p = false := by
  cases h : abvV p p with
  | false => rfl
  | true => have := abv_cmp h; rw [cmpP_refl] at this; cases this
theorem pair_abv : ∀ (l : List Fl), l.Pairwise (fun a b => fol a.path b.path = true) → ∀ f ∈ l, ∀ g ∈ l, abvV f.path g.path = false
  | [], _, f, hf, _, _ => by simp at hf
  | a :: r, h, f, hf, g, hg => by
    rw [List.pairwise_cons] at h
    rcases List.mem_cons.1 hf with rfl | hfr
    · rcases List.mem_cons.1 hg with rfl | hg
      · exact abv_irr _
      · exact ((fol_iff _ _).1 (h.1 g hg)).2
    · rcases List.mem_cons.1 hg with rfl | hg
      · have hk := ((fol_iff _ _).1 (h.1 f hfr)).1
        cases hx : abvV f.path g.path with
        | false => rfl
        | true =>
          have := abv_cmp hx
          rw [cmpP_neg (pcs g.path) (pcs f.path), hk] at this
          cases this
      · exact pair_abv r h.2 f hfr g hg
theorem fnd_above {l : List Fl} (h : l.Pairwise (fun a b => fol a.path b.path = true)) {g : Fl} (hg : g ∈ l) {d : List UInt8} (hd : abvV d g.path = true) : fnd l d = none := by
  refine fnd_none l d fun f hf e => ?_
  have := pair_abv l h f hf g hg
  rw [e, hd] at this; cases this
theorem abv_dir {d : List UInt8} (h : dir d ≠ []) : abvV (dir d) d = true := by
  have h0 : 0 ≤ lst d := by
    unfold dir at h
    split at h
    · exact absurd rfl h
    · omega
  have hc := lst_cut d h0
  have hd : dir d = d.take (lst d).toNat := by unfold dir; rw [if_neg (by omega)]
  rw [← hd] at hc
  have hne : d ≠ [] := by rintro rfl; simp [lst] at h0
  refine (abvV_iff _ _).2 ⟨sp (d.drop (lst d + 1).toNat), sp_ne _, ?_⟩
  have e1 : pcs d = sp d := by unfold pcs; rw [if_neg hne]
  have e2 : pcs (dir d) = sp (dir d) := by unfold pcs; rw [if_neg h]
  rw [e1, e2, ← sp_append, ← hc]
theorem abv_trans {a b c : List UInt8} (h : abvV a b = true) (k : abvV b c = true) : abvV a c = true := by
  obtain ⟨r, hr, e⟩ := (abvV_iff _ _).1 h
  obtain ⟨s, hs, e2⟩ := (abvV_iff _ _).1 k
  exact (abvV_iff _ _).2 ⟨r ++ s, by simp [hr], by rw [e2, e, List.append_assoc]⟩

/-! ### lengths -/
theorem pathOk_len {p : List UInt8} (h : pathOk p = true) : p.length ≤ 120 := by
  unfold pathOk at h
  simp only [Bool.and_eq_true] at h
  exact (okP_len h.2).1
theorem itoa_len (n : Int) (h : 0 ≤ n) (h2 : n ≤ 9223372036854775807) : (Lib.itoa n).length ≤ 19 := by
  rw [itoa_nat n h]
  exact dec_len 18 _ (by have : (10 : Nat) ^ (18 + 1) = 10000000000000000000 := by decide
                         omega)
theorem line_len {f : Fl} (h : fileE f = 0) (m : Nat) (hm : f.text.length ≤ m) : (line f).length ≤ 2 * m + 200 := by
  obtain ⟨hp, hf⟩ := (fileE_zero f).1 h
  have h1 := pathOk_len hp
  unfold line wordsOf
  unfold fits at hf
  split
  · simp only [blanks, List.length_append, List.length_cons, List.length_nil, hexs_length]; omega
  · rename_i hm'
    rw [if_neg hm'] at hf
    simp only [Bool.and_eq_true, decide_eq_true_eq, beq_iff_eq] at hf
    have h2 := itoa_len _ hf.1.2.1 (by omega)
    have h3 := itoa_len _ hf.2.1 (by omega)
    simp only [blanks, List.length_append, List.length_cons, List.length_nil]; omega
theorem prt_len (m : Nat) : ∀ (l : List Fl), (∀ f ∈ l, fileE f = 0) → (∀ f ∈ l, f.text.length ≤ m) → (prt l).length ≤ l.length * (2 * m + 200)
  | [], _, _ => by simp [prt]
  | f :: r, h, hm => by
    have h1 := line_len (h f (by simp)) m (hm f (by simp))
    have h2 := prt_len m r (fun g hg => h g (by simp [hg])) (fun g hg => hm g (by simp [hg]))
    rw [prt, List.length_append, List.length_cons, Nat.add_mul]
    omega
end Go.Proofs.YtgibjnfaagnbfadGreatDoor
