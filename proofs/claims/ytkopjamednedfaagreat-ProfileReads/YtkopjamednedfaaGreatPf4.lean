/-
  What a text's lines show, line by line, as plain lists.
-/
import Derived.Test.YtkopjamednedfaaGreatPf3
namespace Go.Proofs.YtkopjamednedfaaGreat

/-- the directory that a line speaks of, with its end -/
def lnD (l : List UInt8) : List UInt8 :=
  if l.head? = some 33 then (if ((l.drop 1).drop 1).dropLast = [42] then [] else (((l.drop 1).drop 1).dropLast).take ((((l.drop 1).drop 1).dropLast).length - 2) ++ [47]) else ((l.drop 1).dropLast) ++ [47]
/-- what one line makes of it -/
def stl (p l : List UInt8) (b : Bool) : Bool :=
  if l = [47, 42] then true else if l = [] then b else
  if decide (p.length ≤ (lnD l).length) || !decide (p.take (lnD l).length = lnD l) then b else
  if l.head? = some 33 then (if 47 ∈ p.drop (lnD l).length then false else b) else true
def shT (p : List UInt8) (L : List (List UInt8)) : Bool := L.foldl (fun b l => stl p l b) false
theorem lnD_dl (d : List UInt8) : lnD (dl d) = d ++ [47] := by
  unfold lnD dl
  rw [if_neg (by simp)]
  simp
theorem lnD_nl (d : List UInt8) : lnD (nl d) = d ++ [47] := by
  have e : (((nl d).drop 1).drop 1).dropLast = d ++ [47, 42] := by
    unfold nl
    show (d ++ [47, 42, 47]).dropLast = _
    rw [show d ++ [47, 42, 47] = (d ++ [47, 42]) ++ [47] by simp, List.dropLast_concat]
  unfold lnD
  rw [e, if_pos (by unfold nl; rfl), if_neg (fun h => by have := congrArg List.length h; simp at this)]
  have : (d ++ [47, 42]).length - 2 = d.length := by simp
  rw [this, List.take_left]
theorem stl_dl (p d : List UInt8) (b : Bool) (hd : d ≠ []) : stl p (dl d) b = if pfx d p then true else b := by
  unfold stl
  rw [if_neg (by unfold dl; cases d with | nil => exact absurd rfl hd | cons x r => cases r <;> simp), if_neg (by unfold dl; simp), lnD_dl]
  have hh : (dl d).head? ≠ some 33 := by unfold dl; simp
  unfold pfx
  rw [List.length_append, List.length_singleton]
  by_cases h1 : d.length + 1 < p.length
  · by_cases h2 : p.take (d.length + 1) = d ++ [47]
    · rw [if_neg (by simp [h1, h2]), if_neg hh, if_pos (by simp [h1, h2])]
    · rw [if_pos (by simp [h2]), if_neg (by simp [h2])]
  · rw [if_pos (by simp; omega), if_neg (by simp; omega)]
theorem stl_nl (p d : List UInt8) (b : Bool) : stl p (nl d) b = if pfx d p then (if 47 ∈ p.drop (d.length + 1) then false else b) else b := by
  unfold stl
  rw [if_neg (by unfold nl; simp), if_neg (by unfold nl; simp), lnD_nl]
  have hh : (nl d).head? = some 33 := by unfold nl; rfl
  unfold pfx
  rw [List.length_append, List.length_singleton]
  by_cases h1 : d.length + 1 < p.length
  · by_cases h2 : p.take (d.length + 1) = d ++ [47]
    · rw [if_neg (by simp [h1, h2]), if_pos hh]
      simp [h1, h2]
    · rw [if_pos (by simp [h2]), if_neg (by simp [h2])]
  · rw [if_pos (by simp; omega), if_neg (by simp; omega)]
theorem stl_root (p : List UInt8) (b : Bool) (hp : p ≠ []) : stl p [33, 47, 42, 47] b = if 47 ∈ p then false else b := by
  have e : lnD [33, 47, 42, 47] = [] := by decide
  have := List.length_pos_iff.2 hp
  unfold stl
  rw [if_neg (by decide), if_neg (by decide), e, if_neg (by simp; exact hp), if_pos (by decide)]
  simp
theorem count_mem (t : List UInt8) : 47 ∈ t ↔ 0 < t.count 47 := by rw [List.count_pos_iff]
theorem slash_dir {p : List UInt8} (hp : okP p = true) (hn : p ≠ []) : 47 ∈ p ↔ dir p ≠ [] := by
  have h1 := congrArg List.length (dir_pcs (okP_all hp) hn).1
  rw [List.length_dropLast, dep_eq, dep_eq] at h1
  have h2 : dep p = p.count 47 + 1 := by unfold dep; rw [if_neg hn]
  rw [count_mem]
  constructor
  · intro h e
    rw [e] at h1
    have : dep [] = 0 := rfl
    omega
  · intro h
    have : dep (dir p) ≠ 0 := fun e => h ((pcs_eq_nil _).1 (List.eq_nil_of_length_eq_zero (by rw [dep_eq]; exact e)))
    omega
theorem slash_deep {d p : List UInt8} (hd : d ≠ []) (hp : okP p = true) (h : pfx d p = true) : 47 ∈ p.drop (d.length + 1) ↔ dir p ≠ d := by
  obtain ⟨t, ht, rfl⟩ := pfx_iff.1 h
  have hn : d ++ 47 :: t ≠ [] := by simp
  have e1 : (d ++ 47 :: t).drop (d.length + 1) = t := by
    rw [show d ++ 47 :: t = (d ++ [47]) ++ t by simp]
    exact List.drop_left' (by simp)
  have e2 := pcs_append d t hd ht
  have e3 := (dir_pcs (okP_all hp) hn).1
  have hpt : dep t = t.count 47 + 1 := by unfold dep; rw [if_neg ht]
  rw [e1, count_mem]
  constructor
  · intro h1 e
    rw [e, e2] at e3
    have := congrArg List.length e3
    rw [List.length_dropLast, List.length_append, dep_eq t] at this
    omega
  · intro h1
    rcases Nat.eq_zero_or_pos (t.count 47) with h0 | h0
    · exfalso
      apply h1
      apply pcs_inj
      have hl : (pcs t).length = 1 := by rw [dep_eq]; omega
      obtain ⟨x, hx⟩ := List.length_eq_one_iff.1 hl
      rw [e3, e2, hx, List.dropLast_concat]
    · exact h0
/-- one directory's lines -/
theorem stl_dir {k : List (List UInt8)} {p d : List UInt8} (hd : d ≠ []) (hp : okP p = true) (b : Bool) : (if d ∈ k then [dl d] else [dl d, nl d]).foldl (fun b l => stl p l b) b = stD k p b d := by
  unfold stD
  rw [← pfx_abv hd hp]
  by_cases hk : d ∈ k
  · rw [if_pos hk]
    show stl p (dl d) b = _
    rw [stl_dl p d b hd]
    cases pfx d p <;> simp [hk]
  · rw [if_neg hk]
    show stl p (nl d) (stl p (dl d) b) = _
    rw [stl_dl p d b hd, stl_nl]
    cases h : pfx d p with
    | false => rfl
    | true =>
      have hs := slash_deep hd hp h
      by_cases h2 : dir p = d
      · have h3 : 47 ∉ p.drop (d.length + 1) := fun hm => hs.1 hm h2
        simp [h2, h3]
      · have h3 : 47 ∈ p.drop (d.length + 1) := hs.2 h2
        simp [h2, h3, hk]
theorem stl_dirs {k : List (List UInt8)} {p : List UInt8} (hp : okP p = true) : ∀ (D : List (List UInt8)) (b : Bool), (∀ d ∈ D, d ≠ []) → (dln k D).foldl (fun b l => stl p l b) b = D.foldl (stD k p) b
  | [], b, _ => rfl
  | d :: D, b, h => by
    have e : dln k (d :: D) = (if d ∈ k then [dl d] else [dl d, nl d]) ++ dln k D := by simp [dln]
    rw [e, List.foldl_append, stl_dir (h d (by simp)) hp, stl_dirs hp D _ fun x hx => h x (by simp [hx])]
    rfl
theorem shT_shw {k : List (List UInt8)} (hk : coneE k = 0) {p : List UInt8} (hp : okP p = true) (hpn : p ≠ []) : shT p (lns k ++ [[]]) = shw k p := by
  have he : ∀ b, stl p [] b = b := fun b => by unfold stl; rw [if_neg (by decide), if_pos rfl]
  have hs : ∀ b, stl p [47, 42] b = true := fun b => by unfold stl; rw [if_pos rfl]
  unfold shT
  rw [List.foldl_append]
  show stl p [] _ = _
  rw [he]
  unfold lns
  by_cases h : k = [[]]
  · rw [if_pos h, h, shw_root]
    exact hs false
  · rw [if_neg h]
    show (dln k (dsL k)).foldl (fun b l => stl p l b) (stl p [33, 47, 42, 47] (stl p [47, 42] false)) = _
    rw [hs, stl_root p true hpn, stl_dirs hp _ _ (dsL_ne hk), ← fold_shw hk h hp hpn]
    congr 1
    have := slash_dir hp hpn
    by_cases h1 : dir p = []
    · rw [if_neg (fun hm => this.1 hm h1)]; simp [h1]
    · rw [if_pos (this.2 h1)]; simp [h1]
end Go.Proofs.YtkopjamednedfaaGreat
