/-
  The directories of a text of cones, one behind the other, as plain lists.
-/
import Derived.Test.YtkopjamednedfaaGreatPf2
namespace Go.Proofs.YtkopjamednedfaaGreat

/-- laid behind the list, if it is greater than the last -/
def psh (o : List (List UInt8)) (u : List UInt8) : List (List UInt8) := match o.getLast? with
  | none => o ++ [u]
  | some l => if cf l u < 0 then o ++ [u] else o
theorem psh_mem {o : List (List UInt8)} {u : List UInt8} (ho : Up o) (h : u ∈ o ∨ ∀ x ∈ o, cf x u < 0) : Up (psh o u) ∧ ∀ x, x ∈ psh o u ↔ x ∈ o ∨ x = u := by
  unfold psh
  cases e : o.getLast? with
  | none =>
    have : o = [] := List.getLast?_eq_none_iff.1 e
    subst this
    exact ⟨by simp [Up], fun x => by simp⟩
  | some l =>
    have hl : l ∈ o := List.mem_of_getLast? e
    by_cases hc : cf l u < 0
    · show Up (if cf l u < 0 then o ++ [u] else o) ∧ _
      rw [if_pos hc]
      have hall : ∀ x ∈ o, cf x u < 0 := fun x hx => cf_le_lt (last_up ho e hx) hc
      refine ⟨List.pairwise_append.2 ⟨ho, by simp, fun x hx y hy => by rw [List.mem_singleton.1 hy]; exact hall x hx⟩, fun x => ?_⟩
      show x ∈ (if cf l u < 0 then o ++ [u] else o) ↔ _
      rw [if_pos hc]
      simp
    · show Up (if cf l u < 0 then o ++ [u] else o) ∧ _
      rw [if_neg hc]
      refine ⟨ho, fun x => ?_⟩
      show x ∈ (if cf l u < 0 then o ++ [u] else o) ↔ _
      rw [if_neg hc]
      have hu : u ∈ o := h.resolve_right fun hh => hc (hh l hl)
      constructor
      · exact .inl
      · rintro (hx | rfl)
        · exact hx
        · exact hu
theorem psh_all : ∀ (us o : List (List UInt8)), Up o → us.Pairwise (fun a b => cf a b < 0) → (∀ u ∈ us, u ∈ o ∨ ∀ x ∈ o, cf x u < 0) → Up (us.foldl psh o) ∧ ∀ x, x ∈ us.foldl psh o ↔ x ∈ o ∨ x ∈ us
  | [], o, ho, _, _ => ⟨ho, fun x => by simp⟩
  | u :: us, o, ho, hp, h => by
    obtain ⟨h1, h2⟩ := psh_mem ho (h u (by simp))
    obtain ⟨p1, p2⟩ := List.pairwise_cons.1 hp
    obtain ⟨h3, h4⟩ := psh_all us (psh o u) h1 p2 (fun v hv => by
      rcases h v (by simp [hv]) with h5 | h5
      · exact .inl ((h2 v).2 (.inl h5))
      · refine .inr fun x hx => ?_
        rcases (h2 x).1 hx with hx | rfl
        · exact h5 x hx
        · exact p1 v hv)
    refine ⟨h3, fun x => ?_⟩
    rw [List.foldl_cons, h4, h2, List.mem_cons, or_assoc]
theorem ups_down : ∀ (n : Nat) (p : List UInt8), okP p = true → (ups n p).Pairwise (fun a b => cf b a < 0)
  | 0, _, _ => .nil
  | n + 1, p, hp => by
    unfold ups
    by_cases h0 : p = []
    · rw [if_pos h0]; exact .nil
    · rw [if_neg h0]
      refine List.pairwise_cons.2 ⟨fun x hx => ?_, ups_down n (dir p) (okP_dir hp)⟩
      obtain ⟨_, h2⟩ := ups_mem n (dir p) x (okP_dir hp) hx
      have h3 := abv_dir hp h0
      rcases h2 with rfl | h2
      · exact abv_cf h3
      · exact abv_cf (abv_trans h2 h3)
/-- the directories of the first cones, as the document lays them -/
def dsA (k : List (List UInt8)) : List (List UInt8) := k.foldl (fun o c => (ups 13 c).reverse.foldl psh o) []
theorem dsA_take {k : List (List UInt8)} (hk : coneE k = 0) : ∀ i, i ≤ k.length → Up (dsA (k.take i)) ∧ ∀ x, x ∈ dsA (k.take i) ↔ ∃ c ∈ k.take i, x ∈ ups 13 c
  | 0, _ => ⟨by simp [dsA, Up], fun x => by simp [dsA]⟩
  | i + 1, h => by
    obtain ⟨h1, h2⟩ := dsA_take hk i (by omega)
    have hB := coneB_iff.1 (coneE_zero.1 hk)
    have e : k.take (i + 1) = k.take i ++ [k[i]] := List.take_succ_eq_append_getElem (by omega)
    have ed : dsA (k.take (i + 1)) = (ups 13 k[i]).reverse.foldl psh (dsA (k.take i)) := by
      unfold dsA
      rw [e, List.foldl_append]
      rfl
    have hci : okP k[i] = true := hB.1 _ (List.getElem_mem _)
    have hlt : ∀ c' ∈ k.take i, cf c' k[i] < 0 := fun c' hc' => by
      obtain ⟨j, hj, rfl⟩ := List.mem_iff_getElem.1 hc'
      rw [List.length_take] at hj
      rw [List.getElem_take]
      exact fol_lt (List.pairwise_iff_getElem.1 hB.2 j i (by omega) (by omega) (by omega))
    have hokt : ∀ c' ∈ k.take i, okP c' = true := fun c' hc' => hB.1 c' (List.mem_of_mem_take hc')
    obtain ⟨h3, h4⟩ := psh_all (ups 13 k[i]).reverse (dsA (k.take i)) h1 (List.pairwise_reverse.2 (ups_down 13 _ hci)) (fun u hu => by
      have hu' : u ∈ ups 13 k[i] := List.mem_reverse.1 hu
      obtain ⟨u0, u1⟩ := ups_mem 13 _ u hci hu'
      rcases Classical.em (∃ c' ∈ k.take i, u = c' ∨ abvV u c' = true) with ⟨c', hc', h5⟩ | h5
      · exact .inl ((h2 u).2 ⟨c', hc', mem_ups_abv 13 c' u (hokt c' hc') (by have := (okP_len (hokt c' hc')).2; omega) u0 h5⟩)
      · refine .inr fun x hx => ?_
        obtain ⟨c', hc', hx'⟩ := (h2 x).1 hx
        obtain ⟨_, hxc⟩ := ups_mem 13 c' x (hokt c' hc') hx'
        have hle : cf x c' ≤ 0 := by
          rcases hxc with rfl | hxc
          · rw [cf_self]; exact Int.le_refl _
          · have := abv_cf hxc; omega
        refine cf_le_lt hle ?_
        rcases cf_tri c' u with h6 | h6 | h6
        · exact h6
        · exact absurd ⟨c', hc', .inl h6.symm⟩ h5
        · exfalso
          rcases u1 with rfl | u1
          · have := hlt c' hc'
            have := cf_neg c' k[i]
            omega
          · exact h5 ⟨c', hc', .inr (abv_between u1 h6 (hlt c' hc'))⟩)
    rw [ed]
    refine ⟨h3, fun x => ?_⟩
    rw [h4, h2, e]
    simp only [List.mem_append, List.mem_singleton, List.mem_reverse]
    constructor
    · rintro (⟨c, hc, hx⟩ | hx)
      · exact ⟨c, .inl hc, hx⟩
      · exact ⟨_, .inr rfl, hx⟩
    · rintro ⟨c, hc | rfl, hx⟩
      · exact .inl ⟨c, hc, hx⟩
      · exact .inr hx
theorem dsA_eq {k : List (List UInt8)} (hk : coneE k = 0) : dsA k = dsL k := by
  obtain ⟨h1, h2⟩ := dsA_take hk k.length (Nat.le_refl _)
  rw [List.take_length] at h1 h2
  unfold dsL
  refine (norm_of h1 fun x => ?_).symm
  rw [h2, List.mem_flatMap]
end Go.Proofs.YtkopjamednedfaaGreat
