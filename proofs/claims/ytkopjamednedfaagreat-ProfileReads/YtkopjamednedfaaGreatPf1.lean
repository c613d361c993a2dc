/-
  Cones as a text, as plain lists: its lines, and the cones that are read of them.
-/
import Derived.Test.YtkopjamednedfaaGreatMg2
import Derived.Test.YtkopjamednedfaaGreatParts
namespace Go.Proofs.YtkopjamednedfaaGreat

/-- a path and what is above it, but the root; the deepest first -/
def ups : Nat → List UInt8 → List (List UInt8)
  | 0, _ => []
  | n + 1, p => if p = [] then [] else p :: ups n (dir p)
/-- the cones and the directories above them, but the root -/
def dsL (k : List (List UInt8)) : List (List UInt8) := norm (k.flatMap (fun c => ups 13 c))
def dl (d : List UInt8) : List UInt8 := 47 :: (d ++ [47])
def nl (d : List UInt8) : List UInt8 := 33 :: 47 :: (d ++ [47, 42, 47])
/-- the lines of directories -/
def dln (k : List (List UInt8)) (D : List (List UInt8)) : List (List UInt8) := D.flatMap (fun d => if d ∈ k then [dl d] else [dl d, nl d])
/-- all lines -/
def lns (k : List (List UInt8)) : List (List UInt8) := if k = [[]] then [[47, 42]] else [47, 42] :: [33, 47, 42, 47] :: dln k (dsL k)
/-- lines, each with its end -/
def wrL (L : List (List UInt8)) : List UInt8 := L.flatMap (fun l => l ++ [10])
def wrt (k : List (List UInt8)) : List UInt8 := wrL (lns k)
/-- what Write answers -/
def pwr (k : List (List UInt8)) : List UInt8 × Int := if coneE k = 0 then (if (wrt k).length ≤ 65536 then (wrt k, 0) else ([], 18)) else ([], 13)
/-- a text's lines; what stands behind the last end is one too -/
def spl : List UInt8 → List (List UInt8)
  | [] => [[]]
  | c :: r => if c = 10 then [] :: spl r else match spl r with
    | [] => [[c]]
    | l :: t => (c :: l) :: t
theorem spl_line : ∀ (l r : List UInt8), 10 ∉ l → spl (l ++ 10 :: r) = l :: spl r
  | [], r, _ => by simp [spl]
  | c :: l, r, h => by
    have hc : c ≠ 10 := fun e => h (by simp [e])
    have ih := spl_line l r (fun hm => h (by simp [hm]))
    show spl (c :: (l ++ 10 :: r)) = _
    rw [spl, if_neg hc, ih]
theorem spl_wr : ∀ (L : List (List UInt8)), (∀ l ∈ L, 10 ∉ l) → spl (wrL L) = L ++ [[]]
  | [], _ => rfl
  | l :: L, h => by
    have e : wrL (l :: L) = l ++ 10 :: wrL L := by simp [wrL]
    rw [e, spl_line l _ (h l (by simp)), spl_wr L fun x hx => h x (by simp [hx])]
    rfl
/-- does a line name a directory? -/
def isD' (l : List UInt8) : Bool := decide (2 < l.length) && decide (l.head? = some 47) && decide (l.getLast? = some 47)
def nm (l : List UInt8) : List UInt8 := (l.drop 1).dropLast
def neg (l : List UInt8) : List UInt8 := 33 :: (l ++ [42, 47])
/-- the directories that are named and not shut out -/
def pck : List (List UInt8) → List (List UInt8)
  | [] => []
  | [l] => if isD' l then [nm l] else []
  | l :: m :: r => if isD' l && !decide (m = neg l) then nm l :: pck (m :: r) else pck (m :: r)
theorem isD_dl {d : List UInt8} (h : d ≠ []) : isD' (dl d) = true := by
  have : 0 < d.length := List.length_pos_iff.2 h
  unfold isD' dl
  simp [List.getLast?_cons]
  omega
theorem nm_dl (d : List UInt8) : nm (dl d) = d := by unfold nm dl; simp
theorem neg_dl (d : List UInt8) : neg (dl d) = nl d := by unfold neg dl nl; simp
theorem isD_nl (d : List UInt8) : isD' (nl d) = false := by unfold isD' nl; simp
theorem dl_ne_nl (d e : List UInt8) : dl d ≠ nl e := by unfold dl nl; simp
theorem pck_cons_no {l : List UInt8} (h : isD' l = false) : ∀ r : List (List UInt8), pck (l :: r) = pck r
  | [] => by simp [pck, h]
  | m :: r => by simp [pck, h]
theorem pck_dl {k : List (List UInt8)} : ∀ (D : List (List UInt8)), (∀ d ∈ D, d ≠ []) → pck (dln k D ++ [[]]) = D.filter (fun d => decide (d ∈ k))
  | [], _ => rfl
  | d :: D, h => by
    have ih := pck_dl (k := k) D fun x hx => h x (by simp [hx])
    have hd := h d (by simp)
    by_cases hk : d ∈ k
    · have e : dln k (d :: D) ++ [[]] = dl d :: (dln k D ++ [[]]) := by simp [dln, hk]
      rw [e, List.filter_cons, if_pos (by simpa using hk), ← ih]
      -- what follows does not shut it out
      cases D with
      | nil =>
        show pck (dl d :: [[]]) = d :: pck [[]]
        have h0 : ([] : List UInt8) ≠ neg (dl d) := by rw [neg_dl]; unfold nl; simp
        simp [pck, isD_dl hd, h0, nm_dl]
      | cons d2 D =>
        obtain ⟨r, hr⟩ : ∃ r, dln k (d2 :: D) ++ [[]] = dl d2 :: r := by
          by_cases h2 : d2 ∈ k
          · exact ⟨_, by simp [dln, h2]; rfl⟩
          · exact ⟨_, by simp [dln, h2]; rfl⟩
        rw [hr]
        have h0 : dl d2 ≠ neg (dl d) := by rw [neg_dl]; exact dl_ne_nl _ _
        simp [pck, isD_dl hd, h0, nm_dl]
    · have e : dln k (d :: D) ++ [[]] = dl d :: nl d :: (dln k D ++ [[]]) := by simp [dln, hk]
      rw [e, List.filter_cons, if_neg (by simpa using hk), ← ih]
      have h1 : pck (dl d :: nl d :: (dln k D ++ [[]])) = pck (nl d :: (dln k D ++ [[]])) := by simp [pck, neg_dl]
      rw [h1, pck_cons_no (isD_nl d)]
theorem ups_mem : ∀ (n : Nat) (p x : List UInt8), okP p = true → x ∈ ups n p → x ≠ [] ∧ (x = p ∨ abvV x p = true)
  | 0, p, x, _, h => by cases h
  | n + 1, p, x, hp, h => by
    unfold ups at h
    by_cases h0 : p = []
    · rw [if_pos h0] at h; cases h
    · rw [if_neg h0] at h
      rcases List.mem_cons.1 h with rfl | h
      · exact ⟨h0, .inl rfl⟩
      · obtain ⟨h1, h2⟩ := ups_mem n (dir p) x (okP_dir hp) h
        refine ⟨h1, .inr ?_⟩
        have h3 := abv_dir hp h0
        rcases h2 with rfl | h2
        · exact h3
        · exact abv_trans h2 h3
theorem mem_ups_self {n : Nat} {p : List UInt8} (h : p ≠ []) : p ∈ ups (n + 1) p := by unfold ups; rw [if_neg h]; simp
theorem dsL_ne {k : List (List UInt8)} (hk : coneE k = 0) : ∀ d ∈ dsL k, d ≠ [] := fun d hd => by
  unfold dsL at hd
  rw [mem_norm, List.mem_flatMap] at hd
  obtain ⟨c, hc, h⟩ := hd
  exact (ups_mem 13 c d ((coneB_iff.1 (coneE_zero.1 hk)).1 c hc) h).1
theorem pick_lns {k : List (List UInt8)} (hk : coneE k = 0) (hne : k ≠ [[]]) : pck (lns k ++ [[]]) = k := by
  have hB := coneB_iff.1 (coneE_zero.1 hk)
  have hup : Up k := hB.2.imp fun hf => fol_lt hf
  -- the root is no cone
  have hroot : [] ∉ k := fun hm => by
    apply hne
    have : ∀ x ∈ k, x = [] := fun x hx => by
      rcases Classical.em (x = []) with e | e
      · exact e
      · exfalso
        have h1 : abvV [] x = true := (abvV_iff _ _).2 ⟨pcs x, fun e0 => e ((pcs_eq_nil x).1 e0), by rw [pcs_nil]; rfl⟩
        rw [cone_anti hk hm hx] at h1; cases h1
    cases k with
    | nil => cases hm
    | cons a r =>
      have ha := this a (by simp)
      cases r with
      | nil => rw [ha]
      | cons b r =>
        have hb := this b (by simp)
        have := (List.pairwise_cons.1 hup).1 b (by simp)
        rw [ha, hb, cf_self] at this; omega
  unfold lns
  rw [if_neg hne]
  have e0 : isD' [47, 42] = false := by decide
  have e1 : isD' [33, 47, 42, 47] = false := by decide
  show pck ([47, 42] :: [33, 47, 42, 47] :: (dln k (dsL k) ++ [[]])) = k
  rw [pck_cons_no e0, pck_cons_no e1, pck_dl _ (dsL_ne hk)]
  refine up_unique (up_filter (up_norm _) _) hup fun x => ?_
  rw [List.mem_filter]
  constructor
  · rintro ⟨_, h⟩; simpa using h
  · intro hx
    refine ⟨?_, by simpa using hx⟩
    unfold dsL
    rw [mem_norm, List.mem_flatMap]
    exact ⟨x, hx, mem_ups_self fun e => hroot (e ▸ hx)⟩
end Go.Proofs.YtkopjamednedfaaGreat
