/-
  A step by what is hidden, as plain lists: the run that gives way, the candidates that are left.
-/
import Derived.Test.YtbaheiimcnfaaaaGreatJMg4
import Derived.Test.YtbaheiimcnfaaaaGreatJWalk
import Derived.Test.YtbaheiimcnfaaaaGreatJOrd
namespace Go.Proofs.YtbaheiimcnfaaaaGreat

theorem wid_skip {p : List UInt8} {done : Bool} {X : List (List UInt8)} : ∀ {A : List (List UInt8)}, (∀ c ∈ A, c ≠ p ∧ abvV p c = false) → wid p done (A ++ X) = A ++ wid p done X
  | [], _ => rfl
  | c :: r, h => by
    have ih := wid_skip (X := X) (done := done) (A := r) fun x hx => h x (by simp [hx])
    have hc := h c (by simp)
    show wid p done (c :: (r ++ X)) = _
    rw [wid, if_neg (by simp [hc.1, hc.2]), ih]
    rfl
theorem wid_true {p : List UInt8} {X : List (List UInt8)} : ∀ {R : List (List UInt8)}, (∀ c ∈ R, c = p ∨ abvV p c = true) → wid p true (R ++ X) = wid p true X
  | [], _ => rfl
  | c :: r, h => by
    have ih := wid_true (X := X) (R := r) fun x hx => h x (by simp [hx])
    have hc := h c (by simp)
    show wid p true (c :: (r ++ X)) = _
    rw [wid, if_pos (by simpa using hc), if_pos rfl, ih]
theorem wid_none {p : List UInt8} {done : Bool} {A : List (List UInt8)} (h : ∀ c ∈ A, c ≠ p ∧ abvV p c = false) : wid p done A = A := by
  have := wid_skip (X := []) (done := done) h
  simpa [wid] using this
theorem wid_cut {p : List UInt8} {A R B : List (List UInt8)} (hR : R ≠ []) (h1 : ∀ c ∈ A, c ≠ p ∧ abvV p c = false) (h2 : ∀ c ∈ R, c = p ∨ abvV p c = true) (h3 : ∀ c ∈ B, c ≠ p ∧ abvV p c = false) : wid p false (A ++ (R ++ B)) = A ++ p :: B := by
  rw [wid_skip h1]
  cases R with
  | nil => exact absurd rfl hR
  | cons c r =>
    have hc := h2 c (by simp)
    show A ++ wid p false (c :: (r ++ B)) = _
    rw [wid, if_pos (by simpa using hc), if_neg (by simp), wid_true fun x hx => h2 x (by simp [hx]), wid_none h3]
theorem low_out {p c : List UInt8} (h : cf c p < 0) : c ≠ p ∧ abvV p c = false :=
  ⟨fun e => by rw [e, cf_self] at h; omega, abv_asym h⟩
/-- the run of those below p -/
theorem wid_run {k : List (List UInt8)} (h : coneE k = 0) {p : List UInt8} {a b : Nat} (hab : a ≤ b) (hb : b ≤ k.length) (h1 : ∀ i (hi : i < k.length), i < a → cf (k[i]'hi) p < 0) (h2 : ∀ i (hi : i < k.length), a ≤ i → ¬ cf (k[i]'hi) p < 0)
    (h3 : ∀ i (hi : i < k.length), a ≤ i → i < b → abvV p (k[i]'hi) = true) (h4 : ∀ hi : b < k.length, abvV p (k[b]'hi) = false) : wid p false k = if a = b then k else k.take a ++ p :: k.drop b := by
  have hpw := (coneB_iff.1 (coneE_zero.1 h)).2
  have hlt : ∀ i j (hi : i < k.length) (hj : j < k.length), i < j → cf (k[i]'hi) (k[j]'hj) < 0 := fun i j hi hj hij => fol_lt (List.pairwise_iff_getElem.1 hpw i j hi hj hij)
  have hA : ∀ c ∈ k.take a, c ≠ p ∧ abvV p c = false := fun c hc => by
    obtain ⟨i, hi, rfl⟩ := List.mem_iff_getElem.1 hc
    rw [List.length_take] at hi
    rw [List.getElem_take]
    exact low_out (h1 i (by omega) (by omega))
  by_cases e : a = b
  · rw [if_pos e]
    subst e
    by_cases hl : a < k.length
    · have hx := h4 hl
      by_cases ep : k[a] = p
      · have hk : k = k.take a ++ ([p] ++ k.drop (a + 1)) := by
          rw [← ep]
          simp
        have hm : p ∈ k := by rw [← ep]; exact List.getElem_mem hl
        conv => lhs; rw [hk]
        rw [wid_cut (by simp) hA (fun c hc => .inl (by simpa using hc)) (fun c hc => ?_)]
        · conv => rhs; rw [hk]
          rfl
        · obtain ⟨i, hi, rfl⟩ := List.mem_iff_getElem.1 hc
          rw [List.length_drop] at hi
          rw [List.getElem_drop]
          have := hlt a (a + 1 + i) hl (by omega) (by omega)
          rw [ep] at this
          refine ⟨fun e2 => by rw [e2, cf_self] at this; omega, cone_anti h hm (List.getElem_mem _)⟩
      · have hpx : cf p k[a] < 0 := by
          rcases cf_tri k[a] p with e2 | e2 | e2
          · exact absurd e2 (h2 a hl (Nat.le_refl _))
          · exact absurd e2 ep
          · exact e2
        refine wid_none fun c hc => ?_
        obtain ⟨i, hi, rfl⟩ := List.mem_iff_getElem.1 hc
        by_cases hia : i < a
        · exact low_out (h1 i hi hia)
        · have hpc : cf p k[i] < 0 := by
            by_cases e3 : i = a
            · subst e3; exact hpx
            · exact cf_trans hpx (hlt a i hl hi (by omega))
          refine ⟨fun e2 => by rw [e2, cf_self] at hpc; omega, ?_⟩
          by_cases e3 : i = a
          · subst e3; exact hx
          · cases e4 : abvV p k[i] with
            | false => rfl
            | true =>
              rw [abv_between e4 hpx (hlt a i hl hi (by omega))] at hx
              cases hx
    · rw [List.take_of_length_le (by omega)] at hA
      exact wid_none hA
  · rw [if_neg e]
    have hk : k = k.take a ++ ((k.drop a).take (b - a) ++ k.drop b) := by
      have e1 : k.drop b = (k.drop a).drop (b - a) := by rw [List.drop_drop]; congr 1; omega
      rw [e1, List.take_append_drop, List.take_append_drop]
    conv => lhs; rw [hk]
    have hx := h3 a (by omega) (Nat.le_refl _) (by omega)
    refine wid_cut ?_ hA (fun c hc => ?_) (fun c hc => ?_)
    · intro e0
      have := congrArg List.length e0
      simp at this
      omega
    · obtain ⟨i, hi, rfl⟩ := List.mem_iff_getElem.1 hc
      rw [List.length_take, List.length_drop] at hi
      rw [List.getElem_take, List.getElem_drop]
      exact .inr (h3 (a + i) (by omega) (by omega) (by omega))
    · obtain ⟨i, hi, rfl⟩ := List.mem_iff_getElem.1 hc
      rw [List.length_drop] at hi
      rw [List.getElem_drop]
      have hpc : cf p (k[b + i]'(by omega)) < 0 := cf_trans (abv_cf hx) (hlt a (b + i) (by omega) (by omega) (by omega))
      refine ⟨fun e2 => by rw [e2, cf_self] at hpc; omega, ?_⟩
      have hy := h4 (by omega)
      by_cases e3 : i = 0
      · subst e3; exact hy
      · cases e4 : abvV p (k[b + i]'(by omega)) with
        | false => rfl
        | true =>
          rw [abv_between e4 (cf_trans (abv_cf hx) (hlt a b (by omega) (by omega) (by omega))) (hlt b (b + i) (by omega) (by omega) (by omega))] at hy
          cases hy
/-- a candidate's run as lists -/
theorem wid_parts {k : List (List UInt8)} (h : coneE k = 0) {d : List UInt8} (hd : d ∈ cds k) : ∃ A R B, k = A ++ (R ++ B) ∧ R ≠ [] ∧ (∀ c ∈ R, abvV d c = true) ∧ (∀ c ∈ A, c ≠ d ∧ abvV d c = false) ∧ (∀ c ∈ B, c ≠ d ∧ abvV d c = false) ∧ wid d false k = A ++ d :: B := by
  have hpw := (coneB_iff.1 (coneE_zero.1 h)).2
  obtain ⟨x, hx, ex⟩ := cone_in h hd
  have hnd := cone_out h hd
  -- A: those ahead of d; then those below d
  have hsp : ∀ (k : List (List UInt8)), k.Pairwise (fun a b => fol a b = true) → d ∉ k → ∃ A R B, k = A ++ (R ++ B) ∧ (∀ c ∈ R, abvV d c = true) ∧ (∀ c ∈ A, c ≠ d ∧ abvV d c = false) ∧ (∀ c ∈ B, c ≠ d ∧ abvV d c = false) ∧ (R ≠ [] → ∀ c ∈ B, cf d c < 0) ∧ (R = [] → B = []) := by
    intro k
    induction k with
    | nil => intro _ _; exact ⟨[], [], [], rfl, by simp, by simp, by simp, by simp, by simp⟩
    | cons y r ih =>
      intro hp hn
      obtain ⟨hy, hp'⟩ := List.pairwise_cons.1 hp
      have hyd : y ≠ d := fun e => hn (by simp [e])
      obtain ⟨A, R, B, rfl, h2, h3, h4, h5, h6⟩ := ih hp' (fun hm => hn (by simp [hm]))
      by_cases ey : abvV d y = true
      · cases A with
        | nil =>
          by_cases hR : R = []
          · subst hR
            have := h6 rfl
            subst this
            exact ⟨[], [y], [], rfl, by simpa using ey, by simp, by simp, by simp, by simp⟩
          · exact ⟨[], y :: R, B, rfl, by simpa using ⟨ey, h2⟩, by simp, h4, fun _ => h5 hR, by simp⟩
        | cons a A =>
          -- a is behind y, and not below d: then none behind it is
          have ha := h3 a (by simp)
          have hya := fol_lt (hy a (by simp))
          have hda : cf d a < 0 := cf_trans (abv_cf ey) hya
          have hRe : R = [] := by
            cases R with
            | nil => rfl
            | cons z R =>
              exfalso
              have haz := fol_lt ((List.pairwise_cons.1 hp').1 z (by simp))
              have := abv_between (h2 z (by simp)) hda haz
              rw [ha.2] at this; cases this
          subst hRe
          have := h6 rfl
          subst this
          refine ⟨[], [y], a :: A, by simp, by simpa using ey, by simp, by simpa using h3, fun _ c hc => ?_, by simp⟩
          rcases List.mem_cons.1 hc with rfl | hc
          · exact hda
          · exact cf_trans hda (fol_lt ((List.pairwise_cons.1 hp').1 c (by simp [hc])))
      · exact ⟨y :: A, R, B, rfl, h2, by simpa using ⟨⟨hyd, by simpa using ey⟩, h3⟩, h4, h5, h6⟩
  obtain ⟨A, R, B, e, h2, h3, h4, _, h6⟩ := hsp k hpw hnd
  have hR : R ≠ [] := fun e0 => by
    rw [e, e0, h6 e0] at hx
    have := h3 x (by simpa using hx)
    rw [ex] at this; cases this.2
  exact ⟨A, R, B, e, hR, h2, h3, h4, by rw [e]; exact wid_cut hR h3 (fun c hc => .inr (h2 c hc)) h4⟩
theorem cds_app (a : List UInt8) (Y : List (List UInt8)) : ∀ X : List (List UInt8), cds (X ++ a :: Y) = cds (X ++ [a]) ++ cds (a :: Y)
  | [] => by simp [cds]
  | [x] => by simp [cds]
  | x :: y :: X => by
    have := cds_app a Y (y :: X)
    simp only [List.cons_append, cds] at this ⊢
    rw [this]
theorem com_short : ∀ {X D : List (List UInt8)} (r : List (List UInt8)), com X D < D.length → com X (D ++ r) = com X D
  | [], D, r, _ => by simp [com]
  | x :: X, [], r, h => by simp at h
  | x :: X, y :: D, r, h => by
    simp only [com, List.cons_append] at h ⊢
    by_cases e : x = y
    · simp only [e, if_true, List.length_cons] at h ⊢
      rw [com_short r (by omega)]
    · simp [e]
theorem com_both : ∀ (D r s : List (List UInt8)), com (D ++ r) (D ++ s) = D.length + com r s
  | [], r, s => by simp
  | x :: D, r, s => by
    have := com_both D r s
    simp only [com, List.cons_append, if_true, List.length_cons, this]
    omega
/-- neighbours meet d where they met what is below it -/
theorem cmn_same {x d c : List UInt8} (hdc : abvV d c = true) (h1 : x ≠ d) (h2 : abvV d x = false) : cmn x d = cmn x c := by
  obtain ⟨r, _, e⟩ := (abvV_iff _ _).1 hdc
  have hc : com (pcs x) (pcs d) < (pcs d).length := by
    rcases Nat.lt_or_ge (com (pcs x) (pcs d)) (pcs d).length with h | h
    · exact h
    · exfalso
      have h3 : com (pcs d) (pcs x) = (pcs d).length := by
        have := (com_le (pcs d) (pcs x)).1
        rw [com_symm] at h; omega
      obtain ⟨s, es⟩ := (com_pre _ _).1 h3
      by_cases hs : s = []
      · subst hs; rw [List.append_nil] at es; exact h1 (pcs_inj es)
      · rw [(abvV_iff _ _).2 ⟨s, hs, es⟩] at h2; cases h2
  unfold cmn
  rw [e, com_short r hc]
theorem cmn_run {a b d : List UInt8} (ho : okP a = true) (ha : abvV d a = true) (hb : abvV d b = true) : cmn a b = d ∨ abvV d (cmn a b) = true := by
  obtain ⟨r, _, er⟩ := (abvV_iff _ _).1 ha
  obtain ⟨s, _, es⟩ := (abvV_iff _ _).1 hb
  have e := pcs_cmn a b (okP_all ho)
  rw [er, es, com_both, List.take_append] at e
  rw [List.take_of_length_le (by omega), Nat.add_sub_cancel_left] at e
  by_cases ht : r.take (com r s) = []
  · rw [ht, List.append_nil] at e
    exact .inl (pcs_inj e)
  · exact .inr ((abvV_iff _ _).2 ⟨_, ht, e⟩)
theorem cds_two : ∀ {k : List (List UInt8)} {q : List UInt8}, q ∈ cds k → ∃ a ∈ k, ∃ b ∈ k, q = cmn a b
  | a :: b :: r, q, h => by
    rcases List.mem_cons.1 h with rfl | h
    · exact ⟨a, by simp, b, by simp, rfl⟩
    · obtain ⟨x, hx, y, hy, e⟩ := cds_two h
      exact ⟨x, by simp [hx], y, by simp [hy], e⟩
  | [a], q, h => by cases h
  | [], q, h => by cases h
/-- the candidates that are left -/
theorem cds_wid {k : List (List UInt8)} (h : coneE k = 0) {d : List UInt8} (hd : d ∈ cds k) (hlow : ∀ q ∈ cds k, abvV d q = false) (q : List UInt8) : q ∈ cds (wid d false k) ↔ q ∈ cds k ∧ q ≠ d := by
  have hok := (coneB_iff.1 (coneE_zero.1 h)).1
  have hm := (wid_two h hd).1
  obtain ⟨A, R, B, e, hR, h2, h3, h4, ew⟩ := wid_parts h hd
  have hout : q ∈ cds (wid d false k) → q ≠ d := fun hq e0 => by
    subst e0
    exact cone_out hm hq (by rw [ew]; simp)
  -- R = r0 :: R' and R = S ++ [rl]
  obtain ⟨S, rl, eS⟩ : ∃ S rl, R = S ++ [rl] := ⟨_, _, (List.dropLast_concat_getLast hR).symm⟩
  obtain ⟨r0, R', eR⟩ : ∃ r0 R', R = r0 :: R' := by cases R with | nil => exact absurd rfl hR | cons x y => exact ⟨x, y, rfl⟩
  have hr0 := h2 r0 (by simp [eR])
  have hrl := h2 rl (by simp [eS])
  have e1 : cds k = cds (A ++ [r0]) ++ (cds R ++ cds (rl :: B)) := by
    rw [e, eR, List.cons_append, cds_app, ← List.cons_append, ← eR, eS, List.append_assoc]
    congr 1
    exact cds_app rl B S
  have e2 : cds (wid d false k) = cds (A ++ [d]) ++ cds (d :: B) := by rw [ew, cds_app]
  have e3 : cds (A ++ [d]) = cds (A ++ [r0]) := by
    by_cases hA : A = []
    · subst hA; rfl
    · have eA := (List.dropLast_concat_getLast hA).symm
      have hx := h3 (A.getLast hA) (List.getLast_mem hA)
      rw [eA, List.append_assoc, List.append_assoc]
      show cds (A.dropLast ++ A.getLast hA :: [d]) = cds (A.dropLast ++ A.getLast hA :: [r0])
      rw [cds_app (A.getLast hA) [d] A.dropLast, cds_app (A.getLast hA) [r0] A.dropLast]
      simp only [cds]
      rw [cmn_same hr0 hx.1 hx.2]
  have e4 : cds (d :: B) = cds (rl :: B) := by
    cases B with
    | nil => rfl
    | cons y B =>
      have hy := h4 y (by simp)
      simp only [cds]
      rw [← cmn_comm, cmn_same hrl hy.1 hy.2, cmn_comm]
  rw [e2, e3, e4, List.mem_append]
  constructor
  · intro hq
    refine ⟨by rw [e1]; simp only [List.mem_append]; rcases hq with hq | hq <;> simp [hq], hout ?_⟩
    rw [e2, e3, e4, List.mem_append]; exact hq
  · rintro ⟨hq, hne⟩
    have hq0 := hq
    rw [e1] at hq
    simp only [List.mem_append] at hq
    rcases hq with hq | hq | hq
    · exact .inl hq
    · exfalso
      obtain ⟨a, ha, b, hb, rfl⟩ := cds_two hq
      rcases cmn_run (hok a (by rw [e]; simp [ha])) (h2 a ha) (h2 b hb) with e0 | e0
      · exact hne e0
      · rw [hlow _ hq0] at e0; cases e0
    · exact .inr hq
/-- what the others add stays, but above it -/
theorem ads_stay {L : List Fl} {d q : List UInt8} (h1 : q ≠ d) (h2 : abvV d q = false) (h3 : abvV q d = false) : ads (L.filter (fun f => !abvV d f.path)) q = ads L q := by
  unfold ads
  rw [List.filter_filter]
  congr 2
  refine filt_congr fun f _ => ?_
  cases e : abvV q f.path with
  | false => rfl
  | true =>
    cases e2 : abvV d f.path with
    | false => rfl
    | true =>
      exfalso
      rcases abv_comp e e2 with e3 | e3 | e3
      · exact h1 e3
      · rw [h3] at e3; cases e3
      · rw [h2] at e3; cases e3
theorem ads_zero {L : List Fl} {d : List UInt8} : ads (L.filter (fun f => !abvV d f.path)) d = 0 := by
  unfold ads
  rw [List.filter_filter, filt_congr (g := fun _ => false) fun f _ => by cases abvV d f.path <;> rfl, List.filter_eq_nil_iff.2 (by simp)]
  rfl
end Go.Proofs.YtbaheiimcnfaaaaGreat

namespace Go.Proofs.YtbaheiimcnfaaaaGreat
open Go.RowKit

set_option maxRecDepth 100000 in
set_option maxHeartbeats 1000000 in
theorem cmp_any (a b : List UInt8) (w : World) (ha : a.length ≤ 9223372036854775807) (hb : b.length ≤ 9223372036854775807) :
    Calls Tryz.prog 72 #[.string (bs a), .string (bs b)] w fun e w' => e = .returned (.int .i64 (cmpP (pcs a) (pcs b))) ∧ Laid w w' := by
  have HA : Hid (a.length ≤ 9223372036854775807 ∧ b.length ≤ 9223372036854775807) := ⟨ha, hb⟩
  clear ha hb
  go_enter Tryz.func72, Tryz.ntmps72
  go_wp2_with fail
  refine (meet_any _ _ _ HA.out.1 HA.out.2).mono ?_
  rintro e w1 ⟨rfl, hb1⟩
  have B1 : Hid (Laid w w1) := hb1
  clear hb1
  go_wp2_with fail
  go_ret
  exact ⟨rfl, B1.out⟩

set_option maxRecDepth 100000 in
set_option maxHeartbeats 1000000 in
theorem above_any (a b : List UInt8) (w : World) (ha : a.length ≤ 9223372036854775807) (hb : b.length ≤ 9223372036854775807) :
    Calls Tryz.prog 64 #[.string (bs a), .string (bs b)] w fun e w' => e = .returned (.bool (abvV a b)) ∧ Laid w w' := by
  have HA : Hid (a.length ≤ 9223372036854775807 ∧ b.length ≤ 9223372036854775807) := ⟨ha, hb⟩
  clear ha hb
  have hz : (bs a).size = a.length := rfl
  obtain ⟨r, hr⟩ : ∃ r, abvV a b = r := ⟨_, rfl⟩
  rw [hr]
  have HR : Hid (abvV a b = r) := hr
  clear hr
  go_enter Tryz.func64, Tryz.ntmps64
  go_wp2_with fail
  refine (meet_any _ _ _ HA.out.1 HA.out.2).mono ?_
  rintro e w1 ⟨rfl, hb1⟩
  have B1 : Hid (Laid w w1) := hb1
  clear hb1
  by_cases h1 : (cmn a b).length = a.length
  · have e1 : (((cmn a b).length : Int) == (a.length : Int)) = true := by rw [h1]; simp
    by_cases h2 : cmpP (pcs a) (pcs b) < 0
    · go_wp2_with fail
      go_ret
      exact ⟨by rw [← HR.out]; simp [abvV, h1, h2], B1.out⟩
    · go_wp2_with fail
      go_ret
      exact ⟨by rw [← HR.out]; simp [abvV, h1], B1.out⟩
  · have e1 : (((cmn a b).length : Int) == (a.length : Int)) = false := by rw [beq_eq_false_iff_ne]; omega
    go_wp2_with fail
    go_ret
    exact ⟨by rw [← HR.out]; simp [abvV, h1], B1.out⟩

theorem extract_to (l : List UInt8) (n : Nat) : (bs l).extract 0 n = bs (l.take n) := by rw [bs_extract]; simp
theorem extract_from (l : List UInt8) (n : Nat) : (bs l).extract n l.length = bs (l.drop n) := by
  rw [bs_extract]; congr 1; exact List.take_of_length_le (by simp)

set_option maxRecDepth 100000 in
set_option maxHeartbeats 1000000 in
theorem base_any (l : List UInt8) (w : World) (hl : l.length ≤ 9223372036854775807) :
    Calls Tryz.prog 113 #[.string (bs l)] w fun e w' => e = .returned (.string (bs (base l))) ∧ w' = w := by
  have HL : Hid (l.length ≤ 9223372036854775807) := hl
  have hz : (bs l).size = l.length := rfl
  have h2 := lst_lt l
  have h3 := lst_ge l
  obtain ⟨n, hn⟩ : ∃ n : Nat, lst l = (n : Int) - 1 := ⟨(lst l + 1).toNat, by omega⟩
  have hd0 : base l = l.drop n := by unfold base; congr 1; omega
  rw [hd0]
  have HE : Hid ((bs l).extract n l.length = bs (l.drop n)) := extract_from l n
  have hnl : n ≤ l.length := by omega
  clear h2 h3
  go_enter Tryz.func113, Tryz.ntmps113
  go_wp2_with fail
  refine (last_any _ _ HL.out).mono ?_
  rintro e w1 ⟨rfl, rfl⟩
  rw [hn]
  go_wp2_with fail
  go_ret
  exact ⟨by rw [← HE.out]; rfl, rfl⟩

set_option maxRecDepth 100000 in
set_option maxHeartbeats 1000000 in
theorem depth_any (l : List UInt8) (w : World) (hl : l.length < 9223372036854775807) :
    Calls Tryz.prog 53 #[.string (bs l)] w fun e w' => e = .returned (.int .i64 (dep l : Nat)) ∧ w' = w := by
  have he := isE l
  by_cases h : l = []
  · subst h
    have hd0 : dep [] = 0 := rfl
    rw [hd0]
    go_enter Tryz.func53, Tryz.ntmps53
    go_wp2_with fail
    go_ret
    exact ⟨rfl, rfl⟩
  · have hd0 : dep l = l.count 47 + 1 := by simp [dep, h]
    have hle := dep_le l
    rw [hd0] at hle
    have hi : l.isEmpty = false := by cases l; exact absurd rfl h; rfl
    rw [hi] at he
    obtain ⟨n, hn⟩ : ∃ n, l.count 47 = n := ⟨_, rfl⟩
    rw [hd0]
    rw [hn] at hle ⊢
    go_enter Tryz.func53, Tryz.ntmps53
    go_wp2_with fail
    refine (count_any _ _).mono ?_
    rintro e w1 ⟨rfl, rfl⟩
    rw [hn]
    go_wp2_with fail
    go_ret
    exact ⟨rfl, rfl⟩

set_option maxRecDepth 100000 in
set_option maxHeartbeats 1000000 in
theorem allowed_any (c : UInt8) (w : World) :
    Calls Tryz.prog 102 #[.int .u8 c.toNat] w fun e w' => e = .returned (.bool (okB c)) ∧ w' = w := by
  obtain ⟨r, hr⟩ : ∃ r, okB c = r := ⟨_, rfl⟩
  rw [hr]
  have HR : Hid (okB c = r) := hr
  clear hr
  obtain ⟨n, hn⟩ : ∃ n, c.toNat = n := ⟨_, rfl⟩
  rw [hn]
  have HR2 : Hid (((97 ≤ n && n ≤ 122) || (65 ≤ n && n ≤ 90) || (48 ≤ n && n ≤ 57) || n == 46 || n == 95 || n == 45) = r) := by rw [← hn]; exact HR.out
  clear HR hn
  by_cases h1 : 97 ≤ n ∧ n ≤ 122
  · obtain ⟨h1, h2⟩ := h1
    go_enter Tryz.func102, Tryz.ntmps102
    go_wp2_with fail
    go_ret
    exact ⟨by rw [← HR2.out]; simp [h1, h2], rfl⟩
  · by_cases h2 : 65 ≤ n ∧ n ≤ 90
    · obtain ⟨h2, h3⟩ := h2
      have h4 : ¬ 97 ≤ n := by omega
      clear h1
      go_enter Tryz.func102, Tryz.ntmps102
      go_wp2_with fail
      go_ret
      exact ⟨by rw [← HR2.out]; simp [h2, h3], rfl⟩
    · by_cases h3 : 48 ≤ n ∧ n ≤ 57
      · obtain ⟨h3, h4⟩ := h3
        have h5 : ¬ 97 ≤ n := by omega
        have h6 : ¬ 65 ≤ n := by omega
        clear h1 h2
        go_enter Tryz.func102, Tryz.ntmps102
        go_wp2_with fail
        go_ret
        exact ⟨by rw [← HR2.out]; simp [h3, h4], rfl⟩
      · by_cases q1 : n = 46
        · subst q1
          clear h1 h2 h3
          go_enter Tryz.func102, Tryz.ntmps102
          go_wp2_with fail
          go_ret
          exact ⟨by rw [← HR2.out]; rfl, rfl⟩
        by_cases q2 : n = 95
        · subst q2
          clear h1 h2 h3
          go_enter Tryz.func102, Tryz.ntmps102
          go_wp2_with fail
          go_ret
          exact ⟨by rw [← HR2.out]; rfl, rfl⟩
        by_cases q3 : n = 45
        · subst q3
          clear h1 h2 h3
          go_enter Tryz.func102, Tryz.ntmps102
          go_wp2_with fail
          go_ret
          exact ⟨by rw [← HR2.out]; rfl, rfl⟩
        have z : r = false := by
          rw [← HR2.out]
          simp only [Bool.or_eq_false_iff, Bool.and_eq_false_iff, decide_eq_false_iff_not, beq_eq_false_iff_ne]
          omega
        subst z
        have e1 : (((n : Int)) == 46) = false := by rw [beq_eq_false_iff_ne]; omega
        have e2 : (((n : Int)) == 95) = false := by rw [beq_eq_false_iff_ne]; omega
        have e3 : (((n : Int)) == 45) = false := by rw [beq_eq_false_iff_ne]; omega
        by_cases p1 : 97 ≤ n
        · have p2 : ¬ n ≤ 122 := by omega
          have p3 : 65 ≤ n := by omega
          have p4 : ¬ n ≤ 90 := by omega
          have p5 : 48 ≤ n := by omega
          have p6 : ¬ n ≤ 57 := by omega
          clear h1 h2 h3
          go_enter Tryz.func102, Tryz.ntmps102
          go_wp2_with fail
          go_ret
          exact ⟨rfl, rfl⟩
        by_cases p3 : 65 ≤ n
        · have p4 : ¬ n ≤ 90 := by omega
          have p5 : 48 ≤ n := by omega
          have p6 : ¬ n ≤ 57 := by omega
          clear h1 h2 h3
          go_enter Tryz.func102, Tryz.ntmps102
          go_wp2_with fail
          go_ret
          exact ⟨rfl, rfl⟩
        by_cases p5 : 48 ≤ n
        · have p6 : ¬ n ≤ 57 := by omega
          clear h1 h2 h3
          go_enter Tryz.func102, Tryz.ntmps102
          go_wp2_with fail
          go_ret
          exact ⟨rfl, rfl⟩
        · clear h1 h2 h3
          go_enter Tryz.func102, Tryz.ntmps102
          go_wp2_with fail
          go_ret
          exact ⟨rfl, rfl⟩

theorem all_take_succ (l : List UInt8) (k : Nat) (h : k < l.length) : (l.drop k).all okB = (okB (l[k]'h) && (l.drop (k + 1)).all okB) := by
  rw [List.drop_eq_getElem_cons h]; rfl

set_option maxHeartbeats 1000000 in
set_option maxRecDepth 100000 in
theorem component_any (l : List UInt8) (w : World) (hm : l.length ≤ 9223372036854775807) :
    Calls Tryz.prog 74 #[.string (bs l)] w fun e w' => e = .returned (.bool (okC l)) ∧ w' = w := by
  have hz : (bs l).size = l.length := rfl
  have e0 : (bs l).toList.isEmpty = l.isEmpty := isE l
  have c1 : (ByteArray.mk #[46]).toList = [46] := ByteArray.toList_mk [46]
  have c2 : (ByteArray.mk #[46, 46]).toList = [46, 46] := ByteArray.toList_mk [46, 46]
  have c3 : (ByteArray.mk #[46, 46, 46]).toList = [46, 46, 46] := ByteArray.toList_mk [46, 46, 46]
  by_cases h0 : l = []
  · subst h0
    have h : okC [] = false := by decide
    rw [h]
    clear c1 c2 c3
    go_enter Tryz.func74, Tryz.ntmps74
    go_wp2_with fail
    go_ret
    exact ⟨rfl, rfl⟩
  have i0 : l.isEmpty = false := by cases l; exact absurd rfl h0; rfl
  rw [i0] at e0
  by_cases h1 : l = [46]
  · subst h1
    have h : okC [46] = false := by decide
    rw [h]
    have e1 : ((bs [46]).toList == [46]) = true := by rw [bs_toList]; rfl
    go_enter Tryz.func74, Tryz.ntmps74
    go_wp2_with fail
    go_ret
    exact ⟨rfl, rfl⟩
  have e1 : ((bs l).toList == [46]) = false := by rw [bs_toList, beq_eq_false_iff_ne]; exact h1
  by_cases h2 : l = [46, 46]
  · subst h2
    have h : okC [46, 46] = false := by decide
    rw [h]
    have e2 : ((bs [46, 46]).toList == [46, 46]) = true := by rw [bs_toList]; rfl
    go_enter Tryz.func74, Tryz.ntmps74
    go_wp2_with fail
    go_ret
    exact ⟨rfl, rfl⟩
  have e2 : ((bs l).toList == [46, 46]) = false := by rw [bs_toList, beq_eq_false_iff_ne]; exact h2
  by_cases h3 : l = [46, 46, 46]
  · subst h3
    have h : okC [46, 46, 46] = false := by decide
    rw [h]
    have e3 : ((bs [46, 46, 46]).toList == [46, 46, 46]) = true := by rw [bs_toList]; rfl
    go_enter Tryz.func74, Tryz.ntmps74
    go_wp2_with fail
    go_ret
    exact ⟨rfl, rfl⟩
  have e3 : ((bs l).toList == [46, 46, 46]) = false := by rw [bs_toList, beq_eq_false_iff_ne]; exact h3
  have hok : okC l = (decide (l.length ≤ 32) && l.all okB) := by
    unfold okC
    rw [show (l == []) = false from by rw [beq_eq_false_iff_ne]; exact h0, show (l == [46]) = false from by rw [beq_eq_false_iff_ne]; exact h1, show (l == [46, 46]) = false from by rw [beq_eq_false_iff_ne]; exact h2, show (l == [46, 46, 46]) = false from by rw [beq_eq_false_iff_ne]; exact h3]
    simp
  rw [hok]
  clear hok h0 h1 h2 h3 i0
  by_cases h4 : 32 < l.length
  · have : decide (l.length ≤ 32) = false := by simpa using h4
    rw [this]
    go_enter Tryz.func74, Tryz.ntmps74
    go_wp2_with fail
    go_ret
    exact ⟨rfl, rfl⟩
  have : decide (l.length ≤ 32) = true := by simpa using Nat.le_of_not_lt h4
  rw [this, Bool.true_and]
  obtain ⟨r, hr⟩ : ∃ r, l.all okB = r := ⟨_, rfl⟩
  rw [hr]
  have HR : Hid ((l.drop 0).all okB = r) := hr
  clear hr this
  go_enter Tryz.func74, Tryz.ntmps74
  go_wp2_with fail
  go_loop [15] (fun i => ∃ k : Nat, k ≤ l.length ∧ i = .int .i64 k ∧ (l.drop k).all okB = r) (fun i => l.length - (intOf i).toNat)
  case atStart => exact ⟨0, Nat.zero_le _, rfl, HR.out⟩
  case round =>
    obtain ⟨k, hk, rfl, ha⟩ := hrel
    have HA : Hid ((l.drop k).all okB = r) := ha
    clear ha
    by_cases hlt : k < l.length
    · have HB : Hid ((okB (l[k]'hlt) && (l.drop (k + 1)).all okB) = r) := by have := HA.out; rw [all_take_succ l k hlt] at this; exact this
      have hkz : k < (bs l).size := hlt
      go_wp2_with fail
      refine (allowed_any (l[k]'hlt) _).mono ?_
      rintro e w1 ⟨rfl, rfl⟩
      have hb := HB.out
      cases ho : okB (l[k]'hlt)
      · rw [ho] at hb
        have hb : false = r := hb
        subst hb
        go_wp2_with fail
        go_ret
        exact ⟨rfl, rfl⟩
      · rw [ho] at hb
        have HB2 : Hid ((l.drop (k + 1)).all okB = r) := hb
        clear hb
        go_wp2_with fail
        go_round
        case rel => exact ⟨k + 1, by omega, by go_num, HB2.out⟩
        case measure => simp [intOf]; omega
    · obtain rfl : k = l.length := by omega
      have hb := HA.out
      rw [List.drop_length] at hb
      have hb : true = r := hb
      subst hb
      go_wp2_with fail
      go_ret
      exact ⟨rfl, rfl⟩

theorem okC_le {l : List UInt8} (h : okC l = true) : l.length ≤ 32 := by
  unfold okC at h
  simp only [Bool.and_eq_true, decide_eq_true_eq] at h
  exact h.1.2

set_option maxHeartbeats 1000000 in
set_option maxRecDepth 100000 in
theorem valid_any (l : List UInt8) (w : World) (hm : l.length < 9223372036854775807) :
    Calls Tryz.prog 38 #[.string (bs l)] w fun e w' => e = .returned (.bool (okP l)) ∧ Below w.heap.size w w' := by
  have hz : (bs l).size = l.length := rfl
  by_cases h1 : 120 < l.length
  · have : okP l = false := by
      unfold okP; rw [show decide (l.length ≤ 120) = false from by simpa using h1]; rfl
    rw [this]
    go_enter Tryz.func38, Tryz.ntmps38
    go_wp2_with fail
    go_ret
    exact ⟨rfl, Below.refl _ _⟩
  have g1 : decide (l.length ≤ 120) = true := by simpa using Nat.le_of_not_lt h1
  by_cases h2 : 12 < dep l
  · have : okP l = false := by
      unfold okP; rw [show decide (dep l ≤ 12) = false from by simpa using h2, g1]; rfl
    rw [this]
    clear g1
    go_enter Tryz.func38, Tryz.ntmps38
    go_wp2_with fail
    refine (depth_any _ _ hm).mono ?_
    rintro e w1 ⟨rfl, rfl⟩
    go_wp2_with fail
    go_ret
    exact ⟨rfl, Below.refl _ _⟩
  have hok : okP l = (left l (!l.isEmpty)).all okC := by
    unfold okP; rw [g1, show decide (dep l ≤ 12) = true from by simpa using Nat.le_of_not_lt h2, left_start]; rfl
  rw [hok]
  obtain ⟨r, hr⟩ : ∃ r, (left l (!l.isEmpty)).all okC = r := ⟨_, rfl⟩
  rw [hr]
  have HR : Hid ((left l (!l.isEmpty)).all okC = r) := hr
  obtain ⟨ma, hma⟩ : ∃ m, (!l.isEmpty) = m := ⟨_, rfl⟩
  rw [hma] at HR
  have HM : Hid (l.length < 9223372036854775807) := hm
  clear hr hok g1
  go_enter Tryz.func38, Tryz.ntmps38
  go_wp2_with fail
  refine (depth_any _ _ HM.out).mono ?_
  rintro e w1 ⟨rfl, rfl⟩
  go_wp2_with fail
  refine (begin_any _ _).mono ?_
  rintro e w2 ⟨rfl, hb2⟩
  rw [hma]
  replace hb2 := hb2.below
  have hz2 := hb2.size
  have B2 : Hid (Below w1.heap.size w1 w2) := hb2
  clear hb2
  go_wp2_with fail
  have K0 : Hid (WK (w2.alloc (.cells #[.string (bs l), .bool ma] 104)) w2.heap.size l ma ∧ Below w1.heap.size w1 (w2.alloc (.cells #[.string (bs l), .bool ma] 104))) := ⟨WK.new _ _ _ _, B2.out.alloc hz2 _⟩
  go_loopg [3] (left l ma).length (fun g p wr => ∃ (gp : Nat) (t : List UInt8) (m : Bool), p = .pointer (some ⟨gp, 0, none⟩) ∧ w1.heap.size ≤ gp ∧ WK wr gp t m ∧ Below w1.heap.size w1 wr ∧ (left t m).all okC = r ∧ t.length ≤ l.length ∧ (left t m).length ≤ g)
  case atStart => exact ⟨_, l, ma, rfl, hz2, K0.out.1, K0.out.2, HR.out, Nat.le_refl _, Nat.le_refl _⟩
  case round =>
    obtain ⟨gp, t, m, rfl, hgp, k, hbw, hall, htl, hg⟩ := hrel
    have HX : Hid (WK wr gp t m) := k
    have HB : Hid (Below w1.heap.size w1 wr) := hbw
    have HA : Hid ((left t m).all okC = r) := hall
    have HG : Hid ((left t m).length ≤ gk) := hg
    have HT : Hid (t.length ≤ l.length) := htl
    obtain ⟨_, x1, _, _, xlt⟩ := k
    clear hbw hall hg htl
    cases m
    · have ha := HA.out
      have ha : true = r := ha
      subst ha
      go_wp2_with fail
      go_ret
      exact ⟨rfl, HB.out⟩
    · go_wp2_with fail
      refine (next_any HX.out (by have := HT.out; have := HM.out; omega)).mono ?_
      rintro e w3 ⟨rfl, k3, o3⟩
      have HX3 : Hid (WK w3 gp (tl t) (sl t)) := k3
      have HB3 : Hid (Below w1.heap.size w1 w3) := below_trans HB.out (o3.1.below (by have := HB.out.size; omega) (by simp; omega))
      have hz3 := HB3.out.size
      obtain ⟨y0, y1, _, _, _⟩ := k3
      clear o3 x1
      go_wp2_with fail
      refine (component_any _ _ (by have := hd_le t; have := HT.out; have := HM.out; omega)).mono ?_
      rintro e w4 ⟨rfl, rfl⟩
      have ha := HA.out
      rw [left_next, List.all_cons] at ha
      have hg := HG.out
      rw [left_next] at hg
      cases hc : okC (hd t)
      · rw [hc] at ha
        have ha : false = r := ha
        subst ha
        go_wp2_with fail
        go_ret
        exact ⟨rfl, HB3.out⟩
      · rw [hc] at ha
        have HA4 : Hid ((left (tl t) (sl t)).all okC = r) := ha
        have HG4 : Hid ((left (tl t) (sl t)).length < gk) := by simp at hg; exact hg
        clear ha hg
        go_wp2_with fail
        go_roundg (left (tl t) (sl t)).length
        case measure => exact HG4.out
        case rel => exact ⟨_, tl t, sl t, rfl, hz3, WK.new _ _ _ _, HB3.out.alloc hz3 _, HA4.out, by have := tl_le t; have := HT.out; omega, Nat.le_refl _⟩

end Go.Proofs.YtbaheiimcnfaaaaGreat
