/-
  The landed plan: is a path in the way?
-/
import Derived.Test.YtfdcfcalbongeaaKk
namespace Go.Proofs.Ytfdcfcalbongeaa
open Go.RowKit

set_option maxHeartbeats 8000000 in
set_option maxRecDepth 100000 in
theorem litw_any {w : World} {bb : Nat} {v : Value} {L : List (List UInt8)} (p : List UInt8) (h : Own bb w v L) (sm : Sm L) (up : Up L) (hp : p.length ≤ 1500000) :
    Calls Try.prog 27 #[.string (bs p), v] w fun e w' => e = .returned (.bool (itwB L p)) ∧ Below w.heap.size w w' := by
  obtain ⟨a, c, n, hn, rfl, ca⟩ := h.bs.form'
  have CA : Hid (∀ k, (hk : k < L.length) → ∃ b off, a = some ⟨b, off, none⟩ ∧ b < w.heap.size ∧ w.cell? ⟨b, off + k, none⟩ = some (.string (bs L[k]))) := ca
  have HN : Hid (n = L.length) := hn
  have HS : Hid (Sm L) := sm
  have hse := search_any p h sm up (by omega)
  have hle := bef_le L p
  obtain ⟨m, hm⟩ : ∃ m, bef L p = m := ⟨_, rfl⟩
  obtain ⟨q, hq⟩ : ∃ q, decide (p ∈ L) = q := ⟨_, rfl⟩
  have hm' : L.countP (fun x => decide (cf x p < 0)) = m := hm
  rw [hm', hq] at hse
  rw [hm] at hle
  have hmn' : m ≤ n := by omega
  have hnl : n ≤ 4000000 := by rw [hn]; exact sm.len
  have HQ : Hid (decide (p ∈ L) = q ∧ bef L p = m) := ⟨hq, hm⟩
  have HSe : Hid (Calls Try.prog 45 #[.slice a n c, .string (bs p), .func (.func 29) #[] #[]] w fun e w' => e = .returned (.tuple #[.int .i64 (m : Int), .bool q]) ∧ Below w.heap.size w w') := hse
  clear h sm up hse hle hm hm' hq ca hn
  go_enter Try.func27, Try.ntmps27
  go_wp2_with fail
  refine HSe.out.mono ?_
  rintro e w1 ⟨rfl, hb1⟩
  have HWB : Hid (Below w.heap.size w w1) := hb1
  clear hb1
  cases q with
  | true =>
    have HR2 : Hid (itwB L p = true) := by
      show _ = _
      unfold itwB
      rw [HQ.out.1]
      simp
    go_wp2_with fail
    go_ret
    exact ⟨by rw [HR2.out]; rfl, HWB.out⟩
  | false =>
    rcases Nat.eq_zero_or_pos m with hm0 | hm0
    · subst hm0
      have hf : (decide (0 < 0) && abvV (L.getD (0 - 1) []) p) = false := by simp
      have HF0 : Hid ((decide (0 < 0) && abvV (L.getD (0 - 1) []) p) = false) := hf
      clear hf
      by_cases hmn : 0 < n
      · have hml : 0 < L.length := by have := HN.out; omega
        obtain ⟨g2, o2, rfl, hg2, c2⟩ := CA.out 0 hml
        obtain ⟨t2, ht2⟩ : ∃ t, L[0]'hml = t := ⟨_, rfl⟩
        have hl2 := HS.out.each _ (List.getElem_mem hml)
        rw [ht2] at c2 hl2
        obtain ⟨r2, hr2⟩ : ∃ r, abvV p t2 = r := ⟨_, rfl⟩
        have HB2 : Hid (∀ W, Calls Try.prog 47 #[.string (bs p), .string (bs t2)] W fun e w' => e = .returned (.bool r2) ∧ Laid W w') := fun W => by rw [← hr2]; exact above_any p t2 W (by omega) (by omega)
        have HR2 : Hid (itwB L p = r2) := by
          show _ = _
          unfold itwB
          rw [HQ.out.1, HQ.out.2, HF0.out, List.getD_eq_getElem?_getD, List.getElem?_eq_getElem hml, Option.getD_some, ht2, hr2]
          have : decide (0 < L.length) = true := decide_eq_true hml
          rw [this]
          simp
        have c2 : w1.cell? ⟨g2, o2, none⟩ = some (.string (bs t2)) := (HWB.out.cell (p := ⟨g2, o2, none⟩) hg2).trans c2
        have m2 : ((0 : Nat) : Int) < (n : Int) := by omega
        clear hr2 ht2 hl2 hg2
        go_wp2_with fail
        refine (HB2.out _).mono ?_
        rintro e w3 ⟨rfl, hl3⟩
        have H3 : Hid (Below w.heap.size w w3) := bstep HWB.out hl3.below
        clear hl3 c2
        go_wp2_with fail
        go_ret
        exact ⟨by rw [HR2.out]; rfl, H3.out⟩
      · have HR2 : Hid (itwB L p = false) := by
          show _ = _
          unfold itwB
          rw [HQ.out.1, HQ.out.2, HF0.out]
          have : decide (0 < L.length) = false := decide_eq_false (by have := HN.out; omega)
          rw [this]
          simp
        have m2 : ¬ ((0 : Nat) : Int) < (n : Int) := by omega
        go_wp2_with fail
        go_ret
        exact ⟨by rw [HR2.out]; rfl, HWB.out⟩
    · obtain ⟨m1, rfl⟩ : ∃ m1, m = m1 + 1 := ⟨m - 1, by omega⟩
      have hm1 : m1 < L.length := by have := HN.out; omega
      obtain ⟨g, o, rfl, hg, c1⟩ := CA.out m1 hm1
      obtain ⟨t, ht⟩ : ∃ t, L[m1]'hm1 = t := ⟨_, rfl⟩
      have hl1 := HS.out.each _ (List.getElem_mem hm1)
      rw [ht] at c1 hl1
      obtain ⟨r1, hr1⟩ : ∃ r, abvV t p = r := ⟨_, rfl⟩
      have HB1 : Hid (∀ W, Calls Try.prog 47 #[.string (bs t), .string (bs p)] W fun e w' => e = .returned (.bool r1) ∧ Laid W w') := fun W => by rw [← hr1]; exact above_any t p W (by omega) (by omega)
      have c1 : w1.cell? ⟨g, o + m1, none⟩ = some (.string (bs t)) := (HWB.out.cell (p := ⟨g, o + m1, none⟩) hg).trans c1
      have hgd : L.getD (m1 + 1 - 1) [] = t := by rw [Nat.add_sub_cancel, List.getD_eq_getElem?_getD, List.getElem?_eq_getElem hm1, Option.getD_some, ht]
      have HF1 : Hid ((decide (0 < m1 + 1) && abvV (L.getD (m1 + 1 - 1) []) p) = r1) := by
        show _ = _
        rw [hgd, hr1]
        simp
      have k0 : (0 : Int) ≤ (m1 : Int) := by omega
      have k1 : (m1 : Int) < (n : Int) := by omega
      clear ht hl1 hr1 hg hgd
      go_wp2_with fail
      refine (HB1.out _).mono ?_
      rintro e w2 ⟨rfl, hl2⟩
      have HWB2 : Hid (Below w.heap.size w w2) := bstep HWB.out hl2.below
      clear hl2 c1 HWB HB1
      cases r1 with
      | true =>
        have HR2 : Hid (itwB L p = true) := by
          show _ = _
          unfold itwB
          rw [HQ.out.1, HQ.out.2, HF1.out]
          simp
        go_wp2_with fail
        go_ret
        exact ⟨by rw [HR2.out]; rfl, HWB2.out⟩
      | false =>
        by_cases hmn : (m1 + 1) < n
        · have hml : (m1 + 1) < L.length := by have := HN.out; omega
          obtain ⟨g2, o2, ge, hg2, c2⟩ := CA.out (m1 + 1) hml
          obtain ⟨rfl, rfl⟩ : g = g2 ∧ o = o2 := by injection ge with ge; injection ge with h1 h2 _; exact ⟨h1, h2⟩
          clear ge
          obtain ⟨t2, ht2⟩ : ∃ t, L[(m1 + 1)]'hml = t := ⟨_, rfl⟩
          have hl2 := HS.out.each _ (List.getElem_mem hml)
          rw [ht2] at c2 hl2
          obtain ⟨r2, hr2⟩ : ∃ r, abvV p t2 = r := ⟨_, rfl⟩
          have HB2 : Hid (∀ W, Calls Try.prog 47 #[.string (bs p), .string (bs t2)] W fun e w' => e = .returned (.bool r2) ∧ Laid W w') := fun W => by rw [← hr2]; exact above_any p t2 W (by omega) (by omega)
          have HR2 : Hid (itwB L p = r2) := by
            show _ = _
            unfold itwB
            rw [HQ.out.1, HQ.out.2, HF1.out, List.getD_eq_getElem?_getD, List.getElem?_eq_getElem hml, Option.getD_some, ht2, hr2]
            have : decide ((m1 + 1) < L.length) = true := decide_eq_true hml
            rw [this]
            simp
          have c2 : w2.cell? ⟨g, o + (m1 + 1), none⟩ = some (.string (bs t2)) := (HWB2.out.cell (p := ⟨g, o + (m1 + 1), none⟩) hg2).trans c2
          have m2 : (((m1 + 1) : Nat) : Int) < (n : Int) := by omega
          clear hr2 ht2 hl2 hg2
          go_wp2_with fail
          refine (HB2.out _).mono ?_
          rintro e w3 ⟨rfl, hl3⟩
          have H3 : Hid (Below w.heap.size w w3) := bstep HWB2.out hl3.below
          clear hl3 c2
          go_wp2_with fail
          go_ret
          exact ⟨by rw [HR2.out]; rfl, H3.out⟩
        · have HR2 : Hid (itwB L p = false) := by
            show _ = _
            unfold itwB
            rw [HQ.out.1, HQ.out.2, HF1.out]
            have : decide ((m1 + 1) < L.length) = false := decide_eq_false (by have := HN.out; omega)
            rw [this]
            simp
          have m2 : ¬ (((m1 + 1) : Nat) : Int) < (n : Int) := by omega
          go_wp2_with fail
          go_ret
          exact ⟨by rw [HR2.out]; rfl, HWB2.out⟩
end Go.Proofs.Ytfdcfcalbongeaa
