/-
  within, slash, short.
-/
import Derived.Test.YtebidnepanogcaaDoorMk
namespace Go.Proofs.YtebidnepanogcaaDoor
open Go.RowKit

theorem slash_step {l : List UInt8} {k : Nat} (hk : k < l.length) : (l.drop k).contains 47 = (decide (l[k]'hk = 47) || (l.drop (k + 1)).contains 47) := by
  rw [List.drop_eq_getElem_cons hk, List.contains_cons]
  by_cases h : l[k]'hk = 47
  · simp [h]
  · have : ((47 : UInt8) == l[k]'hk) = false := by simpa using Ne.symm h
    rw [this, decide_eq_false h]
set_option maxHeartbeats 1000000 in
theorem slash_any (l : List UInt8) (w : World) (hl : l.length ≤ 1000000000) :
    Calls Tryd.prog 13 #[.string (bs l)] w fun e w' => e = .returned (.bool (l.contains 47)) ∧ w' = w := by
  have hz : (bs l).size = l.length := rfl
  obtain ⟨R, hR⟩ : ∃ R, l.contains 47 = R := ⟨_, rfl⟩
  rw [hR]
  have HR : Hid ((l.drop 0).contains 47 = R) := hR
  clear hR
  go_enter Tryd.func13, Tryd.ntmps13
  go_wp2_with fail
  go_loop [3] (fun i => ∃ k : Nat, k ≤ l.length ∧ i = .int .i64 k ∧ (l.drop k).contains 47 = R) (fun i => l.length - (intOf i).toNat)
  case atStart => exact ⟨0, Nat.zero_le _, rfl, HR.out⟩
  case round =>
    obtain ⟨k, hk, rfl, hc⟩ := hrel
    have HC : Hid ((l.drop k).contains 47 = R) := hc
    clear hc
    by_cases hlt : k < l.length
    · have i1 : (0 : Int) ≤ (k : Int) := by omega
      have i2 : (k : Int) < (l.length : Int) := by omega
      have hkz : k < (bs l).size := hlt
      have hbk : (bs l)[k]'hkz = l[k]'hlt := bs_get _ _ _ hlt
      have HS : Hid ((decide (l[k]'hlt = 47) || (l.drop (k + 1)).contains 47) = R) := (slash_step hlt).symm.trans HC.out
      by_cases h47 : l[k]'hlt = 47
      · have q1 : ((((bs l)[k]'hkz).toNat : Int) == 47) = true := by rw [hbk, h47]; rfl
        obtain rfl : R = true := by rw [← HS.out, decide_eq_true h47]; rfl
        clear h47 hbk HS HC
        go_wp2_with fail
        go_ret
        exact ⟨rfl, rfl⟩
      · have q1 : ((((bs l)[k]'hkz).toNat : Int) == 47) = false := by
          rw [hbk, beq_eq_false_iff_ne]; intro e; apply h47; apply UInt8.toNat_inj.1; exact Int.ofNat.inj e
        have HS2 : Hid ((l.drop (k + 1)).contains 47 = R) := by show _ = R; rw [← HS.out, decide_eq_false h47]; rfl
        clear h47 hbk HS HC
        go_wp2_with fail
        go_round
        case rel => exact ⟨k + 1, hlt, rfl, HS2.out⟩
        case measure => simp only [intOf]; omega
    · obtain rfl : k = l.length := by omega
      obtain rfl : R = false := by rw [← HC.out, List.drop_length]; rfl
      go_wp2_with fail
      go_ret
      exact ⟨rfl, rfl⟩
theorem short_any (l : List UInt8) (w : World) (hl : l.length ≤ 1000000000) :
    Calls Tryd.prog 14 #[.string (bs l)] w fun e w' => e = .returned (.string (bs l.dropLast)) ∧ w' = w := by
  have hz : (bs l).size = l.length := rfl
  have e1 := isE l
  by_cases h0 : l = []
  · subst h0
    go_enter Tryd.func14, Tryd.ntmps14
    go_wp2_with fail
    go_ret
    exact ⟨rfl, rfl⟩
  · have i0 : l.isEmpty = false := by cases l; exact absurd rfl h0; rfl
    rw [i0] at e1
    have hpos : 0 < l.length := by cases l; exact absurd rfl h0; simp
    have j1 : (0 : Int) ≤ (l.length : Int) - 1 := by omega
    have j2 : (l.length : Int) - 1 ≤ (l.length : Int) := by omega
    have HE : Hid ((bs l).extract 0 (l.length - 1) = bs l.dropLast) := by show _ = _; rw [extract_to, List.dropLast_eq_take]
    clear h0
    go_enter Tryd.func14, Tryd.ntmps14
    go_wp2_with fail
    go_ret
    exact ⟨by rw [← HE.out]; rfl, rfl⟩
end Go.Proofs.YtebidnepanogcaaDoor
