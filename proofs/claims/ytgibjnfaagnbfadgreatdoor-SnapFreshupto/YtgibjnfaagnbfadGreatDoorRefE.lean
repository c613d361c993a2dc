/-
  The document's answers: number, unhex.
-/
import Derived.Test.YtgibjnfaagnbfadGreatDoorHex
import Derived.Test.YtgibjnfaagnbfadGreatDoorRef
import Derived.Test.YtgibjnfaagnbfadGreatDoorGlue
namespace Go.Proofs.YtgibjnfaagnbfadGreatDoor
open Go.RowKit

theorem numV_none : ∀ (a : List UInt8) (acc : Nat) (c : UInt8) (r : List UInt8), ¬ (48 ≤ c.toNat ∧ c.toNat ≤ 57) → numV acc (a ++ c :: r) = none
  | [], acc, c, r, h => by simp only [List.nil_append, numV]; rw [if_neg h]
  | x :: a, acc, c, r, h => by
    rw [List.cons_append, numV]
    split
    · exact numV_none a _ c r h
    · rfl

set_option maxRecDepth 100000 in
set_option maxHeartbeats 4000000 in
theorem knumber_any (l : List UInt8) (w : World) (hl : l.length ≤ 1000000000) : Calls Tryz.prog 25 #[.string (bs l)] w fun e w' => e = .returned (.int .i64 (numR l)) ∧ w' = w := by
  have hz : (bs l).size = l.length := rfl
  obtain ⟨N, hN⟩ : ∃ N, numR l = N := ⟨_, rfl⟩
  have HN : Hid (numR l = N) := hN
  rw [hN]
  clear hN
  by_cases h0 : l.length = 0
  · have HA : Hid (N = -1) := by
      have := HN.out
      unfold numR at this
      rw [if_pos (.inl h0)] at this
      exact this.symm
    have e0 : ((l.length : Int) == 0) = true := by rw [beq_iff_eq]; omega
    go_enter Tryz.func25, Tryz.ntmps25
    go_wp2_with fail
    go_ret
    exact ⟨by rw [HA.out]; rfl, rfl⟩
  have e0 : ((l.length : Int) == 0) = false := by rw [beq_eq_false_iff_ne]; omega
  by_cases h19 : 19 < l.length
  · have HA : Hid (N = -1) := by
      have := HN.out
      unfold numR at this
      rw [if_pos (.inr h19)] at this
      exact this.symm
    have e1 : decide ((19 : Int) < (l.length : Int)) = true := by rw [decide_eq_true_eq]; omega
    go_enter Tryz.func25, Tryz.ntmps25
    go_wp2_with fail
    go_ret
    exact ⟨by rw [HA.out]; rfl, rfl⟩
  have e1 : decide ((19 : Int) < (l.length : Int)) = false := by rw [decide_eq_false_iff_not]; omega
  have HA : Hid ((match numV 0 l with | some v => if 9223372036854775807 < v then -1 else (v : Int) | none => -1) = N) := by
    have := HN.out
    unfold numR at this
    rw [if_neg (by omega)] at this
    exact this
  clear HN
  obtain ⟨n, hn⟩ : ∃ n, l.length = n := ⟨_, rfl⟩
  have HL : Hid (l.length = n) := hn
  rw [hn] at hz h0 h19 e0 e1
  clear hn hl
  go_enter Tryz.func25, Tryz.ntmps25
  go_wp2_with fail
  go_loopw [3, 4] (fun o i wr => ∃ k u : Nat, k ≤ n ∧ i = .int .i64 k ∧ o = .int .u64 u ∧ u < 10 ^ k ∧ numV 0 (l.take k) = some u ∧ wr = w) (fun _ i _ => n - (intOf i).toNat)
  case atStart => exact ⟨0, 0, by omega, rfl, rfl, by decide, by simp [numV], rfl⟩
  case round =>
    obtain ⟨k, u, hk, rfl, rfl, hu, hv, rfl⟩ := hrel
    have HV : Hid (numV 0 (l.take k) = some u) := hv
    have hp : 10 ^ k ≤ 10 ^ 19 := Nat.pow_le_pow_right (by decide) (by omega)
    have hp19 : (10 : Nat) ^ 19 = 10000000000000000000 := by decide
    have hu2 : u < 10000000000000000000 := by omega
    clear hv
    by_cases hlt : k < n
    · have hkl : k < l.length := by have := HL.out; omega
      have hkz : k < (bs l).size := hkl
      have k1 : (0 : Int) ≤ (k : Int) := by omega
      have k2 : (k : Int) < (n : Int) := by omega
      obtain ⟨X, hX⟩ : ∃ X, (l[k]'hkl).toNat = X := ⟨_, rfl⟩
      have hX256 : X < 256 := by rw [← hX]; exact (l[k]'hkl).toNat_lt
      have q1 : ((bs l)[k]'hkz).toNat = X := hX
      have HX : Hid ((l[k]'hkl).toNat = X) := hX
      have HT : Hid (l = l.take k ++ l[k]'hkl :: l.drop (k + 1)) := by
        show _ = _
        rw [← List.drop_eq_getElem_cons hkl, List.take_append_drop]
      have HT1 : Hid (l.take (k + 1) = l.take k ++ [l[k]'hkl]) := by
        show _ = _
        rw [List.take_add_one, List.getElem?_eq_getElem hkl]; rfl
      clear hX
      by_cases hd : 48 ≤ X ∧ X ≤ 57
      · have d1 : decide ((X : Int) < 48) = false := by rw [decide_eq_false_iff_not]; omega
        have d2 : decide ((57 : Int) < (X : Int)) = false := by rw [decide_eq_false_iff_not]; omega
        have h1 : u * 10 + (X - 48) < 10 ^ (k + 1) := by rw [Nat.pow_succ]; omega
        have hp2 : 10 ^ (k + 1) ≤ 10 ^ 19 := Nat.pow_le_pow_right (by decide) (by omega)
        obtain ⟨D, hD⟩ : ∃ D : Nat, X - 48 = D := ⟨_, rfl⟩
        have a1 : IntKind.u8.wrap ((X : Int) - 48) = (D : Int) := by rw [IntKind.wrap_u8]; omega
        have a2 : IntKind.u64.wrap (D : Int) = (D : Int) := by rw [IntKind.wrap_u64]; omega
        obtain ⟨V, hV⟩ : ∃ V : Nat, u * 10 + D = V := ⟨_, rfl⟩
        have a3 : IntKind.u64.wrap ((u : Int) * 10) = (u : Int) * 10 := by rw [IntKind.wrap_u64]; omega
        have a4 : IntKind.u64.wrap ((u : Int) * 10 + (D : Int)) = (V : Int) := by rw [IntKind.wrap_u64]; omega
        have HN2 : Hid (numV 0 (l.take (k + 1)) = some V ∧ V < 10 ^ (k + 1)) := by
          refine ⟨?_, by omega⟩
          rw [HT1.out, numV_app _ _ _ _ HV.out (by rw [HX.out]; omega) (by rw [HX.out]; omega), HX.out, hD, hV]
        clear h1 hp2 hp hp19 hD hV
        go_wp2_with fail
        go_roundw
        case rel => exact ⟨k + 1, V, by omega, by go_num, rfl, HN2.out.2, HN2.out.1, trivial⟩
        case measure => simp [intOf]; omega
      · have HA2 : Hid (N = -1) := by
          have h := HA.out
          rw [HT.out, numV_none _ _ _ _ (by rw [HX.out]; exact hd)] at h
          exact h.symm
        by_cases hd1 : X < 48
        · have d1 : decide ((X : Int) < 48) = true := by rw [decide_eq_true_eq]; omega
          go_wp2_with fail
          go_ret
          exact ⟨by rw [HA2.out]; rfl, rfl⟩
        · have d1 : decide ((X : Int) < 48) = false := by rw [decide_eq_false_iff_not]; omega
          have d2 : decide ((57 : Int) < (X : Int)) = true := by rw [decide_eq_true_eq]; omega
          go_wp2_with fail
          go_ret
          exact ⟨by rw [HA2.out]; rfl, rfl⟩
    · obtain rfl : k = n := by omega
      have HA2 : Hid ((if 9223372036854775807 < u then -1 else (u : Int)) = N) := by
        have h := HA.out
        have h2 := HV.out
        rw [List.take_of_length_le (by have := HL.out; omega)] at h2
        rw [h2] at h
        exact h
      by_cases hb : 9223372036854775807 < u
      · have HA3 : Hid (N = -1) := by have h := HA2.out; rw [if_pos hb] at h; exact h.symm
        have d1 : (9223372036854775807 : Int) < (u : Int) := by omega
        clear HA
        go_wp2_with fail
        go_ret
        exact ⟨by rw [HA3.out]; rfl, rfl⟩
      · have HA3 : Hid (N = (u : Int)) := by have h := HA2.out; rw [if_neg hb] at h; exact h.symm
        have d1 : ¬ (9223372036854775807 : Int) < (u : Int) := by omega
        have d2 : IntKind.i64.wrap (u : Int) = (u : Int) := by rw [IntKind.wrap_i64]; omega
        clear HA
        go_wp2_with fail
        go_ret
        exact ⟨by rw [HA3.out]; rfl, rfl⟩
end Go.Proofs.YtgibjnfaagnbfadGreatDoor
