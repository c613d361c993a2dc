/-
  The document's answers: decimal, fields, number.
-/
import Derived.Test.YtgibjnfaagnbfadGreatDoorHex
import Derived.Test.YtgibjnfaagnbfadGreatDoorRef
import Derived.Test.YtgibjnfaagnbfadGreatDoorGlue
namespace Go.Proofs.YtgibjnfaagnbfadGreatDoor
open Go.RowKit

set_option maxRecDepth 100000 in
set_option maxHeartbeats 4000000 in
theorem kdecimal_any : ∀ (u : Nat) (w : World), u ≤ 9223372036854775807 → Calls Tryz.prog 22 #[.int .i64 (u : Int)] w fun e w' => e = .returned (.string (bs (Lib.decDigits u))) ∧ Below w.heap.size w w' := by
  intro u
  induction u using Nat.strongRecOn with
  | ind u ih =>
    intro w hu
    rw [Lib.decDigits]
    by_cases h : u < 10
    · rw [dif_pos h]
      have h1 : (u : Int) < 10 := by omega
      obtain ⟨m, hm⟩ : ∃ m : Int, (48 : Int) + u = m := ⟨_, rfl⟩
      have e1 : IntKind.u8.wrap (u : Int) = (u : Int) := by rw [IntKind.wrap_u8]; omega
      have e2 : IntKind.u8.wrap (48 + (u : Int)) = m := by rw [IntKind.wrap_u8]; omega
      have q := conv_ys (ys_one w (UInt8.ofNat (48 + u)) m (by rw [← hm]; simp [UInt8.toNat_ofNat]; omega))
      clear ih hm
      go_enter Tryz.func22, Tryz.ntmps22
      go_wp2_with fail
      go_ret
      exact ⟨by rw [UInt8.ofNat_add]; rfl, balloc _ _⟩
    · rw [dif_neg h]
      have h1 : ¬ (u : Int) < 10 := by omega
      obtain ⟨a, ha⟩ : ∃ a, u / 10 = a := ⟨_, rfl⟩
      obtain ⟨b, hb⟩ : ∃ b, u % 10 = b := ⟨_, rfl⟩
      have HA : Hid (∀ w : World, Calls Tryz.prog 22 #[.int .i64 (a : Int)] w fun e w' => e = .returned (.string (bs (Lib.decDigits a))) ∧ Below w.heap.size w w') := fun w => ih a (by omega) w (by omega)
      have HBb : Hid (∀ w : World, Calls Tryz.prog 22 #[.int .i64 (b : Int)] w fun e w' => e = .returned (.string (bs [UInt8.ofNat (48 + b)])) ∧ Below w.heap.size w w') := fun w => by
        have := ih b (by omega) w (by omega)
        rwa [Lib.decDigits, dif_pos (by omega)] at this
      have e1 : Int.tdiv (u : Int) 10 = (a : Int) := by rw [Int.tdiv_eq_ediv_of_nonneg (by omega)]; omega
      have e2 : Int.tmod (u : Int) 10 = (b : Int) := by rw [Int.tmod_eq_emod_of_nonneg (by omega)]; omega
      have e3 : IntKind.i64.wrap (a : Int) = (a : Int) := by rw [IntKind.wrap_i64]; omega
      have e4 : IntKind.i64.wrap (b : Int) = (b : Int) := by rw [IntKind.wrap_i64]; omega
      rw [ha, hb]
      obtain ⟨X, hX⟩ : ∃ X, Lib.decDigits a = X := ⟨_, rfl⟩
      obtain ⟨Y, hY⟩ : ∃ Y, [UInt8.ofNat (48 + b)] = Y := ⟨_, rfl⟩
      have hl : (bs X).size + (bs Y).size ≤ 9223372036854775807 := by
        have h1 := dec_len 18 a (by have : (10 : Nat) ^ (18 + 1) = 10000000000000000000 := by decide
                                    omega)
        rw [hX] at h1
        have h2 : Y.length = 1 := by rw [← hY]; rfl
        show X.length + Y.length ≤ _
        omega
      rw [hX, hY]
      rw [hX] at HA
      rw [hY] at HBb
      clear ih ha hb hX hY
      go_enter Tryz.func22, Tryz.ntmps22
      go_wp2_with fail
      refine (HA.out _).mono ?_
      rintro e w1 ⟨rfl, hb1⟩
      have HB1 : Hid (Below w.heap.size w w1) := hb1
      clear hb1
      go_wp2_with fail
      refine (HBb.out _).mono ?_
      rintro e w2 ⟨rfl, hb2⟩
      have HB2 : Hid (Below w.heap.size w w2) := bstep HB1.out hb2
      clear hb2
      go_wp2_with fail
      go_ret
      refine ⟨?_, HB2.out⟩
      rw [← bs_app]; rfl

theorem cutAt_len (c : UInt8) : ∀ l : List UInt8, (cutAt c l).length ≤ l.length + 1
  | [] => by simp [cutAt]
  | x :: r => by
    have ih := cutAt_len c r
    rw [cutAt]
    split
    · simp; omega
    · cases hc : cutAt c r with
      | nil => simp
      | cons a t => rw [hc] at ih; simp at ih ⊢; omega

set_option maxHeartbeats 4000000 in
set_option maxRecDepth 100000 in
theorem kfields_any (l : List UInt8) (w : World) (hm : l.length ≤ 1000000000) :
    Calls Tryz.prog 23 #[.string (bs l)] w fun e w' => ∃ v, e = .returned v ∧ Own w.heap.size w' v (cutAt 32 l) ∧ Below w.heap.size w w' := by
  have hz : (bs l).size = l.length := rfl
  obtain ⟨L, hL⟩ : ∃ L, cutAt 32 l = L := ⟨_, rfl⟩
  rw [hL]
  have HL : Hid (cutAt 32 l = L) := hL
  have HN : Hid (L.length ≤ 1000000001) := by
    show _ ≤ _
    rw [← hL]; have := cutAt_len 32 l; omega
  clear hL
  go_enter Tryz.func23, Tryz.ntmps23
  go_wp2_with fail
  go_loopw [3, 4, 5] (fun o f i wr => ∃ (k m : Nat) (D : List (List UInt8)), i = .int .i64 k ∧ f = .int .i64 m ∧ Own w.heap.size wr o D ∧ Below w.heap.size w wr ∧ ((k ≤ l.length ∧ m ≤ k ∧ (32 : UInt8) ∉ (l.drop m).take (k - m) ∧ D ++ cutAt 32 (l.drop m) = L) ∨ (k = l.length + 1 ∧ D = L))) (fun _ _ i _ => l.length + 1 - (intOf i).toNat)
  case atStart => exact ⟨0, 0, [], rfl, rfl, Own.nil _ _, Below.refl _ _, .inl ⟨Nat.zero_le _, Nat.le_refl _, by simp, by simpa using HL.out⟩⟩
  case round =>
    obtain ⟨k, m, D, rfl, rfl, hown, hbw, hor⟩ := hrel
    have HO : Hid (Own w.heap.size wr u3 D) := hown
    have HB : Hid (Below w.heap.size w wr) := hbw
    have hzw := hbw.size
    clear hown hbw
    rcases hor with ⟨hk, hmk, hfr, heq⟩ | ⟨rfl, rfl⟩
    · have hDl : D.length + 1 ≤ 8796093022208 := by
        have h1 := congrArg List.length heq
        have := HN.out
        rw [List.length_append] at h1; omega
      have HE : Hid ((32 : UInt8) ∉ (l.drop m).take (k - m) ∧ D ++ cutAt 32 (l.drop m) = L) := ⟨hfr, heq⟩
      have HX : Hid ((bs l).extract m k = bs ((l.drop m).take (k - m))) := bs_extract l m k
      clear heq hfr
      by_cases hlt : k < l.length
      · have hkz : k < (bs l).size := hlt
        have e0 : ((k : Int) == (l.length : Int)) = false := by rw [beq_eq_false_iff_ne]; omega
        by_cases hc : l[k]'hlt = 32
        · have e1 : (((bs l)[k].toNat : Int) == 32) = true := by rw [bs_get _ _ _ hlt, hc]; rfl
          have HE2 : Hid ((D ++ [(l.drop m).take (k - m)]) ++ cutAt 32 (l.drop (k + 1)) = L) := by
            have h2 := HE.out.2
            have e : l.drop m = (l.drop m).take (k - m) ++ 32 :: l.drop (k + 1) := by
              rw [← hc, ← List.drop_eq_getElem_cons hlt]
              conv => lhs; rw [← List.take_append_drop (k - m) (l.drop m)]
              rw [List.drop_drop, show m + (k - m) = k from by omega]
            rw [e, cutAt_app 32 _ _ HE.out.1] at h2
            show _ = _
            rw [← h2]; simp
          go_wp2_with (at_builtin; rw [HX.out]; refine app_one (base := w.heap.size) ((l.drop m).take (k - m)) HO.out hDl hzw rfl (.tmp 22) (.tmp 27) rfl rfl rfl ?_; intro v' w' ho hbw hbs' hgr hat)
          go_roundw
          case rel => exact ⟨k + 1, k + 1, _, by go_num, by go_num, ho, below_trans HB.out hbw, .inl ⟨by omega, Nat.le_refl _, by simp, HE2.out⟩⟩
          case measure => simp [intOf]; omega
        · have e1 : (((bs l)[k].toNat : Int) == 32) = false := by
            rw [bs_get _ _ _ hlt, beq_eq_false_iff_ne]; intro e; apply hc; apply UInt8.toNat_inj.1; exact Int.ofNat.inj e
          have HE2 : Hid ((32 : UInt8) ∉ (l.drop m).take (k + 1 - m)) := by
            show _ ∉ _
            rw [drop_take_snoc l m k hmk hlt]
            intro h
            rcases List.mem_append.1 h with h | h
            · exact HE.out.1 h
            · exact hc (List.mem_singleton.1 h).symm
          go_wp2_with fail
          go_roundw
          case rel => exact ⟨k + 1, m, D, by go_num, rfl, HO.out, HB.out, .inl ⟨by omega, by omega, HE2.out, HE.out.2⟩⟩
          case measure => simp [intOf]; omega
      · obtain rfl : k = l.length := by omega
        have e0 : ((l.length : Int) == (l.length : Int)) = true := by simp
        have HE2 : Hid (D ++ [(l.drop m).take (l.length - m)] = L) := by
          have h2 := HE.out.2
          have h1 := HE.out.1
          rw [List.take_of_length_le (by simp)] at h1
          rw [cutAt_free 32 _ h1] at h2
          show _ = _
          rw [← h2, List.take_of_length_le (by simp)]
        go_wp2_with (at_builtin; rw [HX.out]; refine app_one (base := w.heap.size) ((l.drop m).take (l.length - m)) HO.out hDl hzw rfl (.tmp 22) (.tmp 27) rfl rfl rfl ?_; intro v' w' ho hbw hbs' hgr hat)
        go_roundw
        case rel => exact ⟨l.length + 1, l.length + 1, _, by go_num, by go_num, ho, below_trans HB.out hbw, .inr ⟨rfl, HE2.out⟩⟩
        case measure => simp [intOf]
    · have h3 : ¬ l.length + 1 ≤ l.length := by omega
      go_wp2_with fail
      go_ret
      exact ⟨_, rfl, HO.out, HB.out⟩
end Go.Proofs.YtgibjnfaagnbfadGreatDoor
