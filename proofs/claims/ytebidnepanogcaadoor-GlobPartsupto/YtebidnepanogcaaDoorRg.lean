/-
  The document's patterns.
-/
import Derived.Test.YtebidnepanogcaaDoorXp
namespace Go.Proofs.YtebidnepanogcaaDoor
open Go.RowKit

theorem count_step {l : List UInt8} {k : Nat} (hk : k < l.length) : (l.take (k + 1)).count 42 = (l.take k).count 42 + (if l[k] = 42 then 1 else 0) := by
  rw [List.take_succ_eq_append_getElem hk, List.count_append]
  by_cases h : l[k] = 42 <;> simp [h]
theorem all_stepB {l : List UInt8} {k : Nat} (hk : k < l.length) (f : UInt8 → Bool) : (l.take (k + 1)).all f = ((l.take k).all f && f l[k]) := by
  rw [List.take_succ_eq_append_getElem hk, List.all_append]; simp
theorem all_false_of {l : List UInt8} {k : Nat} (hk : k < l.length) (f : UInt8 → Bool) (h : f l[k] = false) : l.all f = false := by
  rw [Bool.eq_false_iff]; intro ha
  have := List.all_eq_true.1 ha l[k] (List.getElem_mem hk)
  rw [h] at this; cases this
theorem ib_range (l : List UInt8) : Lib.indexByte l 42 = -1 ∨ (0 ≤ Lib.indexByte l 42 ∧ Lib.indexByte l 42 < l.length) := by
  rcases cut_split 42 l.length l (Nat.le_refl _) with h1 | ⟨a, b, rfl, h1⟩
  · exact .inl (ib_none 42 l h1)
  · rw [ib_app 42 a b h1]; right; simp; omega
theorem ib_snoc (a : List UInt8) (c : UInt8) : Lib.indexByte (a ++ [c]) 42 = if 0 ≤ Lib.indexByte a 42 then Lib.indexByte a 42 else if c = 42 then (a.length : Int) else -1 := by
  rcases cut_split 42 a.length a (Nat.le_refl _) with h1 | ⟨x, b, rfl, h1⟩
  · rw [ib_none 42 a h1, if_neg (by decide)]
    by_cases hc : c = 42
    · subst hc; rw [if_pos rfl, ib_app 42 a [] h1]
    · rw [if_neg hc, ib_none]
      simp [h1, Ne.symm hc]
  · rw [List.append_assoc, List.cons_append, ib_app 42 x _ h1, ib_app 42 x b h1, if_pos (by omega)]
theorem ib_step {l : List UInt8} {k : Nat} (hk : k < l.length) : Lib.indexByte (l.take (k + 1)) 42 = if 0 ≤ Lib.indexByte (l.take k) 42 then Lib.indexByte (l.take k) 42 else if l[k] = 42 then (k : Int) else -1 := by
  rw [List.take_succ_eq_append_getElem hk, ib_snoc, List.length_take, Nat.min_eq_left (by omega)]

set_option maxHeartbeats 2000000 in
theorem rstars_any (l : List UInt8) (w : World) (hl : l.length ≤ 1000000000) :
    Calls Tryd.prog 39 #[.string (bs l)] w fun e w' => e = .returned (.tuple #[.int .i64 (l.count 42 : Nat), .int .i64 (Lib.indexByte l 42)]) ∧ w' = w := by
  have hz : (bs l).size = l.length := rfl
  obtain ⟨R, hR⟩ : ∃ R, Value.tuple #[.int .i64 (l.count 42 : Nat), .int .i64 (Lib.indexByte l 42)] = R := ⟨_, rfl⟩
  rw [hR]
  have HR : Hid (Value.tuple #[.int .i64 (l.count 42 : Nat), .int .i64 (Lib.indexByte l 42)] = R) := hR
  clear hR
  go_enter Tryd.func39, Tryd.ntmps39
  go_wp2_with fail
  go_loop [4, 5, 6] (fun c t i => ∃ k : Nat, k ≤ l.length ∧ i = .int .i64 k ∧ c = .int .i64 ((l.take k).count 42 : Nat) ∧ t = .int .i64 (Lib.indexByte (l.take k) 42)) (fun _ _ i => l.length - (intOf i).toNat)
  case atStart => exact ⟨0, Nat.zero_le _, rfl, rfl, rfl⟩
  case round =>
    obtain ⟨k, hk, rfl, rfl, rfl⟩ := hrel
    have hcl : (l.take k).count 42 ≤ k := Nat.le_trans List.count_le_length (by simp; omega)
    have hr := ib_range (l.take k)
    have hrl : (l.take k).length ≤ k := by simp; omega
    by_cases hlt : k < l.length
    · have i1 : (0 : Int) ≤ (k : Int) := by omega
      have i2 : (k : Int) < (l.length : Int) := by omega
      have hkz : k < (bs l).size := hlt
      have hbk : (bs l)[k]'hkz = l[k] := bs_get _ _ _ hlt
      have HC1 := count_step hlt
      have HI1 := ib_step hlt
      have HC : Hid ((l.take (k + 1)).count 42 = (l.take k).count 42 + (if l[k] = 42 then 1 else 0)) := HC1
      have HI : Hid (Lib.indexByte (l.take (k + 1)) 42 = if 0 ≤ Lib.indexByte (l.take k) 42 then Lib.indexByte (l.take k) 42 else if l[k] = 42 then (k : Int) else -1) := HI1
      clear HC1 HI1
      generalize (l.take k).count 42 = n0 at *
      generalize Lib.indexByte (l.take k) 42 = t0 at *
      by_cases h42 : l[k] = 42
      · have q1 : ((((bs l)[k]'hkz).toNat : Int) == 42) = true := by rw [hbk, h42]; rfl
        have HC2 : Hid ((l.take (k + 1)).count 42 = n0 + 1) := by show _ = _; rw [HC.out, if_pos h42]
        by_cases ht : t0 < 0
        · have HI2 : Hid (Lib.indexByte (l.take (k + 1)) 42 = (k : Int)) := by show _ = _; rw [HI.out, if_neg (by omega), if_pos h42]
          clear h42 hbk HC HI hr
          go_wp2_with fail
          go_round
          case rel => exact ⟨k + 1, hlt, rfl, by rw [HC2.out]; rfl, by rw [HI2.out]⟩
          case measure => simp only [intOf]; omega
        · have HI2 : Hid (Lib.indexByte (l.take (k + 1)) 42 = t0) := by show _ = _; rw [HI.out, if_pos (by omega)]
          clear h42 hbk HC HI hr
          go_wp2_with fail
          go_round
          case rel => exact ⟨k + 1, hlt, rfl, by rw [HC2.out]; rfl, by rw [HI2.out]⟩
          case measure => simp only [intOf]; omega
      · have q1 : ((((bs l)[k]'hkz).toNat : Int) == 42) = false := by
          rw [hbk, beq_eq_false_iff_ne]; intro e; apply h42; apply UInt8.toNat_inj.1; exact Int.ofNat.inj e
        have HC2 : Hid ((l.take (k + 1)).count 42 = n0) := by show _ = _; rw [HC.out, if_neg h42]; rfl
        have HI2 : Hid (Lib.indexByte (l.take (k + 1)) 42 = t0) := by
          show _ = _
          rw [HI.out, if_neg h42]
          rcases hr with h | h
          · rw [h]; rfl
          · rw [if_pos h.1]
        clear h42 hbk HC HI hr
        go_wp2_with fail
        go_round
        case rel => exact ⟨k + 1, hlt, rfl, by rw [HC2.out], by rw [HI2.out]⟩
        case measure => simp only [intOf]; omega
    · obtain rfl : k = l.length := by omega
      rw [List.take_length] at *
      clear hcl hr
      go_wp2_with fail
      go_ret2
      exact ⟨by rw [← HR.out]; rfl, rfl⟩

set_option maxHeartbeats 2000000 in
theorem rpat_any (l : List UInt8) (w : World) (hl : l.length ≤ 1000000000) :
    Calls Tryd.prog 35 #[.string (bs l)] w fun e w' => e = .returned (.bool (patP l)) ∧ w' = w := by
  have hz : (bs l).size = l.length := rfl
  have HS : Hid (∀ w : World, Calls Tryd.prog 39 #[.string (bs l)] w fun e w' => e = .returned (.tuple #[.int .i64 (l.count 42 : Nat), .int .i64 (Lib.indexByte l 42)]) ∧ w' = w) := fun w => rstars_any l w hl
  have HBy : Hid (∀ (c : UInt8) (W : World), Calls Tryd.prog 49 #[.int .u8 c.toNat] W fun e w' => e = .returned (.bool (okB c)) ∧ w' = W) := fun c W => rbyte_any c W
  rw [pat_eq]
  obtain ⟨R, hR⟩ : ∃ R, rPat l = R := ⟨_, rfl⟩
  rw [hR]
  have HR : Hid ((decide (l.count 42 = 1) && decide (l.length ≤ 32) && l.all gB) = R) := hR
  clear hR
  generalize Lib.indexByte l 42 = t0 at *
  have hcl : l.count 42 ≤ l.length := List.count_le_length
  by_cases hc1 : l.count 42 = 1
  rotate_left
  · obtain rfl : R = false := by rw [← HR.out, decide_eq_false hc1]; rfl
    generalize l.count 42 = nc at *
    have q1 : (((nc : Nat) : Int) != 1) = true := by simp; omega
    have q2 : (((nc : Nat) : Int) == 1) = false := by simp; omega
    clear hc1 HR
    go_enter Tryd.func35, Tryd.ntmps35
    go_wp2_with fail
    refine (HS.out _).mono ?_
    rintro e w1 ⟨rfl, rfl⟩
    go_wp2_with fail
    go_ret
    exact ⟨rfl, rfl⟩
  rw [hc1] at HS
  by_cases hl32 : l.length ≤ 32
  rotate_left
  · obtain rfl : R = false := by rw [← HR.out, decide_eq_false hl32]; simp
    have q1 : (32 : Int) < (l.length : Int) := by omega
    clear hl32 HR hc1 hcl
    go_enter Tryd.func35, Tryd.ntmps35
    go_wp2_with fail
    refine (HS.out _).mono ?_
    rintro e w1 ⟨rfl, rfl⟩
    go_wp2_with fail
    go_ret
    exact ⟨rfl, rfl⟩
  have q1 : ¬ (32 : Int) < (l.length : Int) := by omega
  have HR2 : Hid (l.all gB = R) := by show _ = _; rw [← HR.out, decide_eq_true hc1, decide_eq_true hl32]; simp
  clear hl32 HR hc1 hcl
  go_enter Tryd.func35, Tryd.ntmps35
  go_wp2_with fail
  refine (HS.out _).mono ?_
  rintro e w1 ⟨rfl, hw1⟩
  obtain rfl : w = w1 := hw1.symm
  go_wp2_with fail
  go_loop [5] (fun i => ∃ k : Nat, k ≤ l.length ∧ i = .int .i64 k ∧ (l.take k).all gB = true) (fun i => l.length - (intOf i).toNat)
  case atStart => exact ⟨0, Nat.zero_le _, rfl, rfl⟩
  case round =>
    obtain ⟨k, hk, rfl, hall⟩ := hrel
    have HA : Hid ((l.take k).all gB = true) := hall
    clear hall
    by_cases hlt : k < l.length
    · have i1 : (0 : Int) ≤ (k : Int) := by omega
      have i2 : (k : Int) < (l.length : Int) := by omega
      have hkz : k < (bs l).size := hlt
      have hbk : (bs l)[k]'hkz = l[k] := bs_get _ _ _ hlt
      have HS1 : Hid ((l.take (k + 1)).all gB = ((l.take k).all gB && gB l[k])) := all_stepB hlt gB
      by_cases h42 : l[k] = 42
      · have q1 : ((((bs l)[k]'hkz).toNat : Int) == 42) = true := by rw [hbk, h42]; rfl
        have q2 : ((((bs l)[k]'hkz).toNat : Int) != 42) = false := by rw [hbk, h42]; rfl
        have HS2 : Hid ((l.take (k + 1)).all gB = true) := by
          show _ = true
          rw [HS1.out, HA.out, h42]; rfl
        clear h42 hbk HS1
        go_wp2_with fail
        go_round
        case rel => exact ⟨k + 1, hlt, rfl, HS2.out⟩
        case measure => simp only [intOf]; omega
      · have q1 : ((((bs l)[k]'hkz).toNat : Int) == 42) = false := by
          rw [hbk, beq_eq_false_iff_ne]; intro e; apply h42; apply UInt8.toNat_inj.1; exact Int.ofNat.inj e
        have q2 : ((((bs l)[k]'hkz).toNat : Int) != 42) = true := by
          rw [bne, q1]; rfl
        have HBk : Hid (∀ W : World, Calls Tryd.prog 49 #[.int .u8 ((bs l)[k]'hkz).toNat] W fun e w' => e = .returned (.bool (okB l[k])) ∧ w' = W) := fun W => by rw [hbk]; exact HBy.out l[k] W
        have hg : gB l[k] = okB l[k] := by simp [gB, h42]
        cases ho : okB l[k]
        · obtain rfl : R = false := by
            rw [← HR2.out, all_false_of hlt gB (hg.trans ho)]
          rw [ho] at HBk
          clear h42 hbk HS1 hg ho HR2
          go_wp2_with fail
          refine (HBk.out _).mono ?_
          rintro e w3 ⟨rfl, rfl⟩
          go_wp2_with fail
          go_ret
          exact ⟨rfl, rfl⟩
        · have HS2 : Hid ((l.take (k + 1)).all gB = true) := by
            show _ = true
            rw [HS1.out, HA.out, hg, ho]; rfl
          rw [ho] at HBk
          clear h42 hbk HS1 hg ho
          go_wp2_with fail
          refine (HBk.out _).mono ?_
          rintro e w3 ⟨rfl, hw3⟩
          obtain rfl : w = w3 := hw3.symm
          go_wp2_with fail
          go_round
          case rel => exact ⟨k + 1, hlt, rfl, HS2.out⟩
          case measure => simp only [intOf]; omega
    · obtain rfl : k = l.length := by omega
      obtain rfl : R = true := by
        have ha := HA.out
        rw [List.take_length] at ha
        rw [← HR2.out, ha]
      go_wp2_with fail
      go_ret
      exact ⟨rfl, rfl⟩
end Go.Proofs.YtebidnepanogcaaDoor
