/-
  The program's walk over a text: the line's end, what is passed over, the token's end, the tokens.
-/
import Derived.Test.YtclpbhoopmdojaaRow
namespace Go.Proofs.Ytclpbhoopmdojaa
open Go.RowKit

theorem idx_cl : ∀ r : List UInt8, (Lib.indexByte r 10 = -1 ∧ cl r = r.length) ∨ (Lib.indexByte r 10 = (cl r : Int) ∧ cl r < r.length)
  | [] => .inl ⟨rfl, rfl⟩
  | c :: r => by
    rw [Lib.indexByte, cl]
    by_cases h : (c == 10) = true
    · rw [if_pos h, if_pos h]; exact .inr ⟨rfl, by simp⟩
    · rw [if_neg h, if_neg h]
      rcases idx_cl r with ⟨h1, h2⟩ | ⟨h1, h2⟩
      · rw [h1]; exact .inl ⟨by simp, by simp; omega⟩
      · rw [h1]
        have e : (((cl r : Int)) == -1) = false := by rw [beq_eq_false_iff_ne]; omega
        rw [e]
        exact .inr ⟨by simp; omega, by simp; omega⟩
theorem drop_lt {α : Type} {l : List α} {k : Nat} (h : k < l.length) : l.drop k = l[k] :: l.drop (k + 1) := List.drop_eq_getElem_cons h

set_option maxHeartbeats 1000000 in
theorem lineEnd_any (l : List UInt8) (n : Nat) (w : World) (hn : n ≤ l.length) (hl : l.length ≤ 1000000000) :
    Calls Try.prog 18 #[.string (bs l), .int .i64 n] w fun e w' => e = .returned (.int .i64 ((n + cl (l.drop n) : Nat) : Int)) ∧ w' = w := by
  have hz : (bs l).size = l.length := rfl
  have HE : Hid ((bs l).extract n l.length = bs (l.drop n)) := by
    show (bs l).extract n l.length = bs (l.drop n)
    rw [bs_extract, List.take_of_length_le (by simp)]
  have n1 : (0 : Int) ≤ (n : Int) := by omega
  have n2 : (n : Int) ≤ (l.length : Int) := by omega
  have HI : Hid (∀ w : World, Calls Try.prog 20 #[.string (bs (l.drop n)), .int .u8 10] w fun e w' => e = .returned (.int .i64 (Lib.indexByte (l.drop n) 10)) ∧ w' = w) := fun w => indexByte_any (l.drop n) 10 w
  have hc := idx_cl (l.drop n)
  rw [List.length_drop] at hc
  generalize cl (l.drop n) = m at *
  generalize Lib.indexByte (l.drop n) 10 = y at *
  rcases hc with ⟨rfl, hm⟩ | ⟨rfl, hm⟩
  · have e1 : n + m = l.length := by omega
    rw [e1]
    clear e1 hm
    go_enter Try.func18, Try.ntmps18
    go_wp2_with fail
    rw [HE.out]
    refine (HI.out _).mono ?_
    rintro e w1 ⟨rfl, rfl⟩
    go_wp2_with fail
    go_ret
    exact ⟨rfl, rfl⟩
  · have m1 : n + m < l.length := by omega
    clear hm
    go_enter Try.func18, Try.ntmps18
    go_wp2_with fail
    rw [HE.out]
    refine (HI.out _).mono ?_
    rintro e w1 ⟨rfl, rfl⟩
    go_wp2_with fail
    go_ret
    exact ⟨by go_num, rfl⟩

theorem gp_at {l : List UInt8} {k : Nat} (h : k < l.length) (hc : l[k] = 35) : k + gp false (l.drop k) = (k + cl (l.drop k)) + gp false (l.drop (k + cl (l.drop k))) ∧ 0 < cl (l.drop k) ∧ k + cl (l.drop k) ≤ l.length := by
  have hle := cl_le (l.drop k)
  have e1 : gp false (l.drop k) = gp true (l.drop k) := by
    rw [drop_lt h, hc, gp, gp, if_pos (by decide)]; rfl
  have e2 : 0 < cl (l.drop k) := by
    rw [drop_lt h, hc, cl, if_neg (by decide)]; omega
  refine ⟨?_, e2, by rw [List.length_drop] at hle; omega⟩
  rw [e1, gp_true, List.drop_drop]; omega

set_option maxHeartbeats 4000000 in
theorem pass_any (l : List UInt8) (n : Nat) (w : World) (hn : n ≤ l.length) (hl : l.length ≤ 1000000000) :
    Calls Try.prog 13 #[.string (bs l), .int .i64 n] w fun e w' => e = .returned (.int .i64 ((n + gp false (l.drop n) : Nat) : Int)) ∧ w' = w := by
  have hz : (bs l).size = l.length := rfl
  obtain ⟨R, hR⟩ : ∃ R, n + gp false (l.drop n) = R := ⟨_, rfl⟩
  rw [hR]
  have HR : Hid (n + gp false (l.drop n) = R) := hR
  have HN : Hid (n ≤ l.length) := hn
  clear hR hn
  go_enter Try.func13, Try.ntmps13
  go_wp2_with fail
  go_loop [1] (fun s => ∃ k : Nat, k ≤ l.length ∧ s = .int .i64 k ∧ k + gp false (l.drop k) = R) (fun s => l.length - (intOf s).toNat)
  case atStart => exact ⟨n, HN.out, rfl, HR.out⟩
  case round =>
    clear HR HN
    obtain ⟨k, hk, rfl, hr⟩ := hrel
    have HR : Hid (k + gp false (l.drop k) = R) := hr
    clear hr
    by_cases hlt : k < l.length
    · have k1 : (0 : Int) ≤ (k : Int) := by omega
      have k2 : (k : Int) < (l.length : Int) := by omega
      by_cases h9 : l[k] = 9
      · have f9 : ((((bs l)[k]'(show k < (bs l).size from hlt)).toNat : Int) == 9) = true := at_eq hlt h9
        have HG : Hid (k + 1 + gp false (l.drop (k + 1)) = R) := by
          have := HR.out
          rw [drop_lt hlt, gp_blank (by rw [h9]; decide)] at this
          show _ = _
          omega
        go_wp2_with fail
        go_round
        case rel => exact ⟨k + 1, by omega, by go_num, HG.out⟩
        case measure => simp [intOf]; omega
      have f9 : ((((bs l)[k]'(show k < (bs l).size from hlt)).toNat : Int) == 9) = false := at_ne hlt h9
      by_cases h10 : l[k] = 10
      · have f10 : ((((bs l)[k]'(show k < (bs l).size from hlt)).toNat : Int) == 10) = true := at_eq hlt h10
        have HG : Hid (k + 1 + gp false (l.drop (k + 1)) = R) := by
          have := HR.out
          rw [drop_lt hlt, gp_blank (by rw [h10]; decide)] at this
          show _ = _
          omega
        go_wp2_with fail
        go_round
        case rel => exact ⟨k + 1, by omega, by go_num, HG.out⟩
        case measure => simp [intOf]; omega
      have f10 : ((((bs l)[k]'(show k < (bs l).size from hlt)).toNat : Int) == 10) = false := at_ne hlt h10
      by_cases h13 : l[k] = 13
      · have f13 : ((((bs l)[k]'(show k < (bs l).size from hlt)).toNat : Int) == 13) = true := at_eq hlt h13
        have HG : Hid (k + 1 + gp false (l.drop (k + 1)) = R) := by
          have := HR.out
          rw [drop_lt hlt, gp_blank (by rw [h13]; decide)] at this
          show _ = _
          omega
        go_wp2_with fail
        go_round
        case rel => exact ⟨k + 1, by omega, by go_num, HG.out⟩
        case measure => simp [intOf]; omega
      have f13 : ((((bs l)[k]'(show k < (bs l).size from hlt)).toNat : Int) == 13) = false := at_ne hlt h13
      by_cases h32 : l[k] = 32
      · have f32 : ((((bs l)[k]'(show k < (bs l).size from hlt)).toNat : Int) == 32) = true := at_eq hlt h32
        have HG : Hid (k + 1 + gp false (l.drop (k + 1)) = R) := by
          have := HR.out
          rw [drop_lt hlt, gp_blank (by rw [h32]; decide)] at this
          show _ = _
          omega
        go_wp2_with fail
        go_round
        case rel => exact ⟨k + 1, by omega, by go_num, HG.out⟩
        case measure => simp [intOf]; omega
      have f32 : ((((bs l)[k]'(show k < (bs l).size from hlt)).toNat : Int) == 32) = false := at_ne hlt h32
      by_cases h35 : l[k] = 35
      · have f35 : ((((bs l)[k]'(show k < (bs l).size from hlt)).toNat : Int) == 35) = true := at_eq hlt h35
        obtain ⟨g1, g2, g3⟩ := gp_at hlt h35
        have HG : Hid ((k + cl (l.drop k)) + gp false (l.drop (k + cl (l.drop k))) = R ∧ k < k + cl (l.drop k) ∧ k + cl (l.drop k) ≤ l.length) := ⟨g1.symm.trans HR.out, by omega, g3⟩
        have HC : Hid (∀ w : World, Calls Try.prog 18 #[.string (bs l), .int .i64 k] w fun e w' => e = .returned (.int .i64 ((k + cl (l.drop k) : Nat) : Int)) ∧ w' = w) := fun w => lineEnd_any l k w hk hl
        generalize k + cl (l.drop k) = j at *
        clear g1 g2 g3
        go_wp2_with fail
        refine (HC.out _).mono ?_
        rintro e w1 ⟨rfl, rfl⟩
        go_wp2_with fail
        go_round
        case rel => exact ⟨j, HG.out.2.2, rfl, HG.out.1⟩
        case measure => have := HG.out; simp [intOf]; omega
      have f35 : ((((bs l)[k]'(show k < (bs l).size from hlt)).toNat : Int) == 35) = false := at_ne hlt h35
      have HG : Hid (k = R) := by
        have := HR.out
        rw [drop_lt hlt, gp_other h35 (by simp [isB, h9, h10, h13, h32])] at this
        exact this
      go_wp2_with fail
      go_ret
      exact ⟨by rw [← HG.out]; rfl, rfl⟩
    · obtain rfl : k = l.length := by omega
      have HG : Hid (l.length = R) := by
        have := HR.out
        rw [List.drop_length] at this
        exact this
      go_wp2_with fail
      go_ret
      exact ⟨by rw [← HG.out]; rfl, rfl⟩

set_option maxHeartbeats 4000000 in
theorem behind_any (l : List UInt8) (n : Nat) (w : World) (hn : n < l.length) (hl : l.length ≤ 1000000000) (_hk : kd l[n] ≠ 0) :
    Calls Try.prog 15 #[.string (bs l), .int .i64 n, .int .i64 (kd l[n] : Nat)] w fun e w' => e = .returned (.int .i64 ((n + 1 + tl l[n] (l.drop (n + 1)) : Nat) : Int)) ∧ w' = w := by
  have hz : (bs l).size = l.length := rfl
  unfold tl
  cases hw : inW l[n]
  · have hk1 : (((kd l[n] : Nat) : Int) == 1) = false := by
      rw [beq_eq_false_iff_ne]
      unfold kd
      rw [hw]
      have : mkd l[n] ≠ 1 := u8_all (P := fun c => mkd c ≠ 1) (by decide +kernel) _
      simp; omega
    generalize kd l[n] = m at *
    simp only [Bool.false_eq_true, if_false, Nat.add_zero]
    clear hw
    go_enter Try.func15, Try.ntmps15
    go_wp2_with fail
    go_loop [1] (fun s => s = .int .i64 ((n + 1 : Nat) : Int)) (fun _ => 0)
    case atStart => rfl
    case round =>
      subst hrel
      go_wp2_with fail
      go_ret
      exact ⟨rfl, rfl⟩
  · rw [kd_word hw]
    simp only [if_true]
    show Calls Try.prog 15 #[.string (bs l), .int .i64 n, .int .i64 1] w _
    obtain ⟨R, hR⟩ : ∃ R, n + 1 + wl (l.drop (n + 1)) = R := ⟨_, rfl⟩
    rw [hR]
    have HR : Hid (n + 1 + wl (l.drop (n + 1)) = R) := hR
    clear hR hw
    go_enter Try.func15, Try.ntmps15
    go_wp2_with fail
    go_loop [1] (fun s => ∃ k : Nat, k ≤ l.length ∧ s = .int .i64 k ∧ k + wl (l.drop k) = R) (fun s => l.length - (intOf s).toNat)
    case atStart => exact ⟨n + 1, hn, by go_num, HR.out⟩
    case round =>
      clear HR
      obtain ⟨k, hk, rfl, hr⟩ := hrel
      have HR : Hid (k + wl (l.drop k) = R) := hr
      clear hr
      by_cases hlt : k < l.length
      · have k1 : (0 : Int) ≤ (k : Int) := by omega
        have k2 : (k : Int) < (l.length : Int) := by omega
        have HC : Hid (∀ w : World, Calls Try.prog 19 #[.int .u8 l[k].toNat] w fun e w' => e = .returned (.bool (inW l[k])) ∧ w' = w) := fun w => inWord_any _ w
        have hd := drop_lt hlt
        cases hi : inW l[k]
        · rw [hi] at HC
          have HG : Hid (k = R) := by
            have := HR.out
            rw [hd, wl, hi] at this
            show k = R
            simpa using this
          clear hd hi
          go_wp2_with fail
          refine (HC.out _).mono ?_
          rintro e w1 ⟨rfl, rfl⟩
          go_wp2_with fail
          go_ret
          exact ⟨by rw [← HG.out]; rfl, rfl⟩
        · rw [hi] at HC
          have HG : Hid (k + 1 + wl (l.drop (k + 1)) = R) := by
            have := HR.out
            rw [hd, wl, hi, if_pos rfl] at this
            show _ = _
            omega
          clear hd hi
          go_wp2_with fail
          refine (HC.out _).mono ?_
          rintro e w1 ⟨rfl, rfl⟩
          go_wp2_with fail
          go_round
          case rel => exact ⟨k + 1, by omega, by go_num, HG.out⟩
          case measure => simp [intOf]; omega
      · obtain rfl : k = l.length := by omega
        have HG : Hid (l.length = R) := by
          have := HR.out
          rw [List.drop_length] at this
          exact this
        go_wp2_with fail
        go_ret
        exact ⟨by rw [← HG.out]; rfl, rfl⟩
end Go.Proofs.Ytclpbhoopmdojaa
