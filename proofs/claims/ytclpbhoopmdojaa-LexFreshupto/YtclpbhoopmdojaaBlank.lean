/-
  A stretch of blanks and comments.
-/
import Derived.Test.YtclpbhoopmdojaaKnown
import Derived.Test.YtclpbhoopmdojaaPure2
namespace Go.Proofs.Ytclpbhoopmdojaa
open Go.RowKit

set_option maxRecDepth 100000 in
set_option maxHeartbeats 4000000 in
theorem blank_any (l : List UInt8) (w : World) (hl : l.length ≤ 1000000000) :
    Calls Try.prog 9 #[.string (bs l)] w fun e w' => e = .returned (.tuple #[.bool (blk false l).1, .bool (blk false l).2]) ∧ w' = w := by
  have hz : (bs l).size = l.length := rfl
  obtain ⟨R, hR⟩ : ∃ R, blk false l = R := ⟨_, rfl⟩
  rw [hR]
  have HR : Hid (blk false (l.drop 0) = R) := hR
  clear hR
  obtain ⟨R1, R2⟩ := R
  go_enter Try.func9, Try.ntmps9
  go_wp2_with fail
  go_loop [4, 5] (fun v s => ∃ (k : Nat) (cm : Bool), k ≤ l.length ∧ v = .bool cm ∧ s = .int .i64 k ∧ blk cm (l.drop k) = (R1, R2)) (fun _ s => l.length - (intOf s).toNat)
  case atStart => exact ⟨0, false, by omega, rfl, rfl, HR.out⟩
  case round =>
    obtain ⟨k, cm, hk, rfl, rfl, hr⟩ := hrel
    clear HR
    have HR : Hid (blk cm (l.drop k) = (R1, R2)) := hr
    clear hr
    by_cases hlt : k < l.length
    · have k1 : (0 : Int) ≤ (k : Int) := by omega
      have k2 : (k : Int) < (l.length : Int) := by omega
      cases cm
      · by_cases h35 : l[k] = 35
        · have f35 : ((((bs l)[k]'(show k < (bs l).size from hlt)).toNat : Int) == 35) = true := at_eq hlt h35
          have b35 : ((((bs l)[k]'(show k < (bs l).size from hlt)).toNat : Int) != 35) = false := by rw [bne, f35]; rfl
          have HG : Hid (blk true (l.drop (k + 1)) = (R1, R2)) := by
            have := HR.out
            rw [drop_lt hlt, blk] at this
            rw [h35, if_pos (by decide)] at this
            exact this
          go_wp2_with fail
          go_round
          case rel => exact ⟨k + 1, true, by omega, rfl, by go_num, HG.out⟩
          case measure => simp [intOf]; omega
        have f35 : ((((bs l)[k]'(show k < (bs l).size from hlt)).toNat : Int) == 35) = false := at_ne hlt h35
        have b35 : ((((bs l)[k]'(show k < (bs l).size from hlt)).toNat : Int) != 35) = true := by rw [bne, f35]; rfl
        by_cases h9 : l[k] = 9
        · have f9 : ((((bs l)[k]'(show k < (bs l).size from hlt)).toNat : Int) == 9) = true := at_eq hlt h9
          have b9 : ((((bs l)[k]'(show k < (bs l).size from hlt)).toNat : Int) != 9) = false := by rw [bne, f9]; rfl
          have HG : Hid (blk false (l.drop (k + 1)) = (R1, R2)) := by
            have := HR.out
            rw [drop_lt hlt, blk] at this
            rw [h9, if_neg (by decide), if_pos (by decide)] at this
            exact this
          go_wp2_with fail
          go_round
          case rel => exact ⟨k + 1, false, by omega, rfl, by go_num, HG.out⟩
          case measure => simp [intOf]; omega
        have f9 : ((((bs l)[k]'(show k < (bs l).size from hlt)).toNat : Int) == 9) = false := at_ne hlt h9
        have b9 : ((((bs l)[k]'(show k < (bs l).size from hlt)).toNat : Int) != 9) = true := by rw [bne, f9]; rfl
        by_cases h10 : l[k] = 10
        · have f10 : ((((bs l)[k]'(show k < (bs l).size from hlt)).toNat : Int) == 10) = true := at_eq hlt h10
          have b10 : ((((bs l)[k]'(show k < (bs l).size from hlt)).toNat : Int) != 10) = false := by rw [bne, f10]; rfl
          have HG : Hid (blk false (l.drop (k + 1)) = (R1, R2)) := by
            have := HR.out
            rw [drop_lt hlt, blk] at this
            rw [h10, if_neg (by decide), if_pos (by decide)] at this
            exact this
          go_wp2_with fail
          go_round
          case rel => exact ⟨k + 1, false, by omega, rfl, by go_num, HG.out⟩
          case measure => simp [intOf]; omega
        have f10 : ((((bs l)[k]'(show k < (bs l).size from hlt)).toNat : Int) == 10) = false := at_ne hlt h10
        have b10 : ((((bs l)[k]'(show k < (bs l).size from hlt)).toNat : Int) != 10) = true := by rw [bne, f10]; rfl
        by_cases h13 : l[k] = 13
        · have f13 : ((((bs l)[k]'(show k < (bs l).size from hlt)).toNat : Int) == 13) = true := at_eq hlt h13
          have b13 : ((((bs l)[k]'(show k < (bs l).size from hlt)).toNat : Int) != 13) = false := by rw [bne, f13]; rfl
          have HG : Hid (blk false (l.drop (k + 1)) = (R1, R2)) := by
            have := HR.out
            rw [drop_lt hlt, blk] at this
            rw [h13, if_neg (by decide), if_pos (by decide)] at this
            exact this
          go_wp2_with fail
          go_round
          case rel => exact ⟨k + 1, false, by omega, rfl, by go_num, HG.out⟩
          case measure => simp [intOf]; omega
        have f13 : ((((bs l)[k]'(show k < (bs l).size from hlt)).toNat : Int) == 13) = false := at_ne hlt h13
        have b13 : ((((bs l)[k]'(show k < (bs l).size from hlt)).toNat : Int) != 13) = true := by rw [bne, f13]; rfl
        by_cases h32 : l[k] = 32
        · have f32 : ((((bs l)[k]'(show k < (bs l).size from hlt)).toNat : Int) == 32) = true := at_eq hlt h32
          have b32 : ((((bs l)[k]'(show k < (bs l).size from hlt)).toNat : Int) != 32) = false := by rw [bne, f32]; rfl
          have HG : Hid (blk false (l.drop (k + 1)) = (R1, R2)) := by
            have := HR.out
            rw [drop_lt hlt, blk] at this
            rw [h32, if_neg (by decide), if_pos (by decide)] at this
            exact this
          go_wp2_with fail
          go_round
          case rel => exact ⟨k + 1, false, by omega, rfl, by go_num, HG.out⟩
          case measure => simp [intOf]; omega
        have f32 : ((((bs l)[k]'(show k < (bs l).size from hlt)).toNat : Int) == 32) = false := at_ne hlt h32
        have b32 : ((((bs l)[k]'(show k < (bs l).size from hlt)).toNat : Int) != 32) = true := by rw [bne, f32]; rfl
        have HG : Hid (false = R1 ∧ false = R2) := by
          have := HR.out
          rw [drop_lt hlt, blk, if_neg (by simpa using h35), if_neg (by simp [isB, h9, h10, h13, h32])] at this
          exact ⟨congrArg Prod.fst this, congrArg Prod.snd this⟩
        go_wp2_with fail
        go_ret2
        exact ⟨by rw [← HG.out.1, ← HG.out.2]; rfl, rfl⟩
      · by_cases h10 : l[k] = 10
        · have f10 : ((((bs l)[k]'(show k < (bs l).size from hlt)).toNat : Int) == 10) = true := at_eq hlt h10
          have b10 : ((((bs l)[k]'(show k < (bs l).size from hlt)).toNat : Int) != 10) = false := by rw [bne, f10]; rfl
          have HG : Hid (blk false (l.drop (k + 1)) = (R1, R2)) := by
            have := HR.out
            rw [drop_lt hlt, blk] at this
            rw [h10] at this
            exact this
          go_wp2_with fail
          go_round
          case rel => exact ⟨k + 1, false, by omega, rfl, by go_num, HG.out⟩
          case measure => simp [intOf]; omega
        have f10 : ((((bs l)[k]'(show k < (bs l).size from hlt)).toNat : Int) == 10) = false := at_ne hlt h10
        have b10 : ((((bs l)[k]'(show k < (bs l).size from hlt)).toNat : Int) != 10) = true := by rw [bne, f10]; rfl
        have HG : Hid (blk true (l.drop (k + 1)) = (R1, R2)) := by
          have := HR.out
          rw [drop_lt hlt, blk] at this
          rw [show (l[k] != 10) = true by simpa using h10] at this
          exact this
        go_wp2_with fail
        go_round
        case rel => exact ⟨k + 1, true, by omega, rfl, by go_num, HG.out⟩
        case measure => simp [intOf]; omega
    · obtain rfl : k = l.length := by omega
      have HG : Hid (true = R1 ∧ cm = R2) := by
        have := HR.out
        rw [List.drop_length] at this
        have e : blk cm [] = (true, cm) := by cases cm <;> rfl
        rw [e] at this
        exact ⟨congrArg Prod.fst this, congrArg Prod.snd this⟩
      go_wp2_with fail
      go_ret2
      exact ⟨by rw [← HG.out.1, ← HG.out.2]; rfl, rfl⟩
end Go.Proofs.Ytclpbhoopmdojaa
