import Derived.Test.YtpaohkegekhgdacWalk
import Derived.Test.YtpaohkegekhgdacOrd
namespace Go.Proofs.Ytpaohkegekhgdac
open Go.RowKit

set_option maxHeartbeats 1000000 in
theorem cmp_any (a b : List UInt8) (w : World) (ha : a.length ≤ 9223372036854775807) (hb : b.length ≤ 9223372036854775807) :
    Calls Try.prog 26 #[.string (bs a), .string (bs b)] w fun e w' => e = .returned (.int .i64 (cmpP (pcs a) (pcs b))) ∧ Laid w w' := by
  have HA : Hid (a.length ≤ 9223372036854775807 ∧ b.length ≤ 9223372036854775807) := ⟨ha, hb⟩
  clear ha hb
  go_enter Try.func26, Try.ntmps26
  go_wp2_with fail
  refine (meet_any _ _ _ HA.out.1 HA.out.2).mono ?_
  rintro e w1 ⟨rfl, hb1⟩
  have B1 : Hid (Laid w w1) := hb1
  clear hb1
  go_wp2_with fail
  go_ret
  exact ⟨rfl, B1.out⟩

set_option maxHeartbeats 1000000 in
theorem above_any (a b : List UInt8) (w : World) (ha : a.length ≤ 9223372036854775807) (hb : b.length ≤ 9223372036854775807) :
    Calls Try.prog 16 #[.string (bs a), .string (bs b)] w fun e w' => e = .returned (.bool (abvV a b)) ∧ Laid w w' := by
  have HA : Hid (a.length ≤ 9223372036854775807 ∧ b.length ≤ 9223372036854775807) := ⟨ha, hb⟩
  clear ha hb
  have hz : (bs a).size = a.length := rfl
  obtain ⟨r, hr⟩ : ∃ r, abvV a b = r := ⟨_, rfl⟩
  rw [hr]
  have HR : Hid (abvV a b = r) := hr
  clear hr
  go_enter Try.func16, Try.ntmps16
  go_wp2_with fail
  refine (meet_any _ _ _ HA.out.1 HA.out.2).mono ?_
  rintro e w1 ⟨rfl, hb1⟩
  have B1 : Hid (Laid w w1) := hb1
  clear hb1
  by_cases h1 : (cmn a b).length = a.length
  · have e1 : (((cmn a b).length : Int) == (a.length : Int)) = true := by rw [h1]; simp
    by_cases h2 : cmpP (pcs a) (pcs b) < 0
    · go_wp2_with fail
      go_ret
      exact ⟨by rw [← HR.out]; simp [abvV, h1, h2], B1.out⟩
    · go_wp2_with fail
      go_ret
      exact ⟨by rw [← HR.out]; simp [abvV, h1], B1.out⟩
  · have e1 : (((cmn a b).length : Int) == (a.length : Int)) = false := by rw [beq_eq_false_iff_ne]; omega
    go_wp2_with fail
    go_ret
    exact ⟨by rw [← HR.out]; simp [abvV, h1], B1.out⟩

theorem extract_to (l : List UInt8) (n : Nat) : (bs l).extract 0 n = bs (l.take n) := by rw [bs_extract]; simp
theorem extract_from (l : List UInt8) (n : Nat) : (bs l).extract n l.length = bs (l.drop n) := by
  rw [bs_extract]; congr 1; exact List.take_of_length_le (by simp)

set_option maxHeartbeats 1000000 in
theorem dir_any (l : List UInt8) (w : World) (hl : l.length ≤ 9223372036854775807) :
    Calls Try.prog 17 #[.string (bs l)] w fun e w' => e = .returned (.string (bs (dir l))) ∧ w' = w := by
  have HL : Hid (l.length ≤ 9223372036854775807) := hl
  clear hl
  have hz : (bs l).size = l.length := rfl
  have h2 := lst_lt l
  by_cases h : lst l < 0
  · have hd0 : dir l = [] := by simp [dir, h]
    rw [hd0]
    go_enter Try.func17, Try.ntmps17
    go_wp2_with fail
    refine (last_any _ _ HL.out).mono ?_
    rintro e w1 ⟨rfl, rfl⟩
    go_wp2_with fail
    go_ret
    exact ⟨rfl, rfl⟩
  · obtain ⟨n, hn⟩ : ∃ n : Nat, lst l = n := ⟨(lst l).toNat, by omega⟩
    have hd0 : dir l = l.take n := by unfold dir; rw [if_neg h, hn]; rfl
    rw [hd0]
    have HE : Hid ((bs l).extract 0 n = bs (l.take n)) := extract_to l n
    rw [hn] at h h2
    go_enter Try.func17, Try.ntmps17
    go_wp2_with fail
    refine (last_any _ _ HL.out).mono ?_
    rintro e w1 ⟨rfl, rfl⟩
    rw [hn]
    have h3 : n < l.length := by omega
    go_wp2_with fail
    go_ret
    exact ⟨by rw [← HE.out]; rfl, rfl⟩

end Go.Proofs.Ytpaohkegekhgdac
