import Derived.Test.YtfdcfcalbongeaaPath
import Derived.Test.YtfdcfcalbongeaaWalk
import Derived.Test.YtfdcfcalbongeaaOrd
import Derived.Test.YtfdcfcalbongeaaRows2
import Derived.Test.YtfdcfcalbongeaaBase
import Derived.Test.YtfdcfcalbongeaaSets
import Derived.Deep.RegionLaw
import Derived.Deep.RegionHeld3
namespace Go.Proofs.Ytfdcfcalbongeaa
open Go.RowKit

set_option maxRecDepth 100000 in
set_option maxHeartbeats 1000000 in
theorem dir_any (l : List UInt8) (w : World) (hl : l.length ≤ 9223372036854775807) :
    Calls Try.prog 41 #[.string (bs l)] w fun e w' => e = .returned (.string (bs (dir l))) ∧ w' = w := by
  have HL : Hid (l.length ≤ 9223372036854775807) := hl
  clear hl
  have hz : (bs l).size = l.length := rfl
  have h2 := lst_lt l
  by_cases h : lst l < 0
  · have hd0 : dir l = [] := by simp [dir, h]
    rw [hd0]
    go_enter Try.func41, Try.ntmps41
    go_wp2_with fail
    refine (last_any _ _ HL.out).mono ?_
    rintro e w1 ⟨rfl, rfl⟩
    go_wp2_with fail
    go_ret
    exact ⟨rfl, rfl⟩
  · obtain ⟨n, hn⟩ : ∃ n : Nat, lst l = n := ⟨(lst l).toNat, by omega⟩
    have hd0 : dir l = l.take n := by unfold dir; rw [if_neg h, hn]; rfl
    rw [hd0]
    have HE : Hid ((bs l).extract 0 n = bs (l.take n)) := extract_to l n
    rw [hn] at h h2
    go_enter Try.func41, Try.ntmps41
    go_wp2_with fail
    refine (last_any _ _ HL.out).mono ?_
    rintro e w1 ⟨rfl, rfl⟩
    rw [hn]
    have h3 : n < l.length := by omega
    go_wp2_with fail
    go_ret
    exact ⟨by rw [← HE.out]; rfl, rfl⟩

end Go.Proofs.Ytfdcfcalbongeaa

namespace Go.Proofs.Ytfdcfcalbongeaa
open Go.RowKit

set_option maxHeartbeats 1000000 in
set_option maxRecDepth 100000 in
theorem same_any {w : World} {va vb : Value} {A B : List (List UInt8)} (h1 : SS w va A) (h2 : SS w vb B) (hA : A.length ≤ 9223372036854775807) :
    Calls Try.prog 15 #[va, vb] w fun e w' => e = .returned (.bool (decide (A = B))) ∧ ∃ n, w' = w.drewN n := by
  obtain ⟨a, c, rfl, ca⟩ := h1.form
  obtain ⟨b, c', rfl, cb⟩ := h2.form
  have CA : Hid (∀ k, (hk : k < A.length) → ∃ b off, a = some ⟨b, off, none⟩ ∧ b < w.heap.size ∧ w.cell? ⟨b, off + k, none⟩ = some (.string (bs A[k]))) := ca
  have CB : Hid (∀ k, (hk : k < B.length) → ∃ b' off, b = some ⟨b', off, none⟩ ∧ b' < w.heap.size ∧ w.cell? ⟨b', off + k, none⟩ = some (.string (bs B[k]))) := cb
  clear ca cb h1 h2
  by_cases hl : A.length = B.length
  · have e1 : (((A.length : Int)) != (B.length : Int)) = false := by rw [hl]; simp
    obtain ⟨r, hr⟩ : ∃ r, decide (A = B) = r := ⟨_, rfl⟩
    rw [hr]
    have HR : Hid (decide (A.drop 0 = B.drop 0) = r) := hr
    clear hr
    go_enter Try.func15, Try.ntmps15
    go_wp2_with fail
    go_loopw [5] (fun i wr => ∃ k n : Nat, k ≤ A.length ∧ i = .int .i64 k ∧ wr = w.drewN n ∧ decide (A.drop k = B.drop k) = r) (fun i _ => A.length - (intOf i).toNat)
    case atStart => exact ⟨0, 0, Nat.zero_le _, rfl, rfl, HR.out⟩
    case round =>
      obtain ⟨k, n, hk, rfl, rfl, hd⟩ := hrel
      have HD : Hid (decide (A.drop k = B.drop k) = r) := hd
      clear hd
      by_cases hlt : k < A.length
      · have hlt2 : k < B.length := by omega
        obtain ⟨g1, o1, rfl, hg1, c1⟩ := CA.out k hlt
        obtain ⟨g2, o2, rfl, hg2, c2⟩ := CB.out k hlt2
        have hd := HD.out
        rw [drop_same hlt hlt2] at hd
        by_cases heq : A[k]'hlt = B[k]'hlt2
        · have t1 : (bs (A[k]'hlt)).toList = A[k]'hlt := bs_toList _
          have t2 : (bs (B[k]'hlt2)).toList = A[k]'hlt := by rw [bs_toList, heq]
          have hd2 : decide (A.drop (k + 1) = B.drop (k + 1)) = r := by rw [← hd]; simp [heq]
          have HD2 : Hid (decide (A.drop (k + 1) = B.drop (k + 1)) = r) := hd2
          clear hd hd2
          go_wp2_with fail
          go_region
          go_wp2_with fail
          go_roundw
          case rel => exact ⟨k + 1, n + 1, by omega, by go_num, rfl, HD2.out⟩
          case measure => simp [intOf]; omega
        · have t1 : (bs (A[k]'hlt)).toList = A[k]'hlt := bs_toList _
          have t2 : (bs (B[k]'hlt2)).toList = B[k]'hlt2 := bs_toList _
          have t3 : ((A[k]'hlt) == (B[k]'hlt2)) = false := by rw [beq_eq_false_iff_ne]; exact heq
          have hd2 : false = r := by rw [← hd]; simp [heq]
          subst hd2
          clear hd
          go_wp2_with fail
          go_region
          go_wp2_with fail
          go_ret
          exact ⟨rfl, n + 1, rfl⟩
      · obtain rfl : k = A.length := by omega
        have hd := HD.out
        have hd2 : true = r := by rw [← hd, List.drop_length, hl, List.drop_length]; simp
        subst hd2
        clear hd
        go_wp2_with fail
        go_ret
        exact ⟨rfl, n, rfl⟩
  · have e1 : (((A.length : Int)) != (B.length : Int)) = true := by rw [bne_iff_ne]; omega
    have e2 : decide (A = B) = false := by rw [decide_eq_false_iff_not]; intro e; exact hl (by rw [e])
    rw [e2]
    go_enter Try.func15, Try.ntmps15
    go_wp2_with fail
    go_ret
    exact ⟨rfl, 0, rfl⟩
end Go.Proofs.Ytfdcfcalbongeaa

namespace Go.Proofs.Ytfdcfcalbongeaa
open Go.RowKit

end Go.Proofs.Ytfdcfcalbongeaa
