import Derived.Test.YtfdcfcalbongeaaGreatPath
import Derived.Test.YtfdcfcalbongeaaGreatJOrd
import Derived.Test.YtfdcfcalbongeaaGreatJFil
import Derived.Test.YtfdcfcalbongeaaGreatBase
import Derived.Test.YtfdcfcalbongeaaGreatSets
import Derived.Deep.RegionLaw
import Derived.Deep.RegionHeld3
import Derived.Test.YtfdcfcalbongeaaGreatRef
namespace Go.Proofs.YtfdcfcalbongeaaGreat
open Go.RowKit

set_option maxRecDepth 100000 in
set_option maxHeartbeats 1000000 in
theorem dir_any (l : List UInt8) (w : World) (hl : l.length ≤ 9223372036854775807) :
    Calls Tryz.prog 38 #[.string (bs l)] w fun e w' => e = .returned (.string (bs (dir l))) ∧ w' = w := by
  have HL : Hid (l.length ≤ 9223372036854775807) := hl
  clear hl
  have hz : (bs l).size = l.length := rfl
  have h2 := lst_lt l
  by_cases h : lst l < 0
  · have hd0 : dir l = [] := by simp [dir, h]
    rw [hd0]
    go_enter Tryz.func38, Tryz.ntmps38
    go_wp2_with fail
    refine (last_any _ _ HL.out).mono ?_
    rintro e w1 ⟨rfl, rfl⟩
    go_wp2_with fail
    go_ret
    exact ⟨rfl, rfl⟩
  · obtain ⟨n, hn⟩ : ∃ n : Nat, lst l = n := ⟨(lst l).toNat, by omega⟩
    have hd0 : dir l = l.take n := by unfold dir; rw [if_neg h, hn]; rfl
    rw [hd0]
    have HE : Hid ((bs l).extract 0 n = bs (l.take n)) := extract_to l n
    rw [hn] at h h2
    go_enter Tryz.func38, Tryz.ntmps38
    go_wp2_with fail
    refine (last_any _ _ HL.out).mono ?_
    rintro e w1 ⟨rfl, rfl⟩
    rw [hn]
    have h3 : n < l.length := by omega
    go_wp2_with fail
    go_ret
    exact ⟨by rw [← HE.out]; rfl, rfl⟩

end Go.Proofs.YtfdcfcalbongeaaGreat

namespace Go.Proofs.YtfdcfcalbongeaaGreat
open Go.RowKit

set_option maxHeartbeats 1000000 in
set_option maxRecDepth 100000 in
theorem same_any {w : World} {va vb : Value} {A B : List (List UInt8)} (h1 : SS w va A) (h2 : SS w vb B) (hA : A.length ≤ 9223372036854775807) :
    Calls Tryz.prog 10 #[va, vb] w fun e w' => e = .returned (.bool (decide (A = B))) ∧ ∃ n, w' = w.drewN n := by
  obtain ⟨a, c, rfl, ca⟩ := h1.form
  obtain ⟨b, c', rfl, cb⟩ := h2.form
  have CA : Hid (∀ k, (hk : k < A.length) → ∃ b off, a = some ⟨b, off, none⟩ ∧ b < w.heap.size ∧ w.cell? ⟨b, off + k, none⟩ = some (.string (bs A[k]))) := ca
  have CB : Hid (∀ k, (hk : k < B.length) → ∃ b' off, b = some ⟨b', off, none⟩ ∧ b' < w.heap.size ∧ w.cell? ⟨b', off + k, none⟩ = some (.string (bs B[k]))) := cb
  clear ca cb h1 h2
  by_cases hl : A.length = B.length
  · have e1 : (((A.length : Int)) != (B.length : Int)) = false := by rw [hl]; simp
    obtain ⟨r, hr⟩ : ∃ r, decide (A = B) = r := ⟨_, rfl⟩
    rw [hr]
    have HR : Hid (decide (A.drop 0 = B.drop 0) = r) := hr
    clear hr
    go_enter Tryz.func10, Tryz.ntmps10
    go_wp2_with fail
    go_loopw [5] (fun i wr => ∃ k n : Nat, k ≤ A.length ∧ i = .int .i64 k ∧ wr = w.drewN n ∧ decide (A.drop k = B.drop k) = r) (fun i _ => A.length - (intOf i).toNat)
    case atStart => exact ⟨0, 0, Nat.zero_le _, rfl, rfl, HR.out⟩
    case round =>
      obtain ⟨k, n, hk, rfl, rfl, hd⟩ := hrel
      have HD : Hid (decide (A.drop k = B.drop k) = r) := hd
      clear hd
      by_cases hlt : k < A.length
      · have hlt2 : k < B.length := by omega
        obtain ⟨g1, o1, rfl, hg1, c1⟩ := CA.out k hlt
        obtain ⟨g2, o2, rfl, hg2, c2⟩ := CB.out k hlt2
        have hd := HD.out
        rw [drop_same hlt hlt2] at hd
        by_cases heq : A[k]'hlt = B[k]'hlt2
        · have t1 : (bs (A[k]'hlt)).toList = A[k]'hlt := bs_toList _
          have t2 : (bs (B[k]'hlt2)).toList = A[k]'hlt := by rw [bs_toList, heq]
          have hd2 : decide (A.drop (k + 1) = B.drop (k + 1)) = r := by rw [← hd]; simp [heq]
          have HD2 : Hid (decide (A.drop (k + 1) = B.drop (k + 1)) = r) := hd2
          clear hd hd2
          go_wp2_with fail
          go_region
          go_wp2_with fail
          go_roundw
          case rel => exact ⟨k + 1, n + 1, by omega, by go_num, rfl, HD2.out⟩
          case measure => simp [intOf]; omega
        · have t1 : (bs (A[k]'hlt)).toList = A[k]'hlt := bs_toList _
          have t2 : (bs (B[k]'hlt2)).toList = B[k]'hlt2 := bs_toList _
          have t3 : ((A[k]'hlt) == (B[k]'hlt2)) = false := by rw [beq_eq_false_iff_ne]; exact heq
          have hd2 : false = r := by rw [← hd]; simp [heq]
          subst hd2
          clear hd
          go_wp2_with fail
          go_region
          go_wp2_with fail
          go_ret
          exact ⟨rfl, n + 1, rfl⟩
      · obtain rfl : k = A.length := by omega
        have hd := HD.out
        have hd2 : true = r := by rw [← hd, List.drop_length, hl, List.drop_length]; simp
        subst hd2
        clear hd
        go_wp2_with fail
        go_ret
        exact ⟨rfl, n, rfl⟩
  · have e1 : (((A.length : Int)) != (B.length : Int)) = true := by rw [bne_iff_ne]; omega
    have e2 : decide (A = B) = false := by rw [decide_eq_false_iff_not]; intro e; exact hl (by rw [e])
    rw [e2]
    go_enter Tryz.func10, Tryz.ntmps10
    go_wp2_with fail
    go_ret
    exact ⟨rfl, 0, rfl⟩
end Go.Proofs.YtfdcfcalbongeaaGreat

namespace Go.Proofs.YtfdcfcalbongeaaGreat
open Go.RowKit

end Go.Proofs.YtfdcfcalbongeaaGreat

namespace Go.Proofs.YtfdcfcalbongeaaGreat
open Go.RowKit

set_option maxRecDepth 100000 in
set_option maxHeartbeats 1000000 in
theorem rlast_any (l : List UInt8) (w : World) (hm : l.length < 9223372036854775807) :
    Calls Tryz.prog 54 #[.string (bs l)] w fun e w' => e = .returned (.int .i64 (lst l)) ∧ w' = w := by
  have hz : (bs l).size = l.length := rfl
  go_enter Tryz.func54, Tryz.ntmps54
  go_wp2_with fail
  go_loop [3, 4] (fun a i => ∃ k : Nat, k ≤ l.length ∧ i = .int .i64 k ∧ a = .int .i64 (lst (l.take k))) (fun _ i => l.length - (intOf i).toNat)
  case atStart => exact ⟨0, Nat.zero_le _, rfl, rfl⟩
  case round =>
    obtain ⟨k, hk, rfl, rfl⟩ := hrel
    by_cases hlt : k < l.length
    · have hkz : k < (bs l).size := hlt
      have hs : l.take (k + 1) = l.take k ++ [l[k]'hlt] := by rw [List.take_add_one, List.getElem?_eq_getElem hlt]; rfl
      have hl := lst_snoc (l.take k) (l[k]'hlt)
      rw [← hs, List.length_take, Nat.min_eq_left hk] at hl
      by_cases hc : l[k]'hlt = 47
      · have e1 : (((bs l)[k].toNat : Int) == 47) = true := by rw [bs_get _ _ _ hlt, hc]; rfl
        rw [if_pos hc] at hl
        have HL : Hid (lst (l.take (k + 1)) = k) := hl
        clear hl hs
        go_wp2_with fail
        go_round
        case rel => exact ⟨k + 1, by omega, by go_num, by rw [HL.out]⟩
        case measure => simp [intOf]; omega
      · have e1 : (((bs l)[k].toNat : Int) == 47) = false := by
          rw [bs_get _ _ _ hlt, beq_eq_false_iff_ne]; intro e; apply hc; apply UInt8.toNat_inj.1; exact Int.ofNat.inj e
        rw [if_neg hc] at hl
        have HL : Hid (lst (l.take (k + 1)) = lst (l.take k)) := hl
        clear hl hs
        go_wp2_with fail
        go_round
        case rel => exact ⟨k + 1, by omega, by go_num, by rw [HL.out]⟩
        case measure => simp [intOf]; omega
    · obtain rfl : k = l.length := by omega
      rw [List.take_length]
      go_wp2_with fail
      go_ret
      exact ⟨rfl, rfl⟩

set_option maxRecDepth 100000 in
set_option maxHeartbeats 1000000 in
theorem rdir_any (l : List UInt8) (w : World) (hl : l.length < 9223372036854775807) :
    Calls Tryz.prog 35 #[.string (bs l)] w fun e w' => e = .returned (.string (bs (dir l))) ∧ w' = w := by
  have HL : Hid (l.length < 9223372036854775807) := hl
  clear hl
  have hz : (bs l).size = l.length := rfl
  have h2 := lst_lt l
  by_cases h : lst l < 0
  · have hd0 : dir l = [] := by simp [dir, h]
    rw [hd0]
    go_enter Tryz.func35, Tryz.ntmps35
    go_wp2_with fail
    refine (rlast_any _ _ HL.out).mono ?_
    rintro e w1 ⟨rfl, rfl⟩
    go_wp2_with fail
    go_ret
    exact ⟨rfl, rfl⟩
  · obtain ⟨n, hn⟩ : ∃ n : Nat, lst l = n := ⟨(lst l).toNat, by omega⟩
    have hd0 : dir l = l.take n := by unfold dir; rw [if_neg h, hn]; rfl
    rw [hd0]
    have HE : Hid ((bs l).extract 0 n = bs (l.take n)) := extract_to l n
    rw [hn] at h h2
    go_enter Tryz.func35, Tryz.ntmps35
    go_wp2_with fail
    refine (rlast_any _ _ HL.out).mono ?_
    rintro e w1 ⟨rfl, rfl⟩
    rw [hn]
    have h3 : n < l.length := by omega
    go_wp2_with fail
    go_ret
    exact ⟨by rw [← HE.out]; rfl, rfl⟩

set_option maxHeartbeats 1000000 in
set_option maxRecDepth 100000 in
theorem rbytes_any (a b : List UInt8) (w : World) (ha : a.length ≤ 9223372036854775807) :
    Calls Tryz.prog 52 #[.string (bs a), .string (bs b)] w fun e w' => e = .returned (.int .i64 (Lib.compareBytes a b)) ∧ ∃ n, w' = w.drewN n := by
  have hz : (bs a).size = a.length := rfl
  have hz2 : (bs b).size = b.length := rfl
  obtain ⟨r, hr⟩ : ∃ r, Lib.compareBytes a b = r := ⟨_, rfl⟩
  rw [hr]
  have HR : Hid (Lib.compareBytes (a.drop 0) (b.drop 0) = r) := hr
  clear hr
  go_enter Tryz.func52, Tryz.ntmps52
  go_wp2_with fail
  go_loopw [5] (fun i wr => ∃ k n : Nat, k ≤ a.length ∧ k ≤ b.length ∧ i = .int .i64 k ∧ wr = w.drewN n ∧ Lib.compareBytes (a.drop k) (b.drop k) = r) (fun i _ => a.length - (intOf i).toNat)
  case atStart => exact ⟨0, 0, Nat.zero_le _, Nat.zero_le _, rfl, rfl, HR.out⟩
  case round =>
    obtain ⟨k, n, hk, hk2, rfl, rfl, hc⟩ := hrel
    have HC : Hid (Lib.compareBytes (a.drop k) (b.drop k) = r) := hc
    clear hc
    by_cases h1 : k < a.length
    · by_cases h2 : k < b.length
      · have hka : k < (bs a).size := h1
        have hkb : k < (bs b).size := h2
        have hc := HC.out
        rw [cb_drop a b k h1 h2] at hc
        by_cases h3 : (a[k]'h1).toNat < (b[k]'h2).toNat
        · have g1 : (bs a)[k].toNat < (bs b)[k].toNat := h3
          rw [if_pos h3] at hc
          subst hc
          go_wp2_with fail
          go_region
          go_wp2_with fail
          go_ret
          exact ⟨rfl, n + 1, rfl⟩
        · have g1 : ¬ (bs a)[k].toNat < (bs b)[k].toNat := h3
          rw [if_neg h3] at hc
          by_cases h4 : (b[k]'h2).toNat < (a[k]'h1).toNat
          · have g2 : (bs b)[k].toNat < (bs a)[k].toNat := h4
            rw [if_pos h4] at hc
            subst hc
            clear h3 h4
            go_wp2_with fail
            go_region
            go_wp2_with fail
            go_region
            go_wp2_with fail
            go_ret
            exact ⟨rfl, n + 2, rfl⟩
          · have g2 : ¬ (bs b)[k].toNat < (bs a)[k].toNat := h4
            rw [if_neg h4] at hc
            have HC2 : Hid (Lib.compareBytes (a.drop (k + 1)) (b.drop (k + 1)) = r) := hc
            clear h3 h4 hc
            go_wp2_with fail
            go_region
            go_wp2_with fail
            go_region
            go_wp2_with fail
            go_roundw
            case rel => exact ⟨k + 1, n + 2, by omega, by omega, by go_num, rfl, HC2.out⟩
            case measure => simp [intOf]; omega
      · have hc := HC.out
        rw [cb_end a b k (by omega) hk hk2] at hc
        by_cases h3 : a.length < b.length
        · omega
        · rw [if_neg h3, if_pos (by omega)] at hc
          subst hc
          have h4 : b.length < a.length := by omega
          go_wp2_with fail
          go_ret
          exact ⟨rfl, n, rfl⟩
    · have hc := HC.out
      rw [cb_end a b k (by omega) hk hk2] at hc
      by_cases h3 : a.length < b.length
      · rw [if_pos h3] at hc
        subst hc
        go_wp2_with fail
        go_ret
        exact ⟨rfl, n, rfl⟩
      · have h4 : ¬ b.length < a.length := by omega
        rw [if_neg h3, if_neg h4] at hc
        subst hc
        go_wp2_with fail
        go_ret
        exact ⟨rfl, n, rfl⟩

set_option maxHeartbeats 1000000 in
set_option maxRecDepth 100000 in
theorem rcmp_any (a b : List UInt8) (w : World) (ha : a.length ≤ 1000000000) (hb : b.length ≤ 1000000000) :
    Calls Tryz.prog 33 #[.string (bs a), .string (bs b)] w fun e w' => e = .returned (.int .i64 (cmpP (pcs a) (pcs b))) ∧ Below w.heap.size w w' := by
  have MA : Hid (∀ p ∈ pcs a, p.length ≤ a.length) := pcs_mem_le a
  have MB : Hid (∀ p ∈ pcs b, p.length ≤ b.length) := pcs_mem_le b
  have la := pcs_len a ha
  have lb := pcs_len b hb
  obtain ⟨A, hA⟩ : ∃ A, pcs a = A := ⟨_, rfl⟩
  obtain ⟨B, hB⟩ : ∃ B, pcs b = B := ⟨_, rfl⟩
  rw [hA, hB]
  rw [hA] at MA la
  rw [hB] at MB lb
  obtain ⟨r, hr⟩ : ∃ r, cmpP A B = r := ⟨_, rfl⟩
  rw [hr]
  have HR : Hid (cmpP (A.drop 0) (B.drop 0) = r) := hr
  clear hr
  go_enter Tryz.func33, Tryz.ntmps33
  go_wp2_with fail
  refine (rsplit_any _ _ ha).mono ?_
  rintro e w1 ⟨v1, rfl, o1, b1⟩
  rw [hA] at o1
  have hz1 := b1.size
  have B1 : Hid (Below w.heap.size w w1) := b1
  have O1 : Hid (Own w.heap.size w1 v1 A) := o1
  clear o1 b1
  go_wp2_with fail
  refine (rsplit_any _ _ hb).mono ?_
  rintro e w2 ⟨v2, rfl, o2, b2⟩
  rw [hB] at o2
  have B2 : Hid (Below w.heap.size w w2) := below_trans B1.out (below_mono b2 hz1)
  obtain ⟨x, c, rfl, hcell⟩ := (O1.out.later b2).bs.form
  obtain ⟨y, d, rfl, hcell2⟩ := o2.bs.form
  have CA : Hid (∀ k, (hk : k < A.length) → ∃ b off, x = some ⟨b, off, none⟩ ∧ b < w2.heap.size ∧ w2.cell? ⟨b, off + k, none⟩ = some (.string (bs A[k]))) := hcell
  have CB : Hid (∀ k, (hk : k < B.length) → ∃ b off, y = some ⟨b, off, none⟩ ∧ b < w2.heap.size ∧ w2.cell? ⟨b, off + k, none⟩ = some (.string (bs B[k]))) := hcell2
  clear hcell hcell2 o2 b2 O1 B1 hA hB
  go_wp2_with fail
  go_loopw [7] (fun i wr => ∃ k n : Nat, k ≤ A.length ∧ k ≤ B.length ∧ i = .int .i64 k ∧ wr = w2.drewN n ∧ cmpP (A.drop k) (B.drop k) = r) (fun i _ => A.length - (intOf i).toNat)
  case atStart => exact ⟨0, 0, Nat.zero_le _, Nat.zero_le _, rfl, rfl, HR.out⟩
  case round =>
    obtain ⟨k, n, hk, hk2, rfl, hw, hc⟩ := hrel
    have HW : Hid (wr = w2.drewN n) := hw
    have HBW : Hid (Below w.heap.size w wr) := by rw [hw]; exact bdrewN B2.out
    clear hw
    have HC : Hid (cmpP (A.drop k) (B.drop k) = r) := hc
    clear hc
    by_cases h1 : k < A.length
    · by_cases h2 : k < B.length
      · obtain ⟨g1, o1, rfl, hg1, c1⟩ := CA.out k h1
        obtain ⟨g2, o2, rfl, hg2, c2⟩ := CB.out k h2
        have c1 : wr.cell? ⟨g1, o1 + k, none⟩ = some (.string (bs (A[k]'h1))) := by rw [HW.out]; exact c1
        have c2 : wr.cell? ⟨g2, o2 + k, none⟩ = some (.string (bs (B[k]'h2))) := by rw [HW.out]; exact c2
        have p1 := MA.out (A[k]'h1) (List.getElem_mem _)
        have p2 := MB.out (B[k]'h2) (List.getElem_mem _)
        have hc := HC.out
        rw [cmpP_drop A B k h1 h2] at hc
        by_cases h3 : Lib.compareBytes (A[k]'h1) (B[k]'h2) = 0
        · rw [if_pos h3] at hc
          have HC2 : Hid (cmpP (A.drop (k + 1)) (B.drop (k + 1)) = r) := hc
          clear hc
          go_wp2_with fail
          go_quiet ((go_at_call 52; exact Calls.quiet_of (rbytes_any _ _ _ (by omega))))
          rw [h3]
          go_wp2_with fail
          go_roundw
          case rel => exact ⟨k + 1, n + nq, by omega, by omega, by go_num, by rw [HW.out]; exact World.drewN_drewN .., HC2.out⟩
          case measure => simp [intOf]; omega
        · rw [if_neg h3] at hc
          have g3 : (Lib.compareBytes (A[k]'h1) (B[k]'h2) != 0) = true := by simpa using h3
          have HC2 : Hid (Lib.compareBytes (A[k]'h1) (B[k]'h2) = r) := hc
          clear hc
          go_wp2_with fail
          go_quiet ((go_at_call 52; exact Calls.quiet_of (rbytes_any _ _ _ (by omega))))
          go_wp2_with fail
          go_ret
          exact ⟨by rw [← HC2.out]; rfl, bdrewN HBW.out⟩
      · have hc := HC.out
        rw [cmpP_end A B k (by omega) hk hk2] at hc
        have h3 : ¬ A.length < B.length := by omega
        have h4 : B.length < A.length := by omega
        rw [if_neg h3, if_pos h4] at hc
        subst hc
        go_wp2_with fail
        go_ret
        exact ⟨rfl, HBW.out⟩
    · have hc := HC.out
      rw [cmpP_end A B k (by omega) hk hk2] at hc
      by_cases h3 : A.length < B.length
      · rw [if_pos h3] at hc
        subst hc
        go_wp2_with fail
        go_ret
        exact ⟨rfl, HBW.out⟩
      · have h4 : ¬ B.length < A.length := by omega
        rw [if_neg h3, if_neg h4] at hc
        subst hc
        go_wp2_with fail
        go_ret
        exact ⟨rfl, HBW.out⟩

set_option maxHeartbeats 1000000 in
set_option maxRecDepth 100000 in
theorem shared_any {w : World} {va vb : Value} {A B : List (List UInt8)} (h1 : SS w va A) (h2 : SS w vb B) (hA : A.length < 9223372036854775807) :
    Calls Tryz.prog 53 #[va, vb] w fun e w' => e = .returned (.int .i64 (com A B : Nat)) ∧ ∃ n, w' = w.drewN n := by
  obtain ⟨a, c, rfl, ca⟩ := h1.form
  obtain ⟨b, c', rfl, cb⟩ := h2.form
  have CA : Hid (∀ k, (hk : k < A.length) → ∃ b off, a = some ⟨b, off, none⟩ ∧ b < w.heap.size ∧ w.cell? ⟨b, off + k, none⟩ = some (.string (bs A[k]))) := ca
  have CB : Hid (∀ k, (hk : k < B.length) → ∃ b' off, b = some ⟨b', off, none⟩ ∧ b' < w.heap.size ∧ w.cell? ⟨b', off + k, none⟩ = some (.string (bs B[k]))) := cb
  clear ca cb h1 h2
  obtain ⟨r, hr⟩ : ∃ r, com A B = r := ⟨_, rfl⟩
  rw [hr]
  have HR : Hid (0 + com (A.drop 0) (B.drop 0) = r) := by rw [Nat.zero_add]; exact hr
  clear hr
  go_enter Tryz.func53, Tryz.ntmps53
  go_wp2_with fail
  go_loopw [5] (fun i wr => ∃ k n : Nat, k ≤ A.length ∧ i = .int .i64 k ∧ wr = w.drewN n ∧ k + com (A.drop k) (B.drop k) = r) (fun i _ => A.length - (intOf i).toNat)
  case atStart => exact ⟨0, 0, Nat.zero_le _, rfl, rfl, HR.out⟩
  case round =>
    obtain ⟨k, n, hk, rfl, rfl, hc⟩ := hrel
    have HC : Hid (k + com (A.drop k) (B.drop k) = r) := hc
    clear hc
    by_cases h1 : k < A.length
    · by_cases h2 : k < B.length
      · obtain ⟨g1, o1, rfl, hg1, c1⟩ := CA.out k h1
        obtain ⟨g2, o2, rfl, hg2, c2⟩ := CB.out k h2
        have hc := HC.out
        rw [com_drop A B k h1 h2] at hc
        by_cases h3 : (A[k]'h1) = (B[k]'h2)
        · rw [if_pos h3] at hc
          have HC2 : Hid (k + 1 + com (A.drop (k + 1)) (B.drop (k + 1)) = r) := by show _ = _; omega
          have t1 : (bs (A[k]'h1)).toList = A[k]'h1 := bs_toList _
          have t2 : (bs (B[k]'h2)).toList = A[k]'h1 := by rw [bs_toList, h3]
          clear hc
          go_wp2_with fail
          go_region
          go_wp2_with fail
          go_roundw
          case rel => exact ⟨k + 1, n + 1, by omega, by go_num, rfl, HC2.out⟩
          case measure => simp [intOf]; omega
        · rw [if_neg h3] at hc
          have hc : k = r := hc
          subst hc
          have t1 : (bs (A[k]'h1)).toList = A[k]'h1 := bs_toList _
          have t2 : (bs (B[k]'h2)).toList = B[k]'h2 := bs_toList _
          have t3 : ((A[k]'h1) == (B[k]'h2)) = false := by rw [beq_eq_false_iff_ne]; exact h3
          go_wp2_with fail
          go_region
          go_wp2_with fail
          go_ret
          exact ⟨rfl, n + 1, rfl⟩
      · have hc := HC.out
        rw [com_end A B k (by omega)] at hc
        have hc : k = r := hc
        subst hc
        go_wp2_with fail
        go_region
        go_wp2_with fail
        go_ret
        exact ⟨rfl, n + 1, rfl⟩
    · have hc := HC.out
      rw [com_end A B k (by omega)] at hc
      have hc : k = r := hc
      subst hc
      go_wp2_with fail
      go_region
      go_wp2_with fail
      go_ret
      exact ⟨rfl, n + 1, rfl⟩

set_option maxHeartbeats 1000000 in
set_option maxRecDepth 100000 in
theorem rabove_any (a b : List UInt8) (w : World) (ha : a.length ≤ 1000000000) (hb : b.length ≤ 1000000000) :
    Calls Tryz.prog 34 #[.string (bs a), .string (bs b)] w fun e w' => e = .returned (.bool (abv (pcs a) (pcs b))) ∧ Below w.heap.size w w' := by
  have la := pcs_len a ha
  have lb := pcs_len b hb
  obtain ⟨A, hA⟩ : ∃ A, pcs a = A := ⟨_, rfl⟩
  obtain ⟨B, hB⟩ : ∃ B, pcs b = B := ⟨_, rfl⟩
  rw [hA, hB]
  rw [hA] at la
  rw [hB] at lb
  obtain ⟨r, hr⟩ : ∃ r, abv A B = r := ⟨_, rfl⟩
  rw [hr]
  have HR : Hid ((decide (A.length < B.length) && decide (com A B = A.length)) = r) := hr
  clear hr
  go_enter Tryz.func34, Tryz.ntmps34
  go_wp2_with fail
  refine (rsplit_any _ _ ha).mono ?_
  rintro e w1 ⟨v1, rfl, o1, b1⟩
  rw [hA] at o1
  have hz1 := b1.size
  have B1 : Hid (Below w.heap.size w w1) := b1
  have O1 : Hid (Own w.heap.size w1 v1 A) := o1
  clear o1 b1
  go_wp2_with fail
  refine (rsplit_any _ _ hb).mono ?_
  rintro e w2 ⟨v2, rfl, o2, b2⟩
  rw [hB] at o2
  have B2 : Hid (Below w.heap.size w w2) := below_trans B1.out (below_mono b2 hz1)
  have S1 : Hid (SS w2 v1 A) := (O1.out.later b2).bs
  have S2 : Hid (SS w2 v2 B) := o2.bs
  obtain ⟨x, c, rfl, _⟩ := S1.out.form
  obtain ⟨y, d, rfl, _⟩ := o2.bs.form
  clear o2 b2 O1 B1 hA hB
  by_cases h1 : A.length < B.length
  · go_wp2_with fail
    refine (shared_any S1.out S2.out (by omega)).mono ?_
    rintro e w3 ⟨rfl, n, rfl⟩
    by_cases h2 : com A B = A.length
    · have e1 : (((com A B : Nat) : Int) == (A.length : Int)) = true := by rw [h2]; simp
      go_wp2_with fail
      go_ret
      exact ⟨by rw [← HR.out]; simp [h1, h2], bdrewN B2.out⟩
    · have e1 : (((com A B : Nat) : Int) == (A.length : Int)) = false := by rw [beq_eq_false_iff_ne]; omega
      go_wp2_with fail
      go_ret
      exact ⟨by rw [← HR.out]; simp [h2], bdrewN B2.out⟩
  · go_wp2_with fail
    go_ret
    exact ⟨by rw [← HR.out]; simp [h1], B2.out⟩

end Go.Proofs.YtfdcfcalbongeaaGreat
