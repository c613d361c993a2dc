/-
  The last slash, what lies ahead of it and behind it, two paths joined: the program's and the document's.
-/
import Derived.Test.YtebidnepanogcaaDoorRef
import Derived.Test.YtebidnepanogcaaDoorPkg
namespace Go.Proofs.YtebidnepanogcaaDoor
open Go.RowKit

theorem bs_app (a b : List UInt8) : bs a ++ bs b = bs (a ++ b) := by
  apply ByteArray.ext; simp [bs]
theorem bs_add (a b : List UInt8) : bs a ++ bs b = bs (a ++ b) := bs_app a b
theorem bs_add1 (a : List UInt8) (x : UInt8) : bs a ++ ⟨#[x]⟩ = bs (a ++ [x]) := bs_app a [x]

set_option maxHeartbeats 1000000 in
set_option maxRecDepth 100000 in
theorem lastB_any (l : List UInt8) (w : World) (hm : l.length ≤ 9223372036854775807) :
    Calls Tryd.prog 52 #[.string (bs l), .int .u8 47] w fun e w' => e = .returned (.int .i64 (lst l)) ∧ w' = w := by
  have hz : (bs l).size = l.length := rfl
  go_enter Tryd.func52, Tryd.ntmps52
  go_wp2_with fail
  go_loop [5] (fun i => ∃ k : Nat, k ≤ l.length ∧ i = .int .i64 ((k : Int) - 1) ∧ ∀ j : Nat, k ≤ j → l[j]? ≠ some 47) (fun i => (intOf i + 1).toNat)
  case atStart => exact ⟨l.length, Nat.le_refl _, rfl, fun j hj => by rw [List.getElem?_eq_none hj]; simp⟩
  case round =>
    obtain ⟨k, hk, rfl, hno⟩ := hrel
    have HN : Hid (∀ j : Nat, k ≤ j → l[j]? ≠ some 47) := hno
    clear hno
    rcases k with _ | k
    · go_wp2_with fail
      go_ret
      exact ⟨by rw [lst_miss l (fun j => HN.out j (Nat.zero_le _))]; rfl, rfl⟩
    · have hkl : k < l.length := by omega
      by_cases hc : l[k]'hkl = 47
      · have hkz : k < (bs l).size := hkl
        have e1 : (((bs l)[k].toNat : Int) == 47) = true := by rw [bs_get _ _ _ hkl, hc]; rfl
        go_wp2_with fail
        go_ret
        exact ⟨by rw [lst_hit l k (by rw [List.getElem?_eq_getElem hkl, hc]) (fun j hj => HN.out j hj)]; rfl, rfl⟩
      · have hkz : k < (bs l).size := hkl
        have e1 : (((bs l)[k].toNat : Int) == 47) = false := by
          rw [bs_get _ _ _ hkl, beq_eq_false_iff_ne]; intro e; apply hc; apply UInt8.toNat_inj.1; exact Int.ofNat.inj e
        go_wp2_with fail
        go_round
        case rel =>
          refine ⟨k, by omega, rfl, fun j hj => ?_⟩
          by_cases hjk : j = k
          · subst hjk; rw [List.getElem?_eq_getElem hkl]; simpa using hc
          · exact HN.out j (by omega)
        case measure => simp only [intOf]; omega


set_option maxHeartbeats 1000000 in
set_option maxRecDepth 100000 in
theorem last_any (l : List UInt8) (w : World) (hm : l.length ≤ 9223372036854775807) :
    Calls Tryd.prog 41 #[.string (bs l), .string (bs [47])] w fun e w' => e = .returned (.int .i64 (lst l)) ∧ w' = w := by
  have hz : (bs [47]).size = 1 := rfl
  have HM : Hid (l.length ≤ 9223372036854775807) := hm
  clear hm
  go_enter Tryd.func41, Tryd.ntmps41
  go_wp2_with fail
  refine (lastB_any _ _ HM.out).mono ?_
  rintro e w1 ⟨rfl, rfl⟩
  go_wp2_with fail
  go_ret
  exact ⟨rfl, rfl⟩


set_option maxHeartbeats 1000000 in
theorem base_any (l : List UInt8) (w : World) (hl : l.length ≤ 9223372036854775807) :
    Calls Tryd.prog 27 #[.string (bs l)] w fun e w' => e = .returned (.string (bs (base l))) ∧ w' = w := by
  have HL : Hid (l.length ≤ 9223372036854775807) := hl
  have hz : (bs l).size = l.length := rfl
  have h2 := lst_lt l
  have h3 := lst_ge l
  obtain ⟨n, hn⟩ : ∃ n : Nat, lst l = (n : Int) - 1 := ⟨(lst l + 1).toNat, by omega⟩
  have hd0 : base l = l.drop n := by unfold base; congr 1; omega
  rw [hd0]
  have HE : Hid ((bs l).extract n l.length = bs (l.drop n)) := extract_from l n
  have hnl : n ≤ l.length := by omega
  clear h2 h3
  go_enter Tryd.func27, Tryd.ntmps27
  go_wp2_with fail
  refine (last_any _ _ HL.out).mono ?_
  rintro e w1 ⟨rfl, rfl⟩
  rw [hn]
  go_wp2_with fail
  go_ret
  exact ⟨by rw [← HE.out]; rfl, rfl⟩


set_option maxHeartbeats 1000000 in
theorem rlast_any (l : List UInt8) (w : World) (hm : l.length < 9223372036854775807) :
    Calls Tryd.prog 50 #[.string (bs l)] w fun e w' => e = .returned (.int .i64 (lst l)) ∧ w' = w := by
  have hz : (bs l).size = l.length := rfl
  go_enter Tryd.func50, Tryd.ntmps50
  go_wp2_with fail
  go_loop [3, 4] (fun a i => ∃ k : Nat, k ≤ l.length ∧ i = .int .i64 k ∧ a = .int .i64 (lst (l.take k))) (fun _ i => l.length - (intOf i).toNat)
  case atStart => exact ⟨0, Nat.zero_le _, rfl, rfl⟩
  case round =>
    obtain ⟨k, hk, rfl, rfl⟩ := hrel
    by_cases hlt : k < l.length
    · have hkz : k < (bs l).size := hlt
      have hs : l.take (k + 1) = l.take k ++ [l[k]'hlt] := by rw [List.take_add_one, List.getElem?_eq_getElem hlt]; rfl
      have hl := lst_snoc (l.take k) (l[k]'hlt)
      rw [← hs, List.length_take, Nat.min_eq_left hk] at hl
      by_cases hc : l[k]'hlt = 47
      · have e1 : (((bs l)[k].toNat : Int) == 47) = true := by rw [bs_get _ _ _ hlt, hc]; rfl
        rw [if_pos hc] at hl
        have HL : Hid (lst (l.take (k + 1)) = k) := hl
        clear hl hs
        go_wp2_with fail
        go_round
        case rel => exact ⟨k + 1, by omega, by go_num, by rw [HL.out]⟩
        case measure => simp [intOf]; omega
      · have e1 : (((bs l)[k].toNat : Int) == 47) = false := by
          rw [bs_get _ _ _ hlt, beq_eq_false_iff_ne]; intro e; apply hc; apply UInt8.toNat_inj.1; exact Int.ofNat.inj e
        rw [if_neg hc] at hl
        have HL : Hid (lst (l.take (k + 1)) = lst (l.take k)) := hl
        clear hl hs
        go_wp2_with fail
        go_round
        case rel => exact ⟨k + 1, by omega, by go_num, by rw [HL.out]⟩
        case measure => simp [intOf]; omega
    · obtain rfl : k = l.length := by omega
      rw [List.take_length]
      go_wp2_with fail
      go_ret
      exact ⟨rfl, rfl⟩


set_option maxHeartbeats 1000000 in
theorem rdir_any (l : List UInt8) (w : World) (hl : l.length < 9223372036854775807) :
    Calls Tryd.prog 37 #[.string (bs l)] w fun e w' => e = .returned (.string (bs (dir l))) ∧ w' = w := by
  have HL : Hid (l.length < 9223372036854775807) := hl
  clear hl
  have hz : (bs l).size = l.length := rfl
  have h2 := lst_lt l
  by_cases h : lst l < 0
  · have hd0 : dir l = [] := by simp [dir, h]
    rw [hd0]
    go_enter Tryd.func37, Tryd.ntmps37
    go_wp2_with fail
    refine (rlast_any _ _ HL.out).mono ?_
    rintro e w1 ⟨rfl, rfl⟩
    go_wp2_with fail
    go_ret
    exact ⟨rfl, rfl⟩
  · obtain ⟨n, hn⟩ : ∃ n : Nat, lst l = n := ⟨(lst l).toNat, by omega⟩
    have hd0 : dir l = l.take n := by unfold dir; rw [if_neg h, hn]; rfl
    rw [hd0]
    have HE : Hid ((bs l).extract 0 n = bs (l.take n)) := extract_to l n
    rw [hn] at h h2
    go_enter Tryd.func37, Tryd.ntmps37
    go_wp2_with fail
    refine (rlast_any _ _ HL.out).mono ?_
    rintro e w1 ⟨rfl, rfl⟩
    rw [hn]
    have h3 : n < l.length := by omega
    go_wp2_with fail
    go_ret
    exact ⟨by rw [← HE.out]; rfl, rfl⟩


set_option maxHeartbeats 1000000 in
theorem rbase_any (l : List UInt8) (w : World) (hl : l.length < 9223372036854775807) :
    Calls Tryd.prog 36 #[.string (bs l)] w fun e w' => e = .returned (.string (bs (base l))) ∧ w' = w := by
  have HL : Hid (l.length < 9223372036854775807) := hl
  have hz : (bs l).size = l.length := rfl
  have h2 := lst_lt l
  have h3 := lst_ge l
  obtain ⟨n, hn⟩ : ∃ n : Nat, lst l = (n : Int) - 1 := ⟨(lst l + 1).toNat, by omega⟩
  have hd0 : base l = l.drop n := by unfold base; congr 1; omega
  rw [hd0]
  have HE : Hid ((bs l).extract n l.length = bs (l.drop n)) := extract_from l n
  have hnl : n ≤ l.length := by omega
  clear h2 h3
  go_enter Tryd.func36, Tryd.ntmps36
  go_wp2_with fail
  refine (rlast_any _ _ HL.out).mono ?_
  rintro e w1 ⟨rfl, rfl⟩
  rw [hn]
  go_wp2_with fail
  go_ret
  exact ⟨by rw [← HE.out]; rfl, rfl⟩


end Go.Proofs.YtebidnepanogcaaDoor
