/-
  See words: whom a text names.
-/
import Derived.Test.YtoldcbfmkibkdaaCmp
namespace Go.Proofs.Ytoldcbfmkibkdaa
open Go.RowKit

def Kd.val : Kd → Value
  | .nobody => .nilIface
  | .all => .iface 65 (.agg #[])
  | .one p => .iface 66 (.string (bs p))
  | .tree p => .iface 67 (.string (bs p))
theorem c_pub : (ByteArray.mk #[112, 117, 98, 108, 105, 99]).toList = pub := ByteArray.toList_mk pub
theorem c_adots : (ByteArray.mk #[47, 47, 46, 46, 46]).toList = adots := ByteArray.toList_mk adots
theorem c_sdots : (ByteArray.mk #[47, 47, 47, 46, 46, 46]).toList = 47 :: 47 :: dots := ByteArray.toList_mk (47 :: 47 :: dots)

set_option maxHeartbeats 1000000 in
theorem kind_any (s : List UInt8) (w : World) (hs : s.length ≤ 1125899906842624) : Calls Try.prog 44 #[.string (bs s)] w fun e w' => e = .returned (kin s).val ∧ w' = w := by
  have HP : Hid (∀ w : World, Calls Try.prog 21 #[.string (bs s), .string (bs [47, 47])] w fun e w' => e = .returned (.tuple #[.string (bs (if [47, 47].isPrefixOf s then s.drop 2 else s)), .bool ([47, 47].isPrefixOf s)]) ∧ w' = w) := fun w => cutPrefix_any s [47, 47] w (by omega) (by simp)
  have e0 := bs_toList s
  have e1 := c_pub
  have e2 := c_adots
  have e3 := c_sdots
  unfold kin
  by_cases h1 : s = pub
  · have h1' : (s == pub) = true := by simpa using h1
    rw [if_pos h1]
    clear h1
    go_enter Try.func44, Try.ntmps44
    go_wp2_with fail
    go_ret
    exact ⟨rfl, rfl⟩
  have h1' : (s == pub) = false := by simpa using h1
  rw [if_neg h1]
  clear h1
  by_cases h2 : s = adots
  · have h2' : (s == adots) = true := by simpa using h2
    rw [if_pos h2]
    clear h2
    go_enter Try.func44, Try.ntmps44
    go_wp2_with fail
    go_ret
    exact ⟨rfl, rfl⟩
  have h2' : (s == adots) = false := by simpa using h2
  rw [if_neg h2]
  clear h2
  by_cases h3 : s = 47 :: 47 :: dots
  · have h3' : (s == 47 :: 47 :: dots) = true := by simpa using h3
    rw [if_pos h3]
    clear h3
    go_enter Try.func44, Try.ntmps44
    go_wp2_with fail
    go_ret
    exact ⟨rfl, rfl⟩
  have h3' : (s == 47 :: 47 :: dots) = false := by simpa using h3
  rw [if_neg h3]
  clear h3
  cases hp : List.isPrefixOf [47, 47] s
  · rw [hp] at HP
    simp only [Bool.false_eq_true, if_false] at HP ⊢
    clear hs
    go_enter Try.func44, Try.ntmps44
    go_wp2_with fail
    refine (HP.out _).mono ?_
    rintro e w1 ⟨rfl, rfl⟩
    go_wp2_with fail
    go_ret
    exact ⟨rfl, rfl⟩
  rw [hp] at HP
  simp only [if_true] at HP ⊢
  obtain ⟨r, hr⟩ : ∃ r, s.drop 2 = r := ⟨_, rfl⟩
  have hrl : r.length ≤ 1125899906842624 := by rw [← hr]; simp; omega
  rw [hr] at HP ⊢
  have HS : Hid (∀ w : World, Calls Try.prog 54 #[.string (bs r), .string (bs dots)] w fun e w' => e = .returned (.tuple #[.string (bs (if dots.isSuffixOf r then r.take (r.length - 4) else r)), .bool (dots.isSuffixOf r)]) ∧ w' = w) := fun w => cutSuffix_any r dots w (by omega) (by simp [dots])
  clear hs hrl hr hp
  cases hq : List.isSuffixOf dots r
  · rw [hq] at HS
    simp only [Bool.false_eq_true, if_false] at HS ⊢
    clear hq
    go_enter Try.func44, Try.ntmps44
    go_wp2_with fail
    refine (HP.out _).mono ?_
    rintro e w1 ⟨rfl, rfl⟩
    go_wp2_with fail
    refine (HS.out _).mono ?_
    rintro e w1 ⟨rfl, rfl⟩
    go_wp2_with fail
    go_ret
    exact ⟨rfl, rfl⟩
  · rw [hq] at HS
    simp only [if_true] at HS ⊢
    clear hq
    generalize r.take (r.length - 4) = t at *
    go_enter Try.func44, Try.ntmps44
    go_wp2_with fail
    refine (HP.out _).mono ?_
    rintro e w1 ⟨rfl, rfl⟩
    go_wp2_with fail
    refine (HS.out _).mono ?_
    rintro e w1 ⟨rfl, rfl⟩
    go_wp2_with fail
    go_ret
    exact ⟨rfl, rfl⟩

set_option maxHeartbeats 1000000 in
theorem top65_any (w : World) : Calls Try.prog 81 #[.agg #[]] w fun e w' => e = .returned (.string (bs [])) ∧ Below w.heap.size w w' := by
  go_enter Try.func81, Try.ntmps81
  go_wp2_with fail
  go_ret
  exact ⟨rfl, balloc _ _⟩
theorem top66_any (p : List UInt8) (w : World) : Calls Try.prog 82 #[.string (bs p)] w fun e w' => e = .returned (.string (bs p)) ∧ w' = w := by
  go_enter Try.func82, Try.ntmps82
  go_wp2_with fail
  go_ret
  exact ⟨rfl, rfl⟩
theorem top67_any (p : List UInt8) (w : World) : Calls Try.prog 83 #[.string (bs p)] w fun e w' => e = .returned (.string (bs p)) ∧ w' = w := by
  go_enter Try.func83, Try.ntmps83
  go_wp2_with fail
  go_ret
  exact ⟨rfl, rfl⟩

theorem nn65 (w : World) : (binOp .eql 49 (.iface 65 (.agg #[])) .nilIface).run Try.prog w = .ok (.bool false) w := by kernel_rfl
theorem nn66 (w : World) (v : ByteArray) : (binOp .eql 49 (.iface 66 (.string v)) .nilIface).run Try.prog w = .ok (.bool false) w := by kernel_rfl
theorem nn67 (w : World) (v : ByteArray) : (binOp .eql 49 (.iface 67 (.string v)) .nilIface).run Try.prog w = .ok (.bool false) w := by kernel_rfl
theorem nq65 (w : World) : (binOp .neq 49 (.iface 65 (.agg #[])) .nilIface).run Try.prog w = .ok (.bool true) w := by kernel_rfl
theorem nq66 (w : World) (v : ByteArray) : (binOp .neq 49 (.iface 66 (.string v)) .nilIface).run Try.prog w = .ok (.bool true) w := by kernel_rfl
theorem nq67 (w : World) (v : ByteArray) : (binOp .neq 49 (.iface 67 (.string v)) .nilIface).run Try.prog w = .ok (.bool true) w := by kernel_rfl

set_option maxHeartbeats 1000000 in
theorem read_any (s : List UInt8) (w : World) (hs : s.length ≤ 1125899906842624) : Calls Try.prog 29 #[.string (bs s)] w fun e w' => e = .returned (rdk s).val ∧ Below w.heap.size w w' := by
  have HK : Hid (∀ w : World, Calls Try.prog 44 #[.string (bs s)] w fun e w' => e = .returned (kin s).val ∧ w' = w) := fun w => kind_any s w hs
  have hk : (kin s).top.length ≤ s.length := by
    unfold kin
    split
    · simp [Kd.top]
    split
    · simp [Kd.top]
    split
    · simp [Kd.top]
    split
    · split
      · simp [Kd.top]; omega
      · simp [Kd.top]
    · simp [Kd.top]
  have HV : Hid (∀ w : World, Calls Try.prog 24 #[.string (bs (kin s).top)] w fun e w' => e = .returned (.bool (okP (kin s).top)) ∧ Below w.heap.size w w') := fun w => valid_any _ w (by omega)
  unfold rdk
  generalize kin s = k at *
  clear hk hs
  have m65 := nn65
  have m66 := nn66
  have m67 := nn67
  cases k with
  | nobody =>
    simp only [Kd.val, Kd.top, okP_nil, if_true] at *
    go_enter Try.func29, Try.ntmps29
    go_wp2_with fail
    refine (HK.out _).mono ?_
    rintro e w1 ⟨rfl, rfl⟩
    go_wp2_with fail
    go_ret
    exact ⟨rfl, Below.refl _ _⟩
  | all =>
    simp only [Kd.val, Kd.top, okP_nil, if_true] at *
    go_enter Try.func29, Try.ntmps29
    go_wp2_with fail
    refine (HK.out _).mono ?_
    rintro e w1 ⟨rfl, rfl⟩
    go_wp2_with fail
    refine (top65_any _).mono ?_
    rintro e w2 ⟨rfl, hb2⟩
    have HB2 : Hid (Below w1.heap.size w1 w2) := hb2
    clear hb2
    go_wp2_with fail
    refine (HV.out _).mono ?_
    rintro e w3 ⟨rfl, hb3⟩
    have HB3 : Hid (Below w1.heap.size w1 w3) := bstep HB2.out hb3
    clear hb3
    go_wp2_with fail
    go_ret
    exact ⟨rfl, HB3.out⟩
  | one p =>
    by_cases hp : okP (Kd.one p).top = true
    rotate_left
    · rw [if_neg hp]
      have hp' : okP (Kd.one p).top = false := by simpa using hp
      rw [hp'] at HV
      clear hp hp'
      simp only [Kd.val, Kd.top] at *
      go_enter Try.func29, Try.ntmps29
      go_wp2_with fail
      refine (HK.out _).mono ?_
      rintro e w1 ⟨rfl, rfl⟩
      go_wp2_with fail
      refine (top66_any _ _).mono ?_
      rintro e w2 ⟨rfl, rfl⟩
      go_wp2_with fail
      refine (HV.out _).mono ?_
      rintro e w3 ⟨rfl, hb3⟩
      have HB3 : Hid (Below w2.heap.size w2 w3) := hb3
      clear hb3
      go_wp2_with fail
      go_ret
      exact ⟨rfl, HB3.out⟩
    · rw [if_pos hp]
      rw [hp] at HV
      clear hp
      simp only [Kd.val, Kd.top] at *
      go_enter Try.func29, Try.ntmps29
      go_wp2_with fail
      refine (HK.out _).mono ?_
      rintro e w1 ⟨rfl, rfl⟩
      go_wp2_with fail
      refine (top66_any _ _).mono ?_
      rintro e w2 ⟨rfl, rfl⟩
      go_wp2_with fail
      refine (HV.out _).mono ?_
      rintro e w3 ⟨rfl, hb3⟩
      have HB3 : Hid (Below w2.heap.size w2 w3) := hb3
      clear hb3
      go_wp2_with fail
      go_ret
      exact ⟨rfl, HB3.out⟩
  | tree p =>
    by_cases hp : okP (Kd.tree p).top = true
    rotate_left
    · rw [if_neg hp]
      have hp' : okP (Kd.tree p).top = false := by simpa using hp
      rw [hp'] at HV
      clear hp hp'
      simp only [Kd.val, Kd.top] at *
      go_enter Try.func29, Try.ntmps29
      go_wp2_with fail
      refine (HK.out _).mono ?_
      rintro e w1 ⟨rfl, rfl⟩
      go_wp2_with fail
      refine (top67_any _ _).mono ?_
      rintro e w2 ⟨rfl, rfl⟩
      go_wp2_with fail
      refine (HV.out _).mono ?_
      rintro e w3 ⟨rfl, hb3⟩
      have HB3 : Hid (Below w2.heap.size w2 w3) := hb3
      clear hb3
      go_wp2_with fail
      go_ret
      exact ⟨rfl, HB3.out⟩
    · rw [if_pos hp]
      rw [hp] at HV
      clear hp
      simp only [Kd.val, Kd.top] at *
      go_enter Try.func29, Try.ntmps29
      go_wp2_with fail
      refine (HK.out _).mono ?_
      rintro e w1 ⟨rfl, rfl⟩
      go_wp2_with fail
      refine (top67_any _ _).mono ?_
      rintro e w2 ⟨rfl, rfl⟩
      go_wp2_with fail
      refine (HV.out _).mono ?_
      rintro e w3 ⟨rfl, hb3⟩
      have HB3 : Hid (Below w2.heap.size w2 w3) := hb3
      clear hb3
      go_wp2_with fail
      go_ret
      exact ⟨rfl, HB3.out⟩
end Go.Proofs.Ytoldcbfmkibkdaa
