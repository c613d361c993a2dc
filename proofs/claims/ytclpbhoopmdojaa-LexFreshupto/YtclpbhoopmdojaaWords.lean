/-
  Bytes: words, kinds, the program's and the document's.
-/
import Derived.Test.YtclpbhoopmdojaaLeaf
namespace Go.Proofs.Ytclpbhoopmdojaa
open Go.RowKit

set_option maxHeartbeats 1000000 in
set_option maxRecDepth 100000 in
theorem indexByte0_any (l : List UInt8) (c : UInt8) (w : World) :
    Calls Try.prog 21 #[.string (bs l), .int .u8 c.toNat] w fun e w' => e = .returned (.int .i64 (Lib.indexByte l c)) ∧ w' = w := by
  have hc : ((c.toNat : Int)).toNat.toUInt8 = c := by simp
  go_enter Try.func21, Try.ntmps21
  go_wp2
  rw [run_callFunc_extern Try.func22 (by kernel_rfl) (by kernel_rfl) (by kernel_rfl) (e := Extern.BytealgIndexByte.indexByte) (by kernel_rfl), Lib.run_indexByteString, hc]
  simp only [Result.andThen]
  rw [Oper.upon_value]
  go_wp2
  go_ret
  exact ⟨rfl, rfl⟩
set_option maxHeartbeats 1000000 in
theorem indexByte_any (l : List UInt8) (c : UInt8) (w : World) :
    Calls Try.prog 20 #[.string (bs l), .int .u8 c.toNat] w fun e w' => e = .returned (.int .i64 (Lib.indexByte l c)) ∧ w' = w := by
  go_enter Try.func20, Try.ntmps20
  go_wp2_with fail
  refine (indexByte0_any _ _ _).mono ?_
  rintro e w1 ⟨rfl, rfl⟩
  go_wp2_with fail
  go_ret
  exact ⟨rfl, rfl⟩

theorem idx_joints (c : UInt8) : decide (0 ≤ Lib.indexByte [46, 95, 47, 42, 58, 45] c) = [46, 95, 47, 42, 58, 45].contains c :=
  u8_all (P := fun c => decide (0 ≤ Lib.indexByte [46, 95, 47, 42, 58, 45] c) = [46, 95, 47, 42, 58, 45].contains c) (by decide +kernel) c
theorem idx_marks (c : UInt8) : (0 ≤ Lib.indexByte [123, 125, 91, 93, 44, 61] c → 2 + Lib.indexByte [123, 125, 91, 93, 44, 61] c = (mkd c : Int)) ∧ (¬ 0 ≤ Lib.indexByte [123, 125, 91, 93, 44, 61] c → mkd c = 0) ∧ Lib.indexByte [123, 125, 91, 93, 44, 61] c < 6 :=
  u8_all (P := fun c => (0 ≤ Lib.indexByte [123, 125, 91, 93, 44, 61] c → 2 + Lib.indexByte [123, 125, 91, 93, 44, 61] c = (mkd c : Int)) ∧ (¬ 0 ≤ Lib.indexByte [123, 125, 91, 93, 44, 61] c → mkd c = 0) ∧ Lib.indexByte [123, 125, 91, 93, 44, 61] c < 6) (by decide +kernel) c
theorem inW_nat (c : UInt8) : inW c = ((decide (97 ≤ c.toNat) && decide (c.toNat ≤ 122)) || (decide (65 ≤ c.toNat) && decide (c.toNat ≤ 90)) || (decide (48 ≤ c.toNat) && decide (c.toNat ≤ 57)) || [46, 95, 47, 42, 58, 45].contains c) :=
  u8_all (P := fun c => inW c = ((decide (97 ≤ c.toNat) && decide (c.toNat ≤ 122)) || (decide (65 ≤ c.toNat) && decide (c.toNat ≤ 90)) || (decide (48 ≤ c.toNat) && decide (c.toNat ≤ 57)) || [46, 95, 47, 42, 58, 45].contains c)) (by decide +kernel) c

theorem at_eq {l : List UInt8} {k : Nat} {c : UInt8} (h : k < l.length) (hc : l[k] = c) : ((((bs l)[k]'(show k < (bs l).size from h)).toNat : Int) == (c.toNat : Int)) = true := by
  rw [bs_get _ _ _ h, hc]; simp
theorem at_ne {l : List UInt8} {k : Nat} {c : UInt8} (h : k < l.length) (hc : l[k] ≠ c) : ((((bs l)[k]'(show k < (bs l).size from h)).toNat : Int) == (c.toNat : Int)) = false := by
  rw [bs_get _ _ _ h, beq_eq_false_iff_ne]; intro e; apply hc; apply UInt8.toNat_inj.1; exact Int.ofNat.inj e

set_option maxHeartbeats 1000000 in
theorem in_any (l : List UInt8) (c : UInt8) (w : World) (hl : l.length ≤ 1000) :
    Calls Try.prog 16 #[.string (bs l), .int .u8 c.toNat] w fun e w' => e = .returned (.bool (l.contains c)) ∧ w' = w := by
  have hz : (bs l).size = l.length := rfl
  obtain ⟨R, hR⟩ : ∃ R, l.contains c = R := ⟨_, rfl⟩
  rw [hR]
  have HR : Hid ((l.drop 0).contains c = R) := hR
  clear hR
  go_enter Try.func16, Try.ntmps16
  go_wp2_with fail
  go_loop [5] (fun s => ∃ k : Nat, k ≤ l.length ∧ s = .int .i64 k ∧ (l.drop k).contains c = R) (fun s => l.length - (intOf s).toNat)
  case atStart => exact ⟨0, by omega, rfl, HR.out⟩
  case round =>
    obtain ⟨k, hk, rfl, hr⟩ := hrel
    by_cases hlt : k < l.length
    · have hx := List.drop_eq_getElem_cons hlt
      rw [hx, List.contains_cons] at hr
      have HR : Hid ((c == l[k] || (l.drop (k + 1)).contains c) = R) := hr
      clear hr hx
      have k1 : (0 : Int) ≤ (k : Int) := by omega
      have k2 : (k : Int) < (l.length : Int) := by omega
      by_cases hc : l[k] = c
      · have e1 := at_eq hlt hc
        rw [hc] at HR
        go_wp2_with fail
        go_ret
        exact ⟨by rw [← HR.out]; simp, rfl⟩
      · have e1 := at_ne hlt hc
        go_wp2_with fail
        go_round
        case rel => exact ⟨k + 1, by omega, by go_num, by rw [← HR.out]; simp [Ne.symm hc]⟩
        case measure => simp [intOf]; omega
    · obtain rfl : k = l.length := by omega
      have HR : Hid (false = R) := by
        show false = R
        simp at hr; exact hr.symm
      clear hr
      go_wp2_with fail
      go_ret
      exact ⟨by rw [← HR.out]; rfl, rfl⟩

set_option maxHeartbeats 2000000 in
theorem inWord_any (c : UInt8) (w : World) :
    Calls Try.prog 19 #[.int .u8 c.toNat] w fun e w' => e = .returned (.bool (inW c)) ∧ w' = w := by
  obtain ⟨r, hr⟩ : ∃ r, inW c = r := ⟨_, rfl⟩
  rw [hr]
  rw [inW_nat] at hr
  obtain ⟨n, hn⟩ : ∃ n, c.toNat = n := ⟨_, rfl⟩
  have HC : Hid (∀ w : World, Calls Try.prog 20 #[.string (bs [46, 95, 47, 42, 58, 45]), .int .u8 c.toNat] w fun e w' => e = .returned (.int .i64 (Lib.indexByte [46, 95, 47, 42, 58, 45] c)) ∧ w' = w) := fun w => indexByte_any _ c w
  rw [hn] at hr HC ⊢
  rw [← idx_joints] at hr
  obtain ⟨y, hy⟩ : ∃ y, Lib.indexByte [46, 95, 47, 42, 58, 45] c = y := ⟨_, rfl⟩
  rw [hy] at HC hr
  clear hy
  obtain ⟨t, ht⟩ : ∃ t, decide (0 ≤ y) = t := ⟨_, rfl⟩
  rw [ht] at hr
  have HR2 : Hid (((decide (97 ≤ n) && decide (n ≤ 122)) || (decide (65 ≤ n) && decide (n ≤ 90)) || (decide (48 ≤ n) && decide (n ≤ 57)) || t) = r) := hr
  clear hr hn
  by_cases h1 : 97 ≤ n ∧ n ≤ 122
  · obtain ⟨h1, h2⟩ := h1
    go_enter Try.func19, Try.ntmps19
    go_wp2_with fail
    go_ret
    exact ⟨by rw [← HR2.out]; simp [h1, h2], rfl⟩
  by_cases h2 : 65 ≤ n ∧ n ≤ 90
  · obtain ⟨h2, h3⟩ := h2
    have h4 : ¬ 97 ≤ n := by omega
    clear h1
    go_enter Try.func19, Try.ntmps19
    go_wp2_with fail
    go_ret
    exact ⟨by rw [← HR2.out]; simp [h2, h3], rfl⟩
  by_cases h3 : 48 ≤ n ∧ n ≤ 57
  · obtain ⟨h3, h4⟩ := h3
    have h5 : ¬ 97 ≤ n := by omega
    have h6 : ¬ 65 ≤ n := by omega
    clear h1 h2
    go_enter Try.func19, Try.ntmps19
    go_wp2_with fail
    go_ret
    exact ⟨by rw [← HR2.out]; simp [h3, h4], rfl⟩
  have z : t = r := by
    rw [← HR2.out]
    have e1 : (decide (97 ≤ n) && decide (n ≤ 122)) = false := by simp; omega
    have e2 : (decide (65 ≤ n) && decide (n ≤ 90)) = false := by simp; omega
    have e3 : (decide (48 ≤ n) && decide (n ≤ 57)) = false := by simp; omega
    rw [e1, e2, e3]; rfl
  subst z
  clear HR2
  by_cases p1 : 97 ≤ n
  · have q0 : ¬ n ≤ 122 := by omega
    have q1 : 65 ≤ n := by omega
    have q2 : ¬ n ≤ 90 := by omega
    have q3 : 48 ≤ n := by omega
    have q4 : ¬ n ≤ 57 := by omega
    clear h1 h2 h3
    go_enter Try.func19, Try.ntmps19
    go_wp2_with fail
    refine (HC.out _).mono ?_
    rintro e w1 ⟨rfl, rfl⟩
    go_wp2_with fail
    go_ret
    exact ⟨by show Ending.returned (Value.bool _) = _; rw [decide_eq_false (by omega : ¬ (n : Int) ≤ 122), decide_eq_false (by omega : ¬ (n : Int) ≤ 90), decide_eq_false (by omega : ¬ (n : Int) ≤ 57)]; rfl, rfl⟩
  by_cases p2 : 65 ≤ n
  · have q0 : ¬ n ≤ 90 := by omega
    have q1 : 48 ≤ n := by omega
    have q2 : ¬ n ≤ 57 := by omega
    clear h1 h2 h3
    go_enter Try.func19, Try.ntmps19
    go_wp2_with fail
    refine (HC.out _).mono ?_
    rintro e w1 ⟨rfl, rfl⟩
    go_wp2_with fail
    go_ret
    exact ⟨by show Ending.returned (Value.bool _) = _; rw [decide_eq_false (by omega : ¬ (n : Int) ≤ 90), decide_eq_false (by omega : ¬ (n : Int) ≤ 57)]; rfl, rfl⟩
  by_cases p3 : 48 ≤ n
  · have q0 : ¬ n ≤ 57 := by omega
    clear h1 h2 h3
    go_enter Try.func19, Try.ntmps19
    go_wp2_with fail
    refine (HC.out _).mono ?_
    rintro e w1 ⟨rfl, rfl⟩
    go_wp2_with fail
    go_ret
    exact ⟨by show Ending.returned (Value.bool _) = _; rw [decide_eq_false (by omega : ¬ (n : Int) ≤ 57)]; rfl, rfl⟩
  clear h1 h2 h3
  go_enter Try.func19, Try.ntmps19
  go_wp2_with fail
  refine (HC.out _).mono ?_
  rintro e w1 ⟨rfl, rfl⟩
  go_wp2_with fail
  go_ret
  exact ⟨rfl, rfl⟩

set_option maxHeartbeats 2000000 in
theorem letter_any (c : UInt8) (w : World) :
    Calls Try.prog 10 #[.int .u8 c.toNat] w fun e w' => e = .returned (.bool (inW c)) ∧ w' = w := by
  obtain ⟨r, hr⟩ : ∃ r, inW c = r := ⟨_, rfl⟩
  rw [hr]
  rw [inW_nat] at hr
  obtain ⟨n, hn⟩ : ∃ n, c.toNat = n := ⟨_, rfl⟩
  have HC : Hid (∀ w : World, Calls Try.prog 16 #[.string (bs [46, 95, 47, 42, 58, 45]), .int .u8 c.toNat] w fun e w' => e = .returned (.bool ([46, 95, 47, 42, 58, 45].contains c)) ∧ w' = w) := fun w => in_any _ c w (by decide)
  rw [hn] at hr HC ⊢
  obtain ⟨t, ht⟩ : ∃ t, [46, 95, 47, 42, 58, 45].contains c = t := ⟨_, rfl⟩
  rw [ht] at HC hr
  clear ht
  have HR2 : Hid (((decide (97 ≤ n) && decide (n ≤ 122)) || (decide (65 ≤ n) && decide (n ≤ 90)) || (decide (48 ≤ n) && decide (n ≤ 57)) || t) = r) := hr
  clear hr hn
  by_cases h1 : 97 ≤ n ∧ n ≤ 122
  · obtain ⟨h1, h2⟩ := h1
    go_enter Try.func10, Try.ntmps10
    go_wp2_with fail
    go_ret
    exact ⟨by rw [← HR2.out]; simp [h1, h2], rfl⟩
  by_cases h2 : 65 ≤ n ∧ n ≤ 90
  · obtain ⟨h2, h3⟩ := h2
    have h4 : ¬ 97 ≤ n := by omega
    clear h1
    go_enter Try.func10, Try.ntmps10
    go_wp2_with fail
    go_ret
    exact ⟨by rw [← HR2.out]; simp [h2, h3], rfl⟩
  by_cases h3 : 48 ≤ n ∧ n ≤ 57
  · obtain ⟨h3, h4⟩ := h3
    have h5 : ¬ 97 ≤ n := by omega
    have h6 : ¬ 65 ≤ n := by omega
    clear h1 h2
    go_enter Try.func10, Try.ntmps10
    go_wp2_with fail
    go_ret
    exact ⟨by rw [← HR2.out]; simp [h3, h4], rfl⟩
  have z : t = r := by
    rw [← HR2.out]
    have e1 : (decide (97 ≤ n) && decide (n ≤ 122)) = false := by simp; omega
    have e2 : (decide (65 ≤ n) && decide (n ≤ 90)) = false := by simp; omega
    have e3 : (decide (48 ≤ n) && decide (n ≤ 57)) = false := by simp; omega
    rw [e1, e2, e3]; rfl
  subst z
  clear HR2
  by_cases p1 : 97 ≤ n
  · have q0 : ¬ n ≤ 122 := by omega
    have q1 : 65 ≤ n := by omega
    have q2 : ¬ n ≤ 90 := by omega
    have q3 : 48 ≤ n := by omega
    have q4 : ¬ n ≤ 57 := by omega
    clear h1 h2 h3
    go_enter Try.func10, Try.ntmps10
    go_wp2_with fail
    refine (HC.out _).mono ?_
    rintro e w1 ⟨rfl, rfl⟩
    go_wp2_with fail
    go_ret
    exact ⟨by show Ending.returned (Value.bool _) = _; rw [decide_eq_false (by omega : ¬ (n : Int) ≤ 122), decide_eq_false (by omega : ¬ (n : Int) ≤ 90), decide_eq_false (by omega : ¬ (n : Int) ≤ 57)]; rfl, rfl⟩
  by_cases p2 : 65 ≤ n
  · have q0 : ¬ n ≤ 90 := by omega
    have q1 : 48 ≤ n := by omega
    have q2 : ¬ n ≤ 57 := by omega
    clear h1 h2 h3
    go_enter Try.func10, Try.ntmps10
    go_wp2_with fail
    refine (HC.out _).mono ?_
    rintro e w1 ⟨rfl, rfl⟩
    go_wp2_with fail
    go_ret
    exact ⟨by show Ending.returned (Value.bool _) = _; rw [decide_eq_false (by omega : ¬ (n : Int) ≤ 90), decide_eq_false (by omega : ¬ (n : Int) ≤ 57)]; rfl, rfl⟩
  by_cases p3 : 48 ≤ n
  · have q0 : ¬ n ≤ 57 := by omega
    clear h1 h2 h3
    go_enter Try.func10, Try.ntmps10
    go_wp2_with fail
    refine (HC.out _).mono ?_
    rintro e w1 ⟨rfl, rfl⟩
    go_wp2_with fail
    go_ret
    exact ⟨by show Ending.returned (Value.bool _) = _; rw [decide_eq_false (by omega : ¬ (n : Int) ≤ 57)]; rfl, rfl⟩
  clear h1 h2 h3
  go_enter Try.func10, Try.ntmps10
  go_wp2_with fail
  refine (HC.out _).mono ?_
  rintro e w1 ⟨rfl, rfl⟩
  go_wp2_with fail
  go_ret
  exact ⟨rfl, rfl⟩

set_option maxHeartbeats 1000000 in
theorem kind_any (c : UInt8) (w : World) : Calls Try.prog 14 #[.int .u8 c.toNat] w fun e w' => e = .returned (.int .i64 (kd c : Nat)) ∧ w' = w := by
  have H1 : Hid (∀ w : World, Calls Try.prog 19 #[.int .u8 c.toNat] w fun e w' => e = .returned (.bool (inW c)) ∧ w' = w) := fun w => inWord_any c w
  have H2 : Hid (∀ w : World, Calls Try.prog 20 #[.string (bs [123, 125, 91, 93, 44, 61]), .int .u8 c.toNat] w fun e w' => e = .returned (.int .i64 (Lib.indexByte [123, 125, 91, 93, 44, 61] c)) ∧ w' = w) := fun w => indexByte_any _ c w
  obtain ⟨i1, i2, i3⟩ := idx_marks c
  unfold kd
  cases hw : inW c
  · rw [hw] at H1
    simp only [Bool.false_eq_true, if_false]
    generalize Lib.indexByte [123, 125, 91, 93, 44, 61] c = y at *
    generalize mkd c = m at *
    clear hw
    by_cases hy : 0 ≤ y
    · have e1 := i1 hy
      clear i1 i2
      have HE : Hid (2 + y = (m : Int)) := e1
      clear e1
      go_enter Try.func14, Try.ntmps14
      go_wp2_with fail
      refine (H1.out _).mono ?_
      rintro e w1 ⟨rfl, rfl⟩
      go_wp2_with fail
      refine (H2.out _).mono ?_
      rintro e w1 ⟨rfl, rfl⟩
      go_wp2_with fail
      go_ret
      exact ⟨by rw [← HE.out]; rfl, rfl⟩
    · have e1 := i2 hy
      subst e1
      clear i1 i2
      go_enter Try.func14, Try.ntmps14
      go_wp2_with fail
      refine (H1.out _).mono ?_
      rintro e w1 ⟨rfl, rfl⟩
      go_wp2_with fail
      refine (H2.out _).mono ?_
      rintro e w1 ⟨rfl, rfl⟩
      go_wp2_with fail
      go_ret
      exact ⟨rfl, rfl⟩
  · rw [hw] at H1
    simp only [if_true]
    clear i1 i2 i3 hw
    go_enter Try.func14, Try.ntmps14
    go_wp2_with fail
    refine (H1.out _).mono ?_
    rintro e w1 ⟨rfl, rfl⟩
    go_wp2_with fail
    go_ret
    exact ⟨rfl, rfl⟩

/-- the marks from one on -/
def mk6 (c : UInt8) : List UInt8 → Nat → Nat
  | [], _ => 0
  | d :: r, k => if d = c then k + 2 else mk6 c r (k + 1)
theorem mk6_mkd (c : UInt8) : mk6 c [123, 125, 91, 93, 44, 61] 0 = mkd c :=
  u8_all (P := fun c => mk6 c [123, 125, 91, 93, 44, 61] 0 = mkd c) (by decide +kernel) c

set_option maxHeartbeats 2000000 in
theorem rkind_any (c : UInt8) (w : World) : Calls Try.prog 17 #[.int .u8 c.toNat] w fun e w' => e = .returned (.int .i64 (mkd c : Nat)) ∧ w' = w := by
  obtain ⟨R, hR⟩ : ∃ R, mkd c = R := ⟨_, rfl⟩
  rw [hR]
  obtain ⟨l, hl⟩ : ∃ l : List UInt8, [123, 125, 91, 93, 44, 61] = l := ⟨_, rfl⟩
  have hz : (bs l).size = 6 := by rw [← hl]; rfl
  have HL : Hid (l.length = 6) := by rw [← hl]; rfl
  have HR : Hid (mk6 c (l.drop 0) 0 = R) := by rw [← hl]; exact (mk6_mkd c).trans hR
  have HE : Hid (ByteArray.mk #[123, 125, 91, 93, 44, 61] = bs l) := by rw [← hl]; rfl
  clear hR hl
  go_enter Try.func17, Try.ntmps17
  rw [HE.out]
  go_wp2_with fail
  go_loop [3] (fun s => ∃ k : Nat, k ≤ 6 ∧ s = .int .i64 k ∧ mk6 c (l.drop k) k = R) (fun s => 6 - (intOf s).toNat)
  case atStart => exact ⟨0, by omega, rfl, HR.out⟩
  case round =>
    obtain ⟨k, hk, rfl, hr⟩ := hrel
    by_cases hlt : k < 6
    · have hlt' : k < l.length := by rw [HL.out]; exact hlt
      rw [List.drop_eq_getElem_cons hlt', mk6] at hr
      have HR : Hid ((if l[k] = c then k + 2 else mk6 c (l.drop (k + 1)) (k + 1)) = R) := hr
      clear hr
      have k1 : (0 : Int) ≤ (k : Int) := by omega
      have k2 : (k : Int) < 6 := by omega
      by_cases hc : l[k] = c
      · have e1 := at_eq hlt' hc
        rw [if_pos hc] at HR
        go_wp2_with fail
        go_ret
        exact ⟨by rw [← HR.out]; rfl, rfl⟩
      · have e1 := at_ne hlt' hc
        go_wp2_with fail
        go_round
        case rel => exact ⟨k + 1, by omega, by go_num, by rw [← HR.out, if_neg hc]⟩
        case measure => simp [intOf]; omega
    · obtain rfl : k = 6 := by omega
      have HR : Hid (0 = R) := by
        rw [List.drop_of_length_le (by rw [HL.out]; exact Nat.le_refl _)] at hr
        exact hr
      clear hr
      go_wp2_with fail
      go_ret
      exact ⟨by rw [← HR.out]; rfl, rfl⟩
end Go.Proofs.Ytclpbhoopmdojaa
