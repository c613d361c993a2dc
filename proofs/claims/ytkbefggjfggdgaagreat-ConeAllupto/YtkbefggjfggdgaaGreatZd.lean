/-
  The document's last component, and what is above, of layer 13.
-/
import Derived.Test.YtkbefggjfggdgaaGreatZc
namespace Go.Proofs.YtkbefggjfggdgaaGreat
open Go.RowKit

/-- no slash from m on -/
theorem base_of {l : List UInt8} {m : Nat} (hm : m ≤ l.length) (h : (l.drop m).count 47 = 0) (h2 : m = 0 ∨ ∃ k, m = k + 1 ∧ ∃ hk : k < l.length, l[k] = 47) : base l = l.drop m := by
  rcases h2 with rfl | ⟨k, rfl, hk, e⟩
  · rw [List.drop_zero] at h ⊢
    unfold base
    rw [lst_none l h]
    rfl
  · have e1 : l = l.take k ++ 47 :: l.drop (k + 1) := by
      conv => lhs; rw [← List.take_append_drop k l, List.drop_eq_getElem_cons hk, e]
    conv => lhs; rw [e1]
    rw [base_app]
    unfold base
    rw [lst_none _ h]
    rfl
set_option maxHeartbeats 4000000 in
set_option maxRecDepth 100000 in
theorem rbase13_any (l : List UInt8) (w : World) (hl : l.length ≤ 1000000000) :
    Calls Tryz.prog 50 #[.string (bs l)] w fun e w' => e = .returned (.string (bs (base l))) ∧ w' = w := by
  have hz : (bs l).size = l.length := rfl
  obtain ⟨n, hn⟩ : ∃ n, l.length = n := ⟨_, rfl⟩
  have HN : Hid (l.length = n) := hn
  rw [hn] at hz hl
  clear hn
  go_enter Tryz.func50, Tryz.ntmps50
  go_wp2_with fail
  go_loopw [3] (fun iv wr => ∃ m : Nat, m ≤ n ∧ iv = .int .i64 ((m : Int) - 1) ∧ (l.drop m).count 47 = 0 ∧ w = wr) (fun iv _ => (intOf iv + 1).toNat)
  case atStart => exact ⟨n, Nat.le_refl _, by go_num, by rw [← HN.out, List.drop_length]; rfl, rfl⟩
  case round =>
    obtain ⟨m, hm, rfl, hc, rfl⟩ := hrel
    have HC : Hid ((l.drop m).count 47 = 0) := hc
    clear hc
    cases m with
    | zero =>
      have HB : Hid (base l = l) := by
        have h := base_of (l := l) (m := 0) (Nat.zero_le _) HC.out (.inl rfl)
        rw [List.drop_zero] at h
        exact h
      go_wp2_with fail
      go_ret
      exact ⟨by rw [HB.out]; rfl, rfl⟩
    | succ k =>
      have hki : ((k + 1 : Nat) : Int) - 1 = (k : Int) := by omega
      rw [hki]
      have hkl : k < l.length := by rw [HN.out]; omega
      have hkz : k < (bs l).size := hkl
      have k1 : (0 : Int) ≤ (k : Int) := by omega
      have k2 : (k : Int) < (n : Int) := by omega
      by_cases hc : l[k]'hkl = 47
      · have e1 : (((bs l)[k].toNat : Int) == 47) = true := by rw [bs_get _ _ _ hkl, hc]; rfl
        have HB : Hid (base l = l.drop (k + 1)) := base_of (by omega) HC.out (.inr ⟨k, rfl, hkl, hc⟩)
        have HX : Hid ((bs l).extract (k + 1) n = bs (l.drop (k + 1))) := by
          show _ = _
          have h := bs_extract l (k + 1) n
          rw [h, ← HN.out, List.take_of_length_le (by simp)]
        go_wp2_with fail
        go_ret
        exact ⟨by rw [HB.out, ← HX.out]; rfl, rfl⟩
      · have e1 : (((bs l)[k].toNat : Int) == 47) = false := by
          rw [bs_get _ _ _ hkl, beq_eq_false_iff_ne]; intro e; apply hc; apply UInt8.toNat_inj.1; exact Int.ofNat.inj e
        have HC2 : Hid ((l.drop k).count 47 = 0) := by
          show _ = _
          rw [List.drop_eq_getElem_cons hkl, List.count_cons, HC.out]
          simpa using hc
        go_wp2_with fail
        go_roundw
        case rel => exact ⟨k, by omega, by go_num, HC2.out, trivial⟩
        case measure => simp [intOf]
set_option maxHeartbeats 4000000 in
set_option maxRecDepth 100000 in
theorem rabove13_any (a b : List UInt8) (w : World) (ha : a.length ≤ 1000000000) (_hb : b.length ≤ 1000000000) :
    Calls Tryz.prog 52 #[.string (bs a), .string (bs b)] w fun e w' => e = .returned (.bool (abvV a b)) ∧ w' = w := by
  have z1 : (bs a).size = a.length := rfl
  have z2 : (bs b).size = b.length := rfl
  have e1 := isE a
  by_cases h0 : a = b
  · have q1 : ((bs a).toList == (bs b).toList) = true := by rw [h0]; simp
    have HR : Hid (abvV a b = false) := by
      show abvV a b = false
      rw [h0]
      cases e : abvV b b with
      | false => rfl
      | true =>
        have := abv_cf e
        rw [cf_self] at this
        omega
    clear e1 h0
    go_enter Tryz.func52, Tryz.ntmps52
    go_wp2_with fail
    go_ret
    exact ⟨by rw [HR.out]; rfl, rfl⟩
  have q1 : ((bs a).toList == (bs b).toList) = false := by rw [bs_toList, bs_toList, beq_eq_false_iff_ne]; exact h0
  by_cases h1 : a = []
  · have i0 : a.isEmpty = true := by rw [h1]; rfl
    rw [i0] at e1
    have HR : Hid (abvV a b = true) := by
      show abvV a b = true
      subst h1
      exact (abvV_iff _ _).2 ⟨pcs b, fun e => h0 ((pcs_eq_nil b).1 e).symm, rfl⟩
    clear h0 h1 i0
    go_enter Tryz.func52, Tryz.ntmps52
    go_wp2_with fail
    go_ret
    exact ⟨by rw [HR.out]; rfl, rfl⟩
  have i0 : a.isEmpty = false := by cases a; exact absurd rfl h1; rfl
  rw [i0] at e1
  have HAB := hid_of (abv_bytes a b h1)
  by_cases h2 : a.length < b.length
  · have n1 : (a.length : Int) < (b.length : Int) := by omega
    have n2 : (0 : Int) ≤ (a.length : Int) := by omega
    have n3 : (a.length : Int) ≤ (b.length : Int) := by omega
    have hkz : a.length < (bs b).size := h2
    have HX : Hid ((bs b).extract 0 a.length = bs (b.take a.length)) := by
      show _ = _
      have h := bs_extract b 0 a.length
      rw [h]; simp
    by_cases h3 : b.take a.length = a
    · have q2 : (((bs b).extract 0 a.length).toList == (bs a).toList) = true := by rw [HX.out, h3]; simp
      by_cases h4 : b[a.length]'h2 = 47
      · have q3 : (((bs b)[a.length].toNat : Int) == 47) = true := by rw [bs_get _ _ _ h2, h4]; rfl
        have HR : Hid (abvV a b = true) := HAB.out.2 ⟨h2, h3, by rw [List.getElem?_eq_getElem h2, h4]⟩
        clear h0 h1 h3 h4 i0
        go_enter Tryz.func52, Tryz.ntmps52
        go_wp2_with fail
        go_ret
        exact ⟨by rw [HR.out]; rfl, rfl⟩
      · have q3 : (((bs b)[a.length].toNat : Int) == 47) = false := by
          rw [bs_get _ _ _ h2, beq_eq_false_iff_ne]; intro e; apply h4; apply UInt8.toNat_inj.1; exact Int.ofNat.inj e
        have HR : Hid (abvV a b = false) := by
          show abvV a b = false
          cases e : abvV a b with
          | false => rfl
          | true =>
            obtain ⟨_, _, g3⟩ := HAB.out.1 e
            rw [List.getElem?_eq_getElem h2] at g3
            exact absurd (Option.some.inj g3) h4
        clear h0 h1 h3 h4 i0
        go_enter Tryz.func52, Tryz.ntmps52
        go_wp2_with fail
        go_ret
        exact ⟨by rw [HR.out]; rfl, rfl⟩
    · have q2 : (((bs b).extract 0 a.length).toList == (bs a).toList) = false := by rw [HX.out, bs_toList, bs_toList, beq_eq_false_iff_ne]; exact h3
      have HR : Hid (abvV a b = false) := by
        show abvV a b = false
        cases e : abvV a b with
        | false => rfl
        | true => exact absurd (HAB.out.1 e).2.1 h3
      clear h0 h1 h3 i0
      go_enter Tryz.func52, Tryz.ntmps52
      go_wp2_with fail
      go_ret
      exact ⟨by rw [HR.out]; rfl, rfl⟩
  · have n1 : ¬ (a.length : Int) < (b.length : Int) := by omega
    have HR : Hid (abvV a b = false) := by
      show abvV a b = false
      cases e : abvV a b with
      | false => rfl
      | true => exact absurd (HAB.out.1 e).1 h2
    clear h0 h1 i0
    go_enter Tryz.func52, Tryz.ntmps52
    go_wp2_with fail
    go_ret
    exact ⟨by rw [HR.out]; rfl, rfl⟩
end Go.Proofs.YtkbefggjfggdgaaGreat
