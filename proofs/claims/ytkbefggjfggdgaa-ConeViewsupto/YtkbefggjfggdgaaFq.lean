/-
  Lists held against each other; lists in new memory with marks behind them.
-/
import Derived.Test.YtkbefggjfggdgaaSPkg2
import Derived.OwnWalk
namespace Go.Proofs.Ytkbefggjfggdgaa
open Go.RowKit

theorem leq_step (a b : List Fl) (k : Nat) (ha : k < a.length) (hb : k < b.length) : leq (a.drop k) (b.drop k) = (feq (a[k]'ha) (b[k]'hb) && leq (a.drop (k + 1)) (b.drop (k + 1))) := by
  rw [List.drop_eq_getElem_cons ha, List.drop_eq_getElem_cons hb, leq]
theorem leq_len {a b : List Fl} (h : a.length ≠ b.length) : leq a b = false := by
  cases e : leq a b
  · rfl
  · exact absurd (congrArg List.length ((leq_iff a b).1 e)) h
set_option maxHeartbeats 2000000 in
set_option maxRecDepth 100000 in
theorem files_any {w : World} {va vb : Value} {A B : List Fl} (h1 : FS w va A) (h2 : FS w vb B) (hA : A.length ≤ 1000000000) :
    Calls Try.prog 14 #[va, vb] w fun e w' => e = .returned (.bool (leq A B)) ∧ Below w.heap.size w w' := by
  have CA : Hid (FS w va A) := h1
  have CB : Hid (FS w vb B) := h2
  obtain ⟨a, c, rfl⟩ : ∃ a c, va = .slice a A.length c := by obtain ⟨a, c, h, _⟩ := h1.form; exact ⟨a, c, h⟩
  obtain ⟨b, c', rfl⟩ : ∃ a c, vb = .slice a B.length c := by obtain ⟨a, c, h, _⟩ := h2.form; exact ⟨a, c, h⟩
  clear h1 h2
  have CA' : Hid (FS w (.slice a A.length c) A) := CA.out
  have CB' : Hid (FS w (.slice b B.length c') B) := CB.out
  clear CA CB
  by_cases hl : A.length = B.length
  · have e1 : (((A.length : Int)) != (B.length : Int)) = false := by rw [hl]; simp
    obtain ⟨r, hr⟩ : ∃ r, leq A B = r := ⟨_, rfl⟩
    rw [hr]
    have HR : Hid (leq (A.drop 0) (B.drop 0) = r) := hr
    clear hr
    have q1 := neq_run
    have q2 := fguard_run
    go_enter Try.func14, Try.ntmps14
    go_wp2_with fail
    go_loopw [5] (fun i wr => ∃ k n : Nat, k ≤ A.length ∧ i = .int .i64 k ∧ wr = w.drewN n ∧ leq (A.drop k) (B.drop k) = r) (fun i _ => A.length - (intOf i).toNat)
    case atStart => exact ⟨0, 0, Nat.zero_le _, rfl, rfl, HR.out⟩
    case round =>
      obtain ⟨k, n, hk, rfl, rfl, hd⟩ := hrel
      have HD : Hid (leq (A.drop k) (B.drop k) = r) := hd
      clear hd
      by_cases hlt : k < A.length
      · have hlt2 : k < B.length := by omega
        have hkb : (k : Int) < (B.length : Int) := by omega
        have HD2 : Hid ((feq (A[k]'hlt) (B[k]'hlt2) && leq (A.drop (k + 1)) (B.drop (k + 1))) = r) := by
          have h1 := HD.out
          rw [leq_step A B k hlt hlt2] at h1; exact h1
        obtain ⟨g1, o1, ea, hg1, d0, d1, d2, d3⟩ := FS.at CA'.out (Below.refl _ w) hlt
        subst ea
        obtain ⟨g2, o2, ea, hg2, e0, e1', e2, e3⟩ := FS.at CB'.out (Below.refl _ w) hlt2
        subst ea
        generalize hf : A[k] = f at d0 d1 d2 d3 HD2
        generalize hg : B[k] = g at e0 e1' e2 e3 HD2
        clear hf hg
        obtain ⟨p, t, bl, s⟩ := f
        obtain ⟨p2, t2, bl2, s2⟩ := g
        simp only at d0 d1 d2 d3 e0 e1' e2 e3 HD2
        go_wp2_with fail
        go_region
        generalize feq _ _ = x at *
        cases x
        · go_wp2_with fail
          go_ret
          refine ⟨?_, ⟨rfl, rfl, rfl, Nat.le_refl _, fun _ _ => rfl⟩⟩
          have h1 := HD2.out
          rw [Bool.false_and] at h1
          rw [← h1]; rfl
        · go_wp2_with fail
          go_roundw
          case rel => exact ⟨k + 1, n + 1, by omega, by go_num, rfl, by have h1 := HD2.out; rwa [Bool.true_and] at h1⟩
          case measure => simp [intOf]; omega
      · obtain rfl : k = A.length := by omega
        go_wp2_with fail
        go_ret
        refine ⟨?_, ⟨rfl, rfl, rfl, Nat.le_refl _, fun _ _ => rfl⟩⟩
        have h1 := HD.out
        rw [List.drop_eq_nil_of_le (Nat.le_refl _), List.drop_eq_nil_of_le (by omega)] at h1
        rw [← h1]; rfl
  · have hd : ¬ (A.length : Int) = (B.length : Int) := by omega
    have e0 : leq A B = false := leq_len hl
    rw [e0]
    go_enter Try.func14, Try.ntmps14
    go_wp2_with fail
    go_ret
    exact ⟨rfl, Below.refl _ _⟩
end Go.Proofs.Ytkbefggjfggdgaa
