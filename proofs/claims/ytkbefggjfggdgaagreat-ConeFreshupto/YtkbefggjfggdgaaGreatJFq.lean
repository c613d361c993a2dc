/-
  alive: the document's view.
  Lists held against each other; lists in new memory with marks behind them.
-/
import Derived.Test.YtkbefggjfggdgaaGreatJCn
import Derived.Test.YtkbefggjfggdgaaGreatJPRows
import Derived.Test.YtkbefggjfggdgaaGreatSPkg2
import Derived.OwnWalk
namespace Go.Proofs.YtkbefggjfggdgaaGreat
open Go.RowKit

def al4 : List Fl := [⟨[97], [], 0, 0⟩, ⟨[98, 47, 99], [], 0, 0⟩, ⟨[98, 47, 100, 47, 101], [], 0, 0⟩, ⟨[106, 47, 107], [], 0, 0⟩]
def al3 : List Fl := [⟨[97], [], 0, 0⟩, ⟨[98, 47, 99], [], 0, 0⟩, ⟨[98, 47, 100, 47, 101], [], 0, 0⟩]
theorem al_view : viw al4 [[98, 47, 100]] = (al3, 0) := by rfl
theorem al_cover : cov [[98, 47, 100, 47, 101], [106, 47, 107], [97]] = [[98, 47, 100], [106]] := by decide
theorem al_shows : shw [] [97] = true := by decide
theorem al_cones : coneE [[98], [97]] = 13 := by decide
theorem ss_none (w : World) : SS w (.slice none 0 0) [] := .inl ⟨⟨_, _, rfl⟩, rfl⟩
theorem fs_lit (w : World) (l : List Fl) (n : Nat) (hn : n = l.length) : FS (w.alloc (.cells (fc l).toArray 39)) (.slice (some ⟨w.heap.size, 0, none⟩) n n) l := by
  subst hn
  refine .inr ⟨w.heap.size, 0, l.length, rfl, Nat.le_refl _, by simp, fun i u hu => ?_⟩
  have hi : i < (fc l).length := by
    rcases Nat.lt_or_ge i (fc l).length with h | h
    · exact h
    · rw [List.getElem?_eq_none h] at hu; cases hu
  simp [hu]

set_option maxRecDepth 100000 in
theorem num_any (z : Int) (w : World) : Calls Tryz.prog 10 #[.int .i64 z] w fun e w' => e = .returned (.int .i64 z) ∧ w' = w := by
  go_enter Tryz.func10, Tryz.ntmps10
  go_wp2_with fail
  go_ret
  exact ⟨rfl, rfl⟩

set_option maxRecDepth 100000 in
set_option maxHeartbeats 1000000 in
theorem alive_any (C : CC) (w : World) : Calls Tryz.prog 15 #[] w fun e w' => e = .returned (.bool true) ∧ Below w.heap.size w w' := by
  have HC : Hid CC := C
  obtain ⟨G, hG⟩ : ∃ G, w.heap.size = G := ⟨_, rfl⟩
  obtain ⟨w1, hw1⟩ : ∃ w1, w.alloc (.cells (fc al4).toArray 39) = w1 := ⟨_, rfl⟩
  obtain ⟨w2, hw2⟩ : ∃ w2, w1.alloc (.cells #[.string ⟨#[98, 47, 100]⟩] 9) = w2 := ⟨_, rfl⟩
  have S1 : Hid (FS w2 (.slice (some ⟨G, 0, none⟩) 4 4) al4 ∧ SS w2 (.slice (some ⟨G + 1, 0, none⟩) 1 1) [[98, 47, 100]] ∧ Below G w w2) := by
    have e1 : w1.heap.size = G + 1 := by rw [← hw1, ← hG]; simp
    have b1 : Below w1.heap.size w1 w2 := by rw [← hw2]; exact balloc _ _
    refine (⟨?_, ?_, ?_⟩ : _ ∧ _ ∧ _)
    · have : FS w1 (.slice (some ⟨G, 0, none⟩) 4 4) al4 := by rw [← hw1, ← hG]; exact fs_lit w al4 4 rfl
      exact this.later b1
    · rw [← e1, ← hw2]; exact ss_lit w1 [[98, 47, 100]] 1 rfl
    · have b0 : Below G w w1 := by rw [← hw1, ← hG]; exact balloc _ _
      exact below_trans b0 (below_mono b1 (by omega))
  have hz2 : G ≤ w2.heap.size := by have := S1.out.2.2.size; omega
  go_enter Tryz.func15, Tryz.ntmps15
  go_wp2_with fail
  show Calls Tryz.prog 7 _ ((w.alloc (.cells (fc al4).toArray 39)).alloc (.cells #[.string ⟨#[98, 47, 100]⟩] 9)) _
  rw [hw1, hw2]
  refine (HC.out.view S1.out.1 ⟨by simp [al4], by simp [al4]; exact ⟨⟨by simp, by simp, by simp, by simp, by simp, by simp⟩, ⟨by simp, by simp, by simp, by simp, by simp, by simp⟩, ⟨by simp, by simp, by simp, by simp, by simp, by simp⟩, ⟨by simp, by simp, by simp, by simp, by simp, by simp⟩⟩⟩ S1.out.2.1 ⟨by simp, by simp⟩).mono ?_
  rintro e w3 ⟨v3, rfl, ho3, hb3⟩
  rw [al_view] at ho3 ⊢
  obtain ⟨a3, c3, rfl, c30⟩ := ho3.fs.form
  obtain ⟨g3, o3, rfl, hg3, c31⟩ := c30 2 (by decide)
  have d3 : w3.cell? ⟨g3, o3 + 8, none⟩ = some (.string (bs [98, 47, 100, 47, 101])) := by have := c31; simpa [al3] using this.1
  have hl3 : al3.length = 3 := rfl
  rw [hl3] at *
  have HB3 : Hid (Below G w w3) := below_trans S1.out.2.2 (below_mono hb3 hz2)
  have hz3 : G ≤ w3.heap.size := by have := hb3.size; omega
  clear c30 c31 ho3 hb3 hw1 hw2 S1
  have t1 : (bs [98, 47, 100, 47, 101]).toList = [98, 47, 100, 47, 101] := bs_toList _
  obtain ⟨w4, hw4⟩ : ∃ w4, w3.alloc (.cells #[.string ⟨#[98, 47, 100, 47, 101]⟩, .string ⟨#[106, 47, 107]⟩, .string ⟨#[97]⟩] 9) = w4 := ⟨_, rfl⟩
  go_wp2_with fail
  refine (num_any 0 _).mono ?_
  rintro e w3' ⟨rfl, e3⟩
  rw [e3]
  clear e3
  go_wp2_with fail
  try rw [hw4]
  have S4 : Hid (SS w4 (.slice (some ⟨w3.heap.size, 0, none⟩) 3 3) [[98, 47, 100, 47, 101], [106, 47, 107], [97]] ∧ Below w3.heap.size w3 w4) := by
    rw [← hw4]; exact ⟨ss_lit w3 [[98, 47, 100, 47, 101], [106, 47, 107], [97]] 3 rfl, balloc _ _⟩
  clear hw4
  refine (HC.out.cover S4.out.1 ⟨by simp, by simp⟩).mono ?_
  rintro e w5 ⟨v5, rfl, ho5, hb5⟩
  rw [al_cover] at ho5
  have HB5 : Hid (Below G w w5) := below_trans HB3.out (below_mono (bstep S4.out.2 hb5) hz3)
  have hz5 : G ≤ w5.heap.size := by have := S4.out.2.size; have := hb5.size; omega
  obtain ⟨w6, hw6⟩ : ∃ w6, w5.alloc (.cells #[.string ⟨#[98, 47, 100]⟩, .string ⟨#[106]⟩] 9) = w6 := ⟨_, rfl⟩
  have S6 : Hid (SS w6 (.slice (some ⟨w5.heap.size, 0, none⟩) 2 2) [[98, 47, 100], [106]] ∧ Below w5.heap.size w5 w6) := by
    rw [← hw6]; exact ⟨ss_lit w5 [[98, 47, 100], [106]] 2 rfl, balloc _ _⟩
  have O5 : Hid (SS w6 v5 [[98, 47, 100], [106]]) := ho5.bs.later S6.out.2
  clear S4 ho5 hb5
  go_wp2_with fail
  try rw [hw6]
  clear hw6
  refine (same_any O5.out S6.out.1 (by simp)).mono ?_
  rintro e w7 ⟨rfl, n7, rfl⟩
  have HB7 : Hid (Below G w (w6.drewN n7)) := by
    have := below_trans HB5.out (below_mono S6.out.2 hz5)
    exact ⟨this.os, this.tape, this.output, this.size, this.block⟩
  obtain ⟨w7, hw7⟩ : ∃ w7, w6.drewN n7 = w7 := ⟨_, rfl⟩
  rw [hw7] at HB7 ⊢
  have hz7 : G ≤ w7.heap.size := by have := HB7.out.size; omega
  clear S6 O5 hw7
  go_wp2_with fail
  refine (HC.out.shows [97] (ss_none _) ⟨by simp, by simp⟩ (by simp)).mono ?_
  rintro e w8 ⟨rfl, hb8⟩
  rw [al_shows]
  have HB8 : Hid (Below G w w8) := below_trans HB7.out (below_mono hb8 hz7)
  have hz8 : G ≤ w8.heap.size := by have := hb8.size; omega
  obtain ⟨w9, hw9⟩ : ∃ w9, w8.alloc (.cells #[.string ⟨#[98]⟩, .string ⟨#[97]⟩] 9) = w9 := ⟨_, rfl⟩
  have S9 : Hid (SS w9 (.slice (some ⟨w8.heap.size, 0, none⟩) 2 2) [[98], [97]] ∧ Below w8.heap.size w8 w9) := by
    rw [← hw9]; exact ⟨ss_lit w8 [[98], [97]] 2 rfl, balloc _ _⟩
  clear hb8
  go_wp2_with fail
  try rw [hw9]
  clear hw9
  refine (HC.out.valid S9.out.1 ⟨by simp, by simp⟩).mono ?_
  rintro e w10 ⟨rfl, hb10⟩
  rw [al_cones]
  have HB10 : Hid (Below G w w10) := below_trans HB8.out (below_mono (bstep S9.out.2 hb10) hz8)
  clear S9 hb10
  go_wp2_with fail
  refine (num_any 13 _).mono ?_
  rintro e w11 ⟨rfl, rfl⟩
  go_wp2_with fail
  go_ret
  exact ⟨rfl, by rw [hG]; exact HB10.out⟩
end Go.Proofs.YtkbefggjfggdgaaGreat

namespace Go.Proofs.YtkbefggjfggdgaaGreat
open Go.RowKit

theorem leq_step (a b : List Fl) (k : Nat) (ha : k < a.length) (hb : k < b.length) : leq (a.drop k) (b.drop k) = (feq (a[k]'ha) (b[k]'hb) && leq (a.drop (k + 1)) (b.drop (k + 1))) := by
  rw [List.drop_eq_getElem_cons ha, List.drop_eq_getElem_cons hb, leq]
theorem leq_len {a b : List Fl} (h : a.length ≠ b.length) : leq a b = false := by
  cases e : leq a b
  · rfl
  · exact absurd (congrArg List.length ((leq_iff a b).1 e)) h
set_option maxHeartbeats 2000000 in
set_option maxRecDepth 100000 in
theorem files_any {w : World} {va vb : Value} {A B : List Fl} (h1 : FS w va A) (h2 : FS w vb B) (hA : A.length ≤ 1000000000) :
    Calls Tryz.prog 16 #[va, vb] w fun e w' => e = .returned (.bool (leq A B)) ∧ Below w.heap.size w w' := by
  have CA : Hid (FS w va A) := h1
  have CB : Hid (FS w vb B) := h2
  obtain ⟨a, c, rfl⟩ : ∃ a c, va = .slice a A.length c := by obtain ⟨a, c, h, _⟩ := h1.form; exact ⟨a, c, h⟩
  obtain ⟨b, c', rfl⟩ : ∃ a c, vb = .slice a B.length c := by obtain ⟨a, c, h, _⟩ := h2.form; exact ⟨a, c, h⟩
  clear h1 h2
  have CA' : Hid (FS w (.slice a A.length c) A) := CA.out
  have CB' : Hid (FS w (.slice b B.length c') B) := CB.out
  clear CA CB
  by_cases hl : A.length = B.length
  · have e1 : (((A.length : Int)) != (B.length : Int)) = false := by rw [hl]; simp
    obtain ⟨r, hr⟩ : ∃ r, leq A B = r := ⟨_, rfl⟩
    rw [hr]
    have HR : Hid (leq (A.drop 0) (B.drop 0) = r) := hr
    clear hr
    have q1 := neq_run
    have q2 := fguard_run
    go_enter Tryz.func16, Tryz.ntmps16
    go_wp2_with fail
    go_loopw [5] (fun i wr => ∃ k n : Nat, k ≤ A.length ∧ i = .int .i64 k ∧ wr = w.drewN n ∧ leq (A.drop k) (B.drop k) = r) (fun i _ => A.length - (intOf i).toNat)
    case atStart => exact ⟨0, 0, Nat.zero_le _, rfl, rfl, HR.out⟩
    case round =>
      obtain ⟨k, n, hk, rfl, rfl, hd⟩ := hrel
      have HD : Hid (leq (A.drop k) (B.drop k) = r) := hd
      clear hd
      by_cases hlt : k < A.length
      · have hlt2 : k < B.length := by omega
        have hkb : (k : Int) < (B.length : Int) := by omega
        have HD2 : Hid ((feq (A[k]'hlt) (B[k]'hlt2) && leq (A.drop (k + 1)) (B.drop (k + 1))) = r) := by
          have h1 := HD.out
          rw [leq_step A B k hlt hlt2] at h1; exact h1
        obtain ⟨g1, o1, ea, hg1, d0, d1, d2, d3⟩ := FS.at CA'.out (Below.refl _ w) hlt
        subst ea
        obtain ⟨g2, o2, ea, hg2, e0, e1', e2, e3⟩ := FS.at CB'.out (Below.refl _ w) hlt2
        subst ea
        generalize hf : A[k] = f at d0 d1 d2 d3 HD2
        generalize hg : B[k] = g at e0 e1' e2 e3 HD2
        clear hf hg
        obtain ⟨p, t, bl, s⟩ := f
        obtain ⟨p2, t2, bl2, s2⟩ := g
        simp only at d0 d1 d2 d3 e0 e1' e2 e3 HD2
        go_wp2_with fail
        go_region
        generalize feq _ _ = x at *
        cases x
        · go_wp2_with fail
          go_ret
          refine ⟨?_, ⟨rfl, rfl, rfl, Nat.le_refl _, fun _ _ => rfl⟩⟩
          have h1 := HD2.out
          rw [Bool.false_and] at h1
          rw [← h1]; rfl
        · go_wp2_with fail
          go_roundw
          case rel => exact ⟨k + 1, n + 1, by omega, by go_num, rfl, by have h1 := HD2.out; rwa [Bool.true_and] at h1⟩
          case measure => simp [intOf]; omega
      · obtain rfl : k = A.length := by omega
        go_wp2_with fail
        go_ret
        refine ⟨?_, ⟨rfl, rfl, rfl, Nat.le_refl _, fun _ _ => rfl⟩⟩
        have h1 := HD.out
        rw [List.drop_eq_nil_of_le (Nat.le_refl _), List.drop_eq_nil_of_le (by omega)] at h1
        rw [← h1]; rfl
  · have hd : ¬ (A.length : Int) = (B.length : Int) := by omega
    have e0 : leq A B = false := leq_len hl
    rw [e0]
    go_enter Tryz.func16, Tryz.ntmps16
    go_wp2_with fail
    go_ret
    exact ⟨rfl, Below.refl _ _⟩
end Go.Proofs.YtkbefggjfggdgaaGreat
