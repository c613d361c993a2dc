/-
  The document's order of paths of layer 13.
-/
import Derived.Test.YtkbefggjfggdgaaGreatZb
import Derived.Test.YtkbefggjfggdgaaGreatSPkg2
import Derived.Test.YtkbefggjfggdgaaGreatNorm
import Derived.BigQuiet
namespace Go.Proofs.YtkbefggjfggdgaaGreat
open Go.RowKit
theorem hid_of {p : Prop} (h : p) : Hid p := h

theorem bl_eq : ∀ (a b : List UInt8), Op.bytesLess a b = decide (Lib.compareBytes a b < 0)
  | [], [] => by simp [Op.bytesLess, Lib.compareBytes]
  | [], _ :: _ => by simp [Op.bytesLess, Lib.compareBytes]
  | _ :: _, [] => by simp [Op.bytesLess, Lib.compareBytes]
  | a :: x, b :: y => by
    have ih := bl_eq x y
    unfold Op.bytesLess Lib.compareBytes
    by_cases h1 : a < b
    · simp [h1]
    · by_cases h2 : b < a
      · have h3 : ¬ a = b := by rintro rfl; exact h1 h2
        simp [h1, h2, h3]
      · have h3 : a = b := by
          apply UInt8.toNat_inj.1
          rw [UInt8.lt_iff_toNat_lt] at h1 h2
          omega
        subst h3
        simp [ih]
set_option maxHeartbeats 4000000 in
set_option maxRecDepth 100000 in
theorem rpath13_any (a b : List UInt8) (w : World) (ha : a.length ≤ 1000000000) (hb : b.length ≤ 1000000000) :
    Calls Tryz.prog 51 #[.string (bs a), .string (bs b)] w fun e w' => e = .returned (.int .i64 (cmpP (pcs a) (pcs b))) ∧ Below w.heap.size w w' := by
  have HP1 := hid_of (fun W => rpieces_any a W ha)
  have HP2 := hid_of (fun W => rpieces_any b W hb)
  have hla : (pcs a).length ≤ 1000000001 := by rw [dep_eq]; have := dep_le a; omega
  have hlb : (pcs b).length ≤ 1000000001 := by rw [dep_eq]; have := dep_le b; omega
  obtain ⟨A, hA⟩ : ∃ A, pcs a = A := ⟨_, rfl⟩
  obtain ⟨B, hB⟩ : ∃ B, pcs b = B := ⟨_, rfl⟩
  rw [hA] at HP1 hla ⊢
  rw [hB] at HP2 hlb ⊢
  clear hA hB ha hb
  obtain ⟨r, hr⟩ : ∃ r, cmpP A B = r := ⟨_, rfl⟩
  have HR : Hid (cmpP (A.drop 0) (B.drop 0) = r) := hr
  rw [hr]
  clear hr
  go_enter Tryz.func51, Tryz.ntmps51
  go_wp2_with fail
  refine (HP1.out _).mono ?_
  rintro e w1 ⟨v1, rfl, ho1, hb1⟩
  obtain ⟨xa, xc, hv1⟩ := ho1.len
  obtain ⟨an, han⟩ : ∃ an, A.length = an := ⟨_, rfl⟩
  rw [han] at hv1
  subst hv1
  have H1 : Hid (Own w.heap.size w1 (.slice xa an xc) A ∧ Below w.heap.size w w1) := ⟨ho1, hb1⟩
  clear ho1 hb1
  go_wp2_with fail
  refine (HP2.out _).mono ?_
  rintro e w2 ⟨v2, rfl, ho2, hb2⟩
  obtain ⟨ya, yc, hv2⟩ := ho2.len
  obtain ⟨bn, hbn⟩ : ∃ bn, B.length = bn := ⟨_, rfl⟩
  rw [hbn] at hv2
  subst hv2
  have H2 : Hid (SS w2 (.slice xa an xc) A ∧ SS w2 (.slice ya bn yc) B ∧ Below w.heap.size w w2) := ⟨(H1.out.1.later hb2).bs, ho2.bs, bstep H1.out.2 hb2⟩
  clear ho2 hb2 H1
  have HAN : Hid (A.length = an ∧ B.length = bn) := ⟨han, hbn⟩
  rw [han] at hla
  rw [hbn] at hlb
  clear han hbn HP1 HP2
  go_wp2_with fail
  go_loopw [7] (fun iv wr => ∃ i : Nat, i ≤ an ∧ i ≤ bn ∧ iv = .int .i64 i ∧ cmpP (A.drop i) (B.drop i) = r ∧ Below w2.heap.size w2 wr) (fun iv _ => an - (intOf iv).toNat)
  case atStart => exact ⟨0, by omega, by omega, rfl, HR.out, Below.refl _ _⟩
  case round =>
    obtain ⟨i, hia, hib, rfl, hc, hb⟩ := hrel
    have X5 : Hid (cmpP (A.drop i) (B.drop i) = r ∧ Below w2.heap.size w2 wr) := ⟨hc, hb⟩
    clear hc hb
    by_cases h1 : i < an
    · by_cases h2 : i < bn
      · have i1 : (i : Int) < (an : Int) := by omega
        have i2 : (i : Int) < (bn : Int) := by omega
        have i3 : (0 : Int) ≤ (i : Int) := by omega
        have hiA : i < A.length := by rw [HAN.out.1]; exact h1
        have hiB : i < B.length := by rw [HAN.out.2]; exact h2
        obtain ⟨a', c', e, hf⟩ := (H2.out.1.later X5.out.2).form
        injection e with e1 e2 e3
        obtain ⟨b1, o1, ea, hbl, c0⟩ := hf i hiA
        rw [ea] at e1
        subst e1
        clear e2 e3 hf ea
        obtain ⟨a'', c'', e, hf⟩ := (H2.out.2.1.later X5.out.2).form
        injection e with e1 e2 e3
        obtain ⟨b2, o2, ea, hbl2, d0⟩ := hf i hiB
        rw [ea] at e1
        subst e1
        clear e2 e3 hf ea
        have HC : Hid ((if Lib.compareBytes (A[i]'hiA) (B[i]'hiB) = 0 then cmpP (A.drop (i + 1)) (B.drop (i + 1)) else Lib.compareBytes (A[i]'hiA) (B[i]'hiB)) = r) := by
          show _ = r
          rw [← cmpP_drop A B i hiA hiB]; exact X5.out.1
        obtain ⟨x, hx⟩ : ∃ x, A[i]'hiA = x := ⟨_, rfl⟩
        obtain ⟨y, hy⟩ : ∃ y, B[i]'hiB = y := ⟨_, rfl⟩
        rw [hx] at c0 HC
        rw [hy] at d0 HC
        clear hx hy
        have q1 : Op.bytesLess (bs x).toList (bs y).toList = decide (Lib.compareBytes x y < 0) := by rw [bs_toList, bs_toList, bl_eq]
        have q2 : ((bs x).toList == (bs y).toList) = decide (Lib.compareBytes x y = 0) := by
          rw [bs_toList, bs_toList, Bool.eq_iff_iff, beq_iff_eq, decide_eq_true_eq]
          exact ⟨fun e => by rw [e]; exact cb_refl y, cb_zero⟩
        obtain ⟨cb, hcb⟩ : ∃ cb, Lib.compareBytes x y = cb := ⟨_, rfl⟩
        have hcr := cb_range x y
        rw [hcb] at HC q1 q2 hcr
        clear hcb
        rcases hcr with rfl | rfl | rfl
        · simp only [show decide ((-1 : Int) < 0) = true from rfl] at q1
          clear q2
          have hr9 : r = -1 := by have := HC.out; simpa using this.symm
          subst hr9
          go_wp2_with fail
          go_quiet (fail)
          go_wp2_with fail
          go_ret
          exact ⟨rfl, bstep H2.out.2.2 (bstep X5.out.2 (bd _ _))⟩
        · simp only [show decide ((0 : Int) < 0) = false from rfl] at q1
          simp only [decide_true] at q2
          have HC2 : Hid (cmpP (A.drop (i + 1)) (B.drop (i + 1)) = r) := by
            show cmpP (A.drop (i + 1)) (B.drop (i + 1)) = r
            have := HC.out; simpa using this
          go_wp2_with fail
          go_quiet (fail)
          go_wp2_with fail
          go_quiet (fail)
          go_wp2_with fail
          exact ⟨⟨i + 1, by omega, by omega, by simp, HC2.out, bstep X5.out.2 (bd _ _)⟩, by simp only [intOf]; omega⟩
        · simp only [show decide ((1 : Int) < 0) = false from rfl] at q1
          simp only [show decide ((1 : Int) = 0) = false from rfl] at q2
          have hr9 : r = 1 := by have := HC.out; simpa using this.symm
          subst hr9
          go_wp2_with fail
          go_quiet (fail)
          go_wp2_with fail
          go_quiet (fail)
          go_wp2_with fail
          go_ret
          exact ⟨rfl, bstep H2.out.2.2 (bstep X5.out.2 (bstep (bd _ _) (bd _ _)))⟩
      · have he := cmpP_end A B i (.inr (by rw [HAN.out.2]; omega)) (by rw [HAN.out.1]; exact hia) (by rw [HAN.out.2]; exact hib)
        rw [X5.out.1, HAN.out.1, HAN.out.2] at he
        obtain rfl : i = bn := by omega
        have n1 : ¬ an < i := by omega
        rw [if_neg n1, if_pos h1] at he
        subst he
        go_wp2_with fail
        go_ret
        exact ⟨rfl, bstep H2.out.2.2 X5.out.2⟩
    · have he := cmpP_end A B i (.inl (by rw [HAN.out.1]; omega)) (by rw [HAN.out.1]; exact hia) (by rw [HAN.out.2]; exact hib)
      rw [X5.out.1, HAN.out.1, HAN.out.2] at he
      obtain rfl : i = an := by omega
      by_cases h3 : i < bn
      · rw [if_pos h3] at he
        subst he
        go_wp2_with fail
        go_ret
        exact ⟨rfl, bstep H2.out.2.2 X5.out.2⟩
      · have n2 : ¬ bn < i := by omega
        rw [if_neg h3, if_neg n2] at he
        subst he
        go_wp2_with fail
        go_ret
        exact ⟨rfl, bstep H2.out.2.2 X5.out.2⟩
end Go.Proofs.YtkbefggjfggdgaaGreat
