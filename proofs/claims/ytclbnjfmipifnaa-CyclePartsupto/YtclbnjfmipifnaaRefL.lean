/-
  The document's labels: Valid, Print, Cmp.
-/
import Derived.Test.YtclbnjfmipifnaaJCmp
import Derived.Test.YtclbnjfmipifnaaRef
namespace Go.Proofs.Ytclbnjfmipifnaa
open Go.RowKit

/-- texts that are short -/
structure Lu (l : Lb) : Prop where
  pkg : l.pkg.length ≤ 1000000000
  name : l.name.length ≤ 1000000000
theorem Lu.lm {l : Lb} (h : Lu l) : Lm l := ⟨by have := h.pkg; omega, by have := h.name; omega⟩
/-- less, by the bytes -/
theorem cb_less : ∀ (a b : List UInt8), Op.bytesLess a b = decide (Lib.compareBytes a b = -1)
  | [], [] => by simp [Op.bytesLess, Lib.compareBytes]
  | [], _ :: _ => by simp [Op.bytesLess, Lib.compareBytes]
  | _ :: _, [] => by simp [Op.bytesLess, Lib.compareBytes]
  | a :: x, b :: y => by
    have ih := cb_less x y
    unfold Op.bytesLess Lib.compareBytes
    rw [ih]
    by_cases h1 : a < b
    · simp [h1]
    · by_cases h2 : b < a
      · have h3 : (a == b) = false := by
          rw [beq_eq_false_iff_ne]; rintro rfl; exact h1 h2
        simp [h1, h2, h3]
      · have h3 : a = b := by
          apply UInt8.toNat_inj.1
          have g1 : ¬ a.toNat < b.toNat := fun h => h1 (UInt8.lt_iff_toNat_lt.2 h)
          have g2 : ¬ b.toNat < a.toNat := fun h => h2 (UInt8.lt_iff_toNat_lt.2 h)
          omega
        subst h3
        simp [h1]
set_option maxHeartbeats 1000000 in
theorem rlcmp_any (a b : Lb) (w : World) (ha : Lu a) (hb : Lu b) : Calls Try.prog 31 #[a.val, b.val] w fun e w' => e = .returned (.int .i64 (cmpL a b)) ∧ Below w.heap.size w w' := by
  obtain ⟨p, n⟩ := a
  obtain ⟨q, m⟩ := b
  have HC : Hid (∀ w : World, Calls Try.prog 43 #[.string (bs p), .string (bs q)] w fun e w' => e = .returned (.int .i64 (cmpP (pcs p) (pcs q))) ∧ Below w.heap.size w w') := fun w => rcmp_any p q w ha.pkg hb.pkg
  have hcb := cb_iff (a := n) (b := m)
  have hcr := cb_range n m
  have hls := cb_less n m
  clear ha hb
  simp only [Lb.val, cmpL]
  generalize cmpP (pcs p) (pcs q) = x at *
  generalize Lib.compareBytes n m = y at *
  have e1 := bs_toList n
  have e2 := bs_toList m
  have HA : Hid (RB ((w.alloc (.cells #[.string (bs p), .string (bs n)] 35)).alloc (.cells #[.string (bs q), .string (bs m)] 35)) w.heap.size ⟨p, n⟩) := (RB.new w ⟨p, n⟩).later (balloc _ _)
  have HB : Hid (RB ((w.alloc (.cells #[.string (bs p), .string (bs n)] 35)).alloc (.cells #[.string (bs q), .string (bs m)] 35)) (w.heap.size + 1) ⟨q, m⟩) := by
    show RB _ _ _
    have := RB.new (w.alloc (.cells #[.string (bs p), .string (bs n)] 35)) ⟨q, m⟩
    simpa using this
  have HB0 : Hid (Below w.heap.size w ((w.alloc (.cells #[.string (bs p), .string (bs n)] 35)).alloc (.cells #[.string (bs q), .string (bs m)] 35))) := bstep (balloc w _) (balloc _ _)
  by_cases hx : x = 0
  rotate_left
  · have hx' : (x == 0) = false := by simpa using hx
    have hx'' : (x != 0) = true := by simpa using hx
    rw [if_neg hx]
    clear hx hcb hcr hls
    go_enter Try.func31, Try.ntmps31
    go_wp2_with fail
    refine (HC.out _).mono ?_
    rintro e w1 ⟨rfl, hb1⟩
    have B1 : Hid (Below w.heap.size w w1) := bstep HB0.out hb1
    clear hb1
    go_wp2_with fail
    go_ret
    exact ⟨rfl, B1.out⟩
  subst hx
  rw [if_pos rfl]
  by_cases hn : n = m
  · have hy : y = 0 := hcb.2 hn
    subst hy hn
    clear hcb hcr hls
    go_enter Try.func31, Try.ntmps31
    go_wp2_with fail
    refine (HC.out _).mono ?_
    rintro e w1 ⟨rfl, hb1⟩
    have B1 : Hid (Below w.heap.size w w1) := bstep HB0.out hb1
    obtain ⟨a0, a1, _, _⟩ := (HA.out.later hb1).cells
    obtain ⟨b0, b1, _, _⟩ := (HB.out.later hb1).cells
    simp only at a0 a1 b0 b1
    clear hb1
    go_wp2_with fail
    go_ret
    exact ⟨rfl, B1.out⟩
  have hn' : (n == m) = false := by simpa using hn
  have hy0 : y ≠ 0 := fun h => hn (hcb.1 h)
  clear hcb hn
  by_cases hy : y = -1
  · subst hy
    rw [decide_eq_true rfl] at hls
    clear hcr hy0
    go_enter Try.func31, Try.ntmps31
    go_wp2_with fail
    refine (HC.out _).mono ?_
    rintro e w1 ⟨rfl, hb1⟩
    have B1 : Hid (Below w.heap.size w w1) := bstep HB0.out hb1
    obtain ⟨a0, a1, _, _⟩ := (HA.out.later hb1).cells
    obtain ⟨b0, b1, _, _⟩ := (HB.out.later hb1).cells
    simp only at a0 a1 b0 b1
    clear hb1
    go_wp2_with fail
    go_ret
    exact ⟨rfl, B1.out⟩
  · have hy1 : y = 1 := by omega
    subst hy1
    rw [decide_eq_false hy] at hls
    clear hcr hy0 hy
    go_enter Try.func31, Try.ntmps31
    go_wp2_with fail
    refine (HC.out _).mono ?_
    rintro e w1 ⟨rfl, hb1⟩
    have B1 : Hid (Below w.heap.size w w1) := bstep HB0.out hb1
    obtain ⟨a0, a1, _, _⟩ := (HA.out.later hb1).cells
    obtain ⟨b0, b1, _, _⟩ := (HB.out.later hb1).cells
    simp only at a0 a1 b0 b1
    clear hb1
    go_wp2_with fail
    go_ret
    exact ⟨rfl, B1.out⟩
end Go.Proofs.Ytclbnjfmipifnaa
