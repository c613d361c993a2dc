/-
  Every call of labels: the law, walked.
-/
import Derived.Test.YtoldcbfmkibkdaaRefI
import Derived.Test.YtoldcbfmkibkdaaHead
namespace Go.Proofs.Ytoldcbfmkibkdaa
open Go.RowKit

/-- are two labels one? -/
def leq (a b : Lb) : Bool := decide (a = b)
theorem eql_run' (w : World) (p t p' t' : List UInt8) :
    (binOp .eql 23 (.agg #[.string (bs p), .string (bs t)]) (.agg #[.string (bs p'), .string (bs t')])).run Try.prog w = .ok (.bool (leq ⟨p, t⟩ ⟨p', t'⟩)) w := eql_run w p t p' t'
theorem leq_self (a : Lb) : leq a a = true := decide_eq_true rfl

set_option maxRecDepth 100000 in
set_option maxHeartbeats 8000000 in
theorem labelAll_any (a b : Lb) (s : List UInt8) (w : World) (ha : Lu a) (hb : Lu b) (hs : s.length ≤ 1000000000) : Calls Try.prog 5 #[a.val, b.val, .string (bs s)] w fun e w' => e = .returned (.bool true) ∧ Below w.heap.size w w' := by
  obtain ⟨ap, an⟩ := a
  obtain ⟨bp, bn⟩ := b
  have HA : Hid (Lu ⟨ap, an⟩ ∧ Lu ⟨bp, bn⟩) := ⟨ha, hb⟩
  have K1 : Hid (∀ w : World, Calls Try.prog 7 #[.string (bs s)] w fun e w' => e = .returned (pair (prs s)) ∧ Below w.heap.size w w') := fun w => lparse_any s w (by omega)
  have K2 : Hid (∀ w : World, Calls Try.prog 15 #[.string (bs s)] w fun e w' => e = .returned (pair (prs s)) ∧ Below w.heap.size w w') := fun w => rparse_any s w hs
  have K3 : Hid (∀ w : World, Calls Try.prog 16 #[.string (bs ap), .string (bs s)] w fun e w' => e = .returned (pair (inn ap s)) ∧ Below w.heap.size w w') := fun w => lin_any ap s w (by have := ha.pkg; simp only at this; omega) (by omega)
  have K4 : Hid (∀ w : World, Calls Try.prog 17 #[.string (bs ap), .string (bs s)] w fun e w' => e = .returned (pair (inn ap s)) ∧ Below w.heap.size w w') := fun w => rin_any ap s w ha.pkg hs
  generalize prs s = x at *
  generalize inn ap s = v at *
  obtain ⟨⟨xp, xn⟩, xe⟩ := x
  obtain ⟨⟨vp, vn⟩, ve⟩ := v
  simp only [pair, Lb.val] at K1 K2 K3 K4 ⊢
  clear ha hb hs
  have RA : Hid (RB ((w.alloc (.cells #[.string (bs ap), .string (bs an)] 23)).alloc (.cells #[.string (bs bp), .string (bs bn)] 23)) w.heap.size ⟨ap, an⟩) := (RB.new w ⟨ap, an⟩).later (balloc _ _)
  have RBB : Hid (RB ((w.alloc (.cells #[.string (bs ap), .string (bs an)] 23)).alloc (.cells #[.string (bs bp), .string (bs bn)] 23)) (w.heap.size + 1) ⟨bp, bn⟩) := by
    show RB _ _ _
    have := RB.new (w.alloc (.cells #[.string (bs ap), .string (bs an)] 23)) ⟨bp, bn⟩
    simpa using this
  have B0 : Hid (Below w.heap.size w ((w.alloc (.cells #[.string (bs ap), .string (bs an)] 23)).alloc (.cells #[.string (bs bp), .string (bs bn)] 23))) := bstep (balloc w _) (balloc _ _)
  go_enter Try.func5, Try.ntmps5
  go_wp2_with fail
  refine (head_any _).mono ?_
  rintro e w1 ⟨rfl, hb1⟩
  have B1 : Hid (Below w.heap.size w w1) := bstep B0.out hb1
  have R1 : Hid (RB w1 w.heap.size ⟨ap, an⟩) := RA.out.later hb1
  have S1 : Hid (RB w1 (w.heap.size + 1) ⟨bp, bn⟩) := RBB.out.later hb1
  clear hb1 RA RBB B0
  generalize w.heap.size + 1 = g4 at *
  obtain ⟨g3, hg3⟩ : ∃ g, w.heap.size = g := ⟨_, rfl⟩
  rw [hg3] at R1 ⊢
  have HG : Hid (w.heap.size = g3) := hg3
  clear hg3
  go_wp2_with fail
  refine (K1.out _).mono ?_
  rintro e w2 ⟨rfl, hb2⟩
  have B2 : Hid (Below w.heap.size w (w2.alloc (.cells #[.string (bs xp), .string (bs xn)] 23))) := bstep (bstep B1.out hb2) (balloc _ _)
  have R2 : Hid (RB (w2.alloc (.cells #[.string (bs xp), .string (bs xn)] 23)) g3 ⟨ap, an⟩) := (R1.out.later hb2).later (balloc _ _)
  have S2 : Hid (RB (w2.alloc (.cells #[.string (bs xp), .string (bs xn)] 23)) g4 ⟨bp, bn⟩) := (S1.out.later hb2).later (balloc _ _)
  have T2 : Hid (RB (w2.alloc (.cells #[.string (bs xp), .string (bs xn)] 23)) w2.heap.size ⟨xp, xn⟩) := RB.new w2 ⟨xp, xn⟩
  clear hb2
  go_wp2_with fail
  refine (K2.out _).mono ?_
  rintro e w3 ⟨rfl, hb3⟩
  have B3 : Hid (Below w.heap.size w (w3.alloc (.cells #[.string (bs xp), .string (bs xn)] 23))) := bstep (bstep B2.out hb3) (balloc _ _)
  have R3 : Hid (RB (w3.alloc (.cells #[.string (bs xp), .string (bs xn)] 23)) g3 ⟨ap, an⟩) := (R2.out.later hb3).later (balloc _ _)
  have S3 : Hid (RB (w3.alloc (.cells #[.string (bs xp), .string (bs xn)] 23)) g4 ⟨bp, bn⟩) := (S2.out.later hb3).later (balloc _ _)
  have T3 : Hid (RB (w3.alloc (.cells #[.string (bs xp), .string (bs xn)] 23)) w2.heap.size ⟨xp, xn⟩) := (T2.out.later hb3).later (balloc _ _)
  have U3 : Hid (RB (w3.alloc (.cells #[.string (bs xp), .string (bs xn)] 23)) w3.heap.size ⟨xp, xn⟩) := RB.new w3 ⟨xp, xn⟩
  obtain ⟨c0, _, _, _⟩ := R3.out.cells
  simp only at c0
  clear hb3
  go_wp2_with fail
  refine (K3.out _).mono ?_
  rintro e w4 ⟨rfl, hb4⟩
  have B4 : Hid (Below w.heap.size w (w4.alloc (.cells #[.string (bs vp), .string (bs vn)] 23))) := bstep (bstep B3.out hb4) (balloc _ _)
  have R4 : Hid (RB (w4.alloc (.cells #[.string (bs vp), .string (bs vn)] 23)) g3 ⟨ap, an⟩) := (R3.out.later hb4).later (balloc _ _)
  have S4 : Hid (RB (w4.alloc (.cells #[.string (bs vp), .string (bs vn)] 23)) g4 ⟨bp, bn⟩) := (S3.out.later hb4).later (balloc _ _)
  have T4 : Hid (RB (w4.alloc (.cells #[.string (bs vp), .string (bs vn)] 23)) w2.heap.size ⟨xp, xn⟩) := (T3.out.later hb4).later (balloc _ _)
  have U4 : Hid (RB (w4.alloc (.cells #[.string (bs vp), .string (bs vn)] 23)) w3.heap.size ⟨xp, xn⟩) := (U3.out.later hb4).later (balloc _ _)
  have V4 : Hid (RB (w4.alloc (.cells #[.string (bs vp), .string (bs vn)] 23)) w4.heap.size ⟨vp, vn⟩) := RB.new w4 ⟨vp, vn⟩
  clear hb4 c0
  obtain ⟨c0, _, _, _⟩ := R4.out.cells
  simp only at c0
  go_wp2_with fail
  refine (K4.out _).mono ?_
  rintro e w5 ⟨rfl, hb5⟩
  have B5 : Hid (Below w.heap.size w (w5.alloc (.cells #[.string (bs vp), .string (bs vn)] 23))) := bstep (bstep B4.out hb5) (balloc _ _)
  have R5 : Hid (RB (w5.alloc (.cells #[.string (bs vp), .string (bs vn)] 23)) g3 ⟨ap, an⟩) := (R4.out.later hb5).later (balloc _ _)
  have S5 : Hid (RB (w5.alloc (.cells #[.string (bs vp), .string (bs vn)] 23)) g4 ⟨bp, bn⟩) := (S4.out.later hb5).later (balloc _ _)
  have T5 : Hid (RB (w5.alloc (.cells #[.string (bs vp), .string (bs vn)] 23)) w2.heap.size ⟨xp, xn⟩) := (T4.out.later hb5).later (balloc _ _)
  have U5 : Hid (RB (w5.alloc (.cells #[.string (bs vp), .string (bs vn)] 23)) w3.heap.size ⟨xp, xn⟩) := (U4.out.later hb5).later (balloc _ _)
  have V5 : Hid (RB (w5.alloc (.cells #[.string (bs vp), .string (bs vn)] 23)) w4.heap.size ⟨vp, vn⟩) := (V4.out.later hb5).later (balloc _ _)
  have W5 : Hid (RB (w5.alloc (.cells #[.string (bs vp), .string (bs vn)] 23)) w5.heap.size ⟨vp, vn⟩) := RB.new w5 ⟨vp, vn⟩
  clear hb5 c0
  go_wp2_with fail
  clear K1 K2 K3 K4 R1 S1 R2 S2 T2 R3 S3 T3 U3 R4 S4 T4 U4 V4 B1 B2 B3 B4
  generalize (w5.alloc (.cells #[.string (bs vp), .string (bs vn)] 23)) = W at *
  generalize w2.heap.size = g7 at *
  generalize w3.heap.size = g9 at *
  generalize w4.heap.size = g11 at *
  generalize w5.heap.size = g13 at *
  have g3c : ∀ Y : GW W, Y.it.cell? ⟨g3, 0, none⟩ = some (.string (bs ap)) := fun Y => Y.cell R5.out.lt R5.out.cells.1
  have g3d : ∀ Y : GW W, Y.it.cell? ⟨g3, 1, none⟩ = some (.string (bs an)) := fun Y => Y.cell R5.out.lt R5.out.cells.2.1
  have g4c : ∀ Y : GW W, Y.it.cell? ⟨g4, 0, none⟩ = some (.string (bs bp)) := fun Y => Y.cell S5.out.lt S5.out.cells.1
  have g4d : ∀ Y : GW W, Y.it.cell? ⟨g4, 1, none⟩ = some (.string (bs bn)) := fun Y => Y.cell S5.out.lt S5.out.cells.2.1
  have g7c : ∀ Y : GW W, Y.it.cell? ⟨g7, 0, none⟩ = some (.string (bs xp)) := fun Y => Y.cell T5.out.lt T5.out.cells.1
  have g7d : ∀ Y : GW W, Y.it.cell? ⟨g7, 1, none⟩ = some (.string (bs xn)) := fun Y => Y.cell T5.out.lt T5.out.cells.2.1
  have g9c : ∀ Y : GW W, Y.it.cell? ⟨g9, 0, none⟩ = some (.string (bs xp)) := fun Y => Y.cell U5.out.lt U5.out.cells.1
  have g9d : ∀ Y : GW W, Y.it.cell? ⟨g9, 1, none⟩ = some (.string (bs xn)) := fun Y => Y.cell U5.out.lt U5.out.cells.2.1
  have g11c : ∀ Y : GW W, Y.it.cell? ⟨g11, 0, none⟩ = some (.string (bs vp)) := fun Y => Y.cell V5.out.lt V5.out.cells.1
  have g11d : ∀ Y : GW W, Y.it.cell? ⟨g11, 1, none⟩ = some (.string (bs vn)) := fun Y => Y.cell V5.out.lt V5.out.cells.2.1
  have g13c : ∀ Y : GW W, Y.it.cell? ⟨g13, 0, none⟩ = some (.string (bs vp)) := fun Y => Y.cell W5.out.lt W5.out.cells.1
  have g13d : ∀ Y : GW W, Y.it.cell? ⟨g13, 1, none⟩ = some (.string (bs vn)) := fun Y => Y.cell W5.out.lt W5.out.cells.2.1
  have k1 : Hid (∀ Y : GW W, Calls Try.prog 9 #[.agg #[.string (bs ap), .string (bs an)]] Y.it fun e w' => e = .returned (.bool (okL ⟨ap, an⟩)) ∧ ∃ X : GW W, w' = X.it) := fun Y => gw_of (fun U => lvalid_any ⟨ap, an⟩ U HA.out.1.lm) Y
  have k2 : Hid (∀ Y : GW W, Calls Try.prog 18 #[.agg #[.string (bs ap), .string (bs an)]] Y.it fun e w' => e = .returned (.bool (okL ⟨ap, an⟩)) ∧ ∃ X : GW W, w' = X.it) := fun Y => gw_of (fun U => rlvalid_any ⟨ap, an⟩ U HA.out.1) Y
  have k3 : Hid (∀ Y : GW W, Calls Try.prog 8 #[.agg #[.string (bs ap), .string (bs an)]] Y.it fun e w' => e = .returned (.string (bs (prt ⟨ap, an⟩))) ∧ ∃ X : GW W, w' = X.it) := fun Y => gw_of (fun U => lprint_any ⟨ap, an⟩ U HA.out.1.lm) Y
  have k4 : Hid (∀ Y : GW W, Calls Try.prog 19 #[.agg #[.string (bs ap), .string (bs an)]] Y.it fun e w' => e = .returned (.string (bs (prt ⟨ap, an⟩))) ∧ ∃ X : GW W, w' = X.it) := fun Y => gw_of (fun U => rlprint_any ⟨ap, an⟩ U HA.out.1) Y
  have k5 : Hid (∀ Y : GW W, Calls Try.prog 10 #[.agg #[.string (bs ap), .string (bs an)], .agg #[.string (bs bp), .string (bs bn)]] Y.it fun e w' => e = .returned (.int .i64 (cmpL ⟨ap, an⟩ ⟨bp, bn⟩)) ∧ ∃ X : GW W, w' = X.it) := fun Y => gw_of (fun U => lcmp_any ⟨ap, an⟩ ⟨bp, bn⟩ U HA.out.1.lm HA.out.2.lm) Y
  have k6 : Hid (∀ Y : GW W, Calls Try.prog 20 #[.agg #[.string (bs ap), .string (bs an)], .agg #[.string (bs bp), .string (bs bn)]] Y.it fun e w' => e = .returned (.int .i64 (cmpL ⟨ap, an⟩ ⟨bp, bn⟩)) ∧ ∃ X : GW W, w' = X.it) := fun Y => gw_of (fun U => rlcmp_any ⟨ap, an⟩ ⟨bp, bn⟩ U HA.out.1 HA.out.2) Y
  generalize okL ⟨ap, an⟩ = z at *
  generalize prt ⟨ap, an⟩ = P at *
  generalize cmpL ⟨ap, an⟩ ⟨bp, bn⟩ = d at *
  have xne := gw_ne W
  have q1 := eql_run'
  have q2 := guard_run
  have q3 := leq_self ⟨xp, xn⟩
  have q4 := leq_self ⟨vp, vn⟩
  have q5 : (xe == xe) = true := by simp
  have q6 : (ve == ve) = true := by simp
  have q7 : (z == z) = true := by simp
  have q8 := bs_toList P
  have q9 : (d == d) = true := by simp
  refine wp_region_grow (by kernel_rfl) (by kernel_rfl) ?_
  repeat (go_big_quiet_step (first | with_reducible exact k1.out _ | with_reducible exact k2.out _ | with_reducible exact k3.out _ | with_reducible exact k4.out _ | with_reducible exact k5.out _ | with_reducible exact k6.out _))
  refine wpQuiet_nil ?_
  rintro w9 ⟨⟨w9, bx⟩, rfl⟩
  have B9 : Hid (Below w.heap.size w w9) := bstep B5.out bx
  clear bx
  go_wp2_with fail
  go_ret
  exact ⟨rfl, B9.out⟩
end Go.Proofs.Ytoldcbfmkibkdaa
