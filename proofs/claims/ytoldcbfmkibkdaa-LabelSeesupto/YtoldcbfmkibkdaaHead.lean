/-
  The document's examples.
-/
import Derived.Test.YtoldcbfmkibkdaaSees
namespace Go.Proofs.Ytoldcbfmkibkdaa
open Go.RowKit

theorem one_ss (p : List UInt8) (w : World) : SS (w.alloc (.cells #[.string (bs p)] 9)) (.slice (some ⟨w.heap.size, 0, none⟩) 1 1) [p] :=
  .inr ⟨w.heap.size, 0, 1, rfl, by simp, by simp, fun i u hu => by
    rcases i with _ | i
    · simp [sc] at hu; subst hu; simp
    · simp [sc] at hu⟩
theorem sees_one (p own fr : List UInt8) (w : World) (hp : p.length ≤ 1125899906842624) (hf : fr.length ≤ 1125899906842624) :
    Calls Try.prog 12 #[.slice (some ⟨w.heap.size, 0, none⟩) 1 1, .string (bs own), .string (bs fr)] (w.alloc (.cells #[.string (bs p)] 9)) fun e w' => e = .returned (.bool (ses [p] own fr)) ∧ Below w.heap.size w w' :=
  (sees_any own fr (one_ss p w) (by simp) (fun x hx => by simp at hx; subst hx; exact hp) hf).mono fun e w' ⟨he, hb⟩ => ⟨he, bstep (balloc w _) hb⟩

set_option maxHeartbeats 2000000 in
theorem head_any (w : World) : Calls Try.prog 6 #[] w fun e w' => e = .returned (.bool true) ∧ Below w.heap.size w w' := by
  have P1 : Hid (∀ w : World, Calls Try.prog 7 #[.string (bs [47, 47, 97, 47, 98, 58, 110])] w fun e w' => e = .returned (.tuple #[.agg #[.string (bs [97, 47, 98]), .string (bs [110])], .int .i64 0]) ∧ Below w.heap.size w w') := fun w => by
    have h := lparse_any [47, 47, 97, 47, 98, 58, 110] w (by decide)
    rw [show prs [47, 47, 97, 47, 98, 58, 110] = (⟨[97, 47, 98], [110]⟩, 0) from by decide] at h
    exact h
  have P2 : Hid (∀ w : World, Calls Try.prog 16 #[.string (bs [97]), .string (bs [58, 110])] w fun e w' => e = .returned (.tuple #[.agg #[.string (bs [97]), .string (bs [110])], .int .i64 0]) ∧ Below w.heap.size w w') := fun w => by
    have h := lin_any [97] [58, 110] w (by decide) (by decide)
    rw [show inn [97] [58, 110] = (⟨[97], [110]⟩, 0) from by decide] at h
    exact h
  have P3 : Hid (∀ w : World, Calls Try.prog 7 #[.string (bs [47, 47, 97, 47, 58, 110])] w fun e w' => e = .returned (.tuple #[.agg #[.string (bs []), .string (bs [])], .int .i64 10]) ∧ Below w.heap.size w w') := fun w => by
    have h := lparse_any [47, 47, 97, 47, 58, 110] w (by decide)
    rw [show prs [47, 47, 97, 47, 58, 110] = (⟨[], []⟩, 10) from by decide] at h
    exact h
  have P4 : Hid (∀ w : World, Calls Try.prog 9 #[.agg #[.string (bs [97, 47, 98]), .string (bs [110])]] w fun e w' => e = .returned (.bool true) ∧ Below w.heap.size w w') := fun w => by
    have h := lvalid_any ⟨[97, 47, 98], [110]⟩ w ⟨by decide, by decide⟩
    rw [show okL ⟨[97, 47, 98], [110]⟩ = true from by decide] at h
    exact h
  have P5 : Hid (∀ w : World, Calls Try.prog 8 #[.agg #[.string (bs []), .string (bs [110])]] w fun e w' => e = .returned (.string (bs [47, 47, 58, 110])) ∧ Below w.heap.size w w') := fun w => by
    have h := lprint_any ⟨[], [110]⟩ w ⟨by decide, by decide⟩
    rw [show prt ⟨[], [110]⟩ = [47, 47, 58, 110] from by decide] at h
    exact h
  have P6 : Hid (∀ w : World, Calls Try.prog 10 #[.agg #[.string (bs [97]), .string (bs [110])], .agg #[.string (bs [97, 47, 98]), .string (bs [110])]] w fun e w' => e = .returned (.int .i64 (-1)) ∧ Below w.heap.size w w') := fun w => by
    have h := lcmp_any ⟨[97], [110]⟩ ⟨[97, 47, 98], [110]⟩ w ⟨by decide, by decide⟩ ⟨by decide, by decide⟩
    rw [show cmpL ⟨[97], [110]⟩ ⟨[97, 47, 98], [110]⟩ = -1 from by decide] at h
    exact h
  have P7 : Hid (∀ w : World, Calls Try.prog 12 #[.slice (some ⟨w.heap.size, 0, none⟩) 1 1, .string (bs [120]), .string (bs [97, 47, 98])] (w.alloc (.cells #[.string (bs [47, 47, 97, 47, 46, 46, 46])] 9)) fun e w' => e = .returned (.bool true) ∧ Below w.heap.size w w') := fun w => by
    have h := sees_one [47, 47, 97, 47, 46, 46, 46] [120] [97, 47, 98] w (by decide) (by decide)
    rw [show ses [[47, 47, 97, 47, 46, 46, 46]] [120] [97, 47, 98] = true from by decide] at h
    exact h
  have P8 : Hid (∀ w : World, Calls Try.prog 12 #[.slice (some ⟨w.heap.size, 0, none⟩) 1 1, .string (bs [120]), .string (bs [97, 47, 98])] (w.alloc (.cells #[.string (bs [47, 47, 97])] 9)) fun e w' => e = .returned (.bool false) ∧ Below w.heap.size w w') := fun w => by
    have h := sees_one [47, 47, 97] [120] [97, 47, 98] w (by decide) (by decide)
    rw [show ses [[47, 47, 97]] [120] [97, 47, 98] = false from by decide] at h
    exact h
  have P9 : Hid (∀ w : World, Calls Try.prog 11 #[.string (bs [47, 47])] w fun e w' => e = .returned (.bool true) ∧ Below w.heap.size w w') := fun w => by
    have h := seer_any [47, 47] w (by decide)
    rw [show ser [47, 47] = true from by decide] at h
    exact h
  have q1 : ∀ w : World, (binOp .eql 23 (.agg #[.string (bs [97, 47, 98]), .string (bs [110])]) (.agg #[.string ⟨#[97, 47, 98]⟩, .string ⟨#[110]⟩])).run Try.prog w = .ok (.bool true) w := fun w => by
    have h := eql_run w [97, 47, 98] [110] [97, 47, 98] [110]
    rw [decide_eq_true rfl] at h
    exact h
  have q2 : ∀ w : World, (binOp .eql 23 (.agg #[.string (bs [97]), .string (bs [110])]) (.agg #[.string ⟨#[97]⟩, .string ⟨#[110]⟩])).run Try.prog w = .ok (.bool true) w := fun w => by
    have h := eql_run w [97] [110] [97] [110]
    rw [decide_eq_true rfl] at h
    exact h
  have q3 := guard_run
  have q4 : (ByteArray.mk #[47, 47, 58, 110]).toList = [47, 47, 58, 110] := ByteArray.toList_mk [47, 47, 58, 110]
  have q5 := bs_toList [47, 47, 58, 110]
  go_enter Try.func6, Try.ntmps6
  go_wp2_with fail
  refine (P1.out _).mono ?_
  rintro e w1 ⟨rfl, hb1⟩
  have B1 : Hid (Below w.heap.size w w1) := hb1
  clear hb1
  have R1 : Hid (RB (w1.alloc (.cells #[.string (bs [97, 47, 98]), .string (bs [110])] 23)) w1.heap.size ⟨[97, 47, 98], [110]⟩) := RB.new w1 ⟨[97, 47, 98], [110]⟩
  go_wp2_with fail
  refine (P2.out _).mono ?_
  rintro e w2 ⟨rfl, hb2⟩
  have B2 : Hid (Below w.heap.size w w2) := bstep (bstep B1.out (balloc _ _)) hb2
  have R2 : Hid (RB (w2.alloc (.cells #[.string (bs [97]), .string (bs [110])] 23)) w1.heap.size ⟨[97, 47, 98], [110]⟩) := (R1.out.later hb2).later (balloc _ _)
  have S2 : Hid (RB (w2.alloc (.cells #[.string (bs [97]), .string (bs [110])] 23)) w2.heap.size ⟨[97], [110]⟩) := RB.new w2 ⟨[97], [110]⟩
  clear hb2
  go_wp2_with fail
  refine (P3.out _).mono ?_
  rintro e w3 ⟨rfl, hb3⟩
  have B3 : Hid (Below w.heap.size w (w3.alloc (.cells #[.string (bs []), .string (bs [])] 23))) := bstep (bstep (bstep B2.out (balloc _ _)) hb3) (balloc _ _)
  have R3 : Hid (RB (w3.alloc (.cells #[.string (bs []), .string (bs [])] 23)) w1.heap.size ⟨[97, 47, 98], [110]⟩) := (R2.out.later hb3).later (balloc _ _)
  have S3 : Hid (RB (w3.alloc (.cells #[.string (bs []), .string (bs [])] 23)) w2.heap.size ⟨[97], [110]⟩) := (S2.out.later hb3).later (balloc _ _)
  clear hb3
  obtain ⟨c0, c1, _, _⟩ := R3.out.cells
  obtain ⟨d0, d1, _, _⟩ := S3.out.cells
  simp only at c0 c1 d0 d1
  go_wp2_with fail
  refine (P4.out _).mono ?_
  rintro e w4 ⟨rfl, hb4⟩
  have B4 : Hid (Below w.heap.size w w4) := bstep B3.out hb4
  have R4 : Hid (RB w4 w1.heap.size ⟨[97, 47, 98], [110]⟩) := R3.out.later hb4
  have S4 : Hid (RB w4 w2.heap.size ⟨[97], [110]⟩) := S3.out.later hb4
  clear hb4 c0 c1 d0 d1
  go_wp2_with fail
  refine (P5.out _).mono ?_
  rintro e w5 ⟨rfl, hb5⟩
  have B5 : Hid (Below w.heap.size w w5) := bstep B4.out hb5
  obtain ⟨c0, c1, _, _⟩ := (R4.out.later hb5).cells
  obtain ⟨d0, d1, _, _⟩ := (S4.out.later hb5).cells
  simp only at c0 c1 d0 d1
  clear hb5
  go_wp2_with fail
  refine (P6.out _).mono ?_
  rintro e w6 ⟨rfl, hb6⟩
  have B6 : Hid (Below w.heap.size w w6) := bstep B5.out hb6
  clear hb6 c0 c1 d0 d1
  go_wp2_with fail
  refine (P7.out _).mono ?_
  rintro e w7 ⟨rfl, hb7⟩
  have B7 : Hid (Below w.heap.size w w7) := bstep B6.out hb7
  clear hb7
  go_wp2_with fail
  refine (P8.out _).mono ?_
  rintro e w8 ⟨rfl, hb8⟩
  have B8 : Hid (Below w.heap.size w w8) := bstep B7.out hb8
  clear hb8
  go_wp2_with fail
  refine (P9.out _).mono ?_
  rintro e w9 ⟨rfl, hb9⟩
  have B9 : Hid (Below w.heap.size w w9) := bstep B8.out hb9
  clear hb9
  go_wp2_with fail
  go_ret
  exact ⟨rfl, B9.out⟩
end Go.Proofs.Ytoldcbfmkibkdaa
