import Derived.Test.YtpaohkegekhgdacLent
namespace Go.Proofs.Ytpaohkegekhgdac
open Go.RowKit

/-- what each of the six answers -/
def ans (k : Nat) (A B : List (List UInt8)) : List (List UInt8) :=
  if k = 0 then norm A else if k = 1 then uni A B else if k = 2 then som A B false else if k = 3 then som A B true else if k = 4 then drs A else hds (norm A)
/-- what is handed in -/
structure In4 (w : World) (vx vy va vb : Value) (A B : List (List UInt8)) : Prop where
  x : SS w vx A
  y : SS w vy B
  a : SS w va A
  b : SS w vb B
  sa : Sm A
  sb : Sm B
  su : Sm (A ++ B)
/-- two answers, in memory of their own -/
structure Two (w w' : World) (v1 v2 : Value) (R : List (List UInt8)) : Prop where
  mid : ∃ w1, Own w.heap.size w1 v1 R ∧ Below w.heap.size w w1 ∧ Own w1.heap.size w' v2 R ∧ Below w1.heap.size w1 w'

set_option maxHeartbeats 1000000 in
theorem called0 {w : World} {vx vy va vb : Value} {A B : List (List UInt8)} (h : In4 w vx vy va vb A B) :
    Calls Try.prog 20 #[.int .i64 0, vx, vy, va, vb] w fun e w' => ∃ v1 v2, e = .returned (.tuple #[v1, v2]) ∧ Two w w' v1 v2 (norm A) := by
  have H : Hid (In4 w vx vy va vb A B) := h
  clear h
  go_enter Try.func20, Try.ntmps20
  go_wp2_with fail
  refine (norm_any H.out.x H.out.sa).mono ?_
  rintro e w1 ⟨v1, rfl, o1, b1⟩
  have HO : Hid (Own w.heap.size w1 v1 (norm A)) := o1
  have HB : Hid (Below w.heap.size w w1) := b1
  clear o1 b1
  go_wp2_with fail
  refine (rnorm_any (H.out.a.later HB.out) H.out.sa).mono ?_
  rintro e w2 ⟨v2, rfl, o2, b2⟩
  have HO2 : Hid (Own w1.heap.size w2 v2 (norm A) ∧ Below w1.heap.size w1 w2) := ⟨o2, b2⟩
  clear o2 b2
  go_wp2_with fail
  go_ret2
  exact ⟨v1, v2, rfl, ⟨w1, HO.out, HB.out, HO2.out.1, HO2.out.2⟩⟩

set_option maxHeartbeats 1000000 in
theorem called1 {w : World} {vx vy va vb : Value} {A B : List (List UInt8)} (h : In4 w vx vy va vb A B) :
    Calls Try.prog 20 #[.int .i64 1, vx, vy, va, vb] w fun e w' => ∃ v1 v2, e = .returned (.tuple #[v1, v2]) ∧ Two w w' v1 v2 (uni A B) := by
  have H : Hid (In4 w vx vy va vb A B) := h
  clear h
  go_enter Try.func20, Try.ntmps20
  go_wp2_with fail
  refine (union_any H.out.x H.out.y H.out.sa H.out.sb).mono ?_
  rintro e w1 ⟨v1, rfl, o1, b1⟩
  have HO : Hid (Own w.heap.size w1 v1 (uni A B)) := o1
  have HB : Hid (Below w.heap.size w w1) := b1
  clear o1 b1
  go_wp2_with fail
  refine (runion_any (H.out.a.later HB.out) (H.out.b.later HB.out) H.out.su).mono ?_
  rintro e w2 ⟨v2, rfl, o2, b2⟩
  have HO2 : Hid (Own w1.heap.size w2 v2 (uni A B) ∧ Below w1.heap.size w1 w2) := ⟨o2, b2⟩
  clear o2 b2
  go_wp2_with fail
  go_ret2
  exact ⟨v1, v2, rfl, ⟨w1, HO.out, HB.out, HO2.out.1, HO2.out.2⟩⟩

set_option maxHeartbeats 1000000 in
theorem called2 {w : World} {vx vy va vb : Value} {A B : List (List UInt8)} (h : In4 w vx vy va vb A B) :
    Calls Try.prog 20 #[.int .i64 2, vx, vy, va, vb] w fun e w' => ∃ v1 v2, e = .returned (.tuple #[v1, v2]) ∧ Two w w' v1 v2 (som A B false) := by
  have H : Hid (In4 w vx vy va vb A B) := h
  clear h
  go_enter Try.func20, Try.ntmps20
  go_wp2_with fail
  refine (minus_any H.out.x H.out.y H.out.sa H.out.sb).mono ?_
  rintro e w1 ⟨v1, rfl, o1, b1⟩
  have HO : Hid (Own w.heap.size w1 v1 (som A B false)) := o1
  have HB : Hid (Below w.heap.size w w1) := b1
  clear o1 b1
  go_wp2_with fail
  refine (rminus_any (H.out.a.later HB.out) (H.out.b.later HB.out) H.out.sa H.out.sb).mono ?_
  rintro e w2 ⟨v2, rfl, o2, b2⟩
  have HO2 : Hid (Own w1.heap.size w2 v2 (som A B false) ∧ Below w1.heap.size w1 w2) := ⟨o2, b2⟩
  clear o2 b2
  go_wp2_with fail
  go_ret2
  exact ⟨v1, v2, rfl, ⟨w1, HO.out, HB.out, HO2.out.1, HO2.out.2⟩⟩

set_option maxHeartbeats 1000000 in
theorem called3 {w : World} {vx vy va vb : Value} {A B : List (List UInt8)} (h : In4 w vx vy va vb A B) :
    Calls Try.prog 20 #[.int .i64 3, vx, vy, va, vb] w fun e w' => ∃ v1 v2, e = .returned (.tuple #[v1, v2]) ∧ Two w w' v1 v2 (som A B true) := by
  have H : Hid (In4 w vx vy va vb A B) := h
  clear h
  go_enter Try.func20, Try.ntmps20
  go_wp2_with fail
  refine (meetS_any H.out.x H.out.y H.out.sa H.out.sb).mono ?_
  rintro e w1 ⟨v1, rfl, o1, b1⟩
  have HO : Hid (Own w.heap.size w1 v1 (som A B true)) := o1
  have HB : Hid (Below w.heap.size w w1) := b1
  clear o1 b1
  go_wp2_with fail
  refine (rmeet_any (H.out.a.later HB.out) (H.out.b.later HB.out) H.out.sa H.out.sb).mono ?_
  rintro e w2 ⟨v2, rfl, o2, b2⟩
  have HO2 : Hid (Own w1.heap.size w2 v2 (som A B true) ∧ Below w1.heap.size w1 w2) := ⟨o2, b2⟩
  clear o2 b2
  go_wp2_with fail
  go_ret2
  exact ⟨v1, v2, rfl, ⟨w1, HO.out, HB.out, HO2.out.1, HO2.out.2⟩⟩

set_option maxHeartbeats 1000000 in
theorem called4 {w : World} {vx vy va vb : Value} {A B : List (List UInt8)} (h : In4 w vx vy va vb A B) :
    Calls Try.prog 20 #[.int .i64 4, vx, vy, va, vb] w fun e w' => ∃ v1 v2, e = .returned (.tuple #[v1, v2]) ∧ Two w w' v1 v2 (drs A) := by
  have H : Hid (In4 w vx vy va vb A B) := h
  clear h
  go_enter Try.func20, Try.ntmps20
  go_wp2_with fail
  refine (dirs_any H.out.x H.out.sa).mono ?_
  rintro e w1 ⟨v1, rfl, o1, b1⟩
  have HO : Hid (Own w.heap.size w1 v1 (drs A)) := o1
  have HB : Hid (Below w.heap.size w w1) := b1
  clear o1 b1
  go_wp2_with fail
  refine (rdirs_any (H.out.a.later HB.out) H.out.sa).mono ?_
  rintro e w2 ⟨v2, rfl, o2, b2⟩
  have HO2 : Hid (Own w1.heap.size w2 v2 (drs A) ∧ Below w1.heap.size w1 w2) := ⟨o2, b2⟩
  clear o2 b2
  go_wp2_with fail
  go_ret2
  exact ⟨v1, v2, rfl, ⟨w1, HO.out, HB.out, HO2.out.1, HO2.out.2⟩⟩

set_option maxHeartbeats 1000000 in
theorem called5 {w : World} {vx vy va vb : Value} {A B : List (List UInt8)} (h : In4 w vx vy va vb A B) :
    Calls Try.prog 20 #[.int .i64 5, vx, vy, va, vb] w fun e w' => ∃ v1 v2, e = .returned (.tuple #[v1, v2]) ∧ Two w w' v1 v2 (hds (norm A)) := by
  have H : Hid (In4 w vx vy va vb A B) := h
  clear h
  go_enter Try.func20, Try.ntmps20
  go_wp2_with fail
  refine (heads_any H.out.x H.out.sa).mono ?_
  rintro e w1 ⟨v1, rfl, o1, b1⟩
  have HO : Hid (Own w.heap.size w1 v1 (hds (norm A))) := o1
  have HB : Hid (Below w.heap.size w w1) := b1
  clear o1 b1
  go_wp2_with fail
  refine (rheads_any (H.out.a.later HB.out) H.out.sa).mono ?_
  rintro e w2 ⟨v2, rfl, o2, b2⟩
  have HO2 : Hid (Own w1.heap.size w2 v2 (hds (norm A)) ∧ Below w1.heap.size w1 w2) := ⟨o2, b2⟩
  clear o2 b2
  go_wp2_with fail
  go_ret2
  exact ⟨v1, v2, rfl, ⟨w1, HO.out, HB.out, HO2.out.1, HO2.out.2⟩⟩

theorem called_any {w : World} {vx vy va vb : Value} {A B : List (List UInt8)} (k : Nat) (hk : k < 6) (h : In4 w vx vy va vb A B) :
    Calls Try.prog 20 #[.int .i64 k, vx, vy, va, vb] w fun e w' => ∃ v1 v2, e = .returned (.tuple #[v1, v2]) ∧ Two w w' v1 v2 (ans k A B) := by
  have hc : k = 0 ∨ k = 1 ∨ k = 2 ∨ k = 3 ∨ k = 4 ∨ k = 5 := by omega
  rcases hc with rfl | rfl | rfl | rfl | rfl | rfl
  · exact called0 h
  · exact called1 h
  · exact called2 h
  · exact called3 h
  · exact called4 h
  · exact called5 h
theorem ans_sm {A B : List (List UInt8)} (sa : Sm A) (su : Sm (A ++ B)) (k : Nat) : Sm (ans k A B) := by
  unfold ans
  repeat' split
  · exact sa.norm
  · exact su.norm
  · exact sa.som false
  · exact sa.som true
  · exact drs_sm sa
  · exact sa.norm.hds
theorem Two.first {w w' : World} {v1 v2 : Value} {R : List (List UInt8)} (h : Two w w' v1 v2 R) : Own w.heap.size w' v1 R := by
  obtain ⟨w1, h1, h2, h3, h4⟩ := h.mid
  exact h1.later h4
theorem Two.second {w w' : World} {v1 v2 : Value} {R : List (List UInt8)} (h : Two w w' v1 v2 R) : Own w.heap.size w' v2 R := by
  obtain ⟨w1, h1, h2, h3, h4⟩ := h.mid
  exact h3.mono h2.size
theorem Two.below {w w' : World} {v1 v2 : Value} {R : List (List UInt8)} (h : Two w w' v1 v2 R) : Below w.heap.size w w' := by
  obtain ⟨w1, h1, h2, h3, h4⟩ := h.mid
  exact bstep h2 h4
theorem In4.later {w w' : World} {vx vy va vb : Value} {A B : List (List UInt8)} (h : In4 w vx vy va vb A B) (k : Below w.heap.size w w') : In4 w' vx vy va vb A B :=
  ⟨h.x.later k, h.y.later k, h.a.later k, h.b.later k, h.sa, h.sb, h.su⟩
end Go.Proofs.Ytpaohkegekhgdac
