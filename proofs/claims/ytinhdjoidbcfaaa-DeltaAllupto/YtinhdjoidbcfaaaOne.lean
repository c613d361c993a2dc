/-
  One change, and two that follow each other.
-/
import Derived.Test.YtinhdjoidbcfaaaCeq
namespace Go.Proofs.Ytinhdjoidbcfaaa
open Go.RowKit

theorem eql_zero (w : World) (p t : List UInt8) (b s : Int) : (binOp .eql 40 (.agg #[.string (bs p), .string (bs t), .int .i64 b, .int .i64 s]) (.agg #[.string ⟨#[]⟩, .string ⟨#[]⟩, .int .i64 0, .int .i64 0])).run Try.prog w = .ok (.bool (feq ⟨p, t, b, s⟩ zf)) w := eql_run w p t [] [] b s 0 0
set_option maxHeartbeats 1000000 in
theorem side_any (p : List UInt8) (there : Bool) (f : Fl) (w : World) : Calls Try.prog 51 #[.string (bs p), .bool there, f.val] w fun e w' => e = .returned (.bool (side p there f)) ∧ Below w.heap.size w w' := by
  obtain ⟨q, t, b, s⟩ := f
  simp only [Fl.val]
  have e1 := bs_toList q
  have e2 := bs_toList p
  have q1 := eql_zero
  have q2 := guard_run
  cases there
  · go_enter Try.func51, Try.ntmps51
    go_wp2_with fail
    go_ret
    exact ⟨rfl, balloc _ _⟩
  · go_enter Try.func51, Try.ntmps51
    go_wp2_with fail
    go_ret
    exact ⟨rfl, balloc _ _⟩

set_option maxHeartbeats 1000000 in
theorem parts_any (c : Ch) (w : World) : Calls Try.prog 33 #[c.val] w fun e w' => e = .returned (.bool (!feq c.old c.new)) ∧ Below w.heap.size w w' := by
  obtain ⟨p, h, i, ⟨q, t, b, s⟩, ⟨r, y, d, z⟩⟩ := c
  simp only [Ch.val]
  have q1 := neq_run
  have q2 := guard_run
  go_enter Try.func33, Try.ntmps33
  go_wp2_with fail
  go_ret
  exact ⟨rfl, balloc _ _⟩

theorem isE' (l : List UInt8) : (l == []) = l.isEmpty := by cases l <;> rfl
set_option maxHeartbeats 2000000 in
theorem mayBe_any (c : Ch) (w : World) (hc : Cok c) : Calls Try.prog 37 #[c.val] w fun e w' => e = .returned (.bool (may c)) ∧ Below w.heap.size w w' := by
  obtain ⟨p, h, i, f, g⟩ := c
  have hp : p.length ≤ 140737488355328 := hc.path
  clear hc
  have HV : Hid (∀ w : World, Calls Try.prog 48 #[.string (bs p)] w fun e w' => e = .returned (.bool (okP p)) ∧ Below w.heap.size w w') := fun w => valid_any p w (by omega)
  have HS1 : Hid (∀ w : World, Calls Try.prog 51 #[.string (bs p), .bool h, f.val] w fun e w' => e = .returned (.bool (side p h f)) ∧ Below w.heap.size w w') := fun w => side_any p h f w
  have HS2 : Hid (∀ w : World, Calls Try.prog 51 #[.string (bs p), .bool i, g.val] w fun e w' => e = .returned (.bool (side p i g)) ∧ Below w.heap.size w w') := fun w => side_any p i g w
  have HP : Hid (∀ w : World, Calls Try.prog 33 #[Ch.val ⟨p, h, i, f, g⟩] w fun e w' => e = .returned (.bool (!feq f g)) ∧ Below w.heap.size w w') := fun w => parts_any ⟨p, h, i, f, g⟩ w
  have e0 : may ⟨p, h, i, f, g⟩ = ((((!p.isEmpty && okP p) && side p h f) && side p i g) && !feq f g) := by
    simp only [may, pathOk, isE']
  rw [e0]
  clear e0
  generalize side p h f = s1 at *
  generalize side p i g = s2 at *
  generalize okP p = ok at *
  generalize hz : (!feq f g) = pa at *
  clear hz
  have ee := isE p
  generalize hb : p.isEmpty = em at *
  clear hb
  obtain ⟨q, t, b, s⟩ := f
  obtain ⟨r, y, d, z⟩ := g
  simp only [Ch.val, Fl.val] at *
  have key : ∀ w1, Below w.heap.size w w1 → CB w1 w.heap.size 0 ⟨p, h, i, ⟨q, t, b, s⟩, ⟨r, y, d, z⟩⟩ → True := fun _ _ _ => trivial
  clear key
  cases em
  · cases ok
    · go_enter Try.func37, Try.ntmps37
      go_wp2_with fail
      refine (HV.out _).mono ?_
      rintro e w1 ⟨rfl, hb1⟩
      have HB : Hid (Below w.heap.size w w1) := bstep (balloc w _) hb1
      clear hb1
      go_wp2_with fail
      go_ret
      exact ⟨rfl, HB.out⟩
    · go_enter Try.func37, Try.ntmps37
      go_wp2_with fail
      refine (HV.out _).mono ?_
      rintro e w1 ⟨rfl, hb1⟩
      have HB : Hid (Below w.heap.size w w1) := bstep (balloc w _) hb1
      have HC : Hid (CB w1 w.heap.size 0 ⟨p, h, i, ⟨q, t, b, s⟩, ⟨r, y, d, z⟩⟩) := (CB.new w ⟨p, h, i, ⟨q, t, b, s⟩, ⟨r, y, d, z⟩⟩ 42).later (by simp) hb1
      have HL : Hid (w.heap.size < w1.heap.size) := Nat.lt_of_lt_of_le (by simp) hb1.size
      clear hb1
      obtain ⟨c0, c1, c2, c3, c4, c5, c6, c7, c8, c9, c10⟩ := HC.out
      simp only [Nat.zero_add] at c0 c1 c2 c3 c4 c5 c6 c7 c8 c9 c10
      cases s1
      · go_wp2_with fail
        refine (HS1.out _).mono ?_
        rintro e w2 ⟨rfl, hb2⟩
        have HB2 : Hid (Below w.heap.size w w2) := bstep HB.out hb2
        clear hb2 c0 c1 c2 c3 c4 c5 c6 c7 c8 c9 c10
        go_wp2_with fail
        go_ret
        exact ⟨rfl, HB2.out⟩
      · go_wp2_with fail
        refine (HS1.out _).mono ?_
        rintro e w2 ⟨rfl, hb2⟩
        have HB2 : Hid (Below w.heap.size w w2) := bstep HB.out hb2
        have HC2 : Hid (CB w2 w.heap.size 0 ⟨p, h, i, ⟨q, t, b, s⟩, ⟨r, y, d, z⟩⟩) := HC.out.later HL.out hb2
        have HL2 : Hid (w.heap.size < w2.heap.size) := Nat.lt_of_lt_of_le HL.out hb2.size
        clear hb2 c0 c1 c2 c3 c4 c5 c6 c7 c8 c9 c10
        obtain ⟨c0, c1, c2, c3, c4, c5, c6, c7, c8, c9, c10⟩ := HC2.out
        simp only [Nat.zero_add] at c0 c1 c2 c3 c4 c5 c6 c7 c8 c9 c10
        cases s2
        · go_wp2_with fail
          refine (HS2.out _).mono ?_
          rintro e w3 ⟨rfl, hb3⟩
          have HB3 : Hid (Below w.heap.size w w3) := bstep HB2.out hb3
          clear hb3 c0 c1 c2 c3 c4 c5 c6 c7 c8 c9 c10
          go_wp2_with fail
          go_ret
          exact ⟨rfl, HB3.out⟩
        · go_wp2_with fail
          refine (HS2.out _).mono ?_
          rintro e w3 ⟨rfl, hb3⟩
          have HB3 : Hid (Below w.heap.size w w3) := bstep HB2.out hb3
          have HC3 : Hid (CB w3 w.heap.size 0 ⟨p, h, i, ⟨q, t, b, s⟩, ⟨r, y, d, z⟩⟩) := HC2.out.later HL2.out hb3
          clear hb3 c0 c1 c2 c3 c4 c5 c6 c7 c8 c9 c10
          obtain ⟨c0, c1, c2, c3, c4, c5, c6, c7, c8, c9, c10⟩ := HC3.out
          simp only [Nat.zero_add] at c0 c1 c2 c3 c4 c5 c6 c7 c8 c9 c10
          go_wp2_with fail
          refine (HP.out _).mono ?_
          rintro e w4 ⟨rfl, hb4⟩
          have HB4 : Hid (Below w.heap.size w w4) := bstep HB3.out hb4
          clear hb4 c0 c1 c2 c3 c4 c5 c6 c7 c8 c9 c10
          cases pa
          · go_wp2_with fail
            go_ret
            exact ⟨rfl, HB4.out⟩
          · go_wp2_with fail
            go_ret
            exact ⟨rfl, HB4.out⟩
  · go_enter Try.func37, Try.ntmps37
    go_wp2_with fail
    go_ret
    exact ⟨rfl, balloc _ _⟩
end Go.Proofs.Ytinhdjoidbcfaaa
