/-
  The order of nodes.
-/
import Derived.Test.YtclbnjfmipifnaaLrow
namespace Go.Proofs.Ytclbnjfmipifnaa
open Go.RowKit

theorem Laid.refl (w : World) : Laid w w := ⟨Below.refl _ _, Nat.le_refl _⟩
theorem Laid.step {a b c : World} (h : Laid a b) (k : Laid b c) : Laid a c := ⟨bstep h.below k.below, Nat.le_trans h.drawn k.drawn⟩
theorem Laid.alloc (w : World) (o : Obj) : Laid w (w.alloc o) := ⟨balloc w o, Nat.le_refl _⟩
theorem Laid.drew (w : World) : Laid w w.drew := ⟨(Below.refl w.heap.size w).drew, Nat.le_succ _⟩
set_option maxHeartbeats 4000000 in
theorem lcmp_laid (a b : Lb) (w : World) (ha : Lm a) (hb : Lm b) : Calls Try.prog 49 #[a.val, b.val] w fun e w' => e = .returned (.int .i64 (cmpL a b)) ∧ Laid w w' := by
  obtain ⟨p, n⟩ := a
  obtain ⟨q, m⟩ := b
  have h1 := ha.pkg
  have h2 := hb.pkg
  simp only at h1 h2
  have HC : Hid (∀ w : World, Calls Try.prog 61 #[.string (bs p), .string (bs q)] w fun e w' => e = .returned (.int .i64 (cmpP (pcs p) (pcs q))) ∧ Laid w w') := fun w => cmp_any p q w (by omega) (by omega)
  have HS : Hid (∀ w : World, Calls Try.prog 50 #[.string (bs n), .string (bs m)] w fun e w' => e = .returned (.int .i64 (Lib.compareBytes n m)) ∧ w' = w) := fun w => compare_any n m w
  clear h1 h2 ha hb
  simp only [Lb.val, cmpL]
  generalize cmpP (pcs p) (pcs q) = x at *
  generalize Lib.compareBytes n m = y at *
  have HO : Hid (∀ w : World, Calls Try.prog 48 #[.slice (some ⟨w.heap.size, 0, none⟩) 2 2] (w.alloc (.cells #[.int .i64 x, .int .i64 y] 3)) fun e w' => e = .returned (.int .i64 (if x = 0 then y else x)) ∧ w' = w.alloc (.cells #[.int .i64 x, .int .i64 y] 3)) := or_new x y
  obtain ⟨r, hr⟩ : ∃ r, (if x = 0 then y else x) = r := ⟨_, rfl⟩
  rw [hr] at HO ⊢
  clear hr
  have HA : Hid (RB ((w.alloc (.cells #[.string (bs p), .string (bs n)] 35)).alloc (.cells #[.string (bs q), .string (bs m)] 35)) w.heap.size ⟨p, n⟩) := (RB.new w ⟨p, n⟩).later (balloc _ _)
  have HB : Hid (RB ((w.alloc (.cells #[.string (bs p), .string (bs n)] 35)).alloc (.cells #[.string (bs q), .string (bs m)] 35)) (w.heap.size + 1) ⟨q, m⟩) := by
    show RB _ _ _
    have := RB.new (w.alloc (.cells #[.string (bs p), .string (bs n)] 35)) ⟨q, m⟩
    simpa using this
  have HB0 : Hid (Laid w ((w.alloc (.cells #[.string (bs p), .string (bs n)] 35)).alloc (.cells #[.string (bs q), .string (bs m)] 35))) := (Laid.alloc w _).step (Laid.alloc _ _)
  go_enter Try.func49, Try.ntmps49
  go_wp2_with fail
  generalize (w.alloc (.cells #[.string (bs p), .string (bs n)] 35)).alloc (.cells #[.string (bs q), .string (bs m)] 35) = w0 at *
  obtain ⟨c0, c1, _, _⟩ := HA.out.cells
  obtain ⟨d0, d1, _, _⟩ := HB.out.cells
  have la := HA.out.lt
  have lb := HB.out.lt
  simp only at c0 c1 d0 d1
  have HL : Hid (w.heap.size < w0.heap.size ∧ w.heap.size + 1 < w0.heap.size) := ⟨la, lb⟩
  clear la lb
  go_region_held3 (fun w' => w'.cell? ⟨w.heap.size, 0, none⟩ = some (.string (bs p)) ∧ w'.cell? ⟨w.heap.size, 1, none⟩ = some (.string (bs n)) ∧ w'.cell? ⟨w.heap.size + 1, 0, none⟩ = some (.string (bs q)) ∧ w'.cell? ⟨w.heap.size + 1, 1, none⟩ = some (.string (bs m))) (first | (with_reducible exact ⟨c0, c1, d0, d1⟩) | (with_reducible exact KS1.out) | go_keep) (first | (go_at_call 61; (with_reducible refine (HC.out _).mono ?_); rintro e w1 ⟨rfl, hb1⟩; have HL1 : Hid (Laid w0 w1) := (Laid.drew w0).step hb1; have KS1 : Hid (w1.cell? ⟨w.heap.size, 0, none⟩ = some (.string (bs p)) ∧ w1.cell? ⟨w.heap.size, 1, none⟩ = some (.string (bs n)) ∧ w1.cell? ⟨w.heap.size + 1, 0, none⟩ = some (.string (bs q)) ∧ w1.cell? ⟨w.heap.size + 1, 1, none⟩ = some (.string (bs m))) := cells4 HL1.out.below HL.out.1 HL.out.2 c0 c1 d0 d1; clear hb1) | (go_at_call 50; (with_reducible refine (HS.out _).mono ?_); rintro e w2 ⟨rfl, rfl⟩) | (go_at_call 48; (with_reducible refine (HO.out _).mono ?_); rintro e w3 ⟨rfl, rfl⟩))
  all_goals (go_wp2_with fail; go_ret)
  all_goals exact ⟨rfl, HB0.out.step (HL1.out.step (Laid.alloc _ _))⟩

theorem ris_or (a b : Lb) : (if cmpL a b = 0 then Lib.compareBytes a.pkg b.pkg else cmpL a b) = cmpL a b := by
  split
  · rename_i h
    have e := (cmpL_zero a b).1 h
    rw [h, e]
    exact cb_refl _
  · rfl
set_option maxHeartbeats 4000000 in
theorem rising_any (a b : Lb) (w : World) (ha : Lm a) (hb : Lm b) : Calls Try.prog 37 #[a.val, b.val] w fun e w' => e = .returned (.int .i64 (cmpL a b)) ∧ Laid w w' := by
  have HC : Hid (∀ w : World, Calls Try.prog 49 #[a.val, b.val] w fun e w' => e = .returned (.int .i64 (cmpL a b)) ∧ Laid w w') := fun w => lcmp_laid a b w ha hb
  have HE : Hid ((if cmpL a b = 0 then Lib.compareBytes a.pkg b.pkg else cmpL a b) = cmpL a b) := ris_or a b
  obtain ⟨p, n⟩ := a
  obtain ⟨q, m⟩ := b
  have HS : Hid (∀ w : World, Calls Try.prog 50 #[.string (bs p), .string (bs q)] w fun e w' => e = .returned (.int .i64 (Lib.compareBytes p q)) ∧ w' = w) := fun w => compare_any p q w
  clear ha hb
  simp only [Lb.val] at *
  generalize cmpL ⟨p, n⟩ ⟨q, m⟩ = x at *
  generalize Lib.compareBytes p q = y at *
  have HO : Hid (∀ w : World, Calls Try.prog 48 #[.slice (some ⟨w.heap.size, 0, none⟩) 2 2] (w.alloc (.cells #[.int .i64 x, .int .i64 y] 3)) fun e w' => e = .returned (.int .i64 (if x = 0 then y else x)) ∧ w' = w.alloc (.cells #[.int .i64 x, .int .i64 y] 3)) := or_new x y
  rw [HE.out] at HO
  clear HE
  have HA : Hid (RB ((w.alloc (.cells #[.string (bs p), .string (bs n)] 35)).alloc (.cells #[.string (bs q), .string (bs m)] 35)) w.heap.size ⟨p, n⟩) := (RB.new w ⟨p, n⟩).later (balloc _ _)
  have HB : Hid (RB ((w.alloc (.cells #[.string (bs p), .string (bs n)] 35)).alloc (.cells #[.string (bs q), .string (bs m)] 35)) (w.heap.size + 1) ⟨q, m⟩) := by
    show RB _ _ _
    have := RB.new (w.alloc (.cells #[.string (bs p), .string (bs n)] 35)) ⟨q, m⟩
    simpa using this
  have HB0 : Hid (Laid w ((w.alloc (.cells #[.string (bs p), .string (bs n)] 35)).alloc (.cells #[.string (bs q), .string (bs m)] 35))) := (Laid.alloc w _).step (Laid.alloc _ _)
  go_enter Try.func37, Try.ntmps37
  go_wp2_with fail
  generalize (w.alloc (.cells #[.string (bs p), .string (bs n)] 35)).alloc (.cells #[.string (bs q), .string (bs m)] 35) = w0 at *
  obtain ⟨c0, c1, _, _⟩ := HA.out.cells
  obtain ⟨d0, d1, _, _⟩ := HB.out.cells
  have la := HA.out.lt
  have lb := HB.out.lt
  simp only at c0 c1 d0 d1
  have HL : Hid (w.heap.size < w0.heap.size ∧ w.heap.size + 1 < w0.heap.size) := ⟨la, lb⟩
  clear la lb
  go_region_held3 (fun w' => w'.cell? ⟨w.heap.size, 0, none⟩ = some (.string (bs p)) ∧ w'.cell? ⟨w.heap.size, 1, none⟩ = some (.string (bs n)) ∧ w'.cell? ⟨w.heap.size + 1, 0, none⟩ = some (.string (bs q)) ∧ w'.cell? ⟨w.heap.size + 1, 1, none⟩ = some (.string (bs m))) (first | (with_reducible exact ⟨c0, c1, d0, d1⟩) | (with_reducible exact KS1.out) | go_keep) (first | (go_at_call 49; (with_reducible refine (HC.out _).mono ?_); rintro e w1 ⟨rfl, hb1⟩; have HL1 : Hid (Laid w0 w1) := (Laid.drew w0).step hb1; have KS1 : Hid (w1.cell? ⟨w.heap.size, 0, none⟩ = some (.string (bs p)) ∧ w1.cell? ⟨w.heap.size, 1, none⟩ = some (.string (bs n)) ∧ w1.cell? ⟨w.heap.size + 1, 0, none⟩ = some (.string (bs q)) ∧ w1.cell? ⟨w.heap.size + 1, 1, none⟩ = some (.string (bs m))) := cells4 HL1.out.below HL.out.1 HL.out.2 c0 c1 d0 d1; clear hb1) | (go_at_call 50; (with_reducible refine (HS.out _).mono ?_); rintro e w2 ⟨rfl, rfl⟩) | (go_at_call 48; (with_reducible refine (HO.out _).mono ?_); rintro e w3 ⟨rfl, rfl⟩))
  all_goals (go_wp2_with fail; go_ret)
  all_goals exact ⟨rfl, HB0.out.step (HL1.out.step (Laid.alloc _ _))⟩
end Go.Proofs.Ytclbnjfmipifnaa
