/-
  Labels compared.
-/
import Derived.Test.YtoldcbfmkibkdaaPkg
namespace Go.Proofs.Ytoldcbfmkibkdaa
open Go.RowKit

set_option maxHeartbeats 1000000 in
theorem or_any {W : World} {g : Nat} {x y : Int} (h0 : W.cell? ⟨g, 0, none⟩ = some (.int .i64 x)) (h1 : W.cell? ⟨g, 1, none⟩ = some (.int .i64 y)) : Calls Try.prog 26 #[.slice (some ⟨g, 0, none⟩) 2 2] W fun e w' => e = .returned (.int .i64 (if x = 0 then y else x)) ∧ w' = W := by
  obtain ⟨r, hr⟩ : ∃ r, (if x = 0 then y else x) = r := ⟨_, rfl⟩
  rw [hr]
  have HR : Hid ((if x = 0 then y else x) = r) := hr
  clear hr
  go_enter Try.func26, Try.ntmps26
  go_wp2_with fail
  go_loop [8] (fun i => ∃ k : Nat, k ≤ 2 ∧ i = .int .i64 k ∧ (1 ≤ k → x = 0) ∧ (2 ≤ k → y = 0)) (fun i => 2 - (intOf i).toNat)
  case atStart => exact ⟨0, by omega, rfl, fun h => absurd h (by omega), fun h => absurd h (by omega)⟩
  case round =>
    obtain ⟨k, hk, rfl, hx, hy⟩ := hrel
    have hr : k = 0 ∨ k = 1 ∨ k = 2 := by omega
    rcases hr with rfl | rfl | rfl
    · clear hx hy hk
      by_cases hx : x = 0
      · have hx' : (x == 0) = true := by simpa using hx
        have HX : Hid (x = 0) := hx
        clear hx
        go_wp2_with fail
        go_round
        case rel => exact ⟨1, by omega, rfl, fun _ => HX.out, fun h => absurd h (by omega)⟩
        case measure => simp only [intOf]; omega
      · have hx' : (x == 0) = false := by simpa using hx
        have HX : Hid (¬ x = 0) := hx
        clear hx
        go_wp2_with fail
        go_ret
        exact ⟨by rw [← HR.out, if_neg HX.out]; rfl, rfl⟩
    · have HX : Hid (x = 0) := hx (by omega)
      clear hx hy hk
      by_cases hx : y = 0
      · have hx' : (y == 0) = true := by simpa using hx
        have HY : Hid (y = 0) := hx
        clear hx
        go_wp2_with fail
        go_round
        case rel => exact ⟨2, by omega, rfl, fun _ => HX.out, fun _ => HY.out⟩
        case measure => simp only [intOf]; omega
      · have hx' : (y == 0) = false := by simpa using hx
        clear hx
        go_wp2_with fail
        go_ret
        exact ⟨by rw [← HR.out, if_pos HX.out]; rfl, rfl⟩
    · have HX : Hid (x = 0) := hx (by omega)
      have HY : Hid (y = 0) := hy (by omega)
      clear hx hy hk
      go_wp2_with fail
      go_ret
      exact ⟨by rw [← HR.out, if_pos HX.out, HY.out]; rfl, rfl⟩
theorem or_new (x y : Int) (w : World) : Calls Try.prog 26 #[.slice (some ⟨w.heap.size, 0, none⟩) 2 2] (w.alloc (.cells #[.int .i64 x, .int .i64 y] 3)) fun e w' => e = .returned (.int .i64 (if x = 0 then y else x)) ∧ w' = w.alloc (.cells #[.int .i64 x, .int .i64 y] 3) :=
  or_any (by simp) (by simp)

theorem cells4 {w0 w1 : World} {g h : Nat} {a b c d : Value} (hb : Below w0.heap.size w0 w1) (hg : g < w0.heap.size) (hh : h < w0.heap.size) (c0 : w0.cell? ⟨g, 0, none⟩ = some a) (c1 : w0.cell? ⟨g, 1, none⟩ = some b) (d0 : w0.cell? ⟨h, 0, none⟩ = some c) (d1 : w0.cell? ⟨h, 1, none⟩ = some d) :
    w1.cell? ⟨g, 0, none⟩ = some a ∧ w1.cell? ⟨g, 1, none⟩ = some b ∧ w1.cell? ⟨h, 0, none⟩ = some c ∧ w1.cell? ⟨h, 1, none⟩ = some d :=
  ⟨(hb.cell (p := ⟨g, 0, none⟩) hg).trans c0, (hb.cell (p := ⟨g, 1, none⟩) hg).trans c1, (hb.cell (p := ⟨h, 0, none⟩) hh).trans d0, (hb.cell (p := ⟨h, 1, none⟩) hh).trans d1⟩
set_option maxHeartbeats 4000000 in
theorem lcmp_any (a b : Lb) (w : World) (ha : Lm a) (hb : Lm b) : Calls Try.prog 10 #[a.val, b.val] w fun e w' => e = .returned (.int .i64 (cmpL a b)) ∧ Below w.heap.size w w' := by
  obtain ⟨p, n⟩ := a
  obtain ⟨q, m⟩ := b
  have h1 := ha.pkg
  have h2 := hb.pkg
  simp only at h1 h2
  have HC : Hid (∀ w : World, Calls Try.prog 27 #[.string (bs p), .string (bs q)] w fun e w' => e = .returned (.int .i64 (cmpP (pcs p) (pcs q))) ∧ Laid w w') := fun w => cmp_any p q w (by omega) (by omega)
  have HS : Hid (∀ w : World, Calls Try.prog 28 #[.string (bs n), .string (bs m)] w fun e w' => e = .returned (.int .i64 (Lib.compareBytes n m)) ∧ w' = w) := fun w => compare_any n m w
  clear h1 h2 ha hb
  simp only [Lb.val, cmpL]
  generalize cmpP (pcs p) (pcs q) = x at *
  generalize Lib.compareBytes n m = y at *
  have HO : Hid (∀ w : World, Calls Try.prog 26 #[.slice (some ⟨w.heap.size, 0, none⟩) 2 2] (w.alloc (.cells #[.int .i64 x, .int .i64 y] 3)) fun e w' => e = .returned (.int .i64 (if x = 0 then y else x)) ∧ w' = w.alloc (.cells #[.int .i64 x, .int .i64 y] 3)) := or_new x y
  obtain ⟨r, hr⟩ : ∃ r, (if x = 0 then y else x) = r := ⟨_, rfl⟩
  rw [hr] at HO ⊢
  clear hr
  have HA : Hid (RB ((w.alloc (.cells #[.string (bs p), .string (bs n)] 23)).alloc (.cells #[.string (bs q), .string (bs m)] 23)) w.heap.size ⟨p, n⟩) := (RB.new w ⟨p, n⟩).later (balloc _ _)
  have HB : Hid (RB ((w.alloc (.cells #[.string (bs p), .string (bs n)] 23)).alloc (.cells #[.string (bs q), .string (bs m)] 23)) (w.heap.size + 1) ⟨q, m⟩) := by
    show RB _ _ _
    have := RB.new (w.alloc (.cells #[.string (bs p), .string (bs n)] 23)) ⟨q, m⟩
    simpa using this
  have HB0 : Hid (Below w.heap.size w ((w.alloc (.cells #[.string (bs p), .string (bs n)] 23)).alloc (.cells #[.string (bs q), .string (bs m)] 23))) := bstep (balloc w _) (balloc _ _)
  go_enter Try.func10, Try.ntmps10
  go_wp2_with fail
  generalize (w.alloc (.cells #[.string (bs p), .string (bs n)] 23)).alloc (.cells #[.string (bs q), .string (bs m)] 23) = w0 at *
  obtain ⟨c0, c1, _, _⟩ := HA.out.cells
  obtain ⟨d0, d1, _, _⟩ := HB.out.cells
  have la := HA.out.lt
  have lb := HB.out.lt
  simp only at c0 c1 d0 d1
  have HL : Hid (w.heap.size < w0.heap.size ∧ w.heap.size + 1 < w0.heap.size) := ⟨la, lb⟩
  clear la lb
  go_region_held3 (fun w' => w'.cell? ⟨w.heap.size, 0, none⟩ = some (.string (bs p)) ∧ w'.cell? ⟨w.heap.size, 1, none⟩ = some (.string (bs n)) ∧ w'.cell? ⟨w.heap.size + 1, 0, none⟩ = some (.string (bs q)) ∧ w'.cell? ⟨w.heap.size + 1, 1, none⟩ = some (.string (bs m))) (first | (with_reducible exact ⟨c0, c1, d0, d1⟩) | (with_reducible exact KS1.out) | go_keep) (first | (go_at_call 27; (with_reducible refine (HC.out _).mono ?_); rintro e w1 ⟨rfl, hb1⟩; have HL1 : Hid (Below w0.heap.size w0 w1) := bstep (Below.refl w0.heap.size w0).drew hb1.below; have KS1 : Hid (w1.cell? ⟨w.heap.size, 0, none⟩ = some (.string (bs p)) ∧ w1.cell? ⟨w.heap.size, 1, none⟩ = some (.string (bs n)) ∧ w1.cell? ⟨w.heap.size + 1, 0, none⟩ = some (.string (bs q)) ∧ w1.cell? ⟨w.heap.size + 1, 1, none⟩ = some (.string (bs m))) := cells4 HL1.out HL.out.1 HL.out.2 c0 c1 d0 d1; clear hb1) | (go_at_call 28; (with_reducible refine (HS.out _).mono ?_); rintro e w2 ⟨rfl, rfl⟩) | (go_at_call 26; (with_reducible refine (HO.out _).mono ?_); rintro e w3 ⟨rfl, rfl⟩))
  all_goals (go_wp2_with fail; go_ret)
  all_goals exact ⟨rfl, bstep HB0.out (bstep HL1.out (balloc _ _))⟩
end Go.Proofs.Ytoldcbfmkibkdaa
