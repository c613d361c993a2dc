/-
  fits, and Match.
-/
import Derived.Test.YtebidnepanogcaaDoorFt
namespace Go.Proofs.YtebidnepanogcaaDoor
open Go.RowKit Go.Lib

set_option maxHeartbeats 4000000 in
set_option maxRecDepth 100000 in
theorem fits_any {w : World} {v : Value} {x y : List UInt8} (h : PC w v x y) (n : List UInt8) (hx : x.length ≤ 1000000000) (hy : y.length ≤ 1000000000) (hn : n.length ≤ 1000000000) :
    Calls Tryd.prog 32 #[v, .string (bs n)] w fun e w' => e = .returned (.bool (fts x y n)) ∧ Below w.heap.size w w' := by
  obtain ⟨a, b, rfl, h1, h2⟩ := h
  obtain ⟨p1, c1, rfl, _⟩ := id h1
  obtain ⟨p2, c2, rfl, _⟩ := id h2
  have HX : Hid (BI w (.slice p1 x.length c1) x) := h1
  have HY : Hid (BI w (.slice p2 y.length c2) y) := h2
  have hz : (bs n).size = n.length := rfl
  clear h1 h2
  by_cases hle : x.length + y.length ≤ n.length
  rotate_left
  · have e0 : fts x y n = false := by unfold fts; rw [decide_eq_false hle]; rfl
    rw [e0]
    have i0 : (n.length : Int) < (x.length : Int) + (y.length : Int) := by omega
    go_enter Tryd.func32, Tryd.ntmps32
    go_wp2_with fail
    go_ret
    exact ⟨rfl, balloc _ _⟩
  · have i0 : ¬ (n.length : Int) < (x.length : Int) + (y.length : Int) := by omega
    have hm1 := run_make_row' (P := Tryd.prog) 42 5 (.int .u8 0) 1 Tryd.underlying42 info5 rfl .i64 .i64 x.length (by omega) (by omega)
    have hm2 := run_make_row' (P := Tryd.prog) 42 5 (.int .u8 0) 1 Tryd.underlying42 info5 rfl .i64 .i64 y.length (by omega) (by omega)
    go_enter Tryd.func32, Tryd.ntmps32
    go_wp2_with fail
    go_region
    · obtain ⟨q1, q2, q3, q4, q5⟩ := three w (.cells #[.slice p1 x.length c1, .slice p2 y.length c2] 44) (.cells (madeCells #[.int .u8 0] x.length) 5) (.cells (madeCells #[.int .u8 0] y.length) 5)
      generalize (((w.alloc (Obj.cells #[.slice p1 x.length c1, .slice p2 y.length c2] 44)).alloc (Obj.cells (madeCells #[.int .u8 0] x.length) 5)).alloc (Obj.cells (madeCells #[.int .u8 0] y.length) 5)).drew = W at *
      have HB : Hid (Below w.heap.size w W) := q5
      have HG1 : Hid (W.heap[w.heap.size + 1]? = some (.cells (madeCells #[.int .u8 0] x.length) 5)) := q2
      have HG2 : Hid (W.heap[w.heap.size + 1 + 1]? = some (.cells (madeCells #[.int .u8 0] y.length) 5)) := q3
      have HG0 : Hid (W.heap[w.heap.size]? = some (.cells #[.slice p1 x.length c1, .slice p2 y.length c2] 44)) := q1
      have HX1 : Hid (BI W (.slice p1 x.length c1) x) := HX.out.later q5
      have HY1 : Hid (BI W (.slice p2 y.length c2) y) := HY.out.later q5
      have HZ : Hid (W.heap.size = w.heap.size + 3) := q4
      clear q1 q2 q3 q4 q5
      go_wp2_with (first
        | (refine wpList_copy_str rfl _ _ 42 9 rfl 5 Tryd.underlying42 sz5 (w.heap.size + 1) x.length x.length _ rfl rfl _ 5 HG1.out (by simp [madeCells]) n rfl (by omega) ?_; intro w1 HA1 HO1)
        | (refine wpList_copy_str rfl _ _ 42 9 rfl 5 Tryd.underlying42 sz5 (w.heap.size + 1 + 1) y.length y.length _ rfl rfl _ 5 ((HO1.out.block (w.heap.size + 1 + 1) (by have := HZ.out; omega) (by simp <;> omega)).trans HG2.out) (by simp [madeCells]) (n.drop (n.length - y.length)) (extract_from _ _) (by simp; omega) ?_; intro w2 HA2 HO2; have b0 : w2.cell? ⟨w.heap.size, 0, none⟩ = some (.slice p1 x.length c1) := (by simp [World.cell?, HO2.out.block w.heap.size (by have := HZ.out; have := HO1.out.size; omega) (by simp <;> omega), HO1.out.block w.heap.size (by have := HZ.out; omega) (by simp <;> omega), HG0.out]); have b1 : w2.cell? ⟨w.heap.size, 1, none⟩ = some (.slice p2 y.length c2) := (by simp [World.cell?, HO2.out.block w.heap.size (by have := HZ.out; have := HO1.out.size; omega) (by simp <;> omega), HO1.out.block w.heap.size (by have := HZ.out; omega) (by simp <;> omega), HG0.out])))
      have HB2 : Hid (Below w.heap.size w w2) := below_trans (below_trans HB.out (HO1.out.below (by have := HZ.out; omega) (by simp <;> omega))) (HO2.out.below (by have := HZ.out; have := HO1.out.size; omega) (by simp <;> omega))
      have HX2 : Hid (BI w2 (.slice p1 x.length c1) x) := HX.out.later HB2.out
      have HY2 : Hid (BI w2 (.slice p2 y.length c2) y) := HY.out.later HB2.out
      have HF2 : Hid (BI w2 (.slice (some ⟨w.heap.size + 1, 0, none⟩) x.length x.length) (n.take x.length)) := by
        have e := BI.row (w := w2) (g := w.heap.size + 1) (l := n.take x.length) (t := 5) ((HO2.out.block (w.heap.size + 1) (by have := HZ.out; have := HO1.out.size; omega) (by simp <;> omega)).trans HA1.out) x.length
        rw [List.length_take, Nat.min_eq_left (by omega)] at e
        exact e
      have HL2 : Hid (BI w2 (.slice (some ⟨w.heap.size + 1 + 1, 0, none⟩) y.length y.length) (n.drop (n.length - y.length))) := by
        have e := BI.row (w := w2) (g := w.heap.size + 1 + 1) (t := 5) HA2.out y.length
        rw [List.take_of_length_le (by simp; omega)] at e
        rw [List.length_drop, show n.length - (n.length - y.length) = y.length by omega] at e
        exact e
      have hsz2 : w.heap.size < w2.heap.size := by have := HZ.out; have := HO1.out.size; have := HO2.out.size; omega
      clear HA1 HO1 HA2 HO2 HG0 HG1 HG2 HX1 HY1 HX HY HZ HB hm1 hm2
      refine (equal_bytes HF2.out HX2.out).mono ?_
      rintro e w3 ⟨rfl, hw3⟩
      obtain rfl : w2 = w3 := hw3.symm
      by_cases hq : n.take x.length = x
      · rw [decide_eq_true hq]
        go_wp2_with fail
        refine (equal_bytes HL2.out HY2.out).mono ?_
        rintro e w4 ⟨rfl, hw4⟩
        obtain rfl : w2 = w4 := hw4.symm
        go_wp2_with fail
        go_ret
        exact ⟨by unfold fts; rw [decide_eq_true hle, decide_eq_true hq]; simp, HB2.out⟩
      · rw [decide_eq_false hq]
        go_wp2_with fail
        go_ret
        exact ⟨by unfold fts; rw [decide_eq_false hq]; simp, HB2.out⟩
    · obtain ⟨q1, q2, q3, q4, q5⟩ := three w (.cells #[.slice p1 x.length c1, .slice p2 y.length c2] 44) (.cells (madeCells #[.int .u8 0] y.length) 5) (.cells (madeCells #[.int .u8 0] x.length) 5)
      generalize (((w.alloc (Obj.cells #[.slice p1 x.length c1, .slice p2 y.length c2] 44)).alloc (Obj.cells (madeCells #[.int .u8 0] y.length) 5)).alloc (Obj.cells (madeCells #[.int .u8 0] x.length) 5)).drew = W at *
      have HB : Hid (Below w.heap.size w W) := q5
      have HG1 : Hid (W.heap[w.heap.size + 1]? = some (.cells (madeCells #[.int .u8 0] y.length) 5)) := q2
      have HG2 : Hid (W.heap[w.heap.size + 1 + 1]? = some (.cells (madeCells #[.int .u8 0] x.length) 5)) := q3
      have HG0 : Hid (W.heap[w.heap.size]? = some (.cells #[.slice p1 x.length c1, .slice p2 y.length c2] 44)) := q1
      have HX1 : Hid (BI W (.slice p1 x.length c1) x) := HX.out.later q5
      have HY1 : Hid (BI W (.slice p2 y.length c2) y) := HY.out.later q5
      have HZ : Hid (W.heap.size = w.heap.size + 3) := q4
      clear q1 q2 q3 q4 q5
      go_wp2_with (first
        | (refine wpList_copy_str rfl _ _ 42 9 rfl 5 Tryd.underlying42 sz5 (w.heap.size + 1 + 1) x.length x.length _ rfl rfl _ 5 HG2.out (by simp [madeCells]) n rfl (by omega) ?_; intro w1 HA1 HO1)
        | (refine wpList_copy_str rfl _ _ 42 9 rfl 5 Tryd.underlying42 sz5 (w.heap.size + 1) y.length y.length _ rfl rfl _ 5 ((HO1.out.block (w.heap.size + 1) (by have := HZ.out; omega) (by simp <;> omega)).trans HG1.out) (by simp [madeCells]) (n.drop (n.length - y.length)) (extract_from _ _) (by simp; omega) ?_; intro w2 HA2 HO2; have b0 : w2.cell? ⟨w.heap.size, 0, none⟩ = some (.slice p1 x.length c1) := (by simp [World.cell?, HO2.out.block w.heap.size (by have := HZ.out; have := HO1.out.size; omega) (by simp <;> omega), HO1.out.block w.heap.size (by have := HZ.out; omega) (by simp <;> omega), HG0.out]); have b1 : w2.cell? ⟨w.heap.size, 1, none⟩ = some (.slice p2 y.length c2) := (by simp [World.cell?, HO2.out.block w.heap.size (by have := HZ.out; have := HO1.out.size; omega) (by simp <;> omega), HO1.out.block w.heap.size (by have := HZ.out; omega) (by simp <;> omega), HG0.out])))
      have HB2 : Hid (Below w.heap.size w w2) := below_trans (below_trans HB.out (HO1.out.below (by have := HZ.out; omega) (by simp <;> omega))) (HO2.out.below (by have := HZ.out; have := HO1.out.size; omega) (by simp <;> omega))
      have HX2 : Hid (BI w2 (.slice p1 x.length c1) x) := HX.out.later HB2.out
      have HY2 : Hid (BI w2 (.slice p2 y.length c2) y) := HY.out.later HB2.out
      have HF2 : Hid (BI w2 (.slice (some ⟨w.heap.size + 1 + 1, 0, none⟩) x.length x.length) (n.take x.length)) := by
        have e := BI.row (w := w2) (g := w.heap.size + 1 + 1) (l := n.take x.length) (t := 5) ((HO2.out.block (w.heap.size + 1 + 1) (by have := HZ.out; have := HO1.out.size; omega) (by simp <;> omega)).trans HA1.out) x.length
        rw [List.length_take, Nat.min_eq_left (by omega)] at e
        exact e
      have HL2 : Hid (BI w2 (.slice (some ⟨w.heap.size + 1, 0, none⟩) y.length y.length) (n.drop (n.length - y.length))) := by
        have e := BI.row (w := w2) (g := w.heap.size + 1) (t := 5) HA2.out y.length
        rw [List.take_of_length_le (by simp; omega)] at e
        rw [List.length_drop, show n.length - (n.length - y.length) = y.length by omega] at e
        exact e
      have hsz2 : w.heap.size < w2.heap.size := by have := HZ.out; have := HO1.out.size; have := HO2.out.size; omega
      clear HA1 HO1 HA2 HO2 HG0 HG1 HG2 HX1 HY1 HX HY HZ HB hm1 hm2
      refine (equal_bytes HF2.out HX2.out).mono ?_
      rintro e w3 ⟨rfl, hw3⟩
      obtain rfl : w2 = w3 := hw3.symm
      by_cases hq : n.take x.length = x
      · rw [decide_eq_true hq]
        go_wp2_with fail
        refine (equal_bytes HL2.out HY2.out).mono ?_
        rintro e w4 ⟨rfl, hw4⟩
        obtain rfl : w2 = w4 := hw4.symm
        go_wp2_with fail
        go_ret
        exact ⟨by unfold fts; rw [decide_eq_true hle, decide_eq_true hq]; simp, HB2.out⟩
      · rw [decide_eq_false hq]
        go_wp2_with fail
        go_ret
        exact ⟨by unfold fts; rw [decide_eq_false hq]; simp, HB2.out⟩
theorem hd42_len (p : List UInt8) : (hd42 p).length ≤ p.length := by unfold hd42; simp; omega
theorem tl42_len (p : List UInt8) : (tl42 p).length ≤ p.length := by unfold tl42; simp
set_option maxHeartbeats 1000000 in
theorem mat_any (p n : List UInt8) {w : World} (E : Ev w) (hp : p.length ≤ 1000000000) (hn : n.length ≤ 1000000000) :
    Calls Tryd.prog 12 #[.string (bs p), .string (bs n)] w fun e w' => e = .returned (.bool (mat p n)) ∧ Below w.heap.size w w' := by
  have HP : Hid (Calls Tryd.prog 31 #[.string (bs p)] w fun e w' => e = .returned (.bool (patP p)) ∧ Below w.heap.size w w') := pat_any p E hp
  unfold mat
  have l1 := hd42_len p
  have l2 := tl42_len p
  cases hc : patP p
  · rw [hc] at HP
    go_enter Tryd.func12, Tryd.ntmps12
    go_wp2_with fail
    refine HP.out.mono ?_
    rintro e w1 ⟨rfl, hb⟩
    have HB : Hid (Below w.heap.size w w1) := hb
    clear hb
    go_wp2_with fail
    go_ret
    exact ⟨rfl, HB.out⟩
  · rw [hc] at HP
    have HC : Hid (∀ W : World, Calls Tryd.prog 26 #[.string (bs p)] W fun e w' => ∃ v, e = .returned v ∧ PC w' v (hd42 p) (tl42 p) ∧ Below W.heap.size W w') := fun W => gcut_any p W (pat_42 hc) hp
    generalize hd42 p = x at *
    generalize tl42 p = y at *
    clear hc
    go_enter Tryd.func12, Tryd.ntmps12
    go_wp2_with fail
    refine HP.out.mono ?_
    rintro e w1 ⟨rfl, hb⟩
    have HB : Hid (Below w.heap.size w w1) := hb
    clear hb
    go_wp2_with fail
    refine (HC.out _).mono ?_
    rintro e w2 ⟨v, rfl, hv, hb2⟩
    have HV : Hid (PC w2 v x y) := hv
    have HB2 : Hid (Below w.heap.size w w2) := bstep HB.out hb2
    clear hv hb2
    go_wp2_with fail
    refine (fits_any HV.out n (by omega) (by omega) hn).mono ?_
    rintro e w3 ⟨rfl, hb3⟩
    have HB3 : Hid (Below w.heap.size w w3) := bstep HB2.out hb3
    clear hb3
    go_wp2_with fail
    go_ret
    exact ⟨by simp, HB3.out⟩
end Go.Proofs.YtebidnepanogcaaDoor
