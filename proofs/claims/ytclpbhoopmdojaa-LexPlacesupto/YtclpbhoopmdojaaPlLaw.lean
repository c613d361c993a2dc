/-
  Where tokens stand: the law LexPlaces, walked.
-/
import Derived.Test.YtclpbhoopmdojaaP22
namespace Go.Proofs.Ytclpbhoopmdojaa
open Go.RowKit

/-- a token in a block of its own -/
structure TB (w : World) (g : Nat) (k : Int) (x : List UInt8) (p : Int) : Prop where
  blk : w.heap[g]? = some (.cells #[.int .i64 k, .string (bs x), .int .i64 p] 26)
theorem TB.lt {w : World} {g : Nat} {k p : Int} {x : List UInt8} (h : TB w g k x p) : g < w.heap.size := (Array.getElem?_eq_some_iff.1 h.blk).1
theorem TB.new (w : World) (k p : Int) (x : List UInt8) : TB (w.alloc (.cells #[.int .i64 k, .string (bs x), .int .i64 p] 26)) w.heap.size k x p := ⟨heap_alloc_new _ _⟩
theorem TB.later {w w' : World} {g : Nat} {k p : Int} {x : List UInt8} (h : TB w g k x p) (hb : Below w.heap.size w w') : TB w' g k x p := ⟨(hb.block g h.lt).trans h.blk⟩
theorem TB.cells {w : World} {g : Nat} {k p : Int} {x : List UInt8} (h : TB w g k x p) : w.cell? ⟨g, 0, none⟩ = some (.int .i64 k) ∧ w.cell? ⟨g, 1, none⟩ = some (.string (bs x)) ∧ w.cell? ⟨g, 2, none⟩ = some (.int .i64 p) := by
  have hb := h.blk
  exact ⟨by simp [World.cell?, hb], by simp [World.cell?, hb], by simp [World.cell?, hb]⟩

set_option maxRecDepth 100000 in
set_option maxHeartbeats 16000000 in
theorem lexPlaces_any (s : List UInt8) (w : World) (hs : s.length ≤ 100000000) : Calls Try.prog 4 #[.string (bs s)] w fun e w' => GoodE w e w' := by
  have hz : (bs s).size = s.length := rfl
  have HT : Hid (∀ w : World, Calls Try.prog 7 #[.string (bs s)] w fun e w' => ∃ v, e = .returned (.tuple #[v, .int .i64 (toks s).2]) ∧ OwnT 26 w.heap.size w' v (toks s).1 ∧ Below w.heap.size w w') := fun w => tokens_any s w (by omega)
  have hn : (toks s).1.length ≤ s.length := tg_len s 0
  have hT : tg (s.drop 0) 0 = toks s := rfl
  generalize toks s = S at *
  obtain ⟨L, E⟩ := S
  simp only at HT hn
  have hE := tg_end L s 0 E hT (by omega)
  have HL : Hid (tg (s.drop 0) 0 = (L, E)) := hT
  clear hT
  have e1 : ¬ (E < -1) := by rcases hE with rfl | ⟨p, hp, rfl⟩ <;> omega
  have e2 : ¬ (E ≥ (s.length : Int)) := by rcases hE with rfl | ⟨p, hp, rfl⟩ <;> omega
  have e3 : decide (E < -1) = false := decide_eq_false e1
  have e4 : decide (E ≥ (s.length : Int)) = false := decide_eq_false e2
  have e5 : decide ((s.length : Int) ≤ E) = false := decide_eq_false e2
  clear hE
  obtain ⟨n, hln⟩ : ∃ n, L.length = n := ⟨_, rfl⟩
  have HN : Hid (L.length = n) := hln
  rw [hln] at hn
  go_enter Try.func4, Try.ntmps4
  go_wp2_with fail
  refine (HT.out _).mono ?_
  rintro e w1 ⟨v, rfl, ho, hb⟩
  obtain ⟨a, c, rfl⟩ := ho.form
  rw [hln] at ho ⊢
  clear hln
  have X1 : Hid (TS w1 (.slice a n c) L ∧ Below w.heap.size w w1) := ⟨ho.ts, hb⟩
  clear ho hb HT
  go_wp2_with fail
  refine (known_any _).mono ?_
  rintro e w2 ⟨rfl, hb⟩
  have X2 : Hid (TS w2 (.slice a n c) L ∧ Below w.heap.size w w2) := ⟨X1.out.1.later hb, bstep X1.out.2 hb⟩
  clear hb X1
  go_wp2_with fail
  clear e1 e2 e3 e4 e5
  rename_i hK
  have HK : Hid _ := hK
  clear hK
  go_loopw [5, 6] (fun u v wr => ∃ f i : Nat, u = .int .i64 f ∧ v = .int .i64 i ∧ i ≤ n ∧ f ≤ s.length ∧ tg (s.drop f) f = (L.drop i, E) ∧ Below w2.heap.size w2 wr) (fun _ v _ => n - (intOf v).toNat)
  case atStart => exact ⟨0, 0, rfl, rfl, by omega, by omega, HL.out, Below.refl _ _⟩
  case round =>
    obtain ⟨f, i, rfl, rfl, hi, hf, ht, hb⟩ := hrel
    clear HL
    have HB : Hid (Below w2.heap.size w2 wr) := hb
    clear hb
    by_cases hlt : i < n
    · have hil : i < L.length := by rw [HN.out]; exact hlt
      rw [drop_lt hil] at ht
      obtain ⟨p, m, κ, hκ, hp, hst, hnx⟩ := tg_stands ht hf
      have HX : Hid (tg (s.drop (p + m)) (p + m) = (L.drop (i + 1), E) ∧ p + m ≤ s.length) := ⟨hnx, hst.pm⟩
      obtain ⟨b, o, rfl, hbl, c0, c1, c2⟩ := X2.out.1.at HB.out hil
      rw [hκ] at c0
      rw [hp] at c2
      obtain ⟨x, hx⟩ : ∃ x, L[i].text = x := ⟨_, rfl⟩
      rw [hx] at c1 hst
      clear ht hnx hκ hp hx
      have HST : Hid (Stands s f p m κ x) := hst
      clear hst
      have i1 : (0 : Int) ≤ (i : Int) := by omega
      have i2 : (i : Int) < (n : Int) := by omega
      obtain rfl | hκ1 : κ = 1 ∨ κ ≠ 1 := by omega
      · have q0 : Hid (f ≤ p ∧ p + m ≤ s.length ∧ 1 ≤ m ∧ x.length = m) := ⟨HST.out.fp, HST.out.pm, HST.out.m1, HST.out.len⟩
        have HE : Hid ((bs s).extract f p = bs ((s.drop f).take (p - f))) := bs_extract s f p
        have HC : Hid (∀ w : World, Calls Try.prog 9 #[.string (bs ((s.drop f).take (p - f)))] w fun e w' => e = .returned (.tuple #[.bool true, .bool false]) ∧ w' = w) := fun w => by
          have := blank_any ((s.drop f).take (p - f)) w (by simp; omega)
          rw [HST.out.gap] at this
          exact this
        have hx1 : (bs s).extract p (p + m) = bs x := by
          rw [bs_extract, HST.out.text, Nat.add_sub_cancel_left]
        have z1 : (bs x).size = m := HST.out.len
        obtain ⟨t1, t2, t3, t4⟩ := q0.out
        go_wp2_with fail
        have Y1 : Hid (TB (wr.alloc (.cells #[.int .i64 1, .string (bs x), .int .i64 (p : Int)] 26)) wr.heap.size 1 x p ∧ Below w2.heap.size w2 (wr.alloc (.cells #[.int .i64 1, .string (bs x), .int .i64 (p : Int)] 26))) := ⟨TB.new wr _ _ _, bstep HB.out (balloc _ _)⟩
        clear HB c0 c1 c2
        generalize wr.alloc (.cells #[.int .i64 1, .string (bs x), .int .i64 (p : Int)] 26) = wa at *
        generalize wr.heap.size = g at *
        obtain ⟨c0, c1, c2⟩ := Y1.out.1.cells
        have f0 : (0 : Int) ≤ (f : Int) := by omega
        have f1 : (f : Int) ≤ (p : Int) := by omega
        have f2 : (p : Int) ≤ (s.length : Int) := by omega
        have f3 : (p : Int) + (m : Int) ≤ (s.length : Int) := by omega
        have f4 : (p : Int) ≤ (p : Int) + (m : Int) := by omega
        have f5 : (0 : Int) ≤ (p : Int) + (m : Int) := by omega
        have g1 : decide ((p : Int) < (f : Int)) = false := decide_eq_false (by omega)
        have g3 : decide ((s.length : Int) < (p : Int) + (m : Int)) = false := decide_eq_false (by omega)
        have r1 : decide (p < f) = false := decide_eq_false (by omega)
        have r4 : decide (s.length < p + m) = false := decide_eq_false (by omega)
        have g5 : ((bs x).toList != (bs x).toList) = false := by simp
        have g2 : decide ((m : Int) < 1) = false := decide_eq_false (by omega)
        have r5 : (m == 0) = false := by rw [beq_eq_false_iff_ne]; omega
        have r2 : decide (m < 1) = false := decide_eq_false (by have := q0.out; omega)
        have r3 : decide (m = 0) = false := decide_eq_false (by have := q0.out; omega)
        go_quiet (fail)
        have Y2 : Hid (TB (wa.drewN nq) g 1 x p ∧ Below w2.heap.size w2 (wa.drewN nq)) := ⟨Y1.out.1.later (bd _ _), bstep Y1.out.2 (bd _ _)⟩
        clear Y1 c0 c1 c2
        generalize wa.drewN nq = wb at *
        obtain ⟨c0, c1, c2⟩ := Y2.out.1.cells
        go_wp2_with fail
        rw [HE.out]
        refine (HC.out _).mono ?_
        rintro e w3 ⟨rfl, hw3⟩
        obtain rfl : wb = w3 := hw3.symm
        clear hw3
        go_wp2_with fail
        go_quiet (fail)
        have Y3 : Hid (TB (wb.drewN nq) g 1 x p ∧ Below w2.heap.size w2 (wb.drewN nq)) := ⟨Y2.out.1.later (bd _ _), bstep Y2.out.2 (bd _ _)⟩
        clear Y2 c0 c1 c2
        generalize wb.drewN nq = wc at *
        obtain ⟨c0, c1, c2⟩ := Y3.out.1.cells
        go_wp2_with fail
        have HLt : Hid (∀ (k : Nat) (h : k < x.length) (w : World), Calls Try.prog 10 #[.int .u8 ((bs x)[k]'(show k < (bs x).size from h)).toNat] w fun e w' => e = .returned (.bool true) ∧ w' = w) := fun k h w => by
          have := letter_any x[k] w
          rw [HST.out.word rfl _ (List.getElem_mem _)] at this
          exact this
        go_loop [10] (fun v => ∃ k : Nat, k ≤ m ∧ v = .int .i64 k) (fun v => m - (intOf v).toNat)
        case atStart => exact ⟨0, by omega, rfl⟩
        case round =>
          obtain ⟨k, hk, rfl⟩ := hrel
          by_cases hkm : k < m
          · have k1 : (0 : Int) ≤ (k : Int) := by omega
            have k2 : (k : Int) < (m : Int) := by omega
            have HL2 : Hid (∀ w : World, Calls Try.prog 10 #[.int .u8 ((bs x)[k]'(show k < (bs x).size from z1 ▸ hkm)).toNat] w fun e w' => e = .returned (.bool true) ∧ w' = w) := fun w => HLt.out k (by rw [HST.out.len]; exact hkm) w
            go_wp2_with fail
            refine (HL2.out _).mono ?_
            rintro e w4 ⟨rfl, rfl⟩
            go_wp2_with fail
            go_round
            case rel => exact ⟨k + 1, by omega, by go_num⟩
            case measure => simp [intOf]; omega
          · obtain rfl : k = m := by omega
            clear HLt
            by_cases hend : p + k < s.length
            · have v1 : (p : Int) + (k : Int) < (s.length : Int) := by omega
              have HL2 : Hid (∀ w : World, Calls Try.prog 10 #[.int .u8 ((bs s)[p + k]'(show p + k < (bs s).size from hend)).toNat] w fun e w' => e = .returned (.bool false) ∧ w' = w) := fun w => by
                have := letter_any s[p + k] w
                rw [HST.out.next rfl hend] at this
                exact this
              go_wp2_with fail
              refine (HL2.out _).mono ?_
              rintro e w4 ⟨rfl, rfl⟩
              go_wp2_with fail
              go_roundw
              case rel => exact ⟨p + k, i + 1, by go_num, by go_num, by omega, HX.out.2, HX.out.1, Y3.out.2⟩
              case measure => simp [intOf]; omega
            · go_wp2_with fail
              go_roundw
              case rel => exact ⟨p + k, i + 1, by go_num, by go_num, by omega, HX.out.2, HX.out.1, Y3.out.2⟩
              case measure => simp [intOf]; omega
      obtain ⟨j, rfl⟩ : ∃ j, κ = j + 2 := ⟨κ - 2, by have := (HST.out.mark hκ1).1; omega⟩
      have j5 : j ≤ 5 := by have := HST.out.k7; omega
      have hmk : (ByteArray.mk #[123, 125, 91, 93, 44, 61]).extract j (j + 1) = bs x := by
        have := bs_extract [123, 125, 91, 93, 44, 61] j (j + 1)
        rw [show j + 1 - j = 1 by omega] at this
        rw [(HST.out.mark hκ1).2]
        exact this
      obtain rfl : m = 1 := by
        have := congrArg List.length (HST.out.mark hκ1).2
        simp only [List.length_take, List.length_drop, List.length_cons, List.length_nil] at this
        have := HST.out.len
        have := HST.out.m1
        omega
      rw [show ((j + 2 : Nat) : Int) = (j : Int) + 2 by omega] at c0
      have q0 : Hid (f ≤ p ∧ p + 1 ≤ s.length ∧ 1 ≤ 1 ∧ x.length = 1) := ⟨HST.out.fp, HST.out.pm, HST.out.m1, HST.out.len⟩
      have HE : Hid ((bs s).extract f p = bs ((s.drop f).take (p - f))) := bs_extract s f p
      have HC : Hid (∀ w : World, Calls Try.prog 9 #[.string (bs ((s.drop f).take (p - f)))] w fun e w' => e = .returned (.tuple #[.bool true, .bool false]) ∧ w' = w) := fun w => by
        have := blank_any ((s.drop f).take (p - f)) w (by simp; omega)
        rw [HST.out.gap] at this
        exact this
      have hx1 : (bs s).extract p (p + 1) = bs x := by
        rw [bs_extract, HST.out.text, Nat.add_sub_cancel_left]
      have z1 : (bs x).size = 1 := HST.out.len
      obtain ⟨t1, t2, t3, t4⟩ := q0.out
      go_wp2_with fail
      have Y1 : Hid (TB (wr.alloc (.cells #[.int .i64 ((j : Int) + 2), .string (bs x), .int .i64 (p : Int)] 26)) wr.heap.size ((j : Int) + 2) x p ∧ Below w2.heap.size w2 (wr.alloc (.cells #[.int .i64 ((j : Int) + 2), .string (bs x), .int .i64 (p : Int)] 26))) := ⟨TB.new wr _ _ _, bstep HB.out (balloc _ _)⟩
      clear HB c0 c1 c2
      generalize wr.alloc (.cells #[.int .i64 ((j : Int) + 2), .string (bs x), .int .i64 (p : Int)] 26) = wa at *
      generalize wr.heap.size = g at *
      obtain ⟨c0, c1, c2⟩ := Y1.out.1.cells
      have f0 : (0 : Int) ≤ (f : Int) := by omega
      have f1 : (f : Int) ≤ (p : Int) := by omega
      have f2 : (p : Int) ≤ (s.length : Int) := by omega
      have f3 : (p : Int) + 1 ≤ (s.length : Int) := by omega
      have f4 : (p : Int) ≤ (p : Int) + 1 := by omega
      have f5 : (0 : Int) ≤ (p : Int) + 1 := by omega
      have g1 : decide ((p : Int) < (f : Int)) = false := decide_eq_false (by omega)
      have g3 : decide ((s.length : Int) < (p : Int) + 1) = false := decide_eq_false (by omega)
      have r1 : decide (p < f) = false := decide_eq_false (by omega)
      have r4 : decide (s.length < p + 1) = false := decide_eq_false (by omega)
      have g5 : ((bs x).toList != (bs x).toList) = false := by simp
      have r9 : decide (s.length ≤ p) = false := decide_eq_false (by omega)
      have g6 : decide ((j : Int) + 2 < 1) = false := decide_eq_false (by omega)
      have g7 : decide ((7 : Int) < (j : Int) + 2) = false := decide_eq_false (by omega)
      have g9 : decide ((1 : Int) < (j : Int) + 2) = true := decide_eq_true (by omega)
      have ga : decide (1 < j + 2) = true := decide_eq_true (by omega)
      have gb : (1 : Int) < (j : Int) + 2 := by omega
      have j0 : (0 : Int) ≤ (j : Int) := by omega
      have j1 : (j : Int) ≤ (j : Int) + 1 := by omega
      have j2 : (j : Int) + 1 ≤ 6 := by omega
      have j3 : (j : Int) ≤ 6 := by omega
      have j4 : (0 : Int) ≤ (j : Int) + 1 := by omega
      have s1 : (j : Int) + 2 - 2 = (j : Int) := by omega
      have s2 : (j : Int) + 2 - 1 = (j : Int) + 1 := by omega
      have r6 : decide (j + 2 < 1) = false := decide_eq_false (by omega)
      have r7 : decide (7 < j + 2) = false := decide_eq_false (by omega)
      have r8 : decide (5 < j) = false := decide_eq_false (by omega)
      go_quiet (fail)
      have Y2 : Hid (TB (wa.drewN nq) g ((j : Int) + 2) x p ∧ Below w2.heap.size w2 (wa.drewN nq)) := ⟨Y1.out.1.later (bd _ _), bstep Y1.out.2 (bd _ _)⟩
      clear Y1 c0 c1 c2
      generalize wa.drewN nq = wb at *
      obtain ⟨c0, c1, c2⟩ := Y2.out.1.cells
      go_wp2_with fail
      rw [HE.out]
      refine (HC.out _).mono ?_
      rintro e w3 ⟨rfl, hw3⟩
      obtain rfl : wb = w3 := hw3.symm
      clear hw3
      go_wp2_with fail
      go_quiet (fail)
      have Y3 : Hid (TB (wb.drewN nq) g ((j : Int) + 2) x p ∧ Below w2.heap.size w2 (wb.drewN nq)) := ⟨Y2.out.1.later (bd _ _), bstep Y2.out.2 (bd _ _)⟩
      clear Y2 c0 c1 c2
      generalize wb.drewN nq = wc at *
      obtain ⟨c0, c1, c2⟩ := Y3.out.1.cells
      go_wp2_with fail
      go_loop [10] (fun v => v = .int .i64 0) (fun _ => 0)
      case atStart => rfl
      case round =>
        subst hrel
        go_wp2_with fail
        go_roundw
        case rel => exact ⟨p + 1, i + 1, by go_num, by go_num, by omega, HX.out.2, HX.out.1, Y3.out.2⟩
        case measure => simp [intOf]; omega
    · obtain rfl : i = n := by omega
      rw [show L.drop i = [] from List.drop_of_length_le (by rw [HN.out]; exact Nat.le_refl _)] at ht
      have HT : Hid (tg (s.drop f) f = ([], E)) := ht
      clear ht
      go_wp2_with fail
      refine HK.out _ _ ?_
      clear HK
      exact p22 (show Hid (Below w.heap.size w wr) from bstep X2.out.2 HB.out) HT.out hf (by omega)
end Go.Proofs.Ytclpbhoopmdojaa
