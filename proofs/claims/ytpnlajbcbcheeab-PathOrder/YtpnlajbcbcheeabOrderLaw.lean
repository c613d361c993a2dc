import Derived.Test.YtpnlajbcbcheeabKnown
namespace Go.Proofs.Ytpnlajbcbcheeab
open Go.RowKit

set_option maxHeartbeats 4000000 in
set_option maxRecDepth 100000 in
theorem order_any (a b c : List UInt8) (w : World) (ha : a.length ≤ 9223372036854775807) (hb : b.length ≤ 9223372036854775807) (hc : c.length ≤ 9223372036854775807) :
    Calls Try.prog 3 #[.string (bs a), .string (bs b), .string (bs c)] w fun e w' => e = .returned (.bool true) ∧ Below w.heap.size w w' := by
  have HA : Hid (a.length ≤ 9223372036854775807) := ha
  have HB : Hid (b.length ≤ 9223372036854775807) := hb
  have HC : Hid (c.length ≤ 9223372036854775807) := hc
  have F0 := ord_facts a b c
  clear ha hb hc
  obtain ⟨x, hx⟩ : ∃ x, cmpP (pcs a) (pcs b) = x := ⟨_, rfl⟩
  obtain ⟨y, hy⟩ : ∃ x, cmpP (pcs b) (pcs c) = x := ⟨_, rfl⟩
  obtain ⟨z, hz⟩ : ∃ x, cmpP (pcs a) (pcs c) = x := ⟨_, rfl⟩
  obtain ⟨AC, hAC⟩ : ∃ x, abvV a c = x := ⟨_, rfl⟩
  obtain ⟨AB, hAB⟩ : ∃ x, abvV a b = x := ⟨_, rfl⟩
  obtain ⟨BA, hBA⟩ : ∃ x, abvV b a = x := ⟨_, rfl⟩
  obtain ⟨BC, hBC⟩ : ∃ x, abvV b c = x := ⟨_, rfl⟩
  obtain ⟨AA, hAA⟩ : ∃ x, abvV a a = x := ⟨_, rfl⟩
  obtain ⟨NA, hNA⟩ : ∃ x, abvV [] a = x := ⟨_, rfl⟩
  rw [hx, hy, hz, hAC, hAB, hBA, hBC, hAA, hNA] at F0
  have F : Hid (OrdFacts a b c x y z AC AB BA BC AA NA) := F0
  have E : Hid (cmpP (pcs a) (pcs b) = x ∧ cmpP (pcs b) (pcs c) = y ∧ cmpP (pcs a) (pcs c) = z ∧ abvV a c = AC ∧ abvV a b = AB ∧ abvV b a = BA ∧ abvV b c = BC ∧ abvV a a = AA ∧ abvV [] a = NA) := ⟨hx, hy, hz, hAC, hAB, hBA, hBC, hAA, hNA⟩
  clear F0 hx hy hz hAC hAB hBA hBC hAA hNA
  have e0 : (bs a).toList.isEmpty = a.isEmpty := isE a
  go_enter Try.func3, Try.ntmps3
  go_wp2_with fail
  refine (cmp_any a b _ HA.out HB.out).mono ?_
  rintro e w1 ⟨rfl, b1⟩
  rw [E.out.1]
  have B1 : Hid (Below w.heap.size w w1) := b1
  clear b1
  go_wp2_with fail
  refine (cmp_any b c _ HB.out HC.out).mono ?_
  rintro e w2 ⟨rfl, b2⟩
  rw [E.out.2.1]
  have B2 : Hid (Below w.heap.size w w2) := bstep B1.out b2
  clear b2
  go_wp2_with fail
  refine (cmp_any a c _ HA.out HC.out).mono ?_
  rintro e w3 ⟨rfl, b3⟩
  rw [E.out.2.2.1]
  have B3 : Hid (Below w.heap.size w w3) := bstep B2.out b3
  clear b3
  go_wp2_with fail
  refine (known_any _).mono ?_
  rintro e w4 ⟨rfl, b4⟩
  have B4 : Hid (Below w.heap.size w w4) := bstep B3.out b4
  clear b4
  go_wp2_with fail
  refine (cmp_any b a _ HB.out HA.out).mono ?_
  rintro e w5 ⟨rfl, b5⟩
  rw [F.out.anti]
  have B5 : Hid (Below w.heap.size w w5) := bstep B4.out b5
  clear b5
  have lo := F.out.lo
  have hi := F.out.hi
  have l1 : ¬ x < -1 := by omega
  have l2 : ¬ 1 < x := by omega
  have ne_of : ¬ a = b → ((bs a).toList == (bs b).toList) = false := fun h => by rw [bs_toList, bs_toList, beq_eq_false_iff_ne]; exact h
  have eq_of : a = b → ((bs a).toList == (bs b).toList) = true := fun h => by rw [h]; simp
  have NE : Hid (¬ a = b → ((bs a).toList == (bs b).toList) = false) := ne_of
  have EQ : Hid (a = b → ((bs a).toList == (bs b).toList) = true) := eq_of
  clear ne_of eq_of l1 l2
  have yhi := F.out.yhi
  have YH : Hid (y ≤ 1) := yhi
  clear yhi
  have sit : x = 1 ∨ x = 0 ∨ x = -1 := by omega
  clear lo hi
  rcases sit with rfl | rfl | rfl
  · have t := NE.out (fun h => by have := F.out.zero.2 h; omega)
    cases AB
    · cases AC
      · go_wp2_with fail
        refine (above_any a c _ HA.out HC.out).mono ?_
        rintro e w6 ⟨rfl, b6⟩
        rw [E.out.2.2.2.1]
        have B6 : Hid (Below w.heap.size w w6) := bstep B5.out b6
        clear b6
        go_wp2_with fail
        refine (above_any a b _ HA.out HB.out).mono ?_
        rintro e w7 ⟨rfl, b7⟩
        rw [E.out.2.2.2.2.1]
        have B7 : Hid (Below w.heap.size w w7) := bstep B6.out b7
        clear b7
        go_wp2_with fail
        refine (above_any a a _ HA.out HA.out).mono ?_
        rintro e w8 ⟨rfl, b8⟩
        rw [E.out.2.2.2.2.2.2.2.1, F.out.irr]
        have B8 : Hid (Below w.heap.size w w8) := bstep B7.out b8
        clear b8
        go_wp2_with fail
        refine (above_any [] a _ (by simp) HA.out).mono ?_
        rintro e w9 ⟨rfl, b9⟩
        rw [E.out.2.2.2.2.2.2.2.2, F.out.root]
        have B9 : Hid (Below w.heap.size w w9) := bstep B8.out b9
        clear b9
        go_wp2_with fail
        go_ret
        exact ⟨rfl, B9.out⟩
      · have z1 := F.out.ac rfl
        subst z1
        go_wp2_with fail
        refine (above_any a c _ HA.out HC.out).mono ?_
        rintro e w6 ⟨rfl, b6⟩
        rw [E.out.2.2.2.1]
        have B6 : Hid (Below w.heap.size w w6) := bstep B5.out b6
        clear b6
        go_wp2_with fail
        refine (above_any a b _ HA.out HB.out).mono ?_
        rintro e w7 ⟨rfl, b7⟩
        rw [E.out.2.2.2.2.1]
        have B7 : Hid (Below w.heap.size w w7) := bstep B6.out b7
        clear b7
        go_wp2_with fail
        refine (above_any a a _ HA.out HA.out).mono ?_
        rintro e w8 ⟨rfl, b8⟩
        rw [E.out.2.2.2.2.2.2.2.1, F.out.irr]
        have B8 : Hid (Below w.heap.size w w8) := bstep B7.out b8
        clear b8
        go_wp2_with fail
        refine (above_any [] a _ (by simp) HA.out).mono ?_
        rintro e w9 ⟨rfl, b9⟩
        rw [E.out.2.2.2.2.2.2.2.2, F.out.root]
        have B9 : Hid (Below w.heap.size w w9) := bstep B8.out b9
        clear b9
        go_wp2_with fail
        go_ret
        exact ⟨rfl, B9.out⟩
    · exact absurd (F.out.abx rfl) (by omega)
  · have t := EQ.out (F.out.zero.1 rfl)
    cases AB
    · by_cases hy : y ≤ 0
      · have hz := F.out.trans (by omega) hy
        have hz : ¬ 0 < z := by omega
        cases AC
        · go_wp2_with fail
          refine (above_any a c _ HA.out HC.out).mono ?_
          rintro e w6 ⟨rfl, b6⟩
          rw [E.out.2.2.2.1]
          have B6 : Hid (Below w.heap.size w w6) := bstep B5.out b6
          clear b6
          go_wp2_with fail
          refine (above_any a b _ HA.out HB.out).mono ?_
          rintro e w7 ⟨rfl, b7⟩
          rw [E.out.2.2.2.2.1]
          have B7 : Hid (Below w.heap.size w w7) := bstep B6.out b7
          clear b7
          go_wp2_with fail
          refine (above_any a a _ HA.out HA.out).mono ?_
          rintro e w8 ⟨rfl, b8⟩
          rw [E.out.2.2.2.2.2.2.2.1, F.out.irr]
          have B8 : Hid (Below w.heap.size w w8) := bstep B7.out b8
          clear b8
          go_wp2_with fail
          refine (above_any [] a _ (by simp) HA.out).mono ?_
          rintro e w9 ⟨rfl, b9⟩
          rw [E.out.2.2.2.2.2.2.2.2, F.out.root]
          have B9 : Hid (Below w.heap.size w w9) := bstep B8.out b9
          clear b9
          go_wp2_with fail
          go_ret
          exact ⟨rfl, B9.out⟩
        · have z1 := F.out.ac rfl
          subst z1
          go_wp2_with fail
          refine (above_any a c _ HA.out HC.out).mono ?_
          rintro e w6 ⟨rfl, b6⟩
          rw [E.out.2.2.2.1]
          have B6 : Hid (Below w.heap.size w w6) := bstep B5.out b6
          clear b6
          go_wp2_with fail
          refine (above_any a b _ HA.out HB.out).mono ?_
          rintro e w7 ⟨rfl, b7⟩
          rw [E.out.2.2.2.2.1]
          have B7 : Hid (Below w.heap.size w w7) := bstep B6.out b7
          clear b7
          go_wp2_with fail
          refine (above_any a a _ HA.out HA.out).mono ?_
          rintro e w8 ⟨rfl, b8⟩
          rw [E.out.2.2.2.2.2.2.2.1, F.out.irr]
          have B8 : Hid (Below w.heap.size w w8) := bstep B7.out b8
          clear b8
          go_wp2_with fail
          refine (above_any [] a _ (by simp) HA.out).mono ?_
          rintro e w9 ⟨rfl, b9⟩
          rw [E.out.2.2.2.2.2.2.2.2, F.out.root]
          have B9 : Hid (Below w.heap.size w w9) := bstep B8.out b9
          clear b9
          go_wp2_with fail
          go_ret
          exact ⟨rfl, B9.out⟩
      · cases AC
        · go_wp2_with fail
          refine (above_any a c _ HA.out HC.out).mono ?_
          rintro e w6 ⟨rfl, b6⟩
          rw [E.out.2.2.2.1]
          have B6 : Hid (Below w.heap.size w w6) := bstep B5.out b6
          clear b6
          go_wp2_with fail
          refine (above_any a b _ HA.out HB.out).mono ?_
          rintro e w7 ⟨rfl, b7⟩
          rw [E.out.2.2.2.2.1]
          have B7 : Hid (Below w.heap.size w w7) := bstep B6.out b7
          clear b7
          go_wp2_with fail
          refine (above_any a a _ HA.out HA.out).mono ?_
          rintro e w8 ⟨rfl, b8⟩
          rw [E.out.2.2.2.2.2.2.2.1, F.out.irr]
          have B8 : Hid (Below w.heap.size w w8) := bstep B7.out b8
          clear b8
          go_wp2_with fail
          refine (above_any [] a _ (by simp) HA.out).mono ?_
          rintro e w9 ⟨rfl, b9⟩
          rw [E.out.2.2.2.2.2.2.2.2, F.out.root]
          have B9 : Hid (Below w.heap.size w w9) := bstep B8.out b9
          clear b9
          go_wp2_with fail
          go_ret
          exact ⟨rfl, B9.out⟩
        · have z1 := F.out.ac rfl
          subst z1
          go_wp2_with fail
          refine (above_any a c _ HA.out HC.out).mono ?_
          rintro e w6 ⟨rfl, b6⟩
          rw [E.out.2.2.2.1]
          have B6 : Hid (Below w.heap.size w w6) := bstep B5.out b6
          clear b6
          go_wp2_with fail
          refine (above_any a b _ HA.out HB.out).mono ?_
          rintro e w7 ⟨rfl, b7⟩
          rw [E.out.2.2.2.2.1]
          have B7 : Hid (Below w.heap.size w w7) := bstep B6.out b7
          clear b7
          go_wp2_with fail
          refine (above_any a a _ HA.out HA.out).mono ?_
          rintro e w8 ⟨rfl, b8⟩
          rw [E.out.2.2.2.2.2.2.2.1, F.out.irr]
          have B8 : Hid (Below w.heap.size w w8) := bstep B7.out b8
          clear b8
          go_wp2_with fail
          refine (above_any [] a _ (by simp) HA.out).mono ?_
          rintro e w9 ⟨rfl, b9⟩
          rw [E.out.2.2.2.2.2.2.2.2, F.out.root]
          have B9 : Hid (Below w.heap.size w w9) := bstep B8.out b9
          clear b9
          go_wp2_with fail
          go_ret
          exact ⟨rfl, B9.out⟩
    · exact absurd (F.out.abx rfl) (by omega)
  · have t := NE.out (fun h => by have := F.out.zero.2 h; omega)
    by_cases hy : y ≤ 0
    · have hz := F.out.trans (by omega) hy
      have hz : ¬ 0 < z := by omega
      cases AC
      · cases AB
        · go_wp2_with fail
          refine (above_any a c _ HA.out HC.out).mono ?_
          rintro e w6 ⟨rfl, b6⟩
          rw [E.out.2.2.2.1]
          have B6 : Hid (Below w.heap.size w w6) := bstep B5.out b6
          clear b6
          go_wp2_with fail
          refine (above_any a b _ HA.out HB.out).mono ?_
          rintro e w7 ⟨rfl, b7⟩
          rw [E.out.2.2.2.2.1]
          have B7 : Hid (Below w.heap.size w w7) := bstep B6.out b7
          clear b7
          go_wp2_with fail
          refine (above_any a a _ HA.out HA.out).mono ?_
          rintro e w8 ⟨rfl, b8⟩
          rw [E.out.2.2.2.2.2.2.2.1, F.out.irr]
          have B8 : Hid (Below w.heap.size w w8) := bstep B7.out b8
          clear b8
          go_wp2_with fail
          refine (above_any [] a _ (by simp) HA.out).mono ?_
          rintro e w9 ⟨rfl, b9⟩
          rw [E.out.2.2.2.2.2.2.2.2, F.out.root]
          have B9 : Hid (Below w.heap.size w w9) := bstep B8.out b9
          clear b9
          go_wp2_with fail
          go_ret
          exact ⟨rfl, B9.out⟩
        · cases BC
          · go_wp2_with fail
            refine (above_any a c _ HA.out HC.out).mono ?_
            rintro e w6 ⟨rfl, b6⟩
            rw [E.out.2.2.2.1]
            have B6 : Hid (Below w.heap.size w w6) := bstep B5.out b6
            clear b6
            go_wp2_with fail
            refine (above_any a b _ HA.out HB.out).mono ?_
            rintro e w7 ⟨rfl, b7⟩
            rw [E.out.2.2.2.2.1]
            have B7 : Hid (Below w.heap.size w w7) := bstep B6.out b7
            clear b7
            go_wp2_with fail
            refine (above_any b a _ HB.out HA.out).mono ?_
            rintro e w8 ⟨rfl, b8⟩
            rw [E.out.2.2.2.2.2.1, F.out.asym rfl]
            have B8 : Hid (Below w.heap.size w w8) := bstep B7.out b8
            clear b8
            go_wp2_with fail
            refine (above_any b c _ HB.out HC.out).mono ?_
            rintro e w9 ⟨rfl, b9⟩
            rw [E.out.2.2.2.2.2.2.1]
            have B9 : Hid (Below w.heap.size w w9) := bstep B8.out b9
            clear b9
            go_wp2_with fail
            refine (above_any a a _ HA.out HA.out).mono ?_
            rintro e w10 ⟨rfl, b10⟩
            rw [E.out.2.2.2.2.2.2.2.1, F.out.irr]
            have B10 : Hid (Below w.heap.size w w10) := bstep B9.out b10
            clear b10
            go_wp2_with fail
            refine (above_any [] a _ (by simp) HA.out).mono ?_
            rintro e w11 ⟨rfl, b11⟩
            rw [E.out.2.2.2.2.2.2.2.2, F.out.root]
            have B11 : Hid (Below w.heap.size w w11) := bstep B10.out b11
            clear b11
            go_wp2_with fail
            go_ret
            exact ⟨rfl, B11.out⟩
          · exact absurd (F.out.tr rfl rfl) (by simp)
      · have hab := F.out.btw rfl rfl hy
        subst hab
        have z1 := F.out.ac rfl
        subst z1
        cases BC
        · go_wp2_with fail
          refine (above_any a c _ HA.out HC.out).mono ?_
          rintro e w6 ⟨rfl, b6⟩
          rw [E.out.2.2.2.1]
          have B6 : Hid (Below w.heap.size w w6) := bstep B5.out b6
          clear b6
          go_wp2_with fail
          refine (above_any a b _ HA.out HB.out).mono ?_
          rintro e w7 ⟨rfl, b7⟩
          rw [E.out.2.2.2.2.1]
          have B7 : Hid (Below w.heap.size w w7) := bstep B6.out b7
          clear b7
          go_wp2_with fail
          refine (above_any a b _ HA.out HB.out).mono ?_
          rintro e w8 ⟨rfl, b8⟩
          rw [E.out.2.2.2.2.1]
          have B8 : Hid (Below w.heap.size w w8) := bstep B7.out b8
          clear b8
          go_wp2_with fail
          refine (above_any b a _ HB.out HA.out).mono ?_
          rintro e w9 ⟨rfl, b9⟩
          rw [E.out.2.2.2.2.2.1, F.out.asym rfl]
          have B9 : Hid (Below w.heap.size w w9) := bstep B8.out b9
          clear b9
          go_wp2_with fail
          refine (above_any b c _ HB.out HC.out).mono ?_
          rintro e w10 ⟨rfl, b10⟩
          rw [E.out.2.2.2.2.2.2.1]
          have B10 : Hid (Below w.heap.size w w10) := bstep B9.out b10
          clear b10
          go_wp2_with fail
          refine (above_any a a _ HA.out HA.out).mono ?_
          rintro e w11 ⟨rfl, b11⟩
          rw [E.out.2.2.2.2.2.2.2.1, F.out.irr]
          have B11 : Hid (Below w.heap.size w w11) := bstep B10.out b11
          clear b11
          go_wp2_with fail
          refine (above_any [] a _ (by simp) HA.out).mono ?_
          rintro e w12 ⟨rfl, b12⟩
          rw [E.out.2.2.2.2.2.2.2.2, F.out.root]
          have B12 : Hid (Below w.heap.size w w12) := bstep B11.out b12
          clear b12
          go_wp2_with fail
          go_ret
          exact ⟨rfl, B12.out⟩
        · go_wp2_with fail
          refine (above_any a c _ HA.out HC.out).mono ?_
          rintro e w6 ⟨rfl, b6⟩
          rw [E.out.2.2.2.1]
          have B6 : Hid (Below w.heap.size w w6) := bstep B5.out b6
          clear b6
          go_wp2_with fail
          refine (above_any a b _ HA.out HB.out).mono ?_
          rintro e w7 ⟨rfl, b7⟩
          rw [E.out.2.2.2.2.1]
          have B7 : Hid (Below w.heap.size w w7) := bstep B6.out b7
          clear b7
          go_wp2_with fail
          refine (above_any a b _ HA.out HB.out).mono ?_
          rintro e w8 ⟨rfl, b8⟩
          rw [E.out.2.2.2.2.1]
          have B8 : Hid (Below w.heap.size w w8) := bstep B7.out b8
          clear b8
          go_wp2_with fail
          refine (above_any b a _ HB.out HA.out).mono ?_
          rintro e w9 ⟨rfl, b9⟩
          rw [E.out.2.2.2.2.2.1, F.out.asym rfl]
          have B9 : Hid (Below w.heap.size w w9) := bstep B8.out b9
          clear b9
          go_wp2_with fail
          refine (above_any b c _ HB.out HC.out).mono ?_
          rintro e w10 ⟨rfl, b10⟩
          rw [E.out.2.2.2.2.2.2.1]
          have B10 : Hid (Below w.heap.size w w10) := bstep B9.out b10
          clear b10
          go_wp2_with fail
          refine (above_any a c _ HA.out HC.out).mono ?_
          rintro e w11 ⟨rfl, b11⟩
          rw [E.out.2.2.2.1]
          have B11 : Hid (Below w.heap.size w w11) := bstep B10.out b11
          clear b11
          go_wp2_with fail
          refine (above_any a a _ HA.out HA.out).mono ?_
          rintro e w12 ⟨rfl, b12⟩
          rw [E.out.2.2.2.2.2.2.2.1, F.out.irr]
          have B12 : Hid (Below w.heap.size w w12) := bstep B11.out b12
          clear b12
          go_wp2_with fail
          refine (above_any [] a _ (by simp) HA.out).mono ?_
          rintro e w13 ⟨rfl, b13⟩
          rw [E.out.2.2.2.2.2.2.2.2, F.out.root]
          have B13 : Hid (Below w.heap.size w w13) := bstep B12.out b13
          clear b13
          go_wp2_with fail
          go_ret
          exact ⟨rfl, B13.out⟩
    · cases BC
      · cases AC
        · cases AB
          · go_wp2_with fail
            refine (above_any a c _ HA.out HC.out).mono ?_
            rintro e w6 ⟨rfl, b6⟩
            rw [E.out.2.2.2.1]
            have B6 : Hid (Below w.heap.size w w6) := bstep B5.out b6
            clear b6
            go_wp2_with fail
            refine (above_any a b _ HA.out HB.out).mono ?_
            rintro e w7 ⟨rfl, b7⟩
            rw [E.out.2.2.2.2.1]
            have B7 : Hid (Below w.heap.size w w7) := bstep B6.out b7
            clear b7
            go_wp2_with fail
            refine (above_any a a _ HA.out HA.out).mono ?_
            rintro e w8 ⟨rfl, b8⟩
            rw [E.out.2.2.2.2.2.2.2.1, F.out.irr]
            have B8 : Hid (Below w.heap.size w w8) := bstep B7.out b8
            clear b8
            go_wp2_with fail
            refine (above_any [] a _ (by simp) HA.out).mono ?_
            rintro e w9 ⟨rfl, b9⟩
            rw [E.out.2.2.2.2.2.2.2.2, F.out.root]
            have B9 : Hid (Below w.heap.size w w9) := bstep B8.out b9
            clear b9
            go_wp2_with fail
            go_ret
            exact ⟨rfl, B9.out⟩
          · go_wp2_with fail
            refine (above_any a c _ HA.out HC.out).mono ?_
            rintro e w6 ⟨rfl, b6⟩
            rw [E.out.2.2.2.1]
            have B6 : Hid (Below w.heap.size w w6) := bstep B5.out b6
            clear b6
            go_wp2_with fail
            refine (above_any a b _ HA.out HB.out).mono ?_
            rintro e w7 ⟨rfl, b7⟩
            rw [E.out.2.2.2.2.1]
            have B7 : Hid (Below w.heap.size w w7) := bstep B6.out b7
            clear b7
            go_wp2_with fail
            refine (above_any b a _ HB.out HA.out).mono ?_
            rintro e w8 ⟨rfl, b8⟩
            rw [E.out.2.2.2.2.2.1, F.out.asym rfl]
            have B8 : Hid (Below w.heap.size w w8) := bstep B7.out b8
            clear b8
            go_wp2_with fail
            refine (above_any b c _ HB.out HC.out).mono ?_
            rintro e w9 ⟨rfl, b9⟩
            rw [E.out.2.2.2.2.2.2.1]
            have B9 : Hid (Below w.heap.size w w9) := bstep B8.out b9
            clear b9
            go_wp2_with fail
            refine (above_any a a _ HA.out HA.out).mono ?_
            rintro e w10 ⟨rfl, b10⟩
            rw [E.out.2.2.2.2.2.2.2.1, F.out.irr]
            have B10 : Hid (Below w.heap.size w w10) := bstep B9.out b10
            clear b10
            go_wp2_with fail
            refine (above_any [] a _ (by simp) HA.out).mono ?_
            rintro e w11 ⟨rfl, b11⟩
            rw [E.out.2.2.2.2.2.2.2.2, F.out.root]
            have B11 : Hid (Below w.heap.size w w11) := bstep B10.out b11
            clear b11
            go_wp2_with fail
            go_ret
            exact ⟨rfl, B11.out⟩
        · have z1 := F.out.ac rfl
          subst z1
          cases AB
          · go_wp2_with fail
            refine (above_any a c _ HA.out HC.out).mono ?_
            rintro e w6 ⟨rfl, b6⟩
            rw [E.out.2.2.2.1]
            have B6 : Hid (Below w.heap.size w w6) := bstep B5.out b6
            clear b6
            go_wp2_with fail
            refine (above_any a b _ HA.out HB.out).mono ?_
            rintro e w7 ⟨rfl, b7⟩
            rw [E.out.2.2.2.2.1]
            have B7 : Hid (Below w.heap.size w w7) := bstep B6.out b7
            clear b7
            go_wp2_with fail
            refine (above_any a a _ HA.out HA.out).mono ?_
            rintro e w8 ⟨rfl, b8⟩
            rw [E.out.2.2.2.2.2.2.2.1, F.out.irr]
            have B8 : Hid (Below w.heap.size w w8) := bstep B7.out b8
            clear b8
            go_wp2_with fail
            refine (above_any [] a _ (by simp) HA.out).mono ?_
            rintro e w9 ⟨rfl, b9⟩
            rw [E.out.2.2.2.2.2.2.2.2, F.out.root]
            have B9 : Hid (Below w.heap.size w w9) := bstep B8.out b9
            clear b9
            go_wp2_with fail
            go_ret
            exact ⟨rfl, B9.out⟩
          · go_wp2_with fail
            refine (above_any a c _ HA.out HC.out).mono ?_
            rintro e w6 ⟨rfl, b6⟩
            rw [E.out.2.2.2.1]
            have B6 : Hid (Below w.heap.size w w6) := bstep B5.out b6
            clear b6
            go_wp2_with fail
            refine (above_any a b _ HA.out HB.out).mono ?_
            rintro e w7 ⟨rfl, b7⟩
            rw [E.out.2.2.2.2.1]
            have B7 : Hid (Below w.heap.size w w7) := bstep B6.out b7
            clear b7
            go_wp2_with fail
            refine (above_any b a _ HB.out HA.out).mono ?_
            rintro e w8 ⟨rfl, b8⟩
            rw [E.out.2.2.2.2.2.1, F.out.asym rfl]
            have B8 : Hid (Below w.heap.size w w8) := bstep B7.out b8
            clear b8
            go_wp2_with fail
            refine (above_any b c _ HB.out HC.out).mono ?_
            rintro e w9 ⟨rfl, b9⟩
            rw [E.out.2.2.2.2.2.2.1]
            have B9 : Hid (Below w.heap.size w w9) := bstep B8.out b9
            clear b9
            go_wp2_with fail
            refine (above_any a a _ HA.out HA.out).mono ?_
            rintro e w10 ⟨rfl, b10⟩
            rw [E.out.2.2.2.2.2.2.2.1, F.out.irr]
            have B10 : Hid (Below w.heap.size w w10) := bstep B9.out b10
            clear b10
            go_wp2_with fail
            refine (above_any [] a _ (by simp) HA.out).mono ?_
            rintro e w11 ⟨rfl, b11⟩
            rw [E.out.2.2.2.2.2.2.2.2, F.out.root]
            have B11 : Hid (Below w.heap.size w w11) := bstep B10.out b11
            clear b11
            go_wp2_with fail
            go_ret
            exact ⟨rfl, B11.out⟩
      · exact absurd (F.out.bcy rfl) (by omega)
end Go.Proofs.Ytpnlajbcbcheeab
