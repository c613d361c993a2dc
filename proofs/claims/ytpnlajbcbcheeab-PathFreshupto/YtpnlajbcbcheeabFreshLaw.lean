import Derived.Test.YtpnlajbcbcheeabMarked
namespace Go.Proofs.Ytpnlajbcbcheeab
open Go.RowKit

theorem own_tx {base : Nat} {w : World} {g n c : Nat} {L : List (List UInt8)} (h : Own base w (.slice (some ⟨g, 0, none⟩) n c) L) (hn : L.length = n) : TX w g n (fun j => L.getD j []) := by
  subst hn
  intro j hj
  have hc := World.ownsRow.cells h (g := g) rfl j (.string (bs (L.getD j []))) (by rw [sc_get, List.getElem?_eq_getElem hj]; simp [hj])
  rw [add_lit, Nat.zero_add] at hc
  refine ⟨hc, ?_⟩
  rcases h.2 with ⟨h0, _⟩ | ⟨g', cap, cur, e, _, hg, _⟩
  · cases h0
  · injection e with e1 _ _
    injection e1 with e1
    injection e1 with e1 _ _
    subst e1
    simp [World.frozen?, hg]

theorem bdn (w : World) (n : Nat) : Below w.heap.size w (w.drewN n) := ⟨rfl, rfl, rfl, Nat.le_refl _, fun _ _ => rfl⟩
/-- one of four -/
def pick4 (a b c d : Nat) (i : Nat) : Nat := if i = 0 then a else if i = 1 then b else if i = 2 then c else d

set_option maxHeartbeats 4000000 in
set_option maxRecDepth 100000 in
theorem fresh_any (p q : List UInt8) (w : World) (hp : p.length ≤ 2000000) (hq : q.length ≤ 2000000) :
    Calls Try.prog 5 #[.string (bs p), .string (bs q)] w fun e w' => e = .returned (.bool true) ∧ Below w.heap.size w w' := by
  have lp : (pcs p).length ≤ 2000001 := by rw [dep_eq]; have := dep_le p; omega
  have lq : (pcs q).length ≤ 2000001 := by rw [dep_eq]; have := dep_le q; omega
  obtain ⟨L, hL⟩ : ∃ L, pcs p = L := ⟨_, rfl⟩
  obtain ⟨M, hM⟩ : ∃ M, pcs q = M := ⟨_, rfl⟩
  rw [hL] at lp
  rw [hM] at lq
  have HL : Hid (pcs p = L) := hL
  have HM : Hid (pcs q = M) := hM
  clear hL hM
  obtain ⟨n, hn⟩ : ∃ n, L.length = n := ⟨_, rfl⟩
  obtain ⟨m, hm⟩ : ∃ n, M.length = n := ⟨_, rfl⟩
  rw [hn] at lp
  rw [hm] at lq
  have HN : Hid (L.length = n) := hn
  have HMm : Hid (M.length = m) := hm
  clear hn hm
  go_enter Try.func5, Try.ntmps5
  go_wp2_with fail
  refine (splitF_any p _ (by omega)).mono ?_
  rintro e w1 ⟨g1, rfl, o1, b1⟩
  rw [HL.out, HN.out] at o1
  rw [HL.out, HN.out]
  have z1 := b1.size
  have hg1 := o1.lt (k := g1) rfl
  have A1 : Hid (Own w.heap.size w1 (.slice (some ⟨g1, 0, none⟩) n n) L) := o1
  have W1 : Hid (Below w.heap.size w w1) := b1
  clear o1 b1
  go_wp2_with fail
  refine (splitF_any p _ (by omega)).mono ?_
  rintro e w2 ⟨g2, rfl, o2, b2⟩
  rw [HL.out, HN.out] at o2
  rw [HL.out, HN.out]
  have z2 := b2.size
  have hg2 := o2.lt (k := g2) rfl
  have A2 : Hid (Own w.heap.size w2 (.slice (some ⟨g1, 0, none⟩) n n) L) := A1.out.later b2
  have C2 : Hid (Own w1.heap.size w2 (.slice (some ⟨g2, 0, none⟩) n n) L) := o2
  have W2 : Hid (Below w.heap.size w w2) := bstep W1.out b2
  clear o2 b2
  go_wp2_with fail
  refine (splitF_any q _ (by omega)).mono ?_
  rintro e w3 ⟨g3, rfl, o3, b3⟩
  rw [HM.out, HMm.out] at o3
  rw [HM.out, HMm.out]
  have z3 := b3.size
  have hg3 := o3.lt (k := g3) rfl
  have A3 : Hid (Own w.heap.size w3 (.slice (some ⟨g1, 0, none⟩) n n) L) := A2.out.later b3
  have C3 : Hid (Own w1.heap.size w3 (.slice (some ⟨g2, 0, none⟩) n n) L) := C2.out.later b3
  have E3 : Hid (Own w2.heap.size w3 (.slice (some ⟨g3, 0, none⟩) m m) M) := o3
  have W3 : Hid (Below w.heap.size w w3) := bstep W2.out b3
  clear o3 b3
  go_wp2_with fail
  refine (splitF_any p _ (by omega)).mono ?_
  rintro e w4 ⟨g4, rfl, o4, b4⟩
  rw [HL.out, HN.out] at o4
  rw [HL.out, HN.out]
  have z4 := b4.size
  have hg4 := o4.lt (k := g4) rfl
  have A4 : Hid (Own w.heap.size w4 (.slice (some ⟨g1, 0, none⟩) n n) L) := A3.out.later b4
  have C4 : Hid (Own w1.heap.size w4 (.slice (some ⟨g2, 0, none⟩) n n) L) := C3.out.later b4
  have E4 : Hid (Own w2.heap.size w4 (.slice (some ⟨g3, 0, none⟩) m m) M) := E3.out.later b4
  have G4 : Hid (Own w3.heap.size w4 (.slice (some ⟨g4, 0, none⟩) n n) L) := o4
  have W4 : Hid (Below w.heap.size w w4) := bstep W3.out b4
  clear o4 b4
  go_wp2_with fail
  refine (rsplit_any p _ (by omega)).mono ?_
  rintro e w5 ⟨vw, rfl, o5, b5⟩
  rw [HL.out] at o5
  have P5 : Hid (Own w4.heap.size w5 vw L) := o5
  have B5 : Hid (Below w4.heap.size w4 w5) := b5
  clear o5 b5
  go_wp2_with fail
  refine (known_any _).mono ?_
  rintro e w6 ⟨rfl, b6⟩
  have P6 : Hid (Own w4.heap.size w6 vw L) := P5.out.later b6
  have B6 : Hid (Below w4.heap.size w4 w6) := bstep B5.out b6
  clear b6
  have hL9 : L.length ≤ 9223372036854775807 := by rw [HN.out]; omega
  have hM9 : M.length ≤ 9223372036854775807 := by rw [HMm.out]; omega
  go_wp2_with fail
  refine (same_any (A4.out.later B6.out).bs P6.out.bs hL9).mono ?_
  rintro e wa ⟨rfl, na, hwa⟩
  have BA : Hid (Below w6.heap.size w6 wa) := by rw [hwa]; exact bdn w6 na
  rw [show decide (L = L) = true from by simp]
  clear hwa
  go_wp2_with fail
  refine (same_any (C4.out.later (bstep B6.out BA.out)).bs (P6.out.later BA.out).bs hL9).mono ?_
  rintro e wb ⟨rfl, nb, hwb⟩
  have BB : Hid (Below w6.heap.size w6 wb) := bstep BA.out (by rw [hwb]; exact bdn wa nb)
  rw [show decide (L = L) = true from by simp]
  clear hwb
  go_wp2_with fail
  refine (same_any (G4.out.later (bstep B6.out BB.out)).bs (P6.out.later BB.out).bs hL9).mono ?_
  rintro e wc ⟨rfl, nc, hwc⟩
  have BC : Hid (Below w6.heap.size w6 wc) := bstep BB.out (by rw [hwc]; exact bdn wb nc)
  rw [show decide (L = L) = true from by simp]
  clear hwc
  go_wp2_with fail
  refine (rsplit_any q _ (by omega)).mono ?_
  rintro e wd ⟨vq, rfl, od, bD⟩
  rw [HM.out] at od
  have BD : Hid (Below w6.heap.size w6 wd) := bstep BC.out bD
  have QD : Hid (SS wd vq M) := od.bs
  clear od bD
  go_wp2_with fail
  refine (same_any (E4.out.later (bstep B6.out BD.out)).bs QD.out hM9).mono ?_
  rintro e we ⟨rfl, ne, hwe⟩
  have BE : Hid (Below w4.heap.size w4 we) := bstep (bstep B6.out BD.out) (by rw [hwe]; exact bdn wd ne)
  have PE : Hid (Own w4.heap.size we vw L) := P6.out.later (bstep BD.out (by rw [hwe]; exact bdn wd ne))
  rw [show decide (M = M) = true from by simp]
  clear hwe
  go_wp2_with fail
  have hze := BE.out.size
  have BX : Hid (Below w4.heap.size w4 (we.alloc (.cells #[.slice (some ⟨g1, 0, none⟩) n n, .slice (some ⟨g2, 0, none⟩) n n, .slice (some ⟨g3, 0, none⟩) m m, .slice (some ⟨g4, 0, none⟩) n n] 26))) := bstep BE.out (balloc _ _)
  have F4 : Hid (Four (we.alloc (.cells #[.slice (some ⟨g1, 0, none⟩) n n, .slice (some ⟨g2, 0, none⟩) n n, .slice (some ⟨g3, 0, none⟩) m m, .slice (some ⟨g4, 0, none⟩) n n] 26)) we.heap.size (pick4 g1 g2 g3 g4) (pick4 n n m n)) := by
    have four : ∀ i, i < 4 → i = 0 ∨ i = 1 ∨ i = 2 ∨ i = 3 := fun i hi => by omega
    refine ⟨fun i hi => ?_, by simp, fun i hi => ?_, fun i hi => ?_, fun i hi j hj => ?_, fun i hi => ?_⟩
    · rcases four i hi with rfl | rfl | rfl | rfl <;> simp [pick4]
    · rcases four i hi with rfl | rfl | rfl | rfl <;> simp [pick4] <;> omega
    · rcases four i hi with rfl | rfl | rfl | rfl <;> simp [pick4] <;> omega
    · rcases four i hi with rfl | rfl | rfl | rfl <;> rcases four j hj with rfl | rfl | rfl | rfl <;> simp [pick4] <;> omega
    · rcases four i hi with rfl | rfl | rfl | rfl <;> simp [pick4] <;> omega
  have TT : Hid (∀ i, i < 4 → TX (we.alloc (.cells #[.slice (some ⟨g1, 0, none⟩) n n, .slice (some ⟨g2, 0, none⟩) n n, .slice (some ⟨g3, 0, none⟩) m m, .slice (some ⟨g4, 0, none⟩) n n] 26)) (pick4 g1 g2 g3 g4 i) (pick4 n n m n i) ((fun i j => if i = 2 then M.getD j [] else L.getD j []) i)) := fun i hi => by
    have : i = 0 ∨ i = 1 ∨ i = 2 ∨ i = 3 := by omega
    rcases this with rfl | rfl | rfl | rfl
    · exact own_tx (A4.out.later BX.out) HN.out
    · exact own_tx (C4.out.later BX.out) HN.out
    · exact own_tx (E4.out.later BX.out) HMm.out
    · exact own_tx (G4.out.later BX.out) HN.out
  refine (marked_any F4 TT).mono ?_
  intro e wf hgood
  obtain ⟨rfl, hO⟩ : e = .returned (.bool true) ∧ Only (S4 (pick4 g1 g2 g3 g4)) (we.alloc (.cells #[.slice (some ⟨g1, 0, none⟩) n n, .slice (some ⟨g2, 0, none⟩) n n, .slice (some ⟨g3, 0, none⟩) m m, .slice (some ⟨g4, 0, none⟩) n n] 26)) wf := hgood
  have PF : Hid (Own w4.heap.size wf vw L) := (PE.out.later (balloc _ _)).only hO (fun k hk hmem => by
    have h1 := (PE.out.lt hk).1
    simp [S4, pick4] at hmem
    omega)
  have WF : Hid (Below w.heap.size w wf) := below_trans (bstep W4.out BX.out) (hO.below (by have := BX.out.size; omega) (fun k hk => by
    simp [S4, pick4] at hk
    omega))
  clear hO F4 TT
  go_wp2_with fail
  refine (split_any p _ (by omega)).mono ?_
  rintro e wg ⟨vg, rfl, og, bg⟩
  rw [HL.out] at og
  have WG : Hid (Below w.heap.size w wg) := bstep WF.out bg
  have SG : Hid (SS wg vg L) := og.bs
  have PG : Hid (SS wg vw L) := (PF.out.later bg).bs
  clear og bg
  go_wp2_with fail
  refine (same_any SG.out PG.out hL9).mono ?_
  rintro e wh ⟨rfl, nh, hwh⟩
  have WH : Hid (Below w.heap.size w wh) := bstep WG.out (by rw [hwh]; exact bdn wg nh)
  rw [show decide (L = L) = true from by simp]
  clear hwh
  go_wp2_with fail
  refine (split_any q _ (by omega)).mono ?_
  rintro e wi ⟨vi, rfl, oi, bi⟩
  rw [HM.out] at oi
  have WI : Hid (Below w.heap.size w wi) := bstep WH.out bi
  have SI : Hid (Own wh.heap.size wi vi M) := oi
  clear oi bi
  go_wp2_with fail
  refine (rsplit_any q _ (by omega)).mono ?_
  rintro e wj ⟨vj, rfl, oj, bj⟩
  rw [HM.out] at oj
  have WJ : Hid (Below w.heap.size w wj) := bstep WI.out bj
  have SJ : Hid (SS wj vj M) := oj.bs
  have TJ : Hid (SS wj vi M) := (SI.out.later bj).bs
  clear oj bj
  go_wp2_with fail
  refine (same_any TJ.out SJ.out hM9).mono ?_
  rintro e wk ⟨rfl, nk, hwk⟩
  have WK2 : Hid (Below w.heap.size w wk) := bstep WJ.out (by rw [hwk]; exact bdn wj nk)
  rw [show decide (M = M) = true from by simp]
  clear hwk
  go_wp2_with fail
  go_ret
  exact ⟨rfl, WK2.out⟩
end Go.Proofs.Ytpnlajbcbcheeab
