/-
  Every call of labels: the law, walked.
-/
import Derived.Test.YtoldcbfmkibkdaaRefP
namespace Go.Proofs.Ytoldcbfmkibkdaa
open Go.RowKit

set_option maxHeartbeats 2000000 in
theorem rin_any (p s : List UInt8) (w : World) (hpl : p.length ≤ 1000000000) (hs : s.length ≤ 1000000000) : Calls Try.prog 17 #[.string (bs p), .string (bs s)] w fun e w' => e = .returned (pair (inn p s)) ∧ Below w.heap.size w w' := by
  have HV : Hid (∀ w : World, Calls Try.prog 33 #[.string (bs p)] w fun e w' => e = .returned (.bool (okP p)) ∧ Below w.heap.size w w') := fun w => rvalid_any p w hpl
  have HZ : Hid (RB (w.alloc (.cells #[.string (bs []), .string (bs [])] 23)) w.heap.size zl) := RB.new w zl
  have z0 : (bs s).size = s.length := rfl
  unfold inn
  by_cases hv : okP p = true
  rotate_left
  · rw [if_neg hv]
    have hv' : okP p = false := by simpa using hv
    rw [hv'] at HV
    clear hs hpl hv hv'
    go_enter Try.func17, Try.ntmps17
    go_wp2_with fail
    refine (HV.out _).mono ?_
    rintro e w1 ⟨rfl, hb1⟩
    have Z1 : Hid (RB w1 w.heap.size zl) := HZ.out.later hb1
    have HB : Hid (Below w.heap.size w w1) := bstep (balloc w _) hb1
    clear hb1

    obtain ⟨c0, c1, f0, f1⟩ := Z1.out.cells
    have hlt := Z1.out.lt
    go_wp2_with fail
    refine bodyPost_ret (results_ct rfl _ _ w.heap.size 23 #[.string (bs []), .string (bs [])] (0, 0) _ rfl ?_ Try.underlying23 rfl (by kernel_rfl)) rfl ?_
    · exact (Z1.out.set ⟨[], []⟩).blk
    exact ⟨rfl, bset2 HB.out (by omega) _ _⟩

  rw [if_pos hv]
  rw [hv] at HV
  clear hv
  cases s with
  | nil =>
    have hp : List.isPrefixOf [58] ([] : List UInt8) = false := rfl
    rw [if_neg (by rw [hp]; simp)]
    have HK : Hid (∀ w : World, Calls Try.prog 15 #[.string (bs [])] w fun e w' => e = .returned (pair (prs [])) ∧ Below w.heap.size w w') := fun w => rparse_any [] w hs
    generalize prs [] = K at *
    obtain ⟨⟨kp, kn⟩, ke⟩ := K
    simp only [pair, Lb.val] at HK ⊢
    have hl0 : ([] : List UInt8).length = 0 := rfl
    clear hs hpl hp
    go_enter Try.func17, Try.ntmps17
    go_wp2_with fail
    refine (HV.out _).mono ?_
    rintro e w1 ⟨rfl, hb1⟩
    have Z1 : Hid (RB w1 w.heap.size zl) := HZ.out.later hb1
    have HB : Hid (Below w.heap.size w w1) := bstep (balloc w _) hb1
    clear hb1

    go_wp2_with fail
    refine (HK.out _).mono ?_
    rintro e w3 ⟨rfl, hb3⟩
    have Z3 : Hid (RB w3 w.heap.size zl) := Z1.out.later hb3
    have HB3 : Hid (Below w.heap.size w w3) := bstep HB.out hb3
    clear hb3
    obtain ⟨c0, c1, f0, f1⟩ := Z3.out.cells
    have hlt := Z3.out.lt
    go_wp2_with fail
    refine bodyPost_ret (results_ct rfl _ _ w.heap.size 23 #[.string (bs kp), .string (bs kn)] (0, 0) _ rfl ?_ Try.underlying23 rfl (by kernel_rfl)) rfl ?_
    · exact (Z3.out.set ⟨kp, kn⟩).blk
    exact ⟨rfl, bset2 HB3.out (by omega) _ _⟩

  | cons c r =>
    have hr9 : r.length ≤ 1000000000 := by simp at hs; omega
    have hlen : (c :: r).length = r.length + 1 := rfl
    have hkz : 0 < (bs (c :: r)).size := by rw [z0]; simp
    have hpos : (0 : Int) < ((c :: r).length : Int) := by rw [hlen]; omega
    by_cases hc : c = 58
    · have hp : List.isPrefixOf [58] (c :: r) = true := by rw [hc]; simp [List.isPrefixOf]
      rw [if_pos hp]
      have e1 : (((bs (c :: r))[0].toNat : Int) == 58) = true := by rw [bs_get _ _ _ (by simp)]; simp [hc]
      simp only [List.drop_succ_cons, List.drop_zero]
      have k1 : (1 : Int) ≤ ((c :: r).length : Int) := by rw [hlen]; omega
      have E1 : (bs (c :: r)).extract 1 (c :: r).length = bs r := extract_from (c :: r) 1
      have HK : Hid (∀ w : World, Calls Try.prog 18 #[.agg #[.string (bs p), .string (bs r)]] w fun e w' => e = .returned (.bool (okL ⟨p, r⟩)) ∧ Below w.heap.size w w') := fun w => rlvalid_any ⟨p, r⟩ w ⟨hpl, hr9⟩
      generalize hS : c :: r = S at *
      unfold chk
      clear hs hpl hp hc hr9 hlen hS
      by_cases hok : okL ⟨p, r⟩ = true
      rotate_left
      · rw [if_neg hok]
        have hok' : okL ⟨p, r⟩ = false := by simpa using hok
        rw [hok'] at HK
        clear hok hok'
        go_enter Try.func17, Try.ntmps17
        go_wp2_with fail
        refine (HV.out _).mono ?_
        rintro e w1 ⟨rfl, hb1⟩
        have Z1 : Hid (RB w1 w.heap.size zl) := HZ.out.later hb1
        have HB : Hid (Below w.heap.size w w1) := bstep (balloc w _) hb1
        clear hb1

        have RN : Hid (RB (w1.alloc (.cells #[.string (bs p), .string (bs r)] 23)) w1.heap.size ⟨p, r⟩) := RB.new w1 ⟨p, r⟩
        have Z2 : Hid (RB (w1.alloc (.cells #[.string (bs p), .string (bs r)] 23)) w.heap.size zl) := Z1.out.later (balloc _ _)
        have HB2 : Hid (Below w.heap.size w (w1.alloc (.cells #[.string (bs p), .string (bs r)] 23))) := bstep HB.out (balloc _ _)
        go_wp2_with fail
        refine (HK.out _).mono ?_
        rintro e w3 ⟨rfl, hb3⟩
        have Z3 : Hid (RB w3 w.heap.size zl) := Z2.out.later hb3
        have HB3 : Hid (Below w.heap.size w w3) := bstep HB2.out hb3
        obtain ⟨d0, d1, _, _⟩ := (RN.out.later hb3).cells
        simp only at d0 d1
        clear hb3

        obtain ⟨c0, c1, f0, f1⟩ := Z3.out.cells
        have hlt := Z3.out.lt
        go_wp2_with fail
        refine bodyPost_ret (results_ct rfl _ _ w.heap.size 23 #[.string (bs []), .string (bs [])] (0, 0) _ rfl ?_ Try.underlying23 rfl (by kernel_rfl)) rfl ?_
        · exact (Z3.out.set ⟨[], []⟩).blk
        exact ⟨rfl, bset2 HB3.out (by omega) _ _⟩

      · rw [if_pos hok]
        rw [hok] at HK
        clear hok
        go_enter Try.func17, Try.ntmps17
        go_wp2_with fail
        refine (HV.out _).mono ?_
        rintro e w1 ⟨rfl, hb1⟩
        have Z1 : Hid (RB w1 w.heap.size zl) := HZ.out.later hb1
        have HB : Hid (Below w.heap.size w w1) := bstep (balloc w _) hb1
        clear hb1

        have RN : Hid (RB (w1.alloc (.cells #[.string (bs p), .string (bs r)] 23)) w1.heap.size ⟨p, r⟩) := RB.new w1 ⟨p, r⟩
        have Z2 : Hid (RB (w1.alloc (.cells #[.string (bs p), .string (bs r)] 23)) w.heap.size zl) := Z1.out.later (balloc _ _)
        have HB2 : Hid (Below w.heap.size w (w1.alloc (.cells #[.string (bs p), .string (bs r)] 23))) := bstep HB.out (balloc _ _)
        go_wp2_with fail
        refine (HK.out _).mono ?_
        rintro e w3 ⟨rfl, hb3⟩
        have Z3 : Hid (RB w3 w.heap.size zl) := Z2.out.later hb3
        have HB3 : Hid (Below w.heap.size w w3) := bstep HB2.out hb3
        obtain ⟨d0, d1, _, _⟩ := (RN.out.later hb3).cells
        simp only at d0 d1
        clear hb3

        obtain ⟨c0, c1, f0, f1⟩ := Z3.out.cells
        have hlt := Z3.out.lt
        go_wp2_with fail
        refine bodyPost_ret (results_ct rfl _ _ w.heap.size 23 #[.string (bs p), .string (bs r)] (0, 0) _ rfl ?_ Try.underlying23 rfl (by kernel_rfl)) rfl ?_
        · exact (Z3.out.set ⟨p, r⟩).blk
        exact ⟨rfl, bset2 HB3.out (by omega) _ _⟩

    · have hp : List.isPrefixOf [58] (c :: r) = false := by
        have : (58 == c) = false := by rw [beq_eq_false_iff_ne]; exact fun e => hc e.symm
        simp [List.isPrefixOf, this]
      rw [if_neg (by rw [hp]; simp)]
      have e1 : (((bs (c :: r))[0].toNat : Int) == 58) = false := by
        rw [bs_get _ _ _ (by simp), beq_eq_false_iff_ne]; intro e; apply hc; apply UInt8.toNat_inj.1; exact Int.ofNat.inj e
      have HK : Hid (∀ w : World, Calls Try.prog 15 #[.string (bs (c :: r))] w fun e w' => e = .returned (pair (prs (c :: r))) ∧ Below w.heap.size w w') := fun w => rparse_any (c :: r) w hs
      generalize prs (c :: r) = K at *
      obtain ⟨⟨kp, kn⟩, ke⟩ := K
      simp only [pair, Lb.val] at HK ⊢
      generalize hS : c :: r = S at *
      clear hs hpl hp hc hr9 hlen hS
      go_enter Try.func17, Try.ntmps17
      go_wp2_with fail
      refine (HV.out _).mono ?_
      rintro e w1 ⟨rfl, hb1⟩
      have Z1 : Hid (RB w1 w.heap.size zl) := HZ.out.later hb1
      have HB : Hid (Below w.heap.size w w1) := bstep (balloc w _) hb1
      clear hb1

      go_wp2_with fail
      refine (HK.out _).mono ?_
      rintro e w3 ⟨rfl, hb3⟩
      have Z3 : Hid (RB w3 w.heap.size zl) := Z1.out.later hb3
      have HB3 : Hid (Below w.heap.size w w3) := bstep HB.out hb3
      clear hb3
      obtain ⟨c0, c1, f0, f1⟩ := Z3.out.cells
      have hlt := Z3.out.lt
      go_wp2_with fail
      refine bodyPost_ret (results_ct rfl _ _ w.heap.size 23 #[.string (bs kp), .string (bs kn)] (0, 0) _ rfl ?_ Try.underlying23 rfl (by kernel_rfl)) rfl ?_
      · exact (Z3.out.set ⟨kp, kn⟩).blk
      exact ⟨rfl, bset2 HB3.out (by omega) _ _⟩

end Go.Proofs.Ytoldcbfmkibkdaa
