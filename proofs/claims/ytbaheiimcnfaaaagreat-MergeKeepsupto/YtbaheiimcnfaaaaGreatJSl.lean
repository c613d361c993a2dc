/-
  The document's At.
  The document's example of merging, run.
  What came in, cut short.
-/
import Derived.Test.YtbaheiimcnfaaaaGreatJNd
namespace Go.Proofs.YtbaheiimcnfaaaaGreat
open Go.RowKit Go.Maps
attribute [local go_sem] Oper.semAt_some

theorem wid_at (p : List UInt8) (k : List (List UInt8)) (i : Nat) (h : i < k.length) (done : Bool) : wid p done (k.drop i) = if (decide (k[i] = p) || abvV p k[i]) = true then (if done then wid p true (k.drop (i + 1)) else p :: wid p true (k.drop (i + 1))) else k[i] :: wid p done (k.drop (i + 1)) := by
  rw [List.drop_eq_getElem_cons h, wid]
set_option maxRecDepth 100000 in
set_option maxHeartbeats 8000000 in
theorem rat_any (M : MC) (V : ∀ (p : List UInt8) (w : World), p.length ≤ 1000000 → Calls Tryz.prog 25 #[.string (bs p)] w fun e w' => e = .returned (.bool (okP p)) ∧ Below w.heap.size w w')
    {w : World} {u : Value} {k : List (List UInt8)} (p : List UInt8) (h : SS w u k) (sk : Sm k) (hp : p.length ≤ 1000000) (hl : k.length ≤ 1000000) : Calls Tryz.prog 19 #[u, .string (bs p)] w (TwoS w (mat k p)) := by
  have HX : Hid (SS w u k ∧ Sm k ∧ p.length ≤ 1000000) := ⟨h, sk, hp⟩
  have HVV := hid_of (fun W => V p W hp)
  obtain ⟨ka, kc, hv, hc⟩ := h.form
  obtain ⟨n, hn⟩ : ∃ n, k.length = n := ⟨_, rfl⟩
  rw [hn] at hv hl
  subst hv
  have HN : Hid (k.length = n) := hn
  have HC : Hid (∀ j, (hj : j < k.length) → ∃ b off, ka = some ⟨b, off, none⟩ ∧ b < w.heap.size ∧ w.cell? ⟨b, off + j, none⟩ = some (.string (bs k[j]))) := hc
  clear h sk hp hn hc V
  go_enter Tryz.func19, Tryz.ntmps19
  go_wp2_with fail
  refine (M.cones HX.out.1 HX.out.2.1).mono ?_
  rintro e w1 ⟨rfl, hb1⟩
  have HB1 : Hid (Below w.heap.size w w1) := hb1
  clear hb1
  obtain ⟨cb, hcb⟩ : ∃ cb, coneB k = cb := ⟨_, rfl⟩
  rw [hcb]
  cases cb
  · have HM : Hid (mat k p = ([], 13)) := by
      show mat k p = ([], 13)
      unfold mat coneE
      rw [hcb]; rfl
    go_wp2_with fail
    refine bodyPost_ret (results_tmp2 rfl _ _ _) rfl ?_
    unfold TwoS
    rw [HM.out]
    exact ⟨_, rfl, Own.nil _ _, HB1.out⟩
  · have hc0 : coneE k = 0 := by unfold coneE; rw [hcb]; rfl
    clear hcb
    go_wp2_with fail
    refine (HVV.out w1).mono ?_
    rintro e w2 ⟨rfl, hb2⟩
    have HB2 : Hid (Below w.heap.size w w2) := bstep HB1.out hb2
    clear hb2 HVV HB1
    obtain ⟨ob, hob⟩ : ∃ ob, okP p = ob := ⟨_, rfl⟩
    rw [hob]
    cases ob
    · have HM : Hid (mat k p = ([], 7)) := by
        show mat k p = ([], 7)
        unfold mat
        rw [if_pos hc0, if_neg (by rw [hob]; simp)]
      go_wp2_with fail
      refine bodyPost_ret (results_tmp2 rfl _ _ _) rfl ?_
      unfold TwoS
      rw [HM.out]
      exact ⟨_, rfl, Own.nil _ _, HB2.out⟩
    · have HM : Hid (mat k p = (wid p false k, 0)) := by
        show mat k p = (wid p false k, 0)
        unfold mat
        rw [if_pos hc0, if_pos hob]
      have HLN : Hid ((∀ c ∈ k, c.length ≤ 120) ∧ p.length ≤ 120) := ⟨fun c hc => (okP_len ((coneB_iff.1 (coneE_zero.1 hc0)).1 c hc)).1, (okP_len hob).1⟩
      clear hc0 hob
      go_wp2_with fail
      go_loopw [6, 7, 8] (fun s6 s7 s8 wr => ∃ (i : Nat) (done : Bool) (out : List (List UInt8)), s7 = .bool done ∧ s8 = .int .i64 i ∧ i ≤ n ∧ out.length ≤ i ∧ Own w.heap.size wr s6 out ∧ out ++ wid p done (k.drop i) = wid p false k ∧ Below w.heap.size w wr) (fun _ _ s8 _ => n - (intOf s8).toNat)
      case atStart => exact ⟨0, false, [], rfl, rfl, Nat.zero_le _, by simp, Own.nil _ _, rfl, HB2.out⟩
      case round =>
        obtain ⟨i, done, out, rfl, rfl, hi, hol, hown, hwd, hb⟩ := hrel
        have HR : Hid (Own w.heap.size wr u6 out ∧ out ++ wid p done (k.drop i) = wid p false k ∧ Below w.heap.size w wr ∧ out.length ≤ i) := ⟨hown, hwd, hb, hol⟩
        clear hown hwd hb hol
        by_cases hlt : i < n
        · have i1 : (i : Int) < (n : Int) := by omega
          have i2 : (0 : Int) ≤ (i : Int) := by omega
          have hil : i < k.length := by rw [HN.out]; exact hlt
          obtain ⟨b, off, ea, hbl, c0⟩ := HC.out i hil
          subst ea
          have hst := wid_at p k i hil done
          have hcl := HLN.out.1 _ (List.getElem_mem hil)
          generalize k[i] = c at c0 hst hcl
          have HC0 : Hid (∀ W, Below w.heap.size w W → W.cell? ⟨b, off + i, none⟩ = some (.string (bs c))) := fun W hW => (hW.cell (p := ⟨b, off + i, none⟩) hbl).trans c0
          have c1 := HC0.out wr HR.out.2.2.1
          have t1 : (bs c).toList = c := bs_toList _
          have t2 : (bs p).toList = p := bs_toList _
          have hsz := HR.out.2.2.1.size
          obtain ⟨d, hd⟩ : ∃ d, (c == p) = d := ⟨_, rfl⟩
          have hd2 : decide (c = p) = d := by rw [← hd]; exact Bool.eq_iff_iff.2 (by simp)
          rw [hd2] at hst
          clear c0
          cases d
          · have hd3 : (c != p) = true := by rw [bne, hd]; rfl
            go_wp2_with fail
            refine (M.above p c wr HLN.out.2 hcl).mono ?_
            rintro e w3 ⟨rfl, hb3⟩
            have HB3 : Hid (Below wr.heap.size wr w3) := hb3
            clear hb3
            obtain ⟨a, ha⟩ : ∃ a, abvV p c = a := ⟨_, rfl⟩
            rw [ha] at hst ⊢
            have c2 := HC0.out w3 (bstep HR.out.2.2.1 HB3.out)
            cases a
            · have hown := HR.out.1.later HB3.out
              have hDl : out.length + 1 ≤ 8796093022208 := by have := HR.out.2.2.2; omega
              have hzw : w.heap.size ≤ w3.heap.size := (bstep HR.out.2.2.1 HB3.out).size
              go_wp2_with (at_builtin; refine app_one (base := w.heap.size) c hown hDl hzw rfl (.tmp 36) (.tmp 41) rfl rfl rfl ?_; intro v' w' ho hbw hbs' hgr hat)
              go_roundw
              case rel => exact ⟨i + 1, done, out ++ [c], rfl, by go_num, by omega, by rw [List.length_append]; have := HR.out.2.2.2; simp; omega, ho, by rw [List.append_assoc, ← HR.out.2.1, hst]; rfl, below_trans (bstep HR.out.2.2.1 HB3.out) hbw⟩
              case measure => simp [intOf]; omega
            · cases done
              · have hown := HR.out.1.later HB3.out
                have hDl : out.length + 1 ≤ 8796093022208 := by have := HR.out.2.2.2; omega
                have hzw : w.heap.size ≤ w3.heap.size := (bstep HR.out.2.2.1 HB3.out).size
                go_wp2_with (at_builtin; refine app_one (base := w.heap.size) p hown hDl hzw rfl (.tmp 45) (.tmp 47) rfl rfl rfl ?_; intro v' w' ho hbw hbs' hgr hat)
                go_roundw
                case rel => exact ⟨i + 1, true, out ++ [p], rfl, by go_num, by omega, by rw [List.length_append]; have := HR.out.2.2.2; simp; omega, ho, by rw [List.append_assoc, ← HR.out.2.1, hst]; rfl, below_trans (bstep HR.out.2.2.1 HB3.out) hbw⟩
                case measure => simp [intOf]; omega
              · go_wp2_with fail
                go_roundw
                case rel => exact ⟨i + 1, true, out, rfl, by go_num, by omega, by have := HR.out.2.2.2; omega, HR.out.1.later HB3.out, by rw [← HR.out.2.1, hst]; rfl, bstep HR.out.2.2.1 HB3.out⟩
                case measure => simp [intOf]; omega
          · have hd3 : (c != p) = false := by rw [bne, hd]; rfl
            cases done
            · have hown := HR.out.1
              have hDl : out.length + 1 ≤ 8796093022208 := by have := HR.out.2.2.2; omega
              have hzw : w.heap.size ≤ wr.heap.size := (HR.out.2.2.1).size
              go_wp2_with (at_builtin; refine app_one (base := w.heap.size) p hown hDl hzw rfl (.tmp 45) (.tmp 47) rfl rfl rfl ?_; intro v' w' ho hbw hbs' hgr hat)
              go_roundw
              case rel => exact ⟨i + 1, true, out ++ [p], rfl, by go_num, by omega, by rw [List.length_append]; have := HR.out.2.2.2; simp; omega, ho, by rw [List.append_assoc, ← HR.out.2.1, hst]; rfl, below_trans (HR.out.2.2.1) hbw⟩
              case measure => simp [intOf]; omega
            · go_wp2_with fail
              go_roundw
              case rel => exact ⟨i + 1, true, out, rfl, by go_num, by omega, by have := HR.out.2.2.2; omega, HR.out.1, by rw [← HR.out.2.1, hst]; rfl, HR.out.2.2.1⟩
              case measure => simp [intOf]; omega
        · obtain rfl : n = i := by omega
          have hfin : out = wid p false k := by
            have h1 := HR.out.2.1
            rw [List.drop_eq_nil_of_le (by rw [HN.out]; exact Nat.le_refl _)] at h1
            rw [← h1]
            cases done <;> simp [wid]
          go_wp2_with fail
          refine bodyPost_ret (results_tmp2 rfl _ _ _) rfl ?_
          unfold TwoS
          rw [HM.out]
          exact ⟨_, rfl, by rw [← hfin]; exact HR.out.1, HR.out.2.2.1⟩
end Go.Proofs.YtbaheiimcnfaaaaGreat

namespace Go.Proofs.YtbaheiimcnfaaaaGreat
open Go.RowKit Go.Maps
attribute [local go_sem] Oper.semAt_some

theorem mx_e : mErr mxL mxK = 0 := by kernel_rfl
theorem mx_c1 : mcst mxL [[97, 47, 120]] = (8, 0) := by kernel_rfl
theorem mx_c0 : mcst mxL [] = (3, 0) := by kernel_rfl
theorem mx_s : mstp mxL mxK = ([[97], [98]], 0) := by kernel_rfl
theorem mx_d : mdwn mxL mxK 1 = ([[]], 0) := by kernel_rfl
theorem mx_a : mat mxK [97] = ([[97], [98]], 0) := by kernel_rfl
theorem mx_d0 : mdwn mxL [[98], [97]] 0 = ([], 13) := by kernel_rfl
theorem drw_below (w : World) (n : Nat) : Below w.heap.size w (w.drewN n) := (Only.drew [] w n).below (Nat.le_refl _) (fun x hx => by cases hx)
set_option maxRecDepth 100000 in
set_option maxHeartbeats 8000000 in
theorem head_any (M : MC) (w : World) : Calls Tryz.prog 6 #[] w fun e w' => e = .returned (.bool true) ∧ Below w.heap.size w w' := by
  go_enter Tryz.func6, Tryz.ntmps6
  go_wp2_with fail
  refine (example_any w).mono ?_
  rintro e w1 ⟨rfl, hw1⟩
  have H1 : Hid (Below w.heap.size w w1 ∧ FS w1 (.slice (some ⟨w.heap.size, 0, none⟩) 5 5) mxL) := by
    rw [hw1]
    exact ⟨balloc _ _, fs_block (l := mxL) (heap_alloc_new w _) rfl⟩
  clear hw1
  go_wp2_with fail
  change Calls Tryz.prog 8 _ (w1.alloc (.cells (sc [[97, 47, 120]]).toArray 9)) _
  refine (M.cost (H1.out.2.later (balloc w1 (.cells (sc [[97, 47, 120]]).toArray 9))) mx_sm (ss_block (l := [[97, 47, 120]]) (heap_alloc_new w1 _) rfl) (sm_lit (by decide) (by decide))).mono ?_
  rintro e w2 ⟨rfl, hb⟩
  rw [mx_c1]
  have H2 : Hid (Below w.heap.size w w2 ∧ FS w2 (.slice (some ⟨w.heap.size, 0, none⟩) 5 5) mxL) := ⟨bstep (bstep H1.out.1 (balloc w1 (.cells (sc [[97, 47, 120]]).toArray 9))) hb, H1.out.2.later (bstep (balloc w1 (.cells (sc [[97, 47, 120]]).toArray 9)) hb)⟩
  clear hb
  go_wp2_with fail
  refine (M.cost (H2.out.2.later (Below.refl _ w2)) mx_sm (SS_nil _) (sm_lit (by decide) (by decide))).mono ?_
  rintro e w3 ⟨rfl, hb⟩
  rw [mx_c0]
  have H3 : Hid (Below w.heap.size w w3 ∧ FS w3 (.slice (some ⟨w.heap.size, 0, none⟩) 5 5) mxL) := ⟨bstep (bstep H2.out.1 (Below.refl _ w2)) hb, H2.out.2.later (bstep (Below.refl _ w2) hb)⟩
  clear hb
  go_wp2_with fail
  change Calls Tryz.prog 10 _ (w3.alloc (.cells (sc mxK).toArray 9)) _
  refine (M.step (H3.out.2.later (balloc w3 (.cells (sc mxK).toArray 9))) mx_sm (ss_block (l := mxK) (heap_alloc_new w3 _) rfl) (sm_lit (by decide) (by decide))).mono ?_
  intro e w4 h
  unfold TwoS at h
  obtain ⟨v1, rfl, ho, hb⟩ := h
  rw [mx_s] at ho ⊢
  simp only at ho ⊢
  obtain ⟨a1, c1, hv⟩ := ho.slc
  rw [show List.length _ = 2 from rfl] at hv
  subst hv
  have H4 : Hid (Below w.heap.size w w4 ∧ FS w4 (.slice (some ⟨w.heap.size, 0, none⟩) 5 5) mxL) := ⟨bstep (bstep H3.out.1 (balloc w3 (.cells (sc mxK).toArray 9))) hb, H3.out.2.later (bstep (balloc w3 (.cells (sc mxK).toArray 9)) hb)⟩
  have V1 : Hid (SS w4 (.slice a1 2 c1) [[97], [98]]) := ho.bs
  have B4 : Hid (Below w3.heap.size w3 w4) := bstep (balloc w3 (.cells (sc mxK).toArray 9)) hb
  clear ho hb
  go_wp2_with fail
  change Calls Tryz.prog 17 _ (w4.alloc (.cells (sc mxK).toArray 9)) _
  refine (M.down 1 (H4.out.2.later (balloc w4 (.cells (sc mxK).toArray 9))) mx_sm (ss_block (l := mxK) (heap_alloc_new w4 _) rfl) (sm_lit (by decide) (by decide)) (by decide) (by decide)).mono ?_
  intro e w5 h
  unfold TwoS at h
  obtain ⟨v2, rfl, ho, hb⟩ := h
  rw [mx_d] at ho ⊢
  simp only at ho ⊢
  obtain ⟨a2, c2, hv⟩ := ho.slc
  rw [show List.length _ = 1 from rfl] at hv
  subst hv
  have H5 : Hid (Below w.heap.size w w5 ∧ FS w5 (.slice (some ⟨w.heap.size, 0, none⟩) 5 5) mxL) := ⟨bstep (bstep H4.out.1 (balloc w4 (.cells (sc mxK).toArray 9))) hb, H4.out.2.later (bstep (balloc w4 (.cells (sc mxK).toArray 9)) hb)⟩
  have V2 : Hid (SS w5 (.slice a2 1 c2) [[]]) := ho.bs
  have B5 : Hid (Below w4.heap.size w4 w5) := bstep (balloc w4 (.cells (sc mxK).toArray 9)) hb
  clear ho hb
  go_wp2_with fail
  change Calls Tryz.prog 15 _ (w5.alloc (.cells (sc mxK).toArray 9)) _
  refine (M.at' [97] (ss_block (l := mxK) (heap_alloc_new w5 _) rfl) (sm_lit (by decide) (by decide)) (by decide)).mono ?_
  intro e w6 h
  unfold TwoS at h
  obtain ⟨v3, rfl, ho, hb⟩ := h
  rw [mx_a] at ho ⊢
  simp only at ho ⊢
  obtain ⟨a3, c3, hv⟩ := ho.slc
  rw [show List.length _ = 2 from rfl] at hv
  subst hv
  have H6 : Hid (Below w.heap.size w w6 ∧ FS w6 (.slice (some ⟨w.heap.size, 0, none⟩) 5 5) mxL) := ⟨bstep (bstep H5.out.1 (balloc w5 (.cells (sc mxK).toArray 9))) hb, H5.out.2.later (bstep (balloc w5 (.cells (sc mxK).toArray 9)) hb)⟩
  have V3 : Hid (SS w6 (.slice a3 2 c3) [[97], [98]]) := ho.bs
  have B6 : Hid (Below w5.heap.size w5 w6) := bstep (balloc w5 (.cells (sc mxK).toArray 9)) hb
  clear ho hb
  go_wp2_with fail
  change Calls Tryz.prog 17 _ (w6.alloc (.cells (sc [[98], [97]]).toArray 9)) _
  refine (M.down 0 (H6.out.2.later (balloc w6 (.cells (sc [[98], [97]]).toArray 9))) mx_sm (ss_block (l := [[98], [97]]) (heap_alloc_new w6 _) rfl) (sm_lit (by decide) (by decide)) (by decide) (by decide)).mono ?_
  intro e w7 h
  unfold TwoS at h
  obtain ⟨v4, rfl, ho, hb⟩ := h
  rw [mx_d0] at ho ⊢
  simp only at ho ⊢
  obtain ⟨a4, c4, hv⟩ := ho.slc
  rw [show List.length _ = 0 from rfl] at hv
  subst hv
  have H7 : Hid (Below w.heap.size w w7 ∧ FS w7 (.slice (some ⟨w.heap.size, 0, none⟩) 5 5) mxL) := ⟨bstep (bstep H6.out.1 (balloc w6 (.cells (sc [[98], [97]]).toArray 9))) hb, H6.out.2.later (bstep (balloc w6 (.cells (sc [[98], [97]]).toArray 9)) hb)⟩
  have V4 : Hid (SS w7 (.slice a4 0 c4) ([] : List (List UInt8))) := ho.bs
  have B7 : Hid (Below w6.heap.size w6 w7) := bstep (balloc w6 (.cells (sc [[98], [97]]).toArray 9)) hb
  clear ho hb
  go_wp2_with fail
  change Calls Tryz.prog 18 _ (w7.alloc (.cells (sc [[97], [98]]).toArray 9)) _
  refine (same_any (V1.out.later (bstep B5.out (bstep B6.out (bstep B7.out (balloc w7 _))))) (ss_block (l := [[97], [98]]) (heap_alloc_new w7 _) rfl) (by decide)).mono ?_
  rintro e wq ⟨rfl, n, rfl⟩
  rw [decide_eq_true (rfl : ([[97], [98]] : List (List UInt8)) = [[97], [98]])]
  have hb : Below w7.heap.size w7 ((w7.alloc (.cells (sc [[97], [98]]).toArray 9)).drewN n) := bstep (balloc w7 (.cells (sc [[97], [98]]).toArray 9)) (drw_below _ n)
  generalize (w7.alloc (.cells (sc [[97], [98]]).toArray 9)).drewN n = w8 at hb ⊢
  have B8 : Hid (Below w7.heap.size w7 w8) := hb
  clear hb
  go_wp2_with fail
  change Calls Tryz.prog 18 _ (w8.alloc (.cells (sc [([] : List UInt8)]).toArray 9)) _
  refine (same_any (V2.out.later (bstep B6.out (bstep B7.out (bstep B8.out (balloc w8 _))))) (ss_block (l := [([] : List UInt8)]) (heap_alloc_new w8 _) rfl) (by decide)).mono ?_
  rintro e wq ⟨rfl, n, rfl⟩
  rw [decide_eq_true (rfl : ([([] : List UInt8)] : List (List UInt8)) = [([] : List UInt8)])]
  have hb : Below w8.heap.size w8 ((w8.alloc (.cells (sc [([] : List UInt8)]).toArray 9)).drewN n) := bstep (balloc w8 (.cells (sc [([] : List UInt8)]).toArray 9)) (drw_below _ n)
  generalize (w8.alloc (.cells (sc [([] : List UInt8)]).toArray 9)).drewN n = w9 at hb ⊢
  have B9 : Hid (Below w8.heap.size w8 w9) := hb
  clear hb
  go_wp2_with fail
  change Calls Tryz.prog 18 _ (w9.alloc (.cells (sc [[97], [98]]).toArray 9)) _
  refine (same_any (V3.out.later (bstep B7.out (bstep B8.out (bstep B9.out (balloc w9 _))))) (ss_block (l := [[97], [98]]) (heap_alloc_new w9 _) rfl) (by decide)).mono ?_
  rintro e wq ⟨rfl, n, rfl⟩
  rw [decide_eq_true (rfl : ([[97], [98]] : List (List UInt8)) = [[97], [98]])]
  have hb : Below w9.heap.size w9 ((w9.alloc (.cells (sc [[97], [98]]).toArray 9)).drewN n) := bstep (balloc w9 (.cells (sc [[97], [98]]).toArray 9)) (drw_below _ n)
  generalize (w9.alloc (.cells (sc [[97], [98]]).toArray 9)).drewN n = w10 at hb ⊢
  have B10 : Hid (Below w9.heap.size w9 w10) := hb
  clear hb
  go_wp2_with fail
  go_ret
  exact ⟨rfl, bstep (bstep (bstep H7.out.1 B8.out) B9.out) B10.out⟩
end Go.Proofs.YtbaheiimcnfaaaaGreat

namespace Go.Proofs.YtbaheiimcnfaaaaGreat
open Go.RowKit Go.Maps

theorem FS.cap {w : World} {a : Option Addr} {n c : Nat} {l : List Fl} (h : FS w (.slice a n c) l) : n ≤ c := by
  rcases h with ⟨⟨_, _, e⟩, _⟩ | ⟨b, off, cap, e, h3, _⟩
  · injection e with _ e _; omega
  · injection e with _ e1 e; omega
theorem SS.cap {w : World} {a : Option Addr} {n c : Nat} {l : List (List UInt8)} (h : SS w (.slice a n c) l) : n ≤ c := by
  rcases h with ⟨⟨_, _, e⟩, _⟩ | ⟨b, off, cap, e, h3, _⟩
  · injection e with _ e _; omega
  · injection e with _ e1 e; omega
theorem fc_takeS (l : List Fl) (n : Nat) : ∃ r, fc l = fc (l.take n) ++ r := ⟨fc (l.drop n), by rw [← fc_append, List.take_append_drop]⟩
theorem FS.take {w : World} {a : Option Addr} {n c n1 : Nat} {l : List Fl} (h : FS w (.slice a n c) l) (hn : l.length = n) (m : Nat) (h1 : min n m = n1) : FS w (.slice a n1 c) (l.take m) := by
  have hl : (l.take m).length = n1 := by rw [List.length_take]; omega
  rcases h with ⟨_, e⟩ | ⟨b, off, cap, e, hc, hlt, hcell⟩
  · subst e
    simp at hn
    subst hn
    obtain rfl : n1 = 0 := by omega
    exact .inl ⟨⟨_, _, rfl⟩, by simp⟩
  · injection e with e1 e2 e3
    subst e1
    subst e3
    refine .inr ⟨b, off, c, by rw [hl], by omega, hlt, fun i u hu => ?_⟩
    obtain ⟨r, hr⟩ := fc_takeS l m
    refine hcell i u ?_
    rw [hr, List.getElem?_append_left]
    · exact hu
    · exact (List.getElem?_eq_some_iff.1 hu).1
theorem SS.take {w : World} {a : Option Addr} {n c n1 : Nat} {l : List (List UInt8)} (h : SS w (.slice a n c) l) (hn : l.length = n) (m : Nat) (h1 : min n m = n1) : SS w (.slice a n1 c) (l.take m) := by
  have hl : (l.take m).length = n1 := by rw [List.length_take]; omega
  rcases h with ⟨_, e⟩ | ⟨b, off, cap, e, hc, hlt, hcell⟩
  · subst e
    simp at hn
    subst hn
    obtain rfl : n1 = 0 := by omega
    exact .inl ⟨⟨_, _, rfl⟩, by simp⟩
  · injection e with e1 e2 e3
    subst e1
    subst e3
    refine .inr ⟨b, off, c, by rw [hl], by omega, hlt, fun i u hu => ?_⟩
    refine hcell i u ?_
    have e4 : sc l = sc (l.take m) ++ sc (l.drop m) := by rw [← sc_append, List.take_append_drop]
    rw [e4, List.getElem?_append_left]
    · exact hu
    · exact (List.getElem?_eq_some_iff.1 hu).1
set_option maxRecDepth 100000 in
set_option maxHeartbeats 4000000 in
theorem small_any {w : World} {u v : Value} {l : List Fl} {k : List (List UInt8)} (h1 : FS w u l) (h2 : SS w v k) (hl : l.length ≤ 1000000000) (hk : k.length ≤ 1000000000) :
    Calls Tryz.prog 7 #[u, v] w fun e w' => (∃ x y, e = .returned (.tuple #[x, y]) ∧ FS w' x (l.take 120) ∧ SS w' y (k.take 16)) ∧ Below w.heap.size w w' := by
  have H : Hid (FS w u l ∧ SS w v k) := ⟨h1, h2⟩
  obtain ⟨au, cu, hvv, _⟩ := h1.form
  obtain ⟨av, cv, hvv', _⟩ := h2.form
  obtain ⟨n, hn⟩ : ∃ n, l.length = n := ⟨_, rfl⟩
  obtain ⟨m, hm⟩ : ∃ m, k.length = m := ⟨_, rfl⟩
  rw [hn] at hvv hl
  rw [hm] at hvv' hk
  subst hvv
  subst hvv'
  have HN : Hid (l.length = n ∧ k.length = m) := ⟨hn, hm⟩
  have c1 := h1.cap
  have c2 := h2.cap
  obtain ⟨n1, hn1⟩ : ∃ n1, min n 120 = n1 := ⟨_, rfl⟩
  obtain ⟨m1, hm1⟩ : ∃ m1, min m 16 = m1 := ⟨_, rfl⟩
  have e1 : min (n : Int) 120 = (n1 : Int) := by omega
  have e2 : min (m : Int) 16 = (m1 : Int) := by omega
  have k1 : (n1 : Int) ≤ (cu : Int) := by omega
  have k2 : (m1 : Int) ≤ (cv : Int) := by omega
  have k3 : (0 : Int) ≤ (n1 : Int) := by omega
  have k4 : (0 : Int) ≤ (m1 : Int) := by omega
  clear h1 h2 hn hm
  go_enter Tryz.func7, Tryz.ntmps7
  go_wp2_with fail
  go_quiet (fail)
  go_wp2_with fail
  refine bodyPost_ret (results_tmp2 rfl _ _ _) rfl ?_
  refine ⟨⟨_, _, rfl, ?_, ?_⟩, ((Only.drew [] w _).below (Nat.le_refl _) (fun x hx => by cases hx))⟩
  · exact (H.out.1.take HN.out.1 120 hn1).later ((Only.drew [] w _).below (Nat.le_refl _) (fun x hx => by cases hx))
  · exact (H.out.2.take HN.out.2 16 hm1).later ((Only.drew [] w _).below (Nat.le_refl _) (fun x hx => by cases hx))
end Go.Proofs.YtbaheiimcnfaaaaGreat
