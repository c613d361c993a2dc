/-
  The landed package, by its contracts.
  The document's example of merging, run.
  What came in, cut short.
-/
import Derived.Test.YtbaheiimcnfaaaaGreatJNs
import Derived.Test.YtbaheiimcnfaaaaGreatJNt
import Derived.Test.YtbaheiimcnfaaaaGreatNu
import Derived.Test.YtbaheiimcnfaaaaGreatJNd
namespace Go.Proofs.YtbaheiimcnfaaaaGreat
open Go.RowKit

theorem mc_any : MC where
  cost h1 h2 h3 h4 := mcost_any h1 h2 h3 h4
  step h1 h2 h3 h4 := mStep_any h1 h2 h3 h4
  at' p h1 h2 h3 := mat_any p h1 h2 h3
  down b h1 h2 h3 h4 h5 h6 := mDown_any b h1 h2 h3 h4 h5 h6
  valid h1 h2 := cvalid_any h1 h2
  view h1 h2 h3 h4 := view_any (fun h s => cvalid_any h s) h1 h2 h3 h4
  cones h1 h2 := rcones_any h1 h2
  common a c w h1 h2 := rcommon_any a c w (by omega) (by omega)
  above a c w h1 h2 := by rw [abvV_eq]; exact rabove_any a c w (by omega) (by omega)
end Go.Proofs.YtbaheiimcnfaaaaGreat

namespace Go.Proofs.YtbaheiimcnfaaaaGreat
open Go.RowKit Go.Maps
attribute [local go_sem] Oper.semAt_some

theorem mx_e : mErr mxL mxK = 0 := by kernel_rfl
theorem mx_c1 : mcst mxL [[97, 47, 120]] = (8, 0) := by kernel_rfl
theorem mx_c0 : mcst mxL [] = (3, 0) := by kernel_rfl
theorem mx_s : mstp mxL mxK = ([[97], [98]], 0) := by kernel_rfl
theorem mx_d : mdwn mxL mxK 1 = ([[]], 0) := by kernel_rfl
theorem mx_a : mat mxK [97] = ([[97], [98]], 0) := by kernel_rfl
theorem mx_d0 : mdwn mxL [[98], [97]] 0 = ([], 13) := by kernel_rfl
theorem drw_below (w : World) (n : Nat) : Below w.heap.size w (w.drewN n) := (Only.drew [] w n).below (Nat.le_refl _) (fun x hx => by cases hx)
set_option maxRecDepth 100000 in
set_option maxHeartbeats 8000000 in
theorem head_any (M : MC) (w : World) : Calls Tryz.prog 6 #[] w fun e w' => e = .returned (.bool true) ∧ Below w.heap.size w w' := by
  go_enter Tryz.func6, Tryz.ntmps6
  go_wp2_with fail
  refine (example_any w).mono ?_
  rintro e w1 ⟨rfl, hw1⟩
  have H1 : Hid (Below w.heap.size w w1 ∧ FS w1 (.slice (some ⟨w.heap.size, 0, none⟩) 5 5) mxL) := by
    rw [hw1]
    exact ⟨balloc _ _, fs_block (l := mxL) (heap_alloc_new w _) rfl⟩
  clear hw1
  go_wp2_with fail
  change Calls Tryz.prog 8 _ (w1.alloc (.cells (sc [[97, 47, 120]]).toArray 9)) _
  refine (M.cost (H1.out.2.later (balloc w1 (.cells (sc [[97, 47, 120]]).toArray 9))) mx_sm (ss_block (l := [[97, 47, 120]]) (heap_alloc_new w1 _) rfl) (sm_lit (by decide) (by decide))).mono ?_
  rintro e w2 ⟨rfl, hb⟩
  rw [mx_c1]
  have H2 : Hid (Below w.heap.size w w2 ∧ FS w2 (.slice (some ⟨w.heap.size, 0, none⟩) 5 5) mxL) := ⟨bstep (bstep H1.out.1 (balloc w1 (.cells (sc [[97, 47, 120]]).toArray 9))) hb, H1.out.2.later (bstep (balloc w1 (.cells (sc [[97, 47, 120]]).toArray 9)) hb)⟩
  clear hb
  go_wp2_with fail
  refine (M.cost (H2.out.2.later (Below.refl _ w2)) mx_sm (SS_nil _) (sm_lit (by decide) (by decide))).mono ?_
  rintro e w3 ⟨rfl, hb⟩
  rw [mx_c0]
  have H3 : Hid (Below w.heap.size w w3 ∧ FS w3 (.slice (some ⟨w.heap.size, 0, none⟩) 5 5) mxL) := ⟨bstep (bstep H2.out.1 (Below.refl _ w2)) hb, H2.out.2.later (bstep (Below.refl _ w2) hb)⟩
  clear hb
  go_wp2_with fail
  change Calls Tryz.prog 10 _ (w3.alloc (.cells (sc mxK).toArray 9)) _
  refine (M.step (H3.out.2.later (balloc w3 (.cells (sc mxK).toArray 9))) mx_sm (ss_block (l := mxK) (heap_alloc_new w3 _) rfl) (sm_lit (by decide) (by decide))).mono ?_
  intro e w4 h
  unfold TwoS at h
  obtain ⟨v1, rfl, ho, hb⟩ := h
  rw [mx_s] at ho ⊢
  simp only at ho ⊢
  obtain ⟨a1, c1, hv⟩ := ho.slc
  rw [show List.length _ = 2 from rfl] at hv
  subst hv
  have H4 : Hid (Below w.heap.size w w4 ∧ FS w4 (.slice (some ⟨w.heap.size, 0, none⟩) 5 5) mxL) := ⟨bstep (bstep H3.out.1 (balloc w3 (.cells (sc mxK).toArray 9))) hb, H3.out.2.later (bstep (balloc w3 (.cells (sc mxK).toArray 9)) hb)⟩
  have V1 : Hid (SS w4 (.slice a1 2 c1) [[97], [98]]) := ho.bs
  have B4 : Hid (Below w3.heap.size w3 w4) := bstep (balloc w3 (.cells (sc mxK).toArray 9)) hb
  clear ho hb
  go_wp2_with fail
  change Calls Tryz.prog 17 _ (w4.alloc (.cells (sc mxK).toArray 9)) _
  refine (M.down 1 (H4.out.2.later (balloc w4 (.cells (sc mxK).toArray 9))) mx_sm (ss_block (l := mxK) (heap_alloc_new w4 _) rfl) (sm_lit (by decide) (by decide)) (by decide) (by decide)).mono ?_
  intro e w5 h
  unfold TwoS at h
  obtain ⟨v2, rfl, ho, hb⟩ := h
  rw [mx_d] at ho ⊢
  simp only at ho ⊢
  obtain ⟨a2, c2, hv⟩ := ho.slc
  rw [show List.length _ = 1 from rfl] at hv
  subst hv
  have H5 : Hid (Below w.heap.size w w5 ∧ FS w5 (.slice (some ⟨w.heap.size, 0, none⟩) 5 5) mxL) := ⟨bstep (bstep H4.out.1 (balloc w4 (.cells (sc mxK).toArray 9))) hb, H4.out.2.later (bstep (balloc w4 (.cells (sc mxK).toArray 9)) hb)⟩
  have V2 : Hid (SS w5 (.slice a2 1 c2) [[]]) := ho.bs
  have B5 : Hid (Below w4.heap.size w4 w5) := bstep (balloc w4 (.cells (sc mxK).toArray 9)) hb
  clear ho hb
  go_wp2_with fail
  change Calls Tryz.prog 15 _ (w5.alloc (.cells (sc mxK).toArray 9)) _
  refine (M.at' [97] (ss_block (l := mxK) (heap_alloc_new w5 _) rfl) (sm_lit (by decide) (by decide)) (by decide)).mono ?_
  intro e w6 h
  unfold TwoS at h
  obtain ⟨v3, rfl, ho, hb⟩ := h
  rw [mx_a] at ho ⊢
  simp only at ho ⊢
  obtain ⟨a3, c3, hv⟩ := ho.slc
  rw [show List.length _ = 2 from rfl] at hv
  subst hv
  have H6 : Hid (Below w.heap.size w w6 ∧ FS w6 (.slice (some ⟨w.heap.size, 0, none⟩) 5 5) mxL) := ⟨bstep (bstep H5.out.1 (balloc w5 (.cells (sc mxK).toArray 9))) hb, H5.out.2.later (bstep (balloc w5 (.cells (sc mxK).toArray 9)) hb)⟩
  have V3 : Hid (SS w6 (.slice a3 2 c3) [[97], [98]]) := ho.bs
  have B6 : Hid (Below w5.heap.size w5 w6) := bstep (balloc w5 (.cells (sc mxK).toArray 9)) hb
  clear ho hb
  go_wp2_with fail
  change Calls Tryz.prog 17 _ (w6.alloc (.cells (sc [[98], [97]]).toArray 9)) _
  refine (M.down 0 (H6.out.2.later (balloc w6 (.cells (sc [[98], [97]]).toArray 9))) mx_sm (ss_block (l := [[98], [97]]) (heap_alloc_new w6 _) rfl) (sm_lit (by decide) (by decide)) (by decide) (by decide)).mono ?_
  intro e w7 h
  unfold TwoS at h
  obtain ⟨v4, rfl, ho, hb⟩ := h
  rw [mx_d0] at ho ⊢
  simp only at ho ⊢
  obtain ⟨a4, c4, hv⟩ := ho.slc
  rw [show List.length _ = 0 from rfl] at hv
  subst hv
  have H7 : Hid (Below w.heap.size w w7 ∧ FS w7 (.slice (some ⟨w.heap.size, 0, none⟩) 5 5) mxL) := ⟨bstep (bstep H6.out.1 (balloc w6 (.cells (sc [[98], [97]]).toArray 9))) hb, H6.out.2.later (bstep (balloc w6 (.cells (sc [[98], [97]]).toArray 9)) hb)⟩
  have V4 : Hid (SS w7 (.slice a4 0 c4) ([] : List (List UInt8))) := ho.bs
  have B7 : Hid (Below w6.heap.size w6 w7) := bstep (balloc w6 (.cells (sc [[98], [97]]).toArray 9)) hb
  clear ho hb
  go_wp2_with fail
  change Calls Tryz.prog 18 _ (w7.alloc (.cells (sc [[97], [98]]).toArray 9)) _
  refine (same_any (V1.out.later (bstep B5.out (bstep B6.out (bstep B7.out (balloc w7 _))))) (ss_block (l := [[97], [98]]) (heap_alloc_new w7 _) rfl) (by decide)).mono ?_
  rintro e wq ⟨rfl, n, rfl⟩
  rw [decide_eq_true (rfl : ([[97], [98]] : List (List UInt8)) = [[97], [98]])]
  have hb : Below w7.heap.size w7 ((w7.alloc (.cells (sc [[97], [98]]).toArray 9)).drewN n) := bstep (balloc w7 (.cells (sc [[97], [98]]).toArray 9)) (drw_below _ n)
  generalize (w7.alloc (.cells (sc [[97], [98]]).toArray 9)).drewN n = w8 at hb ⊢
  have B8 : Hid (Below w7.heap.size w7 w8) := hb
  clear hb
  go_wp2_with fail
  change Calls Tryz.prog 18 _ (w8.alloc (.cells (sc [([] : List UInt8)]).toArray 9)) _
  refine (same_any (V2.out.later (bstep B6.out (bstep B7.out (bstep B8.out (balloc w8 _))))) (ss_block (l := [([] : List UInt8)]) (heap_alloc_new w8 _) rfl) (by decide)).mono ?_
  rintro e wq ⟨rfl, n, rfl⟩
  rw [decide_eq_true (rfl : ([([] : List UInt8)] : List (List UInt8)) = [([] : List UInt8)])]
  have hb : Below w8.heap.size w8 ((w8.alloc (.cells (sc [([] : List UInt8)]).toArray 9)).drewN n) := bstep (balloc w8 (.cells (sc [([] : List UInt8)]).toArray 9)) (drw_below _ n)
  generalize (w8.alloc (.cells (sc [([] : List UInt8)]).toArray 9)).drewN n = w9 at hb ⊢
  have B9 : Hid (Below w8.heap.size w8 w9) := hb
  clear hb
  go_wp2_with fail
  change Calls Tryz.prog 18 _ (w9.alloc (.cells (sc [[97], [98]]).toArray 9)) _
  refine (same_any (V3.out.later (bstep B7.out (bstep B8.out (bstep B9.out (balloc w9 _))))) (ss_block (l := [[97], [98]]) (heap_alloc_new w9 _) rfl) (by decide)).mono ?_
  rintro e wq ⟨rfl, n, rfl⟩
  rw [decide_eq_true (rfl : ([[97], [98]] : List (List UInt8)) = [[97], [98]])]
  have hb : Below w9.heap.size w9 ((w9.alloc (.cells (sc [[97], [98]]).toArray 9)).drewN n) := bstep (balloc w9 (.cells (sc [[97], [98]]).toArray 9)) (drw_below _ n)
  generalize (w9.alloc (.cells (sc [[97], [98]]).toArray 9)).drewN n = w10 at hb ⊢
  have B10 : Hid (Below w9.heap.size w9 w10) := hb
  clear hb
  go_wp2_with fail
  go_ret
  exact ⟨rfl, bstep (bstep (bstep H7.out.1 B8.out) B9.out) B10.out⟩
end Go.Proofs.YtbaheiimcnfaaaaGreat

namespace Go.Proofs.YtbaheiimcnfaaaaGreat
open Go.RowKit Go.Maps

theorem FS.cap {w : World} {a : Option Addr} {n c : Nat} {l : List Fl} (h : FS w (.slice a n c) l) : n ≤ c := by
  rcases h with ⟨⟨_, _, e⟩, _⟩ | ⟨b, off, cap, e, h3, _⟩
  · injection e with _ e _; omega
  · injection e with _ e1 e; omega
theorem SS.cap {w : World} {a : Option Addr} {n c : Nat} {l : List (List UInt8)} (h : SS w (.slice a n c) l) : n ≤ c := by
  rcases h with ⟨⟨_, _, e⟩, _⟩ | ⟨b, off, cap, e, h3, _⟩
  · injection e with _ e _; omega
  · injection e with _ e1 e; omega
theorem fc_takeS (l : List Fl) (n : Nat) : ∃ r, fc l = fc (l.take n) ++ r := ⟨fc (l.drop n), by rw [← fc_append, List.take_append_drop]⟩
theorem FS.take {w : World} {a : Option Addr} {n c n1 : Nat} {l : List Fl} (h : FS w (.slice a n c) l) (hn : l.length = n) (m : Nat) (h1 : min n m = n1) : FS w (.slice a n1 c) (l.take m) := by
  have hl : (l.take m).length = n1 := by rw [List.length_take]; omega
  rcases h with ⟨_, e⟩ | ⟨b, off, cap, e, hc, hlt, hcell⟩
  · subst e
    simp at hn
    subst hn
    obtain rfl : n1 = 0 := by omega
    exact .inl ⟨⟨_, _, rfl⟩, by simp⟩
  · injection e with e1 e2 e3
    subst e1
    subst e3
    refine .inr ⟨b, off, c, by rw [hl], by omega, hlt, fun i u hu => ?_⟩
    obtain ⟨r, hr⟩ := fc_takeS l m
    refine hcell i u ?_
    rw [hr, List.getElem?_append_left]
    · exact hu
    · exact (List.getElem?_eq_some_iff.1 hu).1
theorem SS.take {w : World} {a : Option Addr} {n c n1 : Nat} {l : List (List UInt8)} (h : SS w (.slice a n c) l) (hn : l.length = n) (m : Nat) (h1 : min n m = n1) : SS w (.slice a n1 c) (l.take m) := by
  have hl : (l.take m).length = n1 := by rw [List.length_take]; omega
  rcases h with ⟨_, e⟩ | ⟨b, off, cap, e, hc, hlt, hcell⟩
  · subst e
    simp at hn
    subst hn
    obtain rfl : n1 = 0 := by omega
    exact .inl ⟨⟨_, _, rfl⟩, by simp⟩
  · injection e with e1 e2 e3
    subst e1
    subst e3
    refine .inr ⟨b, off, c, by rw [hl], by omega, hlt, fun i u hu => ?_⟩
    refine hcell i u ?_
    have e4 : sc l = sc (l.take m) ++ sc (l.drop m) := by rw [← sc_append, List.take_append_drop]
    rw [e4, List.getElem?_append_left]
    · exact hu
    · exact (List.getElem?_eq_some_iff.1 hu).1
set_option maxRecDepth 100000 in
set_option maxHeartbeats 4000000 in
theorem small_any {w : World} {u v : Value} {l : List Fl} {k : List (List UInt8)} (h1 : FS w u l) (h2 : SS w v k) (hl : l.length ≤ 1000000000) (hk : k.length ≤ 1000000000) :
    Calls Tryz.prog 7 #[u, v] w fun e w' => (∃ x y, e = .returned (.tuple #[x, y]) ∧ FS w' x (l.take 120) ∧ SS w' y (k.take 16)) ∧ Below w.heap.size w w' := by
  have H : Hid (FS w u l ∧ SS w v k) := ⟨h1, h2⟩
  obtain ⟨au, cu, hvv, _⟩ := h1.form
  obtain ⟨av, cv, hvv', _⟩ := h2.form
  obtain ⟨n, hn⟩ : ∃ n, l.length = n := ⟨_, rfl⟩
  obtain ⟨m, hm⟩ : ∃ m, k.length = m := ⟨_, rfl⟩
  rw [hn] at hvv hl
  rw [hm] at hvv' hk
  subst hvv
  subst hvv'
  have HN : Hid (l.length = n ∧ k.length = m) := ⟨hn, hm⟩
  have c1 := h1.cap
  have c2 := h2.cap
  obtain ⟨n1, hn1⟩ : ∃ n1, min n 120 = n1 := ⟨_, rfl⟩
  obtain ⟨m1, hm1⟩ : ∃ m1, min m 16 = m1 := ⟨_, rfl⟩
  have e1 : min (n : Int) 120 = (n1 : Int) := by omega
  have e2 : min (m : Int) 16 = (m1 : Int) := by omega
  have k1 : (n1 : Int) ≤ (cu : Int) := by omega
  have k2 : (m1 : Int) ≤ (cv : Int) := by omega
  have k3 : (0 : Int) ≤ (n1 : Int) := by omega
  have k4 : (0 : Int) ≤ (m1 : Int) := by omega
  clear h1 h2 hn hm
  go_enter Tryz.func7, Tryz.ntmps7
  go_wp2_with fail
  go_quiet (fail)
  go_wp2_with fail
  refine bodyPost_ret (results_tmp2 rfl _ _ _) rfl ?_
  refine ⟨⟨_, _, rfl, ?_, ?_⟩, ((Only.drew [] w _).below (Nat.le_refl _) (fun x hx => by cases hx))⟩
  · exact (H.out.1.take HN.out.1 120 hn1).later ((Only.drew [] w _).below (Nat.le_refl _) (fun x hx => by cases hx))
  · exact (H.out.2.take HN.out.2 16 hm1).later ((Only.drew [] w _).below (Nat.le_refl _) (fun x hx => by cases hx))
end Go.Proofs.YtbaheiimcnfaaaaGreat
