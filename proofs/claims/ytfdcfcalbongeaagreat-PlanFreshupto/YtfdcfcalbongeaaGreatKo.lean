/-
  The landed plan: Make answers the steps from one view to another.
-/
import Derived.Test.YtfdcfcalbongeaaGreatJKm
namespace Go.Proofs.YtfdcfcalbongeaaGreat
open Go.RowKit
attribute [local go_sem] Oper.semAt_some

theorem mkS_flat (old now : List Fl) : [(woL (old.map Fl.path) (now.map Fl.path)).reverse.map sDel, (woL (nds old) (nds now)).reverse.map sRm, (woL (nds now) (nds old)).map sMk, (pW old now).map sWr].flatten = mkS old now := by
  rw [mk_parts]
  simp
theorem mkS_lenK {old now : List Fl} (ho : old.length ≤ 512) (hn : now.length ≤ 512) (po : ∀ f ∈ old, f.path.length ≤ 120) (pn : ∀ f ∈ now, f.path.length ≤ 120) : (mkS old now).length ≤ 1000000 := by
  rw [mk_parts]
  have h1 := woL_len (old.map Fl.path) (now.map Fl.path)
  have h2 := woL_len (nds old) (nds now)
  have h3 := woL_len (nds now) (nds old)
  have h4 := pW_len old now
  have h5 := (nds_lenK ho po).2
  have h6 := (nds_lenK hn pn).2
  simp only [List.length_append, List.length_map, List.length_reverse] at *
  omega
/-- what Make holds at a world: what came in, the directories -/
structure MkH (w : World) (wk : World) (vo vn d1 d2 : Value) (old now : List Fl) : Prop where
  b : Below w.heap.size w wk
  o : FS wk vo old
  n : FS wk vn now
  d1 : ∃ b, Own b wk d1 (nds old)
  d2 : ∃ b, Own b wk d2 (nds now)
theorem MkH.later {w wk wl : World} {vo vn d1 d2 : Value} {old now : List Fl} (h : MkH w wk vo vn d1 d2 old now) (hb : Below wk.heap.size wk wl) : MkH w wl vo vn d1 d2 old now := by
  obtain ⟨b, o, n, ⟨b1, e1⟩, ⟨b2, e2⟩⟩ := h
  exact ⟨bstep b hb, o.later hb, n.later hb, ⟨b1, e1.later hb⟩, ⟨b2, e2.later hb⟩⟩
set_option maxHeartbeats 16000000 in
set_option maxRecDepth 100000 in
theorem lmake_ok {w : World} {vo vn : Value} {old now : List Fl} (ho : FS w vo old) (hn : FS w vn now) (so : FSm old) (sn : FSm now) (vo0 : validE old = 0) (vn0 : validE now = 0) :
    Calls Tryz.prog 6 #[vo, vn] w fun e w' => ∃ v, e = .returned (.tuple #[v, .int .i64 0]) ∧ OwS w.heap.size w' v (mkS old now) ∧ Below w.heap.size w w' := by
  obtain ⟨o1, o2, o3, o4⟩ := fuN vo0
  obtain ⟨n1, n2, n3, n4⟩ := fuN vn0
  have HV1 : Hid (∀ W, Below w.heap.size w W → Calls Tryz.prog 18 #[vo] W fun e w' => e = .returned (.int .i64 0) ∧ Below W.heap.size W w') := fun W h => by rw [← vo0]; exact valid2_any (ho.later h) so
  have HV2 : Hid (∀ W, Below w.heap.size w W → Calls Tryz.prog 18 #[vn] W fun e w' => e = .returned (.int .i64 0) ∧ Below W.heap.size W w') := fun W h => by rw [← vn0]; exact valid2_any (hn.later h) sn
  have HI : Hid (FS w vo old ∧ FS w vn now ∧ old.length ≤ 512 ∧ now.length ≤ 512 ∧ (∀ f ∈ old, f.path.length ≤ 120) ∧ (∀ f ∈ now, f.path.length ≤ 120)) := ⟨ho, hn, o1, n1, o2, n2⟩
  have HQ : Hid (FUp old ∧ FUp now ∧ FQ old ∧ FQ now ∧ ∀ f ∈ now, f.path ≠ []) := ⟨o4, n4, ⟨by omega, so.each, fun f hf => by have := o2 f hf; omega⟩, ⟨by omega, sn.each, fun f hf => by have := n2 f hf; omega⟩, n3⟩
  clear ho hn so sn vo0 vn0 o1 o2 o3 o4 n1 n2 n3 n4
  go_enter Tryz.func6, Tryz.ntmps6
  go_wp2_with fail
  refine (HV1.out _ (Below.refl _ _)).mono ?_
  rintro e w1 ⟨rfl, hb1⟩
  have B1 : Hid (Below w.heap.size w w1) := hb1
  clear hb1 HV1
  go_wp2_with fail
  refine (HV2.out _ B1.out).mono ?_
  rintro e w2 ⟨rfl, hb2⟩
  have B2 : Hid (Below w.heap.size w w2) := bstep B1.out hb2
  clear hb2 HV2 B1
  go_wp2_with fail
  refine (ldirs_any (HI.out.1.later B2.out) HI.out.2.2.1 HI.out.2.2.2.2.1).mono ?_
  rintro e w3 ⟨d1, rfl, h3, hb3⟩
  have B3 : Hid (Below w.heap.size w w3 ∧ Own w2.heap.size w3 d1 (nds old)) := ⟨bstep B2.out hb3, h3⟩
  clear h3 hb3 B2
  go_wp2_with fail
  refine (ldirs_any (HI.out.2.1.later B3.out.1) HI.out.2.2.2.1 HI.out.2.2.2.2.2).mono ?_
  rintro e w4 ⟨d2, rfl, h4, hb4⟩
  have M4 : Hid (MkH w w4 vo vn d1 d2 old now) := ⟨bstep B3.out.1 hb4, HI.out.1.later (bstep B3.out.1 hb4), HI.out.2.1.later (bstep B3.out.1 hb4), ⟨_, B3.out.2.later hb4⟩, ⟨_, h4⟩⟩
  clear h4 hb4 B3
  go_wp2_with fail
  refine (lpaths_any M4.out.o (by have := HI.out.2.2.1; omega)).mono ?_
  rintro e w5 ⟨p1, rfl, h5, hb5⟩
  have M5 : Hid (MkH w w5 vo vn d1 d2 old now ∧ Own w4.heap.size w5 p1 (old.map Fl.path)) := ⟨M4.out.later hb5, h5⟩
  clear h5 hb5 M4
  go_wp2_with fail
  refine (lpaths_any M5.out.1.n (by have := HI.out.2.2.2.1; omega)).mono ?_
  rintro e w6 ⟨p2, rfl, h6, hb6⟩
  have M6 : Hid (MkH w w6 vo vn d1 d2 old now ∧ Own w4.heap.size w6 p1 (old.map Fl.path) ∧ Own w5.heap.size w6 p2 (now.map Fl.path)) := ⟨M5.out.1.later hb6, M5.out.2.later hb6, h6⟩
  clear h6 hb6 M5
  go_wp2_with fail
  refine (lwo_any M6.out.2.1.bs M6.out.2.2 (paths_sm HI.out.2.2.2.1 HI.out.2.2.2.2.2) (up_paths HQ.out.2.1) (paths_sm HI.out.2.2.1 HI.out.2.2.2.2.1)).mono ?_
  rintro e w7 ⟨q1, rfl, h7, hb7⟩
  have HF7 : Hid (Calls Tryz.prog 22 #[q1] w7 fun e w' => e = .returned q1 ∧ Own w6.heap.size w' q1 (woL (old.map Fl.path) (now.map Fl.path)).reverse ∧ Below w6.heap.size w7 w') := lfall_any h7 (by have := woL_len (old.map Fl.path) (now.map Fl.path); rw [List.length_map] at this; have := HI.out.2.2.1; omega) hb7.size
  have HB7 : Hid (Below w6.heap.size w6 w7) := hb7
  clear h7 hb7
  go_wp2_with fail
  refine HF7.out.mono ?_
  rintro e w8 ⟨rfl, h8, hb8⟩
  have hb68 := below_trans HB7.out hb8
  have M8 : Hid (MkH w w8 vo vn d1 d2 old now ∧ Own w6.heap.size w8 q1 (woL (old.map Fl.path) (now.map Fl.path)).reverse) := ⟨M6.out.1.later hb68, h8⟩
  clear h8 hb8 hb68 M6 HF7 HB7
  go_wp2_with fail
  refine (lsteps_any 1 M8.out.2.bs (by have := woL_len (old.map Fl.path) (now.map Fl.path); rw [List.length_map] at this; rw [List.length_reverse]; have := HI.out.2.2.1; omega)).mono ?_
  rintro e w9 ⟨s1, rfl, h9, hb9⟩
  have M9 : Hid (MkH w w9 vo vn d1 d2 old now ∧ PS w9 s1 ((woL (old.map Fl.path) (now.map Fl.path)).reverse.map sDel)) := ⟨M8.out.1.later hb9, h9.ps⟩
  clear h9 hb9 M8
  obtain ⟨bd2, hd2⟩ := M9.out.1.d2
  obtain ⟨bd1, hd1⟩ := M9.out.1.d1
  have HD : Hid (Own bd1 w9 d1 (nds old) ∧ Own bd2 w9 d2 (nds now)) := ⟨hd1, hd2⟩
  clear hd1 hd2
  go_wp2_with fail
  refine (lwo_any HD.out.1.bs HD.out.2 (nds_lenK HI.out.2.2.2.1 HI.out.2.2.2.2.2).1 (up_norm _) (nds_lenK HI.out.2.2.1 HI.out.2.2.2.2.1).1).mono ?_
  rintro e w10 ⟨q2, rfl, h10, hb10⟩
  have HF10 : Hid (Calls Tryz.prog 22 #[q2] w10 fun e w' => e = .returned q2 ∧ Own w9.heap.size w' q2 (woL (nds old) (nds now)).reverse ∧ Below w9.heap.size w10 w') := lfall_any h10 (by have := woL_len (nds old) (nds now); have := (nds_lenK HI.out.2.2.1 HI.out.2.2.2.2.1).2; omega) hb10.size
  have HB10 : Hid (Below w9.heap.size w9 w10) := hb10
  clear h10 hb10
  go_wp2_with fail
  refine HF10.out.mono ?_
  rintro e w11 ⟨rfl, h11, hb11⟩
  have hb911 := below_trans HB10.out hb11
  have M11 : Hid (MkH w w11 vo vn d1 d2 old now ∧ PS w11 s1 ((woL (old.map Fl.path) (now.map Fl.path)).reverse.map sDel) ∧ Own w9.heap.size w11 q2 (woL (nds old) (nds now)).reverse) := ⟨M9.out.1.later hb911, M9.out.2.later hb911, h11⟩
  clear h11 hb11 hb911 M9 HF10 HB10 HD
  go_wp2_with fail
  refine (lsteps_any 2 M11.out.2.2.bs (by have := woL_len (nds old) (nds now); have := (nds_lenK HI.out.2.2.1 HI.out.2.2.2.2.1).2; rw [List.length_reverse]; omega)).mono ?_
  rintro e w12 ⟨s2, rfl, h12, hb12⟩
  have M12 : Hid (MkH w w12 vo vn d1 d2 old now ∧ PS w12 s1 ((woL (old.map Fl.path) (now.map Fl.path)).reverse.map sDel) ∧ PS w12 s2 ((woL (nds old) (nds now)).reverse.map sRm)) := ⟨M11.out.1.later hb12, M11.out.2.1.later hb12, h12.ps⟩
  clear h12 hb12 M11
  obtain ⟨be2, he2⟩ := M12.out.1.d2
  obtain ⟨be1, he1⟩ := M12.out.1.d1
  have HE : Hid (Own be1 w12 d1 (nds old) ∧ Own be2 w12 d2 (nds now)) := ⟨he1, he2⟩
  clear he1 he2
  go_wp2_with fail
  refine (lwo_any HE.out.2.bs HE.out.1 (nds_lenK HI.out.2.2.1 HI.out.2.2.2.2.1).1 (up_norm _) (nds_lenK HI.out.2.2.2.1 HI.out.2.2.2.2.2).1).mono ?_
  rintro e w13 ⟨q3, rfl, h13, hb13⟩
  have M13 : Hid (MkH w w13 vo vn d1 d2 old now ∧ PS w13 s1 ((woL (old.map Fl.path) (now.map Fl.path)).reverse.map sDel) ∧ PS w13 s2 ((woL (nds old) (nds now)).reverse.map sRm) ∧ Own w12.heap.size w13 q3 (woL (nds now) (nds old))) := ⟨M12.out.1.later hb13, M12.out.2.1.later hb13, M12.out.2.2.later hb13, h13⟩
  clear h13 hb13 M12 HE
  go_wp2_with fail
  refine (lsteps_any 3 M13.out.2.2.2.bs (by have := woL_len (nds now) (nds old); have := (nds_lenK HI.out.2.2.2.1 HI.out.2.2.2.2.2).2; omega)).mono ?_
  rintro e w14 ⟨s3, rfl, h14, hb14⟩
  have M14 : Hid (MkH w w14 vo vn d1 d2 old now ∧ PS w14 s1 ((woL (old.map Fl.path) (now.map Fl.path)).reverse.map sDel) ∧ PS w14 s2 ((woL (nds old) (nds now)).reverse.map sRm) ∧ PS w14 s3 ((woL (nds now) (nds old)).map sMk)) := ⟨M13.out.1.later hb14, M13.out.2.1.later hb14, M13.out.2.2.1.later hb14, h14.ps⟩
  clear h14 hb14 M13
  go_wp2_with fail
  refine (lwrites_any M14.out.1.o M14.out.1.n HQ.out.1 HQ.out.2.2.1 HQ.out.2.2.2.1 HQ.out.2.2.2.2).mono ?_
  rintro e w15 ⟨s4, rfl, h15, hb15⟩
  have M15 : Hid (Below w.heap.size w w15 ∧ PS w15 s1 ((woL (old.map Fl.path) (now.map Fl.path)).reverse.map sDel) ∧ PS w15 s2 ((woL (nds old) (nds now)).reverse.map sRm) ∧ PS w15 s3 ((woL (nds now) (nds old)).map sMk) ∧ PS w15 s4 ((pW old now).map sWr)) := ⟨bstep M14.out.1.b hb15, M14.out.2.1.later hb15, M14.out.2.2.1.later hb15, M14.out.2.2.2.later hb15, h15.ps⟩
  clear h15 hb15 M14
  obtain ⟨a1, c1, e1⟩ := M15.out.2.1.form
  obtain ⟨a2, c2, e2⟩ := M15.out.2.2.1.form
  obtain ⟨a3, c3, e3⟩ := M15.out.2.2.2.1.form
  obtain ⟨a4, c4, e4⟩ := M15.out.2.2.2.2.form
  obtain ⟨z1, hz1⟩ : ∃ n, ((woL (old.map Fl.path) (now.map Fl.path)).reverse.map sDel).length = n := ⟨_, rfl⟩
  obtain ⟨z2, hz2⟩ : ∃ n, ((woL (nds old) (nds now)).reverse.map sRm).length = n := ⟨_, rfl⟩
  obtain ⟨z3, hz3⟩ : ∃ n, ((woL (nds now) (nds old)).map sMk).length = n := ⟨_, rfl⟩
  obtain ⟨z4, hz4⟩ : ∃ n, ((pW old now).map sWr).length = n := ⟨_, rfl⟩
  rw [hz1] at e1
  rw [hz2] at e2
  rw [hz3] at e3
  rw [hz4] at e4
  clear hz1 hz2 hz3 hz4
  subst e1 e2 e3 e4
  have HC : Hid (Calls Tryz.prog 20 #[.slice (some ⟨w15.heap.size, 0, none⟩) 4 4] (w15.alloc (.cells #[.slice a1 z1 c1, .slice a2 z2 c2, .slice a3 z3 c3, .slice a4 z4 c4] 23)) fun e w' => ∃ v, e = .returned v ∧ OwS (w15.alloc (.cells #[.slice a1 z1 c1, .slice a2 z2 c2, .slice a3 z3 c3, .slice a4 z4 c4] 23)).heap.size w' v (mkS old now) ∧ Below (w15.alloc (.cells #[.slice a1 z1 c1, .slice a2 z2 c2, .slice a3 z3 c3, .slice a4 z4 c4] 23)).heap.size (w15.alloc (.cells #[.slice a1 z1 c1, .slice a2 z2 c2, .slice a3 z3 c3, .slice a4 z4 c4] 23)) w') := by
    have hbl := balloc w15 (.cells #[.slice a1 z1 c1, .slice a2 z2 c2, .slice a3 z3 c3, .slice a4 z4 c4] 23)
    have hbk := heap_alloc_new w15 (.cells #[.slice a1 z1 c1, .slice a2 z2 c2, .slice a3 z3 c3, .slice a4 z4 c4] 23)
    obtain ⟨W, hW⟩ : ∃ W, w15.alloc (.cells #[.slice a1 z1 c1, .slice a2 z2 c2, .slice a3 z3 c3, .slice a4 z4 c4] 23) = W := ⟨_, rfl⟩
    rw [hW] at hbl hbk ⊢
    have hcon := lconcat_any (w := W) (g := w15.heap.size) (m := 4) (c := 4) [.slice a1 z1 c1, .slice a2 z2 c2, .slice a3 z3 c3, .slice a4 z4 c4] [(woL (old.map Fl.path) (now.map Fl.path)).reverse.map sDel, (woL (nds old) (nds now)).reverse.map sRm, (woL (nds now) (nds old)).map sMk, (pW old now).map sWr] (by rw [← hW]; simp) rfl rfl
      (fun i h => by
        have h4 : i < 4 := h
        rcases (show i = 0 ∨ i = 1 ∨ i = 2 ∨ i = 3 by omega) with rfl | rfl | rfl | rfl <;> simp [World.cell?, hbk])
      (fun i h h' => by
        have h4 : i < 4 := h
        rcases (show i = 0 ∨ i = 1 ∨ i = 2 ∨ i = 3 by omega) with rfl | rfl | rfl | rfl
        · exact M15.out.2.1.later hbl
        · exact M15.out.2.2.1.later hbl
        · exact M15.out.2.2.2.1.later hbl
        · exact M15.out.2.2.2.2.later hbl)
      (by rw [mkS_flat]; exact mkS_lenK HI.out.2.2.1 HI.out.2.2.2.1 HI.out.2.2.2.2.1 HI.out.2.2.2.2.2) (by omega)
    rw [mkS_flat] at hcon
    exact hcon
  go_wp2_with fail
  refine HC.out.mono ?_
  rintro e w16 ⟨v, rfl, h16, hb16⟩
  have HE : Hid (OwS w.heap.size w16 v (mkS old now) ∧ Below w.heap.size w w16) := by
    have hb := bstep M15.out.1 (balloc w15 (.cells #[.slice a1 z1 c1, .slice a2 z2 c2, .slice a3 z3 c3, .slice a4 z4 c4] 23))
    exact ⟨h16.mono hb.size, bstep hb hb16⟩
  clear h16 hb16
  go_wp2_with fail
  go_ret2
  exact ⟨_, rfl, HE.out.1, HE.out.2⟩
set_option maxHeartbeats 4000000 in
set_option maxRecDepth 100000 in
theorem lmake_any {w : World} {vo vn : Value} {old now : List Fl} (ho : FS w vo old) (hn : FS w vn now) (so : FSm old) (sn : FSm now) :
    Calls Tryz.prog 6 #[vo, vn] w fun e w' => ∃ v, e = .returned (.tuple #[v, .int .i64 (mkE old now)]) ∧ OwS w.heap.size w' v (if mkE old now = 0 then mkS old now else []) ∧ Below w.heap.size w w' := by
  by_cases h1 : validE old = 0
  · by_cases h2 : validE now = 0
    · have h0 := mke_zero.2 ⟨h1, h2⟩
      rw [h0, if_pos rfl]
      exact lmake_ok ho hn so sn h1 h2
    · have h0 : mkE old now = validE now := by unfold mkE; rw [if_pos h1]
      rw [h0, if_neg h2]
      have HV1 : Hid (∀ W, Below w.heap.size w W → Calls Tryz.prog 18 #[vo] W fun e w' => e = .returned (.int .i64 0) ∧ Below W.heap.size W w') := fun W h => by rw [← h1]; exact valid2_any (ho.later h) so
      obtain ⟨E, hE⟩ : ∃ E, validE now = E := ⟨_, rfl⟩
      rw [hE] at h2 ⊢
      have HV2 : Hid (∀ W, Below w.heap.size w W → Calls Tryz.prog 18 #[vn] W fun e w' => e = .returned (.int .i64 E) ∧ Below W.heap.size W w') := fun W h => by rw [← hE]; exact valid2_any (hn.later h) sn
      have h2b : (E == 0) = false := by simpa using h2
      clear ho hn so sn hE h1 h0
      go_enter Tryz.func6, Tryz.ntmps6
      go_wp2_with fail
      refine (HV1.out _ (Below.refl _ _)).mono ?_
      rintro e w1 ⟨rfl, hb1⟩
      have B1 : Hid (Below w.heap.size w w1) := hb1
      clear hb1 HV1
      go_wp2_with fail
      refine (HV2.out _ B1.out).mono ?_
      rintro e w2 ⟨rfl, hb2⟩
      have B2 : Hid (Below w.heap.size w w2) := bstep B1.out hb2
      clear hb2 HV2 B1
      go_wp2_with fail
      go_ret2
      exact ⟨_, rfl, OwS.nil _ _, B2.out⟩
  · have h0 : mkE old now = validE old := by unfold mkE; rw [if_neg h1]
    rw [h0, if_neg h1]
    obtain ⟨E, hE⟩ : ∃ E, validE old = E := ⟨_, rfl⟩
    rw [hE] at h1 ⊢
    have HV1 : Hid (∀ W, Below w.heap.size w W → Calls Tryz.prog 18 #[vo] W fun e w' => e = .returned (.int .i64 E) ∧ Below W.heap.size W w') := fun W h => by rw [← hE]; exact valid2_any (ho.later h) so
    have h2b : (E == 0) = false := by simpa using h1
    clear ho hn so sn hE h0
    go_enter Tryz.func6, Tryz.ntmps6
    go_wp2_with fail
    refine (HV1.out _ (Below.refl _ _)).mono ?_
    rintro e w1 ⟨rfl, hb1⟩
    have B1 : Hid (Below w.heap.size w w1) := hb1
    clear hb1 HV1
    go_wp2_with fail
    go_ret2
    exact ⟨_, rfl, OwS.nil _ _, B1.out⟩
end Go.Proofs.YtfdcfcalbongeaaGreat
