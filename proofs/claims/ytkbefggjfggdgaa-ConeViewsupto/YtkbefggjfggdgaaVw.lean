/-
  The law of ConeViews.
-/
import Derived.Test.YtkbefggjfggdgaaWd
namespace Go.Proofs.Ytkbefggjfggdgaa
open Go.RowKit

theorem FSm.sub {l p : List Fl} (h : FSm l) (hs : p.Sublist l) : FSm p := ⟨Nat.le_trans hs.length_le h.len, fun f hf => h.each f (hs.subset hf)⟩

theorem stepV {G n0 c0 n5 c5 n6 c6 : Nat} {w wi wj : World} {a0 a5 a6 : Option Addr} {v1 : Value} {l V U : List Fl} {k : List (List UInt8)} (h : (FS wi (.slice a0 n0 c0) l ∧ SS wi v1 k ∧ FS wi (.slice a5 n5 c5) V ∧ FS wi (.slice a6 n6 c6) U) ∧ Below G w wi) (hG : w.heap.size = G) (b : Below wi.heap.size wi wj) :
    (FS wj (.slice a0 n0 c0) l ∧ SS wj v1 k ∧ FS wj (.slice a5 n5 c5) V ∧ FS wj (.slice a6 n6 c6) U) ∧ Below G w wj := by
  have h2 := h.2.size
  exact ⟨⟨h.1.1.later b, h.1.2.1.later b, h.1.2.2.1.later b, h.1.2.2.2.later b⟩, below_trans h.2 (below_mono b (by omega))⟩
theorem filt_cut (p : Fl → Bool) (l : List Fl) (t : Nat) (h : t < l.length) (hp : p (l[t]'h) = true) : l.filter p = (l.take t).filter p ++ (l[t]'h :: (l.drop (t + 1)).filter p) := by
  have e := List.take_append_drop t l
  have e2 : l.filter p = (l.take t ++ l.drop t).filter p := by rw [e]
  rw [e2, List.filter_append, List.drop_eq_getElem_cons h, List.filter_cons_of_pos hp]
theorem filt_at (p : Fl → Bool) (l : List Fl) (t : Nat) (h : t < l.length) (hp : p (l[t]'h) = true) : ∃ hn : ((l.take t).filter p).length < (l.filter p).length, (l.filter p)[((l.take t).filter p).length]'hn = l[t]'h := by
  have e := filt_cut p l t h hp
  have hn : ((l.take t).filter p).length < (l.filter p).length := by rw [e, List.length_append, List.length_cons]; omega
  refine ⟨hn, ?_⟩
  rw [List.getElem_of_eq e, List.getElem_append_right (Nat.le_refl _)]
  simp
theorem filt_get (p : Fl → Bool) (l : List Fl) (t : Nat) (h : t < l.length) (hp : p (l[t]'h) = true) : (l.filter p)[((l.take t).filter p).length]? = some (l[t]'h) := by
  obtain ⟨hn, e⟩ := filt_at p l t h hp
  rw [List.getElem?_eq_getElem hn, e]
theorem filt_step (p : Fl → Bool) (l : List Fl) (t : Nat) (h : t < l.length) : ((l.take (t + 1)).filter p).length = ((l.take t).filter p).length + (if p (l[t]'h) then 1 else 0) := by
  rw [List.take_succ_eq_append_getElem h, List.filter_append, List.length_append]
  by_cases hp : p (l[t]'h) = true <;> simp [hp]

set_option maxRecDepth 100000 in
set_option maxHeartbeats 4000000 in
theorem views_law (C : CC) {w : World} {v0 v1 : Value} {l : List Fl} {k : List (List UInt8)} (hl : FS w v0 l) (sl : FSm l) (hk : SS w v1 k) (sk : Sm k) :
    Calls Try.prog 4 #[v0, v1] w fun e w' => e = .returned (.bool true) ∧ Below w.heap.size w w' := by
  have HC : Hid CC := C
  have H0 : Hid (FS w v0 l ∧ FSm l ∧ SS w v1 k ∧ Sm k) := ⟨hl, sl, hk, sk⟩
  obtain ⟨G, hG⟩ : ∃ G, w.heap.size = G := ⟨_, rfl⟩
  have hga : w.heap.size ≤ G := by omega
  clear hl sl hk sk C
  go_enter Try.func4, Try.ntmps4
  go_wp2_with fail
  refine (HC.out.view H0.out.1 H0.out.2.1 H0.out.2.2.1 H0.out.2.2.2).mono ?_
  rintro e w1 ⟨v5, rfl, o5, b5⟩
  obtain ⟨E, hE⟩ : ∃ E, (viw l k).2 = E := ⟨_, rfl⟩
  obtain ⟨V, hV⟩ : ∃ V, (viw l k).1 = V := ⟨_, rfl⟩
  rw [hV] at o5
  rw [hE]
  have herr := viw_err l k
  rw [hE, hV] at herr
  have HV : Hid (viw l k = (V, E)) := by show _ = _; rw [← hV, ← hE]
  clear hE hV
  have HB1 : Hid (Below G w w1) := by rw [← hG]; exact b5
  have hz1 : G ≤ w1.heap.size := by have := b5.size; omega
  have H1 : Hid (FS w1 v0 l ∧ SS w1 v1 k ∧ OwnF G w1 v5 V) := ⟨H0.out.1.later b5, H0.out.2.2.1.later b5, by rw [← hG]; exact o5⟩
  clear o5 b5
  go_wp2_with fail
  refine (alive_any HC.out _).mono ?_
  rintro e w2 ⟨rfl, b2⟩
  have HB2 : Hid (Below G w w2) := below_trans HB1.out (below_mono b2 hz1)
  have hz2 : G ≤ w2.heap.size := by have := b2.size; omega
  have H2 : Hid (FS w2 v0 l ∧ SS w2 v1 k ∧ OwnF G w2 v5 V) := ⟨H1.out.1.later b2, H1.out.2.1.later b2, H1.out.2.2.later b2⟩
  clear b2 H1 HB1
  go_wp2_with fail
  refine (num_any E _).mono ?_
  rintro e w2' ⟨rfl, e2⟩
  rw [e2]
  clear e2
  rcases herr with ⟨rfl, hok, hkk⟩ | ⟨hE, rfl, herr⟩
  · have HOK : Hid (validE l = 0 ∧ coneE k = 0) := ⟨hok, hkk⟩
    clear hok hkk
    go_wp2_with fail
    have hvk : V = l.filter fun f => shw k f.path := by
      have h1 := HV.out
      rw [viw_ok HOK.out.1 HOK.out.2] at h1
      exact (congrArg Prod.fst h1).symm
    have HVK : Hid (V = l.filter fun f => shw k f.path) := hvk
    have HSV : Hid (FSm V) := by show FSm V; rw [hvk]; exact H0.out.2.1.sub List.filter_sublist
    have HVA : Hid (viw V k = (V, 0)) := by show _ = _; rw [hvk]; exact viw_again HOK.out.1 HOK.out.2
    clear hvk
    refine (HC.out.view H2.out.2.2.fs HSV.out H2.out.2.1 H0.out.2.2.2).mono ?_
    rintro e w3 ⟨v7, rfl, o3, b3⟩
    rw [HVA.out] at o3 ⊢
    have HB3 : Hid (Below G w w3) := below_trans HB2.out (below_mono b3 hz2)
    have hz3 : G ≤ w3.heap.size := by have := b3.size; omega
    have H3 : Hid (FS w3 v0 l ∧ SS w3 v1 k ∧ FS w3 v5 V ∧ FS w3 v7 V) := ⟨H2.out.1.later b3, H2.out.2.1.later b3, H2.out.2.2.fs.later b3, o3.fs⟩
    clear o3 b3 H2 HB2 HVA
    obtain ⟨w4, hw4⟩ : ∃ w4, w3.alloc (.cells #[.string ⟨#[]⟩] 9) = w4 := ⟨_, rfl⟩
    have S4 : Hid (SS w4 (.slice (some ⟨w3.heap.size, 0, none⟩) 1 1) [[]] ∧ Below w3.heap.size w3 w4) := by
      rw [← hw4]; exact ⟨ss_lit w3 [[]] 1 rfl, balloc _ _⟩
    have hz4 : G ≤ w4.heap.size := by have := S4.out.2.size; omega
    go_wp2_with fail
    try rw [hw4]
    clear hw4
    refine (HC.out.view (H3.out.1.later S4.out.2) H0.out.2.1 S4.out.1 ⟨by simp, by simp⟩).mono ?_
    rintro e w5 ⟨v9, rfl, o5, b5⟩
    rw [viw_root HOK.out.1] at o5 ⊢
    have b35 : Below w3.heap.size w3 w5 := bstep S4.out.2 b5
    have HB5 : Hid (Below G w w5) := below_trans HB3.out (below_mono b35 hz3)
    have hz5 : G ≤ w5.heap.size := by have := b5.size; omega
    have H5 : Hid (FS w5 v0 l ∧ SS w5 v1 k ∧ FS w5 v5 V ∧ FS w5 v7 V ∧ FS w5 v9 l) := ⟨H3.out.1.later b35, H3.out.2.1.later b35, H3.out.2.2.1.later b35, H3.out.2.2.2.later b35, o5.fs⟩
    clear o5 b5 b35 H3 HB3 S4
    go_wp2_with fail
    refine (HC.out.view H5.out.1 H0.out.2.1 (ss_none _) ⟨by simp, by simp⟩).mono ?_
    rintro e w6 ⟨v11, rfl, o6, b6⟩
    rw [viw_none HOK.out.1] at o6 ⊢
    obtain ⟨U, hU⟩ : ∃ U, (l.filter fun f => decide (dir f.path = [])) = U := ⟨_, rfl⟩
    simp only [hU] at o6
    have HU : Hid (U = l.filter fun f => decide (dir f.path = [])) := hU.symm
    clear hU
    have HB6 : Hid (Below G w w6) := below_trans HB5.out (below_mono b6 hz5)
    have hz6 : G ≤ w6.heap.size := by have := b6.size; omega
    have H6 : Hid (FS w6 v0 l ∧ SS w6 v1 k ∧ FS w6 v5 V ∧ FS w6 v7 V ∧ FS w6 v9 l ∧ FS w6 v11 U) := ⟨H5.out.1.later b6, H5.out.2.1.later b6, H5.out.2.2.1.later b6, H5.out.2.2.2.1.later b6, H5.out.2.2.2.2.later b6, o6.fs⟩
    clear o6 b6 H5 HB5
    go_wp2_with fail
    refine (num_any _ _).mono ?_
    rintro e x1 ⟨rfl, e1⟩
    rw [e1]
    clear e1
    go_wp2_with fail
    refine (num_any _ _).mono ?_
    rintro e x2 ⟨rfl, e1⟩
    rw [e1]
    clear e1
    go_wp2_with fail
    refine (num_any _ _).mono ?_
    rintro e x3 ⟨rfl, e1⟩
    rw [e1]
    clear e1
    go_wp2_with fail
    refine (files_any H6.out.2.2.2.1 H6.out.2.2.1 HSV.out.len).mono ?_
    rintro e w7 ⟨rfl, b7⟩
    rw [(leq_iff V V).2 rfl]
    have HB7 : Hid (Below G w w7) := below_trans HB6.out (below_mono b7 hz6)
    have hz7 : G ≤ w7.heap.size := by have := b7.size; omega
    have H7 : Hid (FS w7 v0 l ∧ SS w7 v1 k ∧ FS w7 v5 V ∧ FS w7 v9 l ∧ FS w7 v11 U) := ⟨H6.out.1.later b7, H6.out.2.1.later b7, H6.out.2.2.1.later b7, H6.out.2.2.2.2.1.later b7, H6.out.2.2.2.2.2.later b7⟩
    clear b7 H6 HB6
    go_wp2_with fail
    refine (files_any H7.out.2.2.2.1 H7.out.1 H0.out.2.1.len).mono ?_
    rintro e w8 ⟨rfl, b8⟩
    rw [(leq_iff l l).2 rfl]
    have HB8 : Hid (Below G w w8) := below_trans HB7.out (below_mono b8 hz7)
    have hz8 : G ≤ w8.heap.size := by have := b8.size; omega
    have H8 : Hid (FS w8 v0 l ∧ SS w8 v1 k ∧ FS w8 v5 V ∧ FS w8 v11 U) := ⟨H7.out.1.later b8, H7.out.2.1.later b8, H7.out.2.2.1.later b8, H7.out.2.2.2.2.later b8⟩
    clear b8 H7 HB7
    obtain ⟨a0, c0, hv0⟩ : ∃ a c, v0 = .slice a l.length c := by obtain ⟨a, c, h, _⟩ := H8.out.1.form; exact ⟨a, c, h⟩
    obtain ⟨a5, c5, hv5⟩ : ∃ a c, v5 = .slice a V.length c := by obtain ⟨a, c, h, _⟩ := H8.out.2.2.1.form; exact ⟨a, c, h⟩
    obtain ⟨a6, c6, hv6⟩ : ∃ a c, v11 = .slice a U.length c := by obtain ⟨a, c, h, _⟩ := H8.out.2.2.2.form; exact ⟨a, c, h⟩
    obtain ⟨n0, hn0⟩ : ∃ n, l.length = n := ⟨_, rfl⟩
    obtain ⟨n5, hn5⟩ : ∃ n, V.length = n := ⟨_, rfl⟩
    obtain ⟨n6, hn6⟩ : ∃ n, U.length = n := ⟨_, rfl⟩
    rw [hn0] at hv0
    rw [hn5] at hv5
    rw [hn6] at hv6
    subst hv0 hv5 hv6
    have HN : Hid (n0 = l.length ∧ n5 = V.length ∧ n6 = U.length) := ⟨hn0.symm, hn5.symm, hn6.symm⟩
    have hnl : n0 ≤ 1000000000 := by rw [← hn0]; exact H0.out.2.1.len
    have hnv : n5 ≤ 1000000000 := by rw [← hn5]; exact HSV.out.len
    clear hn0 hn5 hn6
    go_wp2_with fail
    go_loopw [13, 14, 15] (fun n m i wi => ∃ t : Nat, t ≤ n0 ∧ i = .int .i64 t ∧ n = .int .i64 (((l.take t).filter fun f => shw k f.path).length : Nat) ∧ m = .int .i64 (((l.take t).filter fun f => decide (dir f.path = [])).length : Nat) ∧ (FS wi (.slice a0 n0 c0) l ∧ SS wi v1 k ∧ FS wi (.slice a5 n5 c5) V ∧ FS wi (.slice a6 n6 c6) U) ∧ Below G w wi) (fun _ _ i _ => n0 - (intOf i).toNat)
    case atStart => exact ⟨0, Nat.zero_le _, rfl, rfl, rfl, H8.out, HB8.out⟩
    case round =>
      obtain ⟨t, ht, rfl, rfl, rfl, hin⟩ := hrel
      have HI : Hid ((FS wr (.slice a0 n0 c0) l ∧ SS wr v1 k ∧ FS wr (.slice a5 n5 c5) V ∧ FS wr (.slice a6 n6 c6) U) ∧ Below G w wr) := hin
      have hz9 : G ≤ wr.heap.size := by have := hin.2.size; omega
      clear hin
      by_cases htl : t < n0
      · have ht2 : t < l.length := by have := HN.out.1; omega
        have hs1 := filt_step (fun f => shw k f.path) l t ht2
        have hs2 := filt_step (fun f => decide (dir f.path = [])) l t ht2
        have ha1 := filt_get (fun f => shw k f.path) l t ht2
        have ha2 := filt_get (fun f => decide (dir f.path = [])) l t ht2
        rw [← HVK.out] at ha1
        rw [← HU.out] at ha2
        have hfl := (H0.out.2.1.at ht2).path
        obtain ⟨g, o, ea, hg, d0, d1, d2, d3⟩ := FS.at (by have h := HI.out.1.1; rw [HN.out.1] at h; exact h) (Below.refl _ wr) ht2
        subst ea
        obtain ⟨f, hf⟩ : ∃ f, l[t]'ht2 = f := ⟨_, rfl⟩
        obtain ⟨p, tx, bl, sz⟩ := f
        obtain ⟨n1, hn1⟩ : ∃ n, ((l.take t).filter fun f => shw k f.path).length = n := ⟨_, rfl⟩
        obtain ⟨m1, hm1⟩ : ∃ n, ((l.take t).filter fun f => decide (dir f.path = [])).length = n := ⟨_, rfl⟩
        simp only [hf, hn1, hm1] at hs1 hs2 ha1 ha2 hfl d0
        rw [hn1, hm1]
        have HA : Hid ((shw k p = true → V[n1]? = some ⟨p, tx, bl, sz⟩) ∧ (dir p = [] → U[m1]? = some ⟨p, tx, bl, sz⟩)) := ⟨ha1, fun h => ha2 (decide_eq_true h)⟩
        have HT : Hid (((l.take (t + 1)).filter fun f => shw k f.path).length = n1 + (if shw k p then 1 else 0) ∧ ((l.take (t + 1)).filter fun f => decide (dir f.path = [])).length = m1 + (if decide (dir p = []) = true then 1 else 0)) := ⟨hs1, hs2⟩
        have HPL : Hid (p.length ≤ 1000000000) := hfl
        have hnu : n6 ≤ 1000000000 := by
          have h1 := HN.out.2.2
          have h2 : U.length ≤ l.length := by rw [HU.out]; exact List.length_filter_le _ _
          have h3 := H0.out.2.1.len
          omega
        clear hs1 hs2 ha1 ha2 hfl hn1 hm1 d1 d2 d3
        go_wp2_with fail
        refine (HC.out.shows p HI.out.1.2.1 H0.out.2.2.2 HPL.out).mono ?_
        rintro e w9 ⟨rfl, b9⟩
        have HI9 : Hid ((FS w9 (.slice (some ⟨g, o, none⟩) n0 c0) l ∧ SS w9 v1 k ∧ FS w9 (.slice a5 n5 c5) V ∧ FS w9 (.slice a6 n6 c6) U) ∧ Below G w w9) := ⟨⟨HI.out.1.1.later b9, HI.out.1.2.1.later b9, HI.out.1.2.2.1.later b9, HI.out.1.2.2.2.later b9⟩, below_trans HI.out.2 (below_mono b9 hz9)⟩
        clear b9 d0 HI
        obtain ⟨g9, o9, ea, hg9, d0, d1, d2, d3⟩ := FS.at (by have h := HI9.out.1.1; rw [HN.out.1] at h; exact h) (Below.refl _ w9) ht2
        injection ea with ea
        injection ea with e5 e6
        subst e5 e6
        rw [hf] at d0 d1 d2 d3
        simp only at d0 d1 d2 d3
        clear hf
        have t1 : (bs (dir p)).toList = dir p := bs_toList _
        have q1 := neq_run
        have q2 := fguard_run
        have q3 : feq ⟨p, tx, bl, sz⟩ ⟨p, tx, bl, sz⟩ = true := (feq_iff _ _).2 rfl
        cases hr1 : shw k p with
        | true =>
          have h5 := HA.out.1 hr1
          obtain ⟨hlt5, hat5⟩ := List.getElem?_eq_some_iff.1 h5
          obtain ⟨g5, o5, ea, hg5, y0, y1, y2, y3⟩ := FS.at (by have h := HI9.out.1.2.2.1; rw [HN.out.2.1] at h; exact h) (Below.refl _ w9) hlt5
          subst ea
          rw [hat5] at y0 y1 y2 y3
          simp only at y0 y1 y2 y3
          have hge : decide (n5 ≤ n1) = false := decide_eq_false (by have := HN.out.2.1; omega)
          have hgi : (n1 : Int) < (n5 : Int) := by have := HN.out.2.1; omega
          go_wp2_with fail
          go_quiet (fail)
          obtain ⟨w10, hw10⟩ : ∃ w10, w9.drewN nq = w10 := ⟨_, rfl⟩
          have HR1 : Hid (shw k p = true) := hr1
          have HI10 : Hid ((FS w10 (.slice (some ⟨g, o, none⟩) n0 c0) l ∧ SS w10 v1 k ∧ FS w10 (.slice (some ⟨g5, o5, none⟩) n5 c5) V ∧ FS w10 (.slice a6 n6 c6) U) ∧ Below G w w10) := by rw [← hw10]; exact stepV HI9.out hG (bd w9 nq)
          have z0 : w10.cell? ⟨g, o + t * 4, none⟩ = some (.string (bs p)) := by rw [← hw10]; exact d0
          have z1 : w10.cell? ⟨g, o + t * 4 + 1, none⟩ = some (.string (bs tx)) := by rw [← hw10]; exact d1
          have z2 : w10.cell? ⟨g, o + t * 4 + 2, none⟩ = some (.int .i64 bl) := by rw [← hw10]; exact d2
          have z3 : w10.cell? ⟨g, o + t * 4 + 3, none⟩ = some (.int .i64 sz) := by rw [← hw10]; exact d3
          rw [hw10]
          clear hw10 d0 d1 d2 d3 y0 y1 y2 y3 h5 hlt5 hat5 HI9 hr1 q1 q2
          go_wp2_with fail
          refine (dir_any p _ (by have := HPL.out; omega)).mono ?_
          rintro e x5 ⟨rfl, e5⟩
          rw [e5]
          clear e5
          by_cases hdp : dir p = []
          · have h6 := HA.out.2 hdp
            obtain ⟨hlt6, hat6⟩ := List.getElem?_eq_some_iff.1 h6
            obtain ⟨g6, o6, ea, hg6, u0', u1', u2', u3'⟩ := FS.at (by have h := HI10.out.1.2.2.2; rw [HN.out.2.2] at h; exact h) (Below.refl _ w10) hlt6
            subst ea
            rw [hat6] at u0' u1' u2' u3'
            simp only at u0' u1' u2' u3'
            have hge6 : decide (n6 ≤ m1) = false := decide_eq_false (by have := HN.out.2.2; omega)
            have hgi6 : (m1 : Int) < (n6 : Int) := by have := HN.out.2.2; omega
            have t6 : (dir p == []) = true := by rw [hdp]; rfl
            have HR2 : Hid (decide (dir p = []) = true) := decide_eq_true hdp
            have q1 := neq_run
            have q2 := fguard_run
            clear h6 hlt6 hat6 hdp
            go_wp2_with fail
            go_quiet (fail)
            have HX : Hid (_ ∧ Below G w (w10.drewN nq)) := stepV HI10.out hG (bd w10 nq)
            go_wp2_with fail
            go_roundw
            case rel => exact ⟨t + 1, by omega, by go_num, by rw [HT.out.1, HR1.out]; first | rfl | go_num | simp, by rw [HT.out.2, HR2.out]; first | rfl | go_num | simp, HX.out⟩
            case measure => simp [intOf]; omega
          · have t6 : (dir p == []) = false := by rw [beq_eq_false_iff_ne]; exact hdp
            have HR2 : Hid (decide (dir p = []) = false) := decide_eq_false hdp
            clear hdp
            go_wp2_with fail
            go_roundw
            case rel => exact ⟨t + 1, by omega, by go_num, by rw [HT.out.1, HR1.out]; first | rfl | go_num | simp, by rw [HT.out.2, HR2.out]; first | rfl | go_num | simp, HI10.out⟩
            case measure => simp [intOf]; omega
        | false =>
          have HR1 : Hid (shw k p = false) := hr1
          clear hr1 q1 q2
          go_wp2_with fail
          refine (dir_any p _ (by have := HPL.out; omega)).mono ?_
          rintro e x5 ⟨rfl, e5⟩
          rw [e5]
          clear e5
          by_cases hdp : dir p = []
          · have h6 := HA.out.2 hdp
            obtain ⟨hlt6, hat6⟩ := List.getElem?_eq_some_iff.1 h6
            obtain ⟨g6, o6, ea, hg6, u0', u1', u2', u3'⟩ := FS.at (by have h := HI9.out.1.2.2.2; rw [HN.out.2.2] at h; exact h) (Below.refl _ w9) hlt6
            subst ea
            rw [hat6] at u0' u1' u2' u3'
            simp only at u0' u1' u2' u3'
            have hge6 : decide (n6 ≤ m1) = false := decide_eq_false (by have := HN.out.2.2; omega)
            have hgi6 : (m1 : Int) < (n6 : Int) := by have := HN.out.2.2; omega
            have t6 : (dir p == []) = true := by rw [hdp]; rfl
            have HR2 : Hid (decide (dir p = []) = true) := decide_eq_true hdp
            have q1 := neq_run
            have q2 := fguard_run
            clear h6 hlt6 hat6 hdp
            go_wp2_with fail
            go_quiet (fail)
            have HX : Hid (_ ∧ Below G w (w9.drewN nq)) := stepV HI9.out hG (bd w9 nq)
            go_wp2_with fail
            go_roundw
            case rel => exact ⟨t + 1, by omega, by go_num, by rw [HT.out.1, HR1.out]; first | rfl | go_num | simp, by rw [HT.out.2, HR2.out]; first | rfl | go_num | simp, HX.out⟩
            case measure => simp [intOf]; omega
          · have t6 : (dir p == []) = false := by rw [beq_eq_false_iff_ne]; exact hdp
            have HR2 : Hid (decide (dir p = []) = false) := decide_eq_false hdp
            clear hdp
            go_wp2_with fail
            go_roundw
            case rel => exact ⟨t + 1, by omega, by go_num, by rw [HT.out.1, HR1.out]; first | rfl | go_num | simp, by rw [HT.out.2, HR2.out]; first | rfl | go_num | simp, HI9.out⟩
            case measure => simp [intOf]; omega
      · have hV1 : ((l.take t).filter fun f => shw k f.path).length = n5 := by
          rw [List.take_of_length_le (by have := HN.out.1; omega), ← HVK.out]; exact HN.out.2.1.symm
        have hU1 : ((l.take t).filter fun f => decide (dir f.path = [])).length = n6 := by
          rw [List.take_of_length_le (by have := HN.out.1; omega), ← HU.out]; exact HN.out.2.2.symm
        rw [hV1, hU1]
        clear hV1 hU1
        go_wp2_with fail
        refine (wider_any HC.out HI.out.1.1 H0.out.2.1 HI.out.1.2.1 H0.out.2.2.2 HI.out.1.2.2.1 HSV.out HOK.out.1 HOK.out.2 HVK.out).mono ?_
        rintro e x4 ⟨rfl, b4⟩
        have HB9 : Hid (Below G w x4) := below_trans HI.out.2 (below_mono b4 hz9)
        clear b4
        go_wp2_with fail
        go_ret
        exact ⟨rfl, by rw [hG]; exact HB9.out⟩
  · have hE1 : (E == 0) = false := by rw [beq_eq_false_iff_ne]; exact hE
    have hE2 : ¬ E = 0 := hE
    have HER : Hid (E = validE l ∨ E = 13 ∧ coneE k = 13) := herr
    obtain ⟨a5, c5, rfl⟩ := H2.out.2.2.form
    have hl0 : ([] : List Fl).length = 0 := rfl
    rw [hl0]
    clear herr hl0
    go_wp2_with fail
    refine (valid2_any H2.out.1 H0.out.2.1).mono ?_
    rintro e w3 ⟨rfl, b3⟩
    have HB3 : Hid (Below G w w3) := below_trans HB2.out (below_mono b3 hz2)
    have hz3 : G ≤ w3.heap.size := by have := b3.size; omega
    have H3 : Hid (SS w3 v1 k) := H2.out.2.1.later b3
    clear b3
    go_wp2_with fail
    refine (num_any _ _).mono ?_
    rintro e w3' ⟨rfl, e3⟩
    rw [e3]
    clear e3
    go_wp2_with fail
    refine (num_any _ _).mono ?_
    rintro e w3'' ⟨rfl, e3⟩
    rw [e3]
    clear e3
    obtain ⟨vE, hvE⟩ : ∃ vE, validE l = vE := ⟨_, rfl⟩
    rw [hvE] at HER ⊢
    by_cases hve : vE = E
    · subst hve
      go_wp2_with fail
      go_ret
      exact ⟨rfl, by rw [hG]; exact HB3.out⟩
    · have hve2 : (vE == E) = false := by rw [beq_eq_false_iff_ne]; exact hve
      have h13 : E = 13 ∧ coneE k = 13 := by
        rcases HER.out with h | h
        · exact absurd h.symm hve
        · exact h
      obtain ⟨rfl, h13⟩ := h13
      have HK13 : Hid (coneE k = 13) := h13
      clear h13
      go_wp2_with fail
      refine (num_any _ _).mono ?_
      rintro e w4 ⟨rfl, e4⟩
      rw [e4]
      clear e4
      go_wp2_with fail
      refine (HC.out.valid H3.out H0.out.2.2.2).mono ?_
      rintro e w5 ⟨rfl, b5⟩
      rw [HK13.out]
      have HB5 : Hid (Below G w w5) := below_trans HB3.out (below_mono b5 hz3)
      clear b5
      go_wp2_with fail
      refine (num_any _ _).mono ?_
      rintro e w6 ⟨rfl, e6⟩
      rw [e6]
      clear e6
      go_wp2_with fail
      go_ret
      exact ⟨rfl, by rw [hG]; exact HB5.out⟩
end Go.Proofs.Ytkbefggjfggdgaa
