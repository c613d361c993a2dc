/-
  The document's cones: Shows, View, Cover; files in new memory with marks behind them.
-/
import Derived.Test.YtkbefggjfggdgaaGreatRv
import Derived.Test.YtkbefggjfggdgaaGreatZe
namespace Go.Proofs.YtkbefggjfggdgaaGreat
open Go.RowKit

def mklentF (n : Nat) : List Fl := (List.range n).map fun (i : Nat) => (⟨[63], [], (i : Int), 0⟩ : Fl)
theorem mklentF_succ (k : Nat) : mklentF (k + 1) = mklentF k ++ [(⟨[63], [], (k : Int), 0⟩ : Fl)] := by
  unfold mklentF
  rw [List.range_succ, List.map_append]; rfl
theorem mklentF_len (k : Nat) : (mklentF k).length = k := by simp [mklentF]
def lentF (l : List Fl) : List Fl := l ++ mklentF 20
theorem lentF_len (l : List Fl) : (lentF l).length = l.length + 20 := by unfold lentF; rw [List.length_append, mklentF_len]
theorem FS.front {w : World} {b off n c : Nat} {l m : List Fl} (h : FS w (.slice (some ⟨b, off, none⟩) n c) (l ++ m)) : FS w (.slice (some ⟨b, off, none⟩) l.length c) l := by
  rcases h with ⟨_, h0⟩ | ⟨b', off', cap, e, hc, hlt, hcell⟩
  · have : l = [] := (List.append_eq_nil_iff.1 h0).1
    subst this; exact .inl ⟨⟨_, _, rfl⟩, rfl⟩
  · injection e with e1 e2 e3
    injection e1 with e1
    injection e1 with e4 e5
    subst e3 e4 e5
    refine .inr ⟨b, off, c, rfl, by rw [List.length_append] at hc; omega, hlt, fun i u hu => hcell i u ?_⟩
    rw [fc_append]
    rw [List.getElem?_append_left (by exact (List.getElem?_eq_some_iff.1 hu).1)]; exact hu
set_option maxRecDepth 100000 in
set_option maxHeartbeats 4000000 in
theorem lentF_any {w : World} {v : Value} {l : List Fl} (h : FS w v l) (hl : l.length ≤ 2097152) :
    Calls Tryz.prog 5 #[v] w fun e w' => ∃ g c, e = .returned (.slice (some ⟨g, 0, none⟩) (l.length + 20) c) ∧ l.length + 20 ≤ c ∧ OwnF w.heap.size w' (.slice (some ⟨g, 0, none⟩) (l.length + 20) c) (lentF l) ∧ Below w.heap.size w w' := by
  have H : Hid (FS w v l) := h
  have HLn : Hid (l.length ≤ 2097152) := hl
  obtain ⟨a, c, hv⟩ : ∃ a c, v = .slice a l.length c := by obtain ⟨a, c, h, _⟩ := h.form; exact ⟨a, c, h⟩
  obtain ⟨n, hn⟩ : ∃ n, l.length = n := ⟨_, rfl⟩
  rw [hn] at hv
  subst hv
  have HN : Hid (l.length = n) := hn
  clear h hn hl
  have hlast : Hid (∀ (w' : World) (u : Value), OwnF w.heap.size w' u (l ++ mklentF 20) → ∃ g c, u = .slice (some ⟨g, 0, none⟩) (l.length + 20) c ∧ l.length + 20 ≤ c ∧ OwnF w.heap.size w' (.slice (some ⟨g, 0, none⟩) (l.length + 20) c) (lentF l)) := fun w' u ho => by
    have e : (l ++ mklentF 20).length = l.length + 20 := lentF_len l
    rcases ho.2 with ⟨rfl, h0⟩ | ⟨g, cap, cur, hu, hb, hg, hn, _⟩
    · omega
    · rw [e] at hu hn
      exact ⟨g, cap, hu, hn, hu ▸ ho⟩
  go_enter Tryz.func5, Tryz.ntmps5
  go_wp2_with (first | (at_builtin; refine app_files (base := w.heap.size) (l := []) (k := l) (OwnF.nil _ _) H.out.src (by have := HLn.out; simp; omega) (Nat.le_refl _) rfl (.tmp 5) (.tmp 6) rfl rfl rfl ?_; intro v1 w1 ho1 hg1 hv1))
  have HO1 : Hid (OwnF w.heap.size w1 v1 (l ++ mklentF 0)) := by show OwnF _ _ _ _; simpa [mklentF] using ho1
  have HB1 : Hid (Below w.heap.size w w1) := (Below.refl _ _).grown hg1 (Nat.le_refl _) (by intro k hk; cases hk)
  clear ho1 hg1 hv1
  go_wp2_with fail
  go_loopw [3, 4] (fun o i wr => ∃ k : Nat, k ≤ 20 ∧ i = .int .i64 k ∧ OwnF w.heap.size wr o (l ++ mklentF k) ∧ Below w.heap.size w wr) (fun _ i _ => 20 - (intOf i).toNat)
  case atStart => exact ⟨0, by omega, rfl, HO1.out, HB1.out⟩
  case round =>
    obtain ⟨k, hk, rfl, ho, hb⟩ := hrel
    have HO : Hid (OwnF w.heap.size wr u3 (l ++ mklentF k)) := ho
    have HB : Hid (Below w.heap.size w wr) := hb
    clear ho hb
    by_cases hlt : k < 20
    · have k2 : (k : Int) < 20 := by omega
      have HT : Hid (l ++ mklentF (k + 1) = (l ++ mklentF k) ++ [(⟨[63], [], (k : Int), 0⟩ : Fl)]) := by show _ = _; rw [mklentF_succ, List.append_assoc]
      have HZ : Hid ((l ++ mklentF k).length ≤ 2097172) := by show _ ≤ _; rw [List.length_append, mklentF_len]; have := HLn.out; omega
      generalize l ++ mklentF k = I at *
      go_wp2_with (first | (at_builtin; refine app_files (base := w.heap.size) (l := I) (k := [(⟨[63], [], (k : Int), 0⟩ : Fl)]) (HO.out.later (balloc _ _)) (src_file wr (⟨[63], [], (k : Int), 0⟩ : Fl)) (by have := HZ.out; simp; omega) (by have := HB.out.size; simp; omega) rfl (.tmp 12) (.tmp 15) rfl rfl rfl ?_; intro v2 w2 ho2 hg2 hv2))
      have H2 : Hid (OwnF w.heap.size w2 v2 (I ++ [(⟨[63], [], (k : Int), 0⟩ : Fl)]) ∧ Below w.heap.size w w2) := ⟨ho2, (bstep HB.out (balloc _ _)).grown hg2 (by have := HB.out.size; simp; omega) (fun k hk => (HO.out.lt hk).1)⟩
      clear ho2 hg2 hv2
      go_wp2_with fail
      go_roundw
      case rel => exact ⟨k + 1, by omega, by go_num, by rw [HT.out]; exact H2.out.1, H2.out.2⟩
      case measure => simp [intOf]; omega
    · obtain rfl : k = 20 := by omega
      obtain ⟨g, c', hu, hc, ho⟩ := hlast.out wr u3 HO.out
      have HF : Hid (l.length + 20 ≤ c' ∧ OwnF w.heap.size wr (.slice (some ⟨g, 0, none⟩) (l.length + 20) c') (lentF l)) := ⟨hc, ho⟩
      clear hc ho HO
      subst hu
      go_wp2_with fail
      go_ret
      exact ⟨g, c', rfl, HF.out.1, HF.out.2, HB.out⟩

set_option maxRecDepth 100000 in
set_option maxHeartbeats 4000000 in
theorem rcshows_any {w : World} {v : Value} {k : List (List UInt8)} (p : List UInt8) (h : SS w v k) (sm : Sm k) (hp : p.length ≤ 1000000000) :
    Calls Tryz.prog 14 #[v, .string (bs p)] w fun e w' => e = .returned (.bool (shw k p)) ∧ Below w.heap.size w w' := by
  obtain ⟨a, c, n, hn, rfl, ca⟩ := h.form'
  have CA : Hid (∀ q, (hq : q < k.length) → ∃ b off, a = some ⟨b, off, none⟩ ∧ b < w.heap.size ∧ w.cell? ⟨b, off + q, none⟩ = some (.string (bs k[q]))) := ca
  have HN : Hid (n = k.length) := hn
  have HS : Hid (Sm k) := sm
  have hnl : n ≤ 4000000 := by rw [hn]; exact sm.len
  clear ca h hn sm
  obtain ⟨d, hd⟩ : ∃ d, dir p = d := ⟨_, rfl⟩
  have hdl : d.length ≤ 1000000000 := by rw [← hd]; have := dlen p; omega
  have HR : Hid (∀ W, Calls Tryz.prog 35 #[.string (bs p)] W fun e w' => e = .returned (.string (bs d)) ∧ w' = W) := fun W => by rw [← hd]; exact rdir_any p W (by omega)
  unfold shw
  rw [hd]
  clear hd hp
  have HDL : Hid (d.length ≤ 1000000000) := hdl
  clear hdl
  have t1 : (bs d).toList = d := bs_toList _
  by_cases h0 : d = []
  · subst h0
    have e1 : shD k [] = true := by simp [shD]
    rw [e1]
    have e2 : (bs []).toList.isEmpty = true := by rw [bs_toList]; rfl
    go_enter Tryz.func14, Tryz.ntmps14
    go_wp2_with fail
    refine (HR.out _).mono ?_
    rintro e w1 ⟨rfl, rfl⟩
    go_wp2_with fail
    go_ret
    exact ⟨rfl, Below.refl _ _⟩
  · have e2 : d.isEmpty = false := by cases d with
      | nil => exact absurd rfl h0
      | cons x r => rfl
    obtain ⟨R, hRR⟩ : ∃ R, shD k d = R := ⟨_, rfl⟩
    have HRR : Hid (k.any (fun c => decide (d = c) || abvV c d || abvV d c) = R) := by
      show _ = _
      rw [← hRR]; unfold shD; simp [h0]
    rw [hRR]
    clear hRR h0
    go_enter Tryz.func14, Tryz.ntmps14
    go_wp2_with fail
    refine (HR.out _).mono ?_
    rintro e w1 ⟨rfl, rfl⟩
    go_wp2_with fail
    go_loopw [6] (fun i wr => ∃ t : Nat, t ≤ n ∧ i = .int .i64 t ∧ (k.drop t).any (fun c => decide (d = c) || abvV c d || abvV d c) = R ∧ Below w1.heap.size w1 wr) (fun i _ => n - (intOf i).toNat)
    case atStart => exact ⟨0, Nat.zero_le _, rfl, HRR.out, Below.refl _ _⟩
    case round =>
      obtain ⟨t, ht, rfl, hany, hb⟩ := hrel
      have HA : Hid ((k.drop t).any (fun c => decide (d = c) || abvV c d || abvV d c) = R) := hany
      have HB : Hid (Below w1.heap.size w1 wr) := hb
      clear hany hb
      by_cases hlt : t < n
      · have hlt2 : t < k.length := by have := HN.out; omega
        obtain ⟨g1, o1, rfl, hg1, c1⟩ := CA.out t hlt2
        have hql : (k[t]'hlt2).length ≤ 1000000000 := HS.out.at hlt2
        have hany := HA.out
        rw [List.drop_eq_getElem_cons hlt2, List.any_cons] at hany
        obtain ⟨q, hq⟩ : ∃ q, k[t]'hlt2 = q := ⟨_, rfl⟩
        rw [hq] at c1 hql hany
        obtain ⟨r1, hr1⟩ : ∃ r, abvV q d = r := ⟨_, rfl⟩
        obtain ⟨r2, hr2⟩ : ∃ r, abvV d q = r := ⟨_, rfl⟩
        have H1 : Hid (∀ W, Calls Tryz.prog 33 #[.string (bs q), .string (bs d)] W fun e w' => e = .returned (.bool r1) ∧ Below W.heap.size W w') := fun W => by rw [← hr1, abvV_eq]; exact rabove_any q d W hql HDL.out
        have H2 : Hid (∀ W, Calls Tryz.prog 33 #[.string (bs d), .string (bs q)] W fun e w' => e = .returned (.bool r2) ∧ Below W.heap.size W w') := fun W => by rw [← hr2, abvV_eq]; exact rabove_any d q W HDL.out hql
        rw [hr1, hr2] at hany
        have HAN : Hid ((decide (d = q) || r1 || r2 || (k.drop (t + 1)).any fun c => decide (d = c) || abvV c d || abvV d c) = R) := by show _ = _; rw [← hany]
        have HG1 : Hid (g1 < w1.heap.size ∧ w1.cell? ⟨g1, o1 + t, none⟩ = some (.string (bs q))) := ⟨hg1, c1⟩
        have hct : wr.cell? ⟨g1, o1 + t, none⟩ = some (.string (bs q)) := (HB.out.cell (p := ⟨g1, o1 + t, none⟩) hg1).trans c1
        have i1 : (0 : Int) ≤ (t : Int) := by omega
        have i2 : (t : Int) < (n : Int) := by omega
        have t2 : (bs q).toList = q := bs_toList _
        clear hany hr1 hr2 c1 hql hg1
        by_cases hdq : d = q
        · have t3 : (d == q) = true := by simpa using hdq
          have hRt : true = R := by rw [← HAN.out, decide_eq_true hdq]; simp
          subst hRt
          have t4 : (bs q).toList = d := by rw [bs_toList, hdq]
          clear hdq t2
          go_wp2_with fail
          go_ret
          exact ⟨rfl, HB.out⟩
        · have t3 : (d == q) = false := by simpa using hdq
          have HAN2 : Hid ((r1 || r2 || (k.drop (t + 1)).any fun c => decide (d = c) || abvV c d || abvV d c) = R) := by
            show _ = _
            rw [← HAN.out, decide_eq_false hdq, Bool.false_or]
          clear hdq
          go_wp2_with fail
          refine (H1.out _).mono ?_
          rintro e w2 ⟨rfl, hb2⟩
          have HB2 : Hid (Below w1.heap.size w1 w2) := bstep HB.out hb2
          clear hb2
          cases r1
          · have hct2 : w2.cell? ⟨g1, o1 + t, none⟩ = some (.string (bs q)) := (HB2.out.cell (p := ⟨g1, o1 + t, none⟩) HG1.out.1).trans HG1.out.2
            clear hct
            go_wp2_with fail
            refine (H2.out _).mono ?_
            rintro e w3 ⟨rfl, hb3⟩
            have HB3 : Hid (Below w1.heap.size w1 w3) := bstep HB2.out hb3
            clear hb3 hct2
            cases r2
            · go_wp2_with fail
              go_roundw
              case rel => exact ⟨t + 1, by omega, by go_num, by have := HAN2.out; simpa using this, HB3.out⟩
              case measure => simp [intOf]; omega
            · have hRt : true = R := by rw [← HAN2.out]; simp
              subst hRt
              go_wp2_with fail
              go_ret
              exact ⟨rfl, HB3.out⟩
          · have hRt : true = R := by rw [← HAN2.out]; simp
            subst hRt
            clear hct
            go_wp2_with fail
            go_ret
            exact ⟨rfl, HB2.out⟩
      · have hlt2 : ¬ (t : Int) < (n : Int) := by omega
        have hRt : false = R := by rw [← HA.out, List.drop_eq_nil_of_le (by have := HN.out; omega)]; rfl
        subst hRt
        go_wp2_with fail
        go_ret
        exact ⟨rfl, HB.out⟩
set_option maxRecDepth 100000 in
set_option maxHeartbeats 1000000 in
theorem rccover_any {w : World} {v : Value} {L : List (List UInt8)} (h : SS w v L) (sm : Sm L) : Calls Tryz.prog 18 #[v] w fun e w' => ∃ v', e = .returned v' ∧ Own w.heap.size w' v' (cov L) ∧ Below w.heap.size w w' := by
  have H : Hid (SS w v L ∧ Sm L) := ⟨h, sm⟩
  clear h sm
  go_enter Tryz.func18, Tryz.ntmps18
  go_wp2_with fail
  refine (rdirs_any H.out.1 H.out.2).mono ?_
  rintro e w1 ⟨v1, rfl, ho1, hb1⟩
  obtain ⟨w2, hw2⟩ : ∃ w2, w1.alloc (.cells #[.string ⟨#[]⟩] 9) = w2 := ⟨_, rfl⟩
  have H2 : Hid (w1.alloc (.cells #[.string ⟨#[]⟩] 9) = w2 ∧ SS w2 v1 (drs L) ∧ SS w2 (.slice (some ⟨w1.heap.size, 0, none⟩) 1 1) [[]] ∧ Below w.heap.size w w2) := by
    have b2 : Below w1.heap.size w1 w2 := by rw [← hw2]; exact balloc _ _
    exact ⟨hw2, ho1.bs.later b2, by rw [← hw2]; exact ss_lit w1 [[]] 1 rfl, bstep hb1 b2⟩
  clear ho1 hb1 hw2
  go_wp2_with fail
  rw [H2.out.1]
  refine (rminus_any H2.out.2.1 H2.out.2.2.1 (drs_sm H.out.2) ⟨by simp, by simp⟩).mono ?_
  rintro e w3 ⟨v3, rfl, ho3, hb3⟩
  have H3 : Hid (SS w3 v3 (som (drs L) [[]] false) ∧ Below w.heap.size w w3) := ⟨ho3.bs, bstep H2.out.2.2.2 hb3⟩
  clear ho3 hb3
  go_wp2_with fail
  refine (rheads_any H3.out.1 ((drs_sm H.out.2).som _)).mono ?_
  rintro e w4 ⟨v4, rfl, ho4, hb4⟩
  rw [norm_up (up_som _ _ _)] at ho4
  have H4 : Hid (Own w.heap.size w4 v4 (cov L) ∧ Below w.heap.size w w4) := ⟨ho4.mono H3.out.2.size, bstep H3.out.2 hb4⟩
  clear ho4 hb4
  go_wp2_with fail
  go_ret
  exact ⟨v4, rfl, H4.out.1, H4.out.2⟩
theorem filt_snoc {α : Type} (P : α → Bool) (l : List α) (t : Nat) (h : t < l.length) : (l.take (t + 1)).filter P = (l.take t).filter P ++ (if P (l[t]'h) = true then [l[t]'h] else []) := by
  rw [List.take_succ_eq_append_getElem h, List.filter_append]
  congr 1
  by_cases hc : P l[t] = true
  · rw [if_pos hc, List.filter_cons, if_pos hc]; rfl
  · rw [if_neg hc, List.filter_cons, if_neg hc]; rfl
set_option maxRecDepth 100000 in
set_option maxHeartbeats 4000000 in
theorem rcview_any {w : World} {v u : Value} {l : List Fl} {k : List (List UInt8)} (h : FS w v l) (hl : l.length ≤ 4000000) (hf : ∀ f ∈ l, Fok f) (hpl : ∀ f ∈ l, f.path.length ≤ 100000000) (hu : SS w u k) (sk : Sm k) :
    Calls Tryz.prog 8 #[v, u] w fun e w' => ∃ v', e = .returned (.tuple #[v', .int .i64 (viw l k).2]) ∧ OwnF w.heap.size w' v' (viw l k).1 ∧ Below w.heap.size w w' := by
  have H : Hid (FS w v l ∧ (l.length ≤ 4000000 ∧ (∀ f ∈ l, Fok f) ∧ ∀ f ∈ l, f.path.length ≤ 100000000) ∧ SS w u k ∧ Sm k) := ⟨h, ⟨hl, hf, hpl⟩, hu, sk⟩
  obtain ⟨ad, c, e0⟩ : ∃ a c, v = .slice a l.length c := by obtain ⟨a, c, h, _⟩ := h.form; exact ⟨a, c, h⟩
  obtain ⟨n, hn⟩ : ∃ n, l.length = n := ⟨_, rfl⟩
  rw [hn] at e0 hl
  subst e0
  have HN : Hid (l.length = n) := hn
  clear h hf hpl hu sk hn
  obtain ⟨z, hz⟩ : ∃ z, validE l = z := ⟨_, rfl⟩
  have HS : Hid (∀ {W : World}, FS W (.slice ad n c) l → Calls Tryz.prog 24 #[.slice ad n c] W fun e w' => e = .returned (.int .i64 z) ∧ Below W.heap.size W w') := by
    intro W hW; rw [← hz]; exact rsnap13_any hW H.out.2.1
  by_cases hz0 : z = 0
  · subst hz0
    obtain ⟨y, hy⟩ : ∃ y, coneE k = y := ⟨_, rfl⟩
    have HV : Hid (∀ {W : World}, SS W u k → Calls Tryz.prog 12 #[u] W fun e w' => e = .returned (.int .i64 y) ∧ Below W.heap.size W w') := by
      intro W hW; rw [← hy]; exact rcvalid_any hW H.out.2.2.2
    by_cases hy0 : y = 0
    · subst hy0
      rw [viw_ok hz hy]
      clear hz hy
      go_enter Tryz.func8, Tryz.ntmps8
      go_wp2_with fail
      refine (HS.out H.out.1).mono ?_
      rintro e w1 ⟨rfl, hb1⟩
      have HB1 : Hid (Below w.heap.size w w1) := hb1
      clear hb1
      go_wp2_with fail
      refine (HV.out (H.out.2.2.1.later HB1.out)).mono ?_
      rintro e w2 ⟨rfl, hb2⟩
      have HB2 : Hid (Below w.heap.size w w2) := bstep HB1.out hb2
      clear hb2
      go_wp2_with fail
      go_loopw [7, 8] (fun o i wr => ∃ t : Nat, t ≤ n ∧ i = .int .i64 t ∧ OwnF w.heap.size wr o ((l.take t).filter fun f => shw k f.path) ∧ Below w.heap.size w wr) (fun _ i _ => n - (intOf i).toNat)
      case atStart => exact ⟨0, Nat.zero_le _, rfl, OwnF.nil _ _, HB2.out⟩
      case round =>
        obtain ⟨t, ht, rfl, ho, hb⟩ := hrel
        have HB : Hid (Below w.heap.size w wr) := hb
        have hsz := hb.size
        by_cases hlt : t < n
        · have hlt2 : t < l.length := by have := HN.out; omega
          have hsn := filt_snoc (fun f => shw k f.path) l t hlt2
          obtain ⟨g, o, ea, hg, d0, d1, d2, d3⟩ := FS.at (by have h := H.out.1; rw [← HN.out] at h; exact h) (Below.refl _ w) hlt2
          subst ea
          have hpl : (l[t]'hlt2).path.length ≤ 100000000 := H.out.2.1.2.2 _ (List.getElem_mem hlt2)
          obtain ⟨f, hf⟩ : ∃ f, l[t]'hlt2 = f := ⟨_, rfl⟩
          rw [hf] at d0 d1 d2 d3 hsn hpl
          obtain ⟨p, tx, bl, sz⟩ := f
          simp only at d0 d1 d2 d3 hsn hpl
          have HD : Hid (∀ {W : World}, Below w.heap.size w W → W.cell? ⟨g, o + t * 4, none⟩ = some (.string (bs p)) ∧ W.cell? ⟨g, o + t * 4 + 1, none⟩ = some (.string (bs tx)) ∧ W.cell? ⟨g, o + t * 4 + 2, none⟩ = some (.int .i64 bl) ∧ W.cell? ⟨g, o + t * 4 + 3, none⟩ = some (.int .i64 sz)) := by
            intro W hW
            exact ⟨(hW.cell (p := ⟨g, o + t * 4, none⟩) hg).trans d0, (hW.cell (p := ⟨g, o + t * 4 + 1, none⟩) hg).trans d1, (hW.cell (p := ⟨g, o + t * 4 + 2, none⟩) hg).trans d2, (hW.cell (p := ⟨g, o + t * 4 + 3, none⟩) hg).trans d3⟩
          obtain ⟨I, hI⟩ : ∃ I, (l.take t).filter (fun f => shw k f.path) = I := ⟨_, rfl⟩
          have hIl : I.length ≤ 4000000 := by
            rw [← hI]
            have h1 := List.length_filter_le (fun f : Fl => shw k f.path) (l.take t)
            rw [List.length_take] at h1
            omega
          rw [hI] at ho hsn
          obtain ⟨b, hbb⟩ : ∃ b, shw k p = b := ⟨_, rfl⟩
          rw [hbb] at hsn
          have HO : Hid (OwnF w.heap.size wr u7 I ∧ I.length ≤ 4000000) := ⟨ho, hIl⟩
          have HSN : Hid ((l.take (t + 1)).filter (fun f => shw k f.path) = I ++ (if b = true then [⟨p, tx, bl, sz⟩] else [])) := hsn
          have HSH : Hid (∀ {W : World}, SS W u k → Calls Tryz.prog 14 #[u, .string (bs p)] W fun e w' => e = .returned (.bool b) ∧ Below W.heap.size W w') := by
            intro W hW; rw [← hbb]; exact rcshows_any p hW H.out.2.2.2 (by omega)
          have i1 : (0 : Int) ≤ (t : Int) := by omega
          have i2 : (t : Int) < (n : Int) := by omega
          have d0' := (HD.out HB.out).1
          clear hb ho hsn hI hIl hbb d0 d1 d2 d3 hf hpl hg
          go_wp2_with fail
          refine (HSH.out (H.out.2.2.1.later HB.out)).mono ?_
          rintro e w3 ⟨rfl, hb3⟩
          have HB3 : Hid (Below w.heap.size w w3 ∧ OwnF w.heap.size w3 u7 I) := ⟨bstep HB.out hb3, HO.out.1.later hb3⟩
          clear hb3 d0'
          cases b
          · go_wp2_with fail
            go_roundw
            case rel => exact ⟨t + 1, by omega, by go_num, by rw [HSN.out]; simpa using HB3.out.2, HB3.out.1⟩
            case measure => simp [intOf]; omega
          · obtain ⟨f0, f1, f2, f3⟩ := HD.out HB3.out.1
            have hsz3 := HB3.out.1.size
            go_wp2_with (first | (at_builtin; refine app_files (base := w.heap.size) (l := I) (k := [(⟨p, tx, bl, sz⟩ : Fl)]) (HB3.out.2.later (balloc _ _)) (src_file w3 (⟨p, tx, bl, sz⟩ : Fl)) (by have := HO.out.2; simp; omega) (by simp; omega) rfl (.tmp 30) (.tmp 35) rfl rfl rfl ?_; intro v4 w4 ho4 hg4 hv4))
            have H4 : Hid (OwnF w.heap.size w4 v4 (I ++ [(⟨p, tx, bl, sz⟩ : Fl)]) ∧ Below w.heap.size w w4) := ⟨ho4, (bstep HB3.out.1 (balloc _ _)).grown hg4 (by simp; omega) (fun k hk => (HB3.out.2.lt hk).1)⟩
            clear ho4 hg4 hv4 f0 f1 f2 f3
            go_wp2_with fail
            go_roundw
            case rel => exact ⟨t + 1, by omega, by go_num, by rw [HSN.out]; simpa using H4.out.1, H4.out.2⟩
            case measure => simp [intOf]; omega
        · have htn : t = n := by omega
          have hi2 : ¬ (t : Int) < (n : Int) := by omega
          have HO : Hid (OwnF w.heap.size wr u7 (l.filter fun f => shw k f.path)) := by rw [List.take_of_length_le (by have := HN.out; omega)] at ho; exact ho
          clear ho hb
          go_wp2_with fail
          go_ret2
          exact ⟨u7, rfl, HO.out, HB.out⟩
    · have hy1 : (y != 0) = true := by simpa using hy0
      have HE : Hid (viw l k = ([], 13)) := by
        show viw l k = ([], 13)
        unfold viw
        rw [if_pos hz, if_neg (by rw [hy]; exact hy0)]
      clear hz hy
      go_enter Tryz.func8, Tryz.ntmps8
      go_wp2_with fail
      refine (HS.out H.out.1).mono ?_
      rintro e w1 ⟨rfl, hb1⟩
      have HB1 : Hid (Below w.heap.size w w1) := hb1
      clear hb1
      go_wp2_with fail
      refine (HV.out (H.out.2.2.1.later HB1.out)).mono ?_
      rintro e w2 ⟨rfl, hb2⟩
      have HB2 : Hid (Below w.heap.size w w2) := bstep HB1.out hb2
      clear hb2
      go_wp2_with fail
      go_ret2
      exact ⟨.slice none 0 0, by rw [HE.out]; rfl, by rw [HE.out]; exact OwnF.nil _ _, HB2.out⟩
  · have hz1 : (z != 0) = true := by simpa using hz0
    have HE : Hid (viw l k = ([], z)) := by
      show viw l k = ([], z)
      unfold viw
      rw [if_neg (by rw [hz]; exact hz0), hz]
    clear hz
    go_enter Tryz.func8, Tryz.ntmps8
    go_wp2_with fail
    refine (HS.out H.out.1).mono ?_
    rintro e w1 ⟨rfl, hb1⟩
    have HB1 : Hid (Below w.heap.size w w1) := hb1
    clear hb1
    go_wp2_with fail
    go_ret2
    exact ⟨.slice none 0 0, by rw [HE.out]; rfl, by rw [HE.out]; exact OwnF.nil _ _, HB1.out⟩
end Go.Proofs.YtkbefggjfggdgaaGreat
