/-
  The document's tree: made; a file more.
-/
import Derived.Test.YtceoelclnnfhhadGreatRefN
namespace Go.Proofs.YtceoelclnnfhhadGreat
open Go.RowKit

theorem place_step (p : List UInt8) {L : List Fl} {k : Nat} (hk : k < L.length) : place p (L.drop k) = if cf L[k].path p < 0 then place p (L.drop (k + 1)) + 1 else 0 := by
  rw [List.drop_eq_getElem_cons hk]; rfl
def addR (L : List Fl) (f : Fl) : List Fl := if addE L f = 0 then insF f L else L
theorem addR_perm {L : List Fl} (f : Fl) : (addR L f).Perm (addL L f) := by
  unfold addR addL
  split
  · exact insF_perm f L
  · exact .refl _
theorem insF_len (f : Fl) (L : List Fl) : (insF f L).length = L.length + 1 := by
  have := (insF_perm f L).length_eq
  simpa using this
/-- a row, or none at all -/
theorem RT.rows {w : World} {base t : Nat} {L : List Fl} (h : RT w base t L) :
    (L = [] ∧ ∀ wr, Below w.heap.size w wr → wr.cell? ⟨t, 0, none⟩ = some (.slice none 0 0)) ∨
    ∃ g c, (∀ wr, Below w.heap.size w wr → wr.cell? ⟨t, 0, none⟩ = some (.slice (some ⟨g, 0, none⟩) L.length c) ∧ FS wr (.slice (some ⟨g, 0, none⟩) L.length c) L) ∧ L.length ≤ c ∧ c ≤ maxLen := by
  obtain ⟨a, c, h1, h2⟩ := h.it
  rcases h2.2 with ⟨e, e0⟩ | ⟨g, cap, cur, e, _, hg, hn, hm, _⟩
  · left
    have hL : L = [] := List.eq_nil_of_length_eq_zero e0
    refine ⟨hL, fun wr hb => ?_⟩
    rw [hb.cell (p := ⟨t, 0, none⟩) h.lt]
    rw [e] at h1
    simp [World.cell?, h1]
  · right
    injection e with e1 _ e3
    subst e1 e3
    refine ⟨g, c, fun wr hb => ⟨?_, (h2.later hb).fs⟩, hn, hm⟩
    rw [hb.cell (p := ⟨t, 0, none⟩) h.lt]
    simp [World.cell?, h1]

set_option maxRecDepth 100000 in
set_option maxHeartbeats 2000000 in
theorem rnewT_any {w : World} {v : Value} {l : List Fl} (h : FS w v l) (sm : FSm l) :
    Calls Tryz.prog 7 #[v] w fun e w' => (if validE l = 0 then ∃ t, e = .returned (.tuple #[.pointer (some ⟨t, 0, none⟩), .int .i64 0]) ∧ RT w' w.heap.size t l else e = .returned (.tuple #[.pointer none, .int .i64 (validE l)])) ∧ Below w.heap.size w w' := by
  have H : Hid (FS w v l ∧ FSm l) := ⟨h, sm⟩
  have hlen := sm.len
  clear h sm
  by_cases hv : validE l = 0
  · have HV : Hid (validE l = 0) := hv
    simp only [hv, if_true]
    obtain ⟨a, c, rfl, _⟩ := H.out.1.form
    rename_i q1
    clear q1
    have HVC : Hid (∀ W, w = W → Calls Tryz.prog 16 #[.slice a l.length c] W fun e w' => e = .returned (.int .i64 0) ∧ Below W.heap.size W w') := by
      rintro W rfl
      have := kvalid_any H.out.1 H.out.2
      rw [hv] at this; exact this
    clear hv
    obtain ⟨n, hn⟩ : ∃ n, l.length = n := ⟨_, rfl⟩
    have HN : Hid (l.length = n) := hn
    have H' : Hid (∀ W, Below w.heap.size w W → Src Tryz.prog 4 22 (.slice a n c) l.length (fc l) W) := fun W hW => by rw [← hn]; exact (H.out.1.later hW).src
    rw [hn] at hlen HVC ⊢
    clear hn
    go_enter Tryz.func7, Tryz.ntmps7
    go_wp2_with fail
    refine (HVC.out _ rfl).mono ?_
    rintro e w1 ⟨rfl, hb1⟩
    have HB1 : Hid (Below w.heap.size w w1) := hb1
    clear hb1
    go_wp2_with (first | (at_builtin; refine app_files (base := w.heap.size) (l := []) (k := l) (OwnF.nil _ _) (H'.out _ HB1.out) (by have := HN.out; simp; omega) HB1.out.size rfl (.tmp 11) (.tmp 12) rfl rfl rfl ?_; intro v2 w2 ho2 hg2 hv2; have H2 : Hid (OwnF w.heap.size w2 v2 l ∧ Below w.heap.size w w2) := ⟨(by simpa using ho2), HB1.out.grown hg2 HB1.out.size (fun j hj => by cases hj)⟩; obtain ⟨a2, c2, e2⟩ := H2.out.1.form; subst e2; clear ho2 hg2 hv2))
    go_ret2
    refine ⟨⟨_, rfl, ⟨a2, c2, heap_alloc_new _ _, H2.out.1.later (balloc _ _)⟩, H2.out.2.size, (validE_good.1 HV.out).1, (validE_good.1 HV.out).2, H.out.2.each⟩, bstep H2.out.2 (balloc _ _)⟩
  · simp only [hv, if_false]
    have hvb : (validE l != 0) = true := by simpa using hv
    obtain ⟨E, hE⟩ : ∃ E, validE l = E := ⟨_, rfl⟩
    have HVC : Hid (∀ W, w = W → Calls Tryz.prog 16 #[v] W fun e w' => e = .returned (.int .i64 E) ∧ Below W.heap.size W w') := by
      rintro W rfl
      have := kvalid_any H.out.1 H.out.2
      rw [hE] at this; exact this
    rw [hE] at hvb ⊢
    clear hv hE
    go_enter Tryz.func7, Tryz.ntmps7
    go_wp2_with fail
    refine (HVC.out _ rfl).mono ?_
    rintro e w1 ⟨rfl, hb1⟩
    have HB1 : Hid (Below w.heap.size w w1) := hb1
    clear hb1
    go_wp2_with fail
    go_ret2
    exact ⟨rfl, HB1.out⟩

theorem addE_08 {L : List Fl} {f : Fl} (h : pathOk f.path = true) (hn : (fileAt L (pcs f.path)).isSome = false) : addE L f = 0 ∨ addE L f = 8 := by
  unfold addE
  rw [if_neg (by rw [h]; simp), if_neg (by unfold pp; rw [hn]; simp)]
  split
  · exact .inl rfl
  · exact .inr rfl
/-- add, behind the looks at the path -/
theorem place_fin {p : List UInt8} {L : List Fl} {k : Nat} (h : place p L = k + place p (L.drop k)) (h0 : place p (L.drop k) = 0) : place p L = k := by omega

set_option maxRecDepth 100000 in
set_option maxHeartbeats 4000000 in
theorem raddT_any {w : World} {base t : Nat} {L : List Fl} (h : RT w base t L) (hw : base ≤ w.heap.size) (f : Fl) (hf : Fok f) :
    Calls Tryz.prog 40 #[.pointer (some ⟨t, 0, none⟩), f.val] w fun e w' => e = .returned (.int .i64 (addE L f)) ∧ RL w w' base t (addR L f) := by
  obtain ⟨p, tx, bl, s⟩ := f
  have HT : Hid (RT w base t L ∧ base ≤ w.heap.size ∧ Fok ⟨p, tx, bl, s⟩) := ⟨h, hw, hf⟩
  have hlen := h.good.len
  have hpl : p.length ≤ 4194304 := hf.path
  clear h hw hf
  have hval : Fl.val ⟨p, tx, bl, s⟩ = .agg #[.string (bs p), .string (bs tx), .int .i64 bl, .int .i64 s] := rfl
  rw [hval]
  obtain ⟨E, hE⟩ : ∃ E, addE L ⟨p, tx, bl, s⟩ = E := ⟨_, rfl⟩
  obtain ⟨L', hL'⟩ : ∃ L', addR L ⟨p, tx, bl, s⟩ = L' := ⟨_, rfl⟩
  have HE : Hid (addE L ⟨p, tx, bl, s⟩ = E ∧ addR L ⟨p, tx, bl, s⟩ = L') := ⟨hE, hL'⟩
  rw [hE, hL']
  clear hE hL' hval
  have HV : Hid (∀ W : World, Calls Tryz.prog 54 #[.string (bs p)] W fun e w' => e = .returned (.bool (okP p)) ∧ Below W.heap.size W w') := fun W => rvalid_any p W (by omega)
  have ee := isE p
  by_cases hpo : pathOk p = true
  · have hpo2 := hpo
    unfold pathOk at hpo2
    simp only [Bool.and_eq_true, Bool.not_eq_true', beq_eq_false_iff_ne] at hpo2
    have hpe : p.isEmpty = false := by
      cases p with
      | nil => exact absurd rfl hpo2.1
      | cons x y => rfl
    rw [hpo2.2] at HV
    rw [hpe] at ee
    have HPO : Hid (pathOk p = true) := hpo
    clear hpo hpo2 hpe
    obtain ⟨w0, hw0⟩ : ∃ w0, w.alloc (.cells #[.string (bs p), .string (bs tx), .int .i64 bl, .int .i64 s] 24) = w0 := ⟨_, rfl⟩
    obtain ⟨gf, hgf⟩ : ∃ gf, w.heap.size = gf := ⟨_, rfl⟩
    have HX : Hid (XB w0 gf ⟨p, tx, bl, s⟩ ∧ Below w.heap.size w w0) := by rw [← hw0, ← hgf]; exact ⟨XB.new w ⟨p, tx, bl, s⟩, balloc _ _⟩
    have HW0 : Hid (w.alloc (.cells #[.string (bs p), .string (bs tx), .int .i64 bl, .int .i64 s] 24) = w0 ∧ w.heap.size = gf) := ⟨hw0, hgf⟩
    clear hw0 hgf
    go_enter Tryz.func40, Tryz.ntmps40
    go_wp2_with fail
    rw [HW0.out.1, HW0.out.2]
    refine (HV.out _).mono ?_
    rintro e w1 ⟨rfl, hb1⟩
    have HB1 : Hid (Below w.heap.size w w1 ∧ XB w1 gf ⟨p, tx, bl, s⟩) := ⟨bstep HX.out.2 hb1, HX.out.1.later hb1⟩
    clear hb1
    obtain ⟨x0, x1, x2, x3⟩ := HB1.out.2.cells
    simp only at x0 x1 x2 x3
    go_wp2_with fail
    refine (rat_any (HT.out.1.later HB1.out.1) p).mono ?_
    rintro e w2 ⟨⟨i, rfl, hi⟩, hb2⟩
    have HB2 : Hid (Below w.heap.size w w2 ∧ XB w2 gf ⟨p, tx, bl, s⟩) := ⟨bstep HB1.out.1 hb2, HB1.out.2.later hb2⟩
    clear hb2 x0 x1 x2 x3
    obtain ⟨x0, x1, x2, x3⟩ := HB2.out.2.cells
    simp only at x0 x1 x2 x3
    rcases hi with ⟨rfl, hno⟩ | ⟨k, hk, rfl, hp⟩
    · have HNO : Hid ((fileAt L (pcs p)).isSome = false) := by
        have : fileAt L (pcs p) = none := fileAt_none.2 (fun f hf e => hno f hf (pcs_inj e))
        show _ = _
        rw [this]; rfl
      have HVI : Hid (validE (insF ⟨p, tx, bl, s⟩ L) = E) := by
        show _ = _
        rw [← HE.out.1]
        exact validE_ins HT.out.1.good HT.out.1.srt HPO.out HNO.out
      clear hno
      obtain ⟨a, c, hc⟩ := HT.out.1.cell
      obtain ⟨n, hn⟩ : ∃ n, L.length = n := ⟨_, rfl⟩
      have HN : Hid (L.length = n) := hn
      have H' : Hid (∀ wr, Below w.heap.size w wr → wr.cell? ⟨t, 0, none⟩ = some (.slice a n c) ∧ FS wr (.slice a L.length c) L) := fun wr hb => ⟨by rw [← hn]; exact (hc wr hb).1, (hc wr hb).2.fs⟩
      rw [hn] at hlen
      clear hn hc
      go_wp2_with fail
      clear x0 x1 x2 x3
      go_loopw [5] (fun i wr => ∃ k : Nat, k ≤ n ∧ i = .int .i64 k ∧ Below w.heap.size w wr ∧ XB wr gf ⟨p, tx, bl, s⟩ ∧ place p L = k + place p (L.drop k)) (fun i _ => n - (intOf i).toNat)
      case atStart => exact ⟨0, by omega, rfl, HB2.out.1, HB2.out.2, by simp⟩
      case round =>
        rename World => w3
        obtain ⟨k, hk, rfl, hb3, hx3, hpl3⟩ := hrel
        have H3 : Hid (Below w.heap.size w w3 ∧ XB w3 gf ⟨p, tx, bl, s⟩ ∧ place p L = k + place p (L.drop k)) := ⟨hb3, hx3, hpl3⟩
        clear hb3 hx3 hpl3
        have c0 := (H'.out w3 H3.out.1).1
        have htl := (HT.out.1.soft H3.out.1).2
        have y0 : ∀ Y : GW w3, Y.it.cell? ⟨t, 0, none⟩ = some (.slice a n c) := fun Y => Y.cell htl c0
        have xne := gw_ne w3
        obtain ⟨x0, _, _, _⟩ := H3.out.2.1.cells
        simp only at x0
        have hxl := H3.out.2.1.lt
        have y1 : ∀ Y : GW w3, Y.it.cell? ⟨gf, 0, none⟩ = some (.string (bs p)) := fun Y => Y.cell hxl x0
        by_cases hlt : k < n
        · have hkl : k < L.length := by have := HN.out; omega
          obtain ⟨b, off, ea, hbw, d0, d1, d2, d3⟩ := FS.at (H'.out w3 H3.out.1).2 (Below.refl _ _) hkl
          subst ea
          have hql := HT.out.1.pathLen hkl
          have HPS : Hid (place p (L.drop k) = if cf L[k].path p < 0 then place p (L.drop (k + 1)) + 1 else 0) := place_step p hkl
          obtain ⟨q, hq⟩ : ∃ q, L[k].path = q := ⟨_, rfl⟩
          rw [hq] at d0 hql HPS
          clear hq d1 d2 d3
          have y2 : ∀ Y : GW w3, Y.it.cell? ⟨b, off + k * 4, none⟩ = some (.string (bs q)) := fun Y => Y.cell hbw d0
          have k1 : (0 : Int) ≤ (k : Int) := by omega
          have k2 : (k : Int) < (n : Int) := by omega
          have kb : decide ((k : Int) < (n : Int)) = true := by simpa using hlt
          obtain ⟨o, ho⟩ : ∃ o, cf q p = o := ⟨_, rfl⟩
          have HCM : Hid (∀ Y : GW w3, Calls Tryz.prog 39 #[.string (bs q), .string (bs p)] Y.it fun e w' => e = .returned (.int .i64 o) ∧ ∃ X : GW w3, w' = X.it) := by
            intro Y
            refine (rcmp_any q p Y.it (by omega) (by omega)).mono ?_
            rintro e w' ⟨rfl, hb⟩
            refine ⟨by rw [← ho]; rfl, ⟨w', bstep Y.below hb⟩, rfl⟩
          rw [ho] at HPS
          clear ho d0 hbw c0 x0 hkl
          by_cases hoz : o < 0
          · have hob : decide (o < 0) = true := by simpa using hoz
            have HPL : Hid (place p L = (k + 1) + place p (L.drop (k + 1))) := by
              have h1 := H3.out.2.2
              have h2 := HPS.out
              rw [if_pos hoz] at h2
              show _ = _
              omega
            clear hoz
            go_wp2_with fail
            refine wp_region_grow (by kernel_rfl) (by kernel_rfl) ?_
            repeat (go_big_quiet_step (with_reducible exact HCM.out _))
            refine wpQuiet_nil ?_
            rintro w4 ⟨⟨w4, bx⟩, rfl⟩
            have H4 : Hid (Below w.heap.size w w4 ∧ XB w4 gf ⟨p, tx, bl, s⟩) := ⟨bstep H3.out.1 bx, H3.out.2.1.later bx⟩
            clear bx y0 y1 y2
            go_wp2_with fail
            go_roundw
            case rel => exact ⟨k + 1, by omega, by go_num, H4.out.1, H4.out.2, HPL.out⟩
            case measure => simp [intOf]; omega
          · have hob : decide (o < 0) = false := by simpa using hoz
            have HPL : Hid (place p L = k) := by
              have h1 := H3.out.2.2
              have h2 := HPS.out
              rw [if_neg hoz] at h2
              show _ = _
              omega
            clear hoz
            go_wp2_with fail
            refine wp_region_grow (by kernel_rfl) (by kernel_rfl) ?_
            repeat (go_big_quiet_step (with_reducible exact HCM.out _))
            refine wpQuiet_nil ?_
            rintro w4 ⟨⟨w4, bx⟩, rfl⟩
            have H4 : Hid (Below w.heap.size w w4 ∧ XB w4 gf ⟨p, tx, bl, s⟩ ∧ place p L = k) := ⟨bstep H3.out.1 bx, H3.out.2.1.later bx, HPL.out⟩
            clear bx y0 y1 y2 H3
            clear H'
            rcases HT.out.1.rows with ⟨hL, hcell⟩ | ⟨g, cc, hcell, hcl, hcm⟩
            · exfalso
              have := HN.out
              rw [hL] at this
              simp at this
              omega
            · have HC : Hid (∀ wr, Below w.heap.size w wr → wr.cell? ⟨t, 0, none⟩ = some (.slice (some ⟨g, 0, none⟩) n cc) ∧ FS wr (.slice (some ⟨g, 0, none⟩) L.length cc) L) := by
                have e := HN.out
                rw [e] at hcell ⊢
                exact hcell
              rw [HN.out] at hcl
              unfold maxLen at hcm
              clear hcell
              have i1 : (0 : Int) ≤ (k : Int) := by omega
              have i2 : (k : Int) ≤ (cc : Int) := by omega
              have i3 : (k : Int) ≤ (n : Int) := by omega
              have hn512 : n ≤ 512 := hlen
              have hT1 : (L.take k).length ≤ 512 := by have := HN.out; simp; omega

              have hck : ¬ cc = k := by omega

              have hLL : L.length ≤ 512 := by have := HN.out; omega
              have c4 := (HC.out w4 H4.out.1).1
              obtain ⟨x0, x1, x2, x3⟩ := H4.out.2.1.cells
              simp only at x0 x1 x2 x3
              have H5s : Hid (Src Tryz.prog 4 22 (.slice (some ⟨g, 0, none⟩) k cc) (L.take k).length (fc (L.take k)) w4) := ((HC.out w4 H4.out.1).2.front (by have := HN.out; omega) (by omega)).src
              go_wp2_with (first
                | (at_builtin; refine app_files (base := w.heap.size) (l := []) (k := L.take k) (OwnF.nil _ _) H5s.out (by simp <;> omega) H4.out.1.size rfl (.tmp 44) (.tmp 50) rfl rfl rfl ?_; intro v5 w5 ho5 hg5 hv5; have H5 : Hid (OwnF w.heap.size w5 v5 (L.take k) ∧ Below w.heap.size w w5 ∧ XB w5 gf ⟨p, tx, bl, s⟩) := ⟨(by simpa using ho5), H4.out.1.grown hg5 H4.out.1.size (fun j hj => by cases hj), H4.out.2.1.block (hg5.block gf H4.out.2.1.lt (by intro e; cases e))⟩; clear ho5 hg5 hv5 c4 x0 x1 x2 x3; have c5 := (HC.out w5 H5.out.2.1).1; obtain ⟨x0, x1, x2, x3⟩ := H5.out.2.2.cells; simp only at x0 x1 x2 x3)
                | (at_builtin; refine app_files (base := w.heap.size) (l := L.take k) (k := [⟨p, tx, bl, s⟩]) (H5.out.1.later (balloc _ _)) (src_file w5 ⟨p, tx, bl, s⟩) (by simp <;> omega) (by have := H5.out.2.1.size; simp; omega) rfl (.tmp 52) (.tmp 54) rfl rfl rfl ?_; intro v6 w6 ho6 hg6 hv6; have H6 : Hid (OwnF w.heap.size w6 v6 (L.take k ++ [⟨p, tx, bl, s⟩]) ∧ Below w.heap.size w w6) := ⟨ho6, (bstep H5.out.2.1 (balloc _ _)).grown hg6 (by have := H5.out.2.1.size; simp; omega) (fun j hj => (H5.out.1.lt hj).1)⟩; clear ho6 hg6 hv6 c5 x0 x1 x2 x3; have c6 := (HC.out w6 H6.out.2).1)
                | (at_builtin; refine app_files (base := w.heap.size) (l := L.take k ++ [⟨p, tx, bl, s⟩]) (k := L.drop k) H6.out.1 (FS.back (HC.out w6 H6.out.2).2 (n := k) (by have := HN.out; omega) (by have := HN.out; omega) (.inl rfl) (by omega)).src (by simp <;> omega) H6.out.2.size rfl (.tmp 56) (.tmp 62) rfl rfl rfl ?_; intro v7 w7 ho7 hg7 hv7; have H7 : Hid (OwnF w.heap.size w7 v7 (insF ⟨p, tx, bl, s⟩ L) ∧ Below w.heap.size w w7) := ⟨(by have e : insF ⟨p, tx, bl, s⟩ L = L.take k ++ [⟨p, tx, bl, s⟩] ++ L.drop k := (by unfold insF; rw [H4.out.2.2]; simp); rw [e]; exact ho7), H6.out.2.grown hg7 H6.out.2.size (fun j hj => (H6.out.1.lt hj).1)⟩; obtain ⟨a7, c7, e7⟩ := H7.out.1.form; subst e7; clear ho7 hg7 hv7 c6))
              obtain ⟨n7, hn7⟩ : ∃ n7, (insF ⟨p, tx, bl, s⟩ L).length = n7 := ⟨_, rfl⟩
              have HN7 : Hid ((insF ⟨p, tx, bl, s⟩ L).length = n7) := hn7
              have HSM : Hid (FSm (insF ⟨p, tx, bl, s⟩ L)) := ⟨by rw [insF_len]; have := HN.out; omega, fun f hf => by rcases List.mem_cons.1 ((insF_perm _ L).mem_iff.1 hf) with rfl | hf; exact HT.out.2.2; exact HT.out.1.fok f hf⟩
              rw [hn7] at H7 ⊢
              clear hn7
              refine (kvalid_any H7.out.1.fs HSM.out).mono ?_
              rintro e w8 ⟨rfl, hb8⟩
              rw [HVI.out]
              have H8 : Hid (OwnF w.heap.size w8 (.slice a7 n7 c7) (insF ⟨p, tx, bl, s⟩ L) ∧ Below w.heap.size w w8) := ⟨H7.out.1.later hb8, bstep H7.out.2 hb8⟩
              clear hb8
              rcases addE_08 (f := ⟨p, tx, bl, s⟩) HPO.out HNO.out with h0 | h8
              · have HE0 : Hid (E = 0 ∧ L' = insF ⟨p, tx, bl, s⟩ L) := by
                  refine ⟨by rw [← HE.out.1]; exact h0, ?_⟩
                  rw [← HE.out.2]; unfold addR; rw [if_pos h0]
                have e0 : E = 0 := HE0.out.1
                subst e0
                clear h0
                obtain ⟨f8, l8⟩ := HT.out.1.soft H8.out.2
                have c8 := (HC.out w8 H8.out.2).1
                go_wp2_with fail
                go_ret
                refine ⟨rfl, ?_⟩
                rw [HE0.out.2]
                have hv0 := validE_good.1 HVI.out
                have hr := HT.out.1.set (L' := insF ⟨p, tx, bl, s⟩ L) (a := a7) (c := c7) H8.out.2 HT.out.2.1 (by rw [HN7.out]; exact H8.out.1) hv0.1 hv0.2 HSM.out.each
                rw [HN7.out] at hr
                exact hr
              · have HE8 : Hid (E = 8 ∧ L' = L) := by
                  refine ⟨by rw [← HE.out.1]; exact h8, ?_⟩
                  rw [← HE.out.2]; unfold addR; rw [if_neg (by rw [h8]; decide)]
                have e8 : E = 8 := HE8.out.1
                subst e8
                clear h8
                go_wp2_with fail
                go_ret
                refine ⟨rfl, ?_, Only.of_below H8.out.2 _⟩
                rw [HE8.out.2]
                exact HT.out.1.later H8.out.2
        · obtain rfl : n = k := by omega
          have kb : decide ((n : Int) < (n : Int)) = false := by simp
          have HPL : Hid (place p L = n) := by
            have h1 := H3.out.2.2
            rw [List.drop_eq_nil_of_le (by have := HN.out; omega)] at h1
            exact h1
          go_wp2_with fail
          refine wp_region_grow (by kernel_rfl) (by kernel_rfl) ?_
          repeat (go_big_quiet_step (fail))
          refine wpQuiet_nil ?_
          rintro w4 ⟨⟨w4, bx⟩, rfl⟩
          have H4 : Hid (Below w.heap.size w w4 ∧ XB w4 gf ⟨p, tx, bl, s⟩ ∧ place p L = n) := ⟨bstep H3.out.1 bx, H3.out.2.1.later bx, HPL.out⟩
          clear bx y0 y1 H3
          clear H'
          rcases HT.out.1.rows with ⟨hL, hcell⟩ | ⟨g, cc, hcell, hcl, hcm⟩
          · have e0 : n = 0 := by have := HN.out; rw [hL] at this; simpa using this.symm
            subst e0
            have HL0 : Hid (L = []) := hL
            have HC : Hid (∀ wr, Below w.heap.size w wr → wr.cell? ⟨t, 0, none⟩ = some (.slice none 0 0) ∧ FS wr (.slice none 0 0) L) := fun wr hb => ⟨hcell wr hb, by rw [hL]; exact FS_nil _⟩
            clear hcell hL

            have hLL : L.length ≤ 512 := by have := HN.out; omega
            have c4 := (HC.out w4 H4.out.1).1
            obtain ⟨x0, x1, x2, x3⟩ := H4.out.2.1.cells
            simp only at x0 x1 x2 x3
            have H5s : Hid (Src Tryz.prog 4 22 (.slice none 0 0) (L.take 0).length (fc (L.take 0)) w4) := (by show Src _ _ _ _ _ _ _; rw [HL0.out]; exact (FS_nil _).src)
            go_wp2_with (first
              | (at_builtin; refine app_files (base := w.heap.size) (l := []) (k := L.take 0) (OwnF.nil _ _) H5s.out (by simp <;> omega) H4.out.1.size rfl (.tmp 44) (.tmp 50) rfl rfl rfl ?_; intro v5 w5 ho5 hg5 hv5; have H5 : Hid (OwnF w.heap.size w5 v5 (L.take 0) ∧ Below w.heap.size w w5 ∧ XB w5 gf ⟨p, tx, bl, s⟩) := ⟨(by simpa using ho5), H4.out.1.grown hg5 H4.out.1.size (fun j hj => by cases hj), H4.out.2.1.block (hg5.block gf H4.out.2.1.lt (by intro e; cases e))⟩; clear ho5 hg5 hv5 c4 x0 x1 x2 x3; have c5 := (HC.out w5 H5.out.2.1).1; obtain ⟨x0, x1, x2, x3⟩ := H5.out.2.2.cells; simp only at x0 x1 x2 x3)
              | (at_builtin; refine app_files (base := w.heap.size) (l := L.take 0) (k := [⟨p, tx, bl, s⟩]) (H5.out.1.later (balloc _ _)) (src_file w5 ⟨p, tx, bl, s⟩) (by simp <;> omega) (by have := H5.out.2.1.size; simp; omega) rfl (.tmp 52) (.tmp 54) rfl rfl rfl ?_; intro v6 w6 ho6 hg6 hv6; have H6 : Hid (OwnF w.heap.size w6 v6 (L.take 0 ++ [⟨p, tx, bl, s⟩]) ∧ Below w.heap.size w w6) := ⟨ho6, (bstep H5.out.2.1 (balloc _ _)).grown hg6 (by have := H5.out.2.1.size; simp; omega) (fun j hj => (H5.out.1.lt hj).1)⟩; clear ho6 hg6 hv6 c5 x0 x1 x2 x3; have c6 := (HC.out w6 H6.out.2).1)
              | (at_builtin; refine app_files (base := w.heap.size) (l := L.take 0 ++ [⟨p, tx, bl, s⟩]) (k := L.drop 0) H6.out.1 (by rw [HL0.out]; exact (FS_nil _).src) (by simp <;> omega) H6.out.2.size rfl (.tmp 56) (.tmp 62) rfl rfl rfl ?_; intro v7 w7 ho7 hg7 hv7; have H7 : Hid (OwnF w.heap.size w7 v7 (insF ⟨p, tx, bl, s⟩ L) ∧ Below w.heap.size w w7) := ⟨(by have e : insF ⟨p, tx, bl, s⟩ L = L.take 0 ++ [⟨p, tx, bl, s⟩] ++ L.drop 0 := (by unfold insF; rw [H4.out.2.2]; simp); rw [e]; exact ho7), H6.out.2.grown hg7 H6.out.2.size (fun j hj => (H6.out.1.lt hj).1)⟩; obtain ⟨a7, c7, e7⟩ := H7.out.1.form; subst e7; clear ho7 hg7 hv7 c6))
            obtain ⟨n7, hn7⟩ : ∃ n7, (insF ⟨p, tx, bl, s⟩ L).length = n7 := ⟨_, rfl⟩
            have HN7 : Hid ((insF ⟨p, tx, bl, s⟩ L).length = n7) := hn7
            have HSM : Hid (FSm (insF ⟨p, tx, bl, s⟩ L)) := ⟨by rw [insF_len]; have := HN.out; omega, fun f hf => by rcases List.mem_cons.1 ((insF_perm _ L).mem_iff.1 hf) with rfl | hf; exact HT.out.2.2; exact HT.out.1.fok f hf⟩
            rw [hn7] at H7 ⊢
            clear hn7
            refine (kvalid_any H7.out.1.fs HSM.out).mono ?_
            rintro e w8 ⟨rfl, hb8⟩
            rw [HVI.out]
            have H8 : Hid (OwnF w.heap.size w8 (.slice a7 n7 c7) (insF ⟨p, tx, bl, s⟩ L) ∧ Below w.heap.size w w8) := ⟨H7.out.1.later hb8, bstep H7.out.2 hb8⟩
            clear hb8
            rcases addE_08 (f := ⟨p, tx, bl, s⟩) HPO.out HNO.out with h0 | h8
            · have HE0 : Hid (E = 0 ∧ L' = insF ⟨p, tx, bl, s⟩ L) := by
                refine ⟨by rw [← HE.out.1]; exact h0, ?_⟩
                rw [← HE.out.2]; unfold addR; rw [if_pos h0]
              have e0 : E = 0 := HE0.out.1
              subst e0
              clear h0
              obtain ⟨f8, l8⟩ := HT.out.1.soft H8.out.2
              have c8 := (HC.out w8 H8.out.2).1
              go_wp2_with fail
              go_ret
              refine ⟨rfl, ?_⟩
              rw [HE0.out.2]
              have hv0 := validE_good.1 HVI.out
              have hr := HT.out.1.set (L' := insF ⟨p, tx, bl, s⟩ L) (a := a7) (c := c7) H8.out.2 HT.out.2.1 (by rw [HN7.out]; exact H8.out.1) hv0.1 hv0.2 HSM.out.each
              rw [HN7.out] at hr
              exact hr
            · have HE8 : Hid (E = 8 ∧ L' = L) := by
                refine ⟨by rw [← HE.out.1]; exact h8, ?_⟩
                rw [← HE.out.2]; unfold addR; rw [if_neg (by rw [h8]; decide)]
              have e8 : E = 8 := HE8.out.1
              subst e8
              clear h8
              go_wp2_with fail
              go_ret
              refine ⟨rfl, ?_, Only.of_below H8.out.2 _⟩
              rw [HE8.out.2]
              exact HT.out.1.later H8.out.2
          · have HC : Hid (∀ wr, Below w.heap.size w wr → wr.cell? ⟨t, 0, none⟩ = some (.slice (some ⟨g, 0, none⟩) n cc) ∧ FS wr (.slice (some ⟨g, 0, none⟩) L.length cc) L) := by
              have e := HN.out
              rw [e] at hcell ⊢
              exact hcell
            rw [HN.out] at hcl
            unfold maxLen at hcm
            clear hcell
            have i1 : (0 : Int) ≤ (n : Int) := by omega
            have i2 : (n : Int) ≤ (cc : Int) := by omega
            have i3 : (n : Int) ≤ (n : Int) := by omega
            have hn512 : n ≤ 512 := hlen
            have hT1 : (L.take n).length ≤ 512 := by have := HN.out; simp; omega

            by_cases hck : cc = n
            · have hck2 : n = cc := hck.symm
              subst hck2
              have hLL : L.length ≤ 512 := by have := HN.out; omega
              have c4 := (HC.out w4 H4.out.1).1
              obtain ⟨x0, x1, x2, x3⟩ := H4.out.2.1.cells
              simp only at x0 x1 x2 x3
              have H5s : Hid (Src Tryz.prog 4 22 (.slice (some ⟨g, 0, none⟩) n n) (L.take n).length (fc (L.take n)) w4) := ((HC.out w4 H4.out.1).2.front (by have := HN.out; omega) (by omega)).src
              go_wp2_with (first
                | (at_builtin; refine app_files (base := w.heap.size) (l := []) (k := L.take n) (OwnF.nil _ _) H5s.out (by simp <;> omega) H4.out.1.size rfl (.tmp 44) (.tmp 50) rfl rfl rfl ?_; intro v5 w5 ho5 hg5 hv5; have H5 : Hid (OwnF w.heap.size w5 v5 (L.take n) ∧ Below w.heap.size w w5 ∧ XB w5 gf ⟨p, tx, bl, s⟩) := ⟨(by simpa using ho5), H4.out.1.grown hg5 H4.out.1.size (fun j hj => by cases hj), H4.out.2.1.block (hg5.block gf H4.out.2.1.lt (by intro e; cases e))⟩; clear ho5 hg5 hv5 c4 x0 x1 x2 x3; have c5 := (HC.out w5 H5.out.2.1).1; obtain ⟨x0, x1, x2, x3⟩ := H5.out.2.2.cells; simp only at x0 x1 x2 x3)
                | (at_builtin; refine app_files (base := w.heap.size) (l := L.take n) (k := [⟨p, tx, bl, s⟩]) (H5.out.1.later (balloc _ _)) (src_file w5 ⟨p, tx, bl, s⟩) (by simp <;> omega) (by have := H5.out.2.1.size; simp; omega) rfl (.tmp 52) (.tmp 54) rfl rfl rfl ?_; intro v6 w6 ho6 hg6 hv6; have H6 : Hid (OwnF w.heap.size w6 v6 (L.take n ++ [⟨p, tx, bl, s⟩]) ∧ Below w.heap.size w w6) := ⟨ho6, (bstep H5.out.2.1 (balloc _ _)).grown hg6 (by have := H5.out.2.1.size; simp; omega) (fun j hj => (H5.out.1.lt hj).1)⟩; clear ho6 hg6 hv6 c5 x0 x1 x2 x3; have c6 := (HC.out w6 H6.out.2).1)
                | (at_builtin; refine app_files (base := w.heap.size) (l := L.take n ++ [⟨p, tx, bl, s⟩]) (k := L.drop n) H6.out.1 (FS.back (HC.out w6 H6.out.2).2 (n := n) (by have := HN.out; omega) (by have := HN.out; omega) (.inr (by omega)) (by omega)).src (by simp <;> omega) H6.out.2.size rfl (.tmp 56) (.tmp 62) rfl rfl rfl ?_; intro v7 w7 ho7 hg7 hv7; have H7 : Hid (OwnF w.heap.size w7 v7 (insF ⟨p, tx, bl, s⟩ L) ∧ Below w.heap.size w w7) := ⟨(by have e : insF ⟨p, tx, bl, s⟩ L = L.take n ++ [⟨p, tx, bl, s⟩] ++ L.drop n := (by unfold insF; rw [H4.out.2.2]; simp); rw [e]; exact ho7), H6.out.2.grown hg7 H6.out.2.size (fun j hj => (H6.out.1.lt hj).1)⟩; obtain ⟨a7, c7, e7⟩ := H7.out.1.form; subst e7; clear ho7 hg7 hv7 c6))
              obtain ⟨n7, hn7⟩ : ∃ n7, (insF ⟨p, tx, bl, s⟩ L).length = n7 := ⟨_, rfl⟩
              have HN7 : Hid ((insF ⟨p, tx, bl, s⟩ L).length = n7) := hn7
              have HSM : Hid (FSm (insF ⟨p, tx, bl, s⟩ L)) := ⟨by rw [insF_len]; have := HN.out; omega, fun f hf => by rcases List.mem_cons.1 ((insF_perm _ L).mem_iff.1 hf) with rfl | hf; exact HT.out.2.2; exact HT.out.1.fok f hf⟩
              rw [hn7] at H7 ⊢
              clear hn7
              refine (kvalid_any H7.out.1.fs HSM.out).mono ?_
              rintro e w8 ⟨rfl, hb8⟩
              rw [HVI.out]
              have H8 : Hid (OwnF w.heap.size w8 (.slice a7 n7 c7) (insF ⟨p, tx, bl, s⟩ L) ∧ Below w.heap.size w w8) := ⟨H7.out.1.later hb8, bstep H7.out.2 hb8⟩
              clear hb8
              rcases addE_08 (f := ⟨p, tx, bl, s⟩) HPO.out HNO.out with h0 | h8
              · have HE0 : Hid (E = 0 ∧ L' = insF ⟨p, tx, bl, s⟩ L) := by
                  refine ⟨by rw [← HE.out.1]; exact h0, ?_⟩
                  rw [← HE.out.2]; unfold addR; rw [if_pos h0]
                have e0 : E = 0 := HE0.out.1
                subst e0
                clear h0
                obtain ⟨f8, l8⟩ := HT.out.1.soft H8.out.2
                have c8 := (HC.out w8 H8.out.2).1
                go_wp2_with fail
                go_ret
                refine ⟨rfl, ?_⟩
                rw [HE0.out.2]
                have hv0 := validE_good.1 HVI.out
                have hr := HT.out.1.set (L' := insF ⟨p, tx, bl, s⟩ L) (a := a7) (c := c7) H8.out.2 HT.out.2.1 (by rw [HN7.out]; exact H8.out.1) hv0.1 hv0.2 HSM.out.each
                rw [HN7.out] at hr
                exact hr
              · have HE8 : Hid (E = 8 ∧ L' = L) := by
                  refine ⟨by rw [← HE.out.1]; exact h8, ?_⟩
                  rw [← HE.out.2]; unfold addR; rw [if_neg (by rw [h8]; decide)]
                have e8 : E = 8 := HE8.out.1
                subst e8
                clear h8
                go_wp2_with fail
                go_ret
                refine ⟨rfl, ?_, Only.of_below H8.out.2 _⟩
                rw [HE8.out.2]
                exact HT.out.1.later H8.out.2
            · have hLL : L.length ≤ 512 := by have := HN.out; omega
              have c4 := (HC.out w4 H4.out.1).1
              obtain ⟨x0, x1, x2, x3⟩ := H4.out.2.1.cells
              simp only at x0 x1 x2 x3
              have H5s : Hid (Src Tryz.prog 4 22 (.slice (some ⟨g, 0, none⟩) n cc) (L.take n).length (fc (L.take n)) w4) := ((HC.out w4 H4.out.1).2.front (by have := HN.out; omega) (by omega)).src
              go_wp2_with (first
                | (at_builtin; refine app_files (base := w.heap.size) (l := []) (k := L.take n) (OwnF.nil _ _) H5s.out (by simp <;> omega) H4.out.1.size rfl (.tmp 44) (.tmp 50) rfl rfl rfl ?_; intro v5 w5 ho5 hg5 hv5; have H5 : Hid (OwnF w.heap.size w5 v5 (L.take n) ∧ Below w.heap.size w w5 ∧ XB w5 gf ⟨p, tx, bl, s⟩) := ⟨(by simpa using ho5), H4.out.1.grown hg5 H4.out.1.size (fun j hj => by cases hj), H4.out.2.1.block (hg5.block gf H4.out.2.1.lt (by intro e; cases e))⟩; clear ho5 hg5 hv5 c4 x0 x1 x2 x3; have c5 := (HC.out w5 H5.out.2.1).1; obtain ⟨x0, x1, x2, x3⟩ := H5.out.2.2.cells; simp only at x0 x1 x2 x3)
                | (at_builtin; refine app_files (base := w.heap.size) (l := L.take n) (k := [⟨p, tx, bl, s⟩]) (H5.out.1.later (balloc _ _)) (src_file w5 ⟨p, tx, bl, s⟩) (by simp <;> omega) (by have := H5.out.2.1.size; simp; omega) rfl (.tmp 52) (.tmp 54) rfl rfl rfl ?_; intro v6 w6 ho6 hg6 hv6; have H6 : Hid (OwnF w.heap.size w6 v6 (L.take n ++ [⟨p, tx, bl, s⟩]) ∧ Below w.heap.size w w6) := ⟨ho6, (bstep H5.out.2.1 (balloc _ _)).grown hg6 (by have := H5.out.2.1.size; simp; omega) (fun j hj => (H5.out.1.lt hj).1)⟩; clear ho6 hg6 hv6 c5 x0 x1 x2 x3; have c6 := (HC.out w6 H6.out.2).1)
                | (at_builtin; refine app_files (base := w.heap.size) (l := L.take n ++ [⟨p, tx, bl, s⟩]) (k := L.drop n) H6.out.1 (FS.back (HC.out w6 H6.out.2).2 (n := n) (by have := HN.out; omega) (by have := HN.out; omega) (.inr (by omega)) (by omega)).src (by simp <;> omega) H6.out.2.size rfl (.tmp 56) (.tmp 62) rfl rfl rfl ?_; intro v7 w7 ho7 hg7 hv7; have H7 : Hid (OwnF w.heap.size w7 v7 (insF ⟨p, tx, bl, s⟩ L) ∧ Below w.heap.size w w7) := ⟨(by have e : insF ⟨p, tx, bl, s⟩ L = L.take n ++ [⟨p, tx, bl, s⟩] ++ L.drop n := (by unfold insF; rw [H4.out.2.2]; simp); rw [e]; exact ho7), H6.out.2.grown hg7 H6.out.2.size (fun j hj => (H6.out.1.lt hj).1)⟩; obtain ⟨a7, c7, e7⟩ := H7.out.1.form; subst e7; clear ho7 hg7 hv7 c6))
              obtain ⟨n7, hn7⟩ : ∃ n7, (insF ⟨p, tx, bl, s⟩ L).length = n7 := ⟨_, rfl⟩
              have HN7 : Hid ((insF ⟨p, tx, bl, s⟩ L).length = n7) := hn7
              have HSM : Hid (FSm (insF ⟨p, tx, bl, s⟩ L)) := ⟨by rw [insF_len]; have := HN.out; omega, fun f hf => by rcases List.mem_cons.1 ((insF_perm _ L).mem_iff.1 hf) with rfl | hf; exact HT.out.2.2; exact HT.out.1.fok f hf⟩
              rw [hn7] at H7 ⊢
              clear hn7
              refine (kvalid_any H7.out.1.fs HSM.out).mono ?_
              rintro e w8 ⟨rfl, hb8⟩
              rw [HVI.out]
              have H8 : Hid (OwnF w.heap.size w8 (.slice a7 n7 c7) (insF ⟨p, tx, bl, s⟩ L) ∧ Below w.heap.size w w8) := ⟨H7.out.1.later hb8, bstep H7.out.2 hb8⟩
              clear hb8
              rcases addE_08 (f := ⟨p, tx, bl, s⟩) HPO.out HNO.out with h0 | h8
              · have HE0 : Hid (E = 0 ∧ L' = insF ⟨p, tx, bl, s⟩ L) := by
                  refine ⟨by rw [← HE.out.1]; exact h0, ?_⟩
                  rw [← HE.out.2]; unfold addR; rw [if_pos h0]
                have e0 : E = 0 := HE0.out.1
                subst e0
                clear h0
                obtain ⟨f8, l8⟩ := HT.out.1.soft H8.out.2
                have c8 := (HC.out w8 H8.out.2).1
                go_wp2_with fail
                go_ret
                refine ⟨rfl, ?_⟩
                rw [HE0.out.2]
                have hv0 := validE_good.1 HVI.out
                have hr := HT.out.1.set (L' := insF ⟨p, tx, bl, s⟩ L) (a := a7) (c := c7) H8.out.2 HT.out.2.1 (by rw [HN7.out]; exact H8.out.1) hv0.1 hv0.2 HSM.out.each
                rw [HN7.out] at hr
                exact hr
              · have HE8 : Hid (E = 8 ∧ L' = L) := by
                  refine ⟨by rw [← HE.out.1]; exact h8, ?_⟩
                  rw [← HE.out.2]; unfold addR; rw [if_neg (by rw [h8]; decide)]
                have e8 : E = 8 := HE8.out.1
                subst e8
                clear h8
                go_wp2_with fail
                go_ret
                refine ⟨rfl, ?_, Only.of_below H8.out.2 _⟩
                rw [HE8.out.2]
                exact HT.out.1.later H8.out.2
    · have HR : Hid (E = 19 ∧ L' = L) := by
        have e19 : addE L ⟨p, tx, bl, s⟩ = 19 := by
          unfold addE
          rw [if_neg (by rw [HPO.out]; simp), if_pos]
          have hs := fileAt_of HT.out.1.good.apart (List.getElem_mem hk)
          have hpp : pp L[k] = pcs p := by unfold pp; rw [hp]
          rw [hpp] at hs
          show (fileAt L (pcs p)).isSome = true
          rw [hs]; rfl
        refine ⟨by rw [← HE.out.1]; exact e19, ?_⟩
        rw [← HE.out.2]
        unfold addR
        rw [if_neg (by rw [e19]; decide)]
      clear hp
      go_wp2_with fail
      go_ret
      refine ⟨by rw [HR.out.1]; rfl, ?_, Only.of_below HB2.out.1 _⟩
      rw [HR.out.2]
      exact HT.out.1.later HB2.out.1
  · have hpf : pathOk p = false := by simpa using hpo
    have HR : Hid (E = 7 ∧ L' = L) := by
      have e7 : addE L ⟨p, tx, bl, s⟩ = 7 := by unfold addE; rw [if_pos hpf]
      refine ⟨by rw [← HE.out.1]; exact e7, ?_⟩
      rw [← HE.out.2]
      unfold addR
      rw [if_neg (by rw [e7]; decide)]
    have HP2 : Hid (okP p = false ∨ (okP p = true ∧ p.isEmpty = true)) := by
      unfold pathOk at hpf
      cases ho : okP p
      · exact .inl rfl
      · right
        rw [ho] at hpf
        refine ⟨rfl, ?_⟩
        cases p with
        | nil => rfl
        | cons x y => simp at hpf
    clear hpo hpf
    rcases HP2.out with ho | ⟨ho, hemp⟩
    · rw [ho] at HV
      clear ho
      go_enter Tryz.func40, Tryz.ntmps40
      go_wp2_with fail
      refine (HV.out _).mono ?_
      rintro e w1 ⟨rfl, hb1⟩
      have HB1 : Hid (Below w.heap.size w w1) := bstep (balloc _ _) hb1
      clear hb1
      go_wp2_with fail
      go_ret
      refine ⟨by rw [HR.out.1]; rfl, ?_, Only.of_below HB1.out _⟩
      rw [HR.out.2]
      exact HT.out.1.later HB1.out
    · rw [ho] at HV
      rw [hemp] at ee
      clear ho hemp
      go_enter Tryz.func40, Tryz.ntmps40
      go_wp2_with fail
      refine (HV.out _).mono ?_
      rintro e w1 ⟨rfl, hb1⟩
      have HB1 : Hid (Below w.heap.size w w1 ∧ XB w1 w.heap.size ⟨p, tx, bl, s⟩) := ⟨bstep (balloc _ _) hb1, (XB.new w ⟨p, tx, bl, s⟩).later hb1⟩
      clear hb1
      obtain ⟨x0, x1, x2, x3⟩ := HB1.out.2.cells
      simp only at x0 x1 x2 x3
      go_wp2_with fail
      go_ret
      refine ⟨by rw [HR.out.1]; rfl, ?_, Only.of_below HB1.out.1 _⟩
      rw [HR.out.2]
      exact HT.out.1.later HB1.out.1

end Go.Proofs.YtceoelclnnfhhadGreat
