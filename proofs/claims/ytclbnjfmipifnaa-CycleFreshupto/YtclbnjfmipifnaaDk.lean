/-
  The document's Back.
-/
import Derived.Test.YtclbnjfmipifnaaDw
import Derived.Deep.DeepCutAuto
namespace Go.Proofs.Ytclbnjfmipifnaa
open Go.RowKit Go.Maps

theorem flp_snoc (E : List Ee) (e : Ee) : Gs.flp (E ++ [e]) = Gs.flp E ++ [(e.2, e.1)] := by simp [Gs.flp]
theorem flp_nd {E : List Ee} (h : E.Nodup) : (Gs.flp E).Nodup := by
  unfold Gs.flp
  refine List.Pairwise.map _ ?_ h
  rintro ⟨a, b⟩ ⟨c, d⟩ hne e
  injection e with e1 e2
  exact hne (by simp only at e1 e2; rw [e1, e2])
theorem flp_len (E : List Ee) : (Gs.flp E).length = E.length := by simp [Gs.flp]

theorem DG.allX {w0 w3 : World} {F : Nat → Prop} {d2 : Nat} {N : List Lb} (h : DG w0 F d2 [] []) (hc : w0.cell? ⟨d2, 0, none⟩ = some (.slice none 0 0)) {v' : Value} (ho : OwnL 0 w3 v' ([] ++ N)) (hg : w0.drew.grownBy w3 (Value.slice none 0 0).ownBlock) (hl : v'.ownBlock = (Value.slice none 0 0).ownBlock ∨ v'.ownBlock = some w0.drew.heap.size)
    (nd : N.Nodup) (lu : ∀ a ∈ N, Lu a) (nz : N.length ≤ 1000000) : w3.cell? ⟨d2, 0, none⟩ = some (.slice none 0 0) ∧ w3.frozen? ⟨d2, 0, none⟩ = false ∧ Hid (DG (w3.setCell ⟨d2, 0, none⟩ v') (nw F w0 (w3.setCell ⟨d2, 0, none⟩ v')) d2 N [] ∧ OnlyP F w0 (w3.setCell ⟨d2, 0, none⟩ v')) := by
  obtain ⟨z1, z2, z3, z4⟩ := h.setN (bd w0 1) hc (by simpa using ho) (only_grown hg) (by
    rcases hl with hl | hl
    · exact .inl hl
    · exact .inr ⟨_, hl, Nat.le_refl _⟩) nd (by simp) lu nz
  exact ⟨z1, z2, z3, z4⟩

theorem DG.evF {w : World} {F : Nat → Prop} {d : Nat} {N : List Lb} {E : List Ee} (h : DG w F d N E) {ev : Value} (hev : w.cell? ⟨d, 1, none⟩ = some ev) (k : Nat) (hk : ev.ownBlock = some k) : F k := by
  obtain ⟨⟨nv, ev0, h1, h2, h3, h4, h5⟩, _⟩ := h
  have e0 : ev0 = ev := by simpa [World.cell?, h1] using hev
  subst e0
  exact h5 k hk
theorem grown_below {B : Nat} {w w4 w3 : World} {o : Obj} {v : Value} (hb : Below B w w4) (hB : B ≤ w.heap.size) (hg : (w4.alloc o).drew.grownBy w3 v.ownBlock) (hk : ∀ k, v.ownBlock = some k → B ≤ k) : Below B w w3 := by
  have h1 := below_trans hb (below_mono (balloc w4 o).drew (Nat.le_trans hB hb.size))
  exact below_trans h1 ((only_grown hg).below (Nat.le_trans hB h1.size) (fun k hm => hk k (by unfold bl at hm; simpa using hm)))
/-- one edge more -/
theorem DG.edgeY {w wr w3 : World} {d : Nat} {N : List Lb} {E : List Ee} (h : DG wr (fun j => w.heap.size ≤ j ∧ j < wr.heap.size) d N E) (hb : Below w.heap.size w wr) {o : Obj} {ev v' : Value} {a : Ee} (hev : wr.cell? ⟨d, 1, none⟩ = some ev) (ho : OwnE 0 w3 v' (E ++ [a])) (hg : (wr.alloc o).drew.grownBy w3 ev.ownBlock) (hl : v'.ownBlock = ev.ownBlock ∨ v'.ownBlock = some (wr.alloc o).drew.heap.size)
    (nd : (E ++ [a]).Nodup) (hn : a.1 ∈ N ∧ a.2 ∈ N) (nz : E.length + 1 ≤ 1000000) : w3.cell? ⟨d, 1, none⟩ = some ev ∧ w3.frozen? ⟨d, 1, none⟩ = false ∧ Hid (Below w.heap.size w w3 ∧ Below w.heap.size w (w3.setCell ⟨d, 1, none⟩ v') ∧ DG (w3.setCell ⟨d, 1, none⟩ v') (fun j => w.heap.size ≤ j ∧ j < (w3.setCell ⟨d, 1, none⟩ v').heap.size) d N (E ++ [a])) := by
  obtain ⟨z1, z2, z3⟩ := h.edgeX (Below.refl _ _) hev ho hg hl nd hn nz
  have hs := hb.size
  refine ⟨z1, z2, grown_below hb (Nat.le_refl _) hg (fun k hk => (h.evF hev k hk).1), below_trans hb (z3.out.2.below hs (fun k hk => hk.1)), z3.out.1.wider (fun k hk => ⟨?_, z3.out.1.lt k hk⟩) (fun k hk => hk.2)⟩
  rcases hk with hk | hk
  · exact hk.1
  · omega

set_option maxRecDepth 100000 in
set_option maxHeartbeats 8000000 in
theorem dback_any {w : World} {F : Nat → Prop} {d : Nat} {N : List Lb} {E : List Ee} (h : DG w F d N E) :
    Calls Try.prog 34 #[.pointer (some ⟨d, 0, none⟩)] w fun e w' => e = .returned (.pointer (some ⟨w.heap.size, 0, none⟩)) ∧ DG w' (fun j => w.heap.size ≤ j ∧ j < w'.heap.size) w.heap.size N (Gs.flp E) ∧ Below w.heap.size w w' := by
  obtain ⟨an, cn, ae, ce, h0, h1, _, _, hoN, hoE⟩ := h.rows
  obtain ⟨el, hel⟩ : ∃ el, E.length = el := ⟨_, rfl⟩
  obtain ⟨nl, hnl⟩ : ∃ nl, N.length = nl := ⟨_, rfl⟩
  rw [hel] at h1 hoE
  rw [hnl] at h0 hoN
  have HE : Hid (w.cell? ⟨d, 0, none⟩ = some (.slice an nl cn) ∧ OwnL 0 w (.slice an nl cn) N ∧ w.cell? ⟨d, 1, none⟩ = some (.slice ae el ce) ∧ OwnE 0 w (.slice ae el ce) E ∧ E.length = el ∧ N.length = nl ∧ d < w.heap.size ∧ DG w F d N E) := ⟨h0, hoN, h1, hoE, hel, hnl, h.dlt, h⟩
  have hel2 : el ≤ 1000000 := by rw [← hel]; exact h.ez
  have hnl2 : nl ≤ 1000000 := by rw [← hnl]; exact h.nz
  clear h0 h1 hoN hoE hel hnl h
  obtain ⟨w0, hw0⟩ : ∃ w0, w.alloc (.cells #[.slice none 0 0, .slice none 0 0] 43) = w0 := ⟨_, rfl⟩
  have HD0 : Hid (DG w0 (fun k => k = w.heap.size) w.heap.size [] [] ∧ Below w.heap.size w w0) := by rw [← hw0]; exact ⟨DG.new w, balloc _ _⟩
  have c0 : w0.cell? ⟨w.heap.size, 0, none⟩ = some (.slice none 0 0) := by rw [← hw0]; simp
  have c1 : w0.cell? ⟨d, 0, none⟩ = some (.slice an nl cn) := (HD0.out.2.cell (p := ⟨d, 0, none⟩) HE.out.2.2.2.2.2.2.1).trans HE.out.1
  have HSRC : Hid (Src Try.prog 2 32 (.slice an nl cn) N.length (lc N) w0.drew) := (HE.out.2.1.rs.later (bstep HD0.out.2 (bd w0 1))).src
  go_enter Try.func34, Try.ntmps34
  go_upto_region 2 with fail
  go_cut [] (fun wx => DG wx (fun k => w.heap.size ≤ k ∧ k < wx.heap.size) w.heap.size N [] ∧ Below w.heap.size w wx)
  case first =>
    go_region_law (refine step_app_L und_L rfl (.tmp 11) (.tmp 15) rfl 0 [] N (.slice none 0 0) _ rfl rfl (OwnL.nil _ _) HSRC.out (by have := HE.out.2.2.2.2.2.1; simp; omega) (Nat.zero_le _) ?_; intro v' w3 ho3 hg3 hl3; obtain ⟨z1, z2, HZ⟩ := DG.allX HD0.out.1 c0 ho3 hg3 hl3 HE.out.2.2.2.2.2.2.2.nd HE.out.2.2.2.2.2.2.2.lu HE.out.2.2.2.2.2.2.2.nz; clear hl3 hg3; obtain ⟨av', cv', hvv'⟩ := ho3.form; subst hvv'; clear ho3)
    all_goals (go_wp2_with fail; go_meet)
    all_goals (
      simp only [List.nil_append] at HZ
      have hb := below_trans HD0.out.2 (HZ.out.2.below HD0.out.2.size (fun k hk => Nat.le_of_eq hk.symm))
      have hs := HD0.out.2.size
      have hl := HZ.out.1.lt
      refine ⟨HZ.out.1.wider (fun k hk => ⟨?_, hl k hk⟩) (fun k hk => hk.2), hb⟩
      rcases hk with hk | hk
      · exact Nat.le_of_eq hk.symm
      · omega)
  case rest =>
    have HS : Hid (DG wc (fun k => w.heap.size ≤ k ∧ k < wc.heap.size) w.heap.size N [] ∧ Below w.heap.size w wc) := hcut
    clear hcut c0 c1
    go_wp2_with fail
    go_loopw [4] (fun s4 wr => ∃ (k : Nat), s4 = .int .i64 k ∧ k ≤ el ∧ DG wr (fun j => w.heap.size ≤ j ∧ j < wr.heap.size) w.heap.size N (Gs.flp (E.take k)) ∧ Below w.heap.size w wr) (fun s4 _ => el - (intOf s4).toNat)
    case atStart => exact ⟨0, rfl, by omega, HS.out.1, HS.out.2⟩
    case round =>
      obtain ⟨k, rfl, hk, hG, hb⟩ := hrel
      obtain ⟨_, _, ae2, ce2, _, g1, _, gf, _, hoE2⟩ := hG.rows
      obtain ⟨fk, hfk⟩ : ∃ fk, Gs.flp (E.take k) = fk := ⟨_, rfl⟩
      obtain ⟨fl, hfl⟩ : ∃ fl, fk.length = fl := ⟨_, rfl⟩
      rw [hfk] at hG
      rw [hfk, hfl] at g1 hoE2
      have HY : Hid (DG wr (fun j => w.heap.size ≤ j ∧ j < wr.heap.size) w.heap.size N fk ∧ Below w.heap.size w wr ∧ wr.cell? ⟨w.heap.size, 1, none⟩ = some (.slice ae2 fl ce2) ∧ OwnE 0 wr (.slice ae2 fl ce2) fk ∧ fk.length = fl ∧ Gs.flp (E.take k) = fk) := ⟨hG, hb, g1, hoE2, hfl, hfk⟩
      have e1 := (hb.cell (p := ⟨d, 1, none⟩) HE.out.2.2.2.2.2.2.1).trans HE.out.2.2.1
      clear hG hb hoE2 hfl gf hfk
      by_cases hlt : k < el
      · have hkl : k < E.length := by rw [HE.out.2.2.2.2.1]; exact hlt
        obtain ⟨bb, off, ea, hbw, d0, d1, d2, d3⟩ := ES.at HE.out.2.2.2.1.rs HY.out.2.1 hkl
        subst ea
        obtain ⟨x, hxe⟩ : ∃ x, E[k] = x := ⟨_, rfl⟩
        have HA : Hid (Gs.flp (E.take (k + 1)) = fk ++ [(x.2, x.1)] ∧ (fk ++ [(x.2, x.1)]).Nodup ∧ x.2 ∈ N ∧ x.1 ∈ N ∧ fk.length + 1 ≤ 1000000) := by
          have h1 : Gs.flp (E.take (k + 1)) = fk ++ [(x.2, x.1)] := by rw [List.take_succ_eq_append_getElem hkl, hxe, flp_snoc, HY.out.2.2.2.2.2]
          have hm : x ∈ E := by rw [← hxe]; exact List.getElem_mem hkl
          have hsb := HE.out.2.2.2.2.2.2.2.sub x hm
          refine ⟨h1, by rw [← h1]; exact flp_nd (HE.out.2.2.2.2.2.2.2.en.sublist (List.take_sublist _ _)), hsb.2, hsb.1, ?_⟩
          rw [← HY.out.2.2.2.2.2, flp_len]
          have := HE.out.2.2.2.2.1
          simp; omega
        rw [hxe] at d0 d1 d2 d3
        clear hxe
        obtain ⟨⟨p', n'⟩, ⟨q', m'⟩⟩ := x
        simp only at d0 d1 d2 d3
        have k1 : (k : Int) < (el : Int) := by omega
        have g1' := cell_alloc (.cells #[.string (bs q'), .string (bs m'), .string (bs p'), .string (bs n')] 66) HY.out.1.dlt g1
        have HSS : Hid (∀ W, Below w.heap.size w W → W.cell? ⟨d, 1, none⟩ = some (.slice (some ⟨bb, off, none⟩) el ce) ∧ W.cell? ⟨bb, off + k * 4, none⟩ = some (.string (bs p')) ∧ W.cell? ⟨bb, off + k * 4 + 1, none⟩ = some (.string (bs n')) ∧ W.cell? ⟨bb, off + k * 4 + 2, none⟩ = some (.string (bs q')) ∧ W.cell? ⟨bb, off + k * 4 + 3, none⟩ = some (.string (bs m'))) := fun W hW =>
          have hc := fun o => (hW.cell (p := ⟨bb, o, none⟩) hbw).trans (HY.out.2.1.cell (p := ⟨bb, o, none⟩) hbw).symm
          ⟨(hW.cell (p := ⟨d, 1, none⟩) HE.out.2.2.2.2.2.2.1).trans HE.out.2.2.1, (hc _).trans d0, (hc _).trans d1, (hc _).trans d2, (hc _).trans d3⟩
        go_wp2_with fail
        refine wp_region_noPanic ?_
        refine wp_region_held_drew (S := fun W => W.cell? ⟨d, 1, none⟩ = some (.slice (some ⟨bb, off, none⟩) el ce) ∧ W.cell? ⟨bb, off + k * 4, none⟩ = some (.string (bs p')) ∧ W.cell? ⟨bb, off + k * 4 + 1, none⟩ = some (.string (bs n')) ∧ W.cell? ⟨bb, off + k * 4 + 2, none⟩ = some (.string (bs q')) ∧ W.cell? ⟨bb, off + k * 4 + 3, none⟩ = some (.string (bs m'))) (by kernel_rfl) ⟨e1, d0, d1, d2, d3⟩ (fun hHeld => ?_)
        refine wpAnyH_take (i := 0) (oi := { dst := some 28, op := _, type := _, pos := _, after := _, guard := _ }) (v := ?vx1) rfl (by kernel_rfl) (by kernel_rfl) (by kernel_rfl) (fun _ _ _ h => h) (Or.inl ⟨by rfl, ?hyx1⟩) (by assumption) ?restx1
        case hyx1 => (intro w hSw; (try dsimp only at hSw); go_simp; try with_reducible rfl)
        try simp only [Act.put, List.setIfInBounds_toArray, List.set_cons_zero, List.set_cons_succ]
        refine wpAnyH_take (i := 1) (oi := { dst := some 29, op := _, type := _, pos := _, after := _, guard := _ }) (v := ?vx2) rfl (by kernel_rfl) (by kernel_rfl) (by kernel_rfl) (fun _ _ _ h => h) (Or.inl ⟨by rfl, ?hyx2⟩) (by assumption) ?restx2
        case hyx2 => (intro w hSw; (try dsimp only at hSw); go_simp; try with_reducible rfl)
        try simp only [Act.put, List.setIfInBounds_toArray, List.set_cons_zero, List.set_cons_succ]
        refine wpAnyH_take (i := 2) (oi := { dst := some 30, op := _, type := _, pos := _, after := _, guard := _ }) (v := ?vx3) rfl (by kernel_rfl) (by kernel_rfl) (by kernel_rfl) (fun _ _ _ h => h) (Or.inl ⟨by rfl, ?hyx3⟩) (by assumption) ?restx3
        case hyx3 => (intro w hSw; (try dsimp only at hSw); go_simp; try with_reducible rfl)
        try simp only [Act.put, List.setIfInBounds_toArray, List.set_cons_zero, List.set_cons_succ]
        refine wpAnyH_take (i := 3) (oi := { dst := some 31, op := _, type := _, pos := _, after := _, guard := _ }) (v := ?vx4) rfl (by kernel_rfl) (by kernel_rfl) (by kernel_rfl) (fun _ _ _ h => h) (Or.inl ⟨by rfl, ?hyx4⟩) (by assumption) ?restx4
        case hyx4 => (intro w hSw; (try dsimp only at hSw); go_simp; try with_reducible rfl)
        try simp only [Act.put, List.setIfInBounds_toArray, List.set_cons_zero, List.set_cons_succ]
        refine wpAnyH_take (i := 5) (oi := { dst := some 33, op := _, type := _, pos := _, after := _, guard := _ }) (v := ?vx5) rfl (by kernel_rfl) (by kernel_rfl) (by kernel_rfl) (fun _ _ _ h => h) (Or.inl ⟨by rfl, ?hyx5⟩) (by assumption) ?restx5
        case hyx5 => (intro w hSw; (try dsimp only at hSw); go_simp; try with_reducible rfl)
        try simp only [Act.put, List.setIfInBounds_toArray, List.set_cons_zero, List.set_cons_succ]
        refine wpAnyH_take (i := 6) (oi := { dst := some 34, op := _, type := _, pos := _, after := _, guard := _ }) (v := ?vx6) rfl (by kernel_rfl) (by kernel_rfl) (by kernel_rfl) (fun _ _ _ h => h) (Or.inl ⟨by rfl, ?hyx6⟩) (by assumption) ?restx6
        case hyx6 => (intro w hSw; (try dsimp only at hSw); go_simp; try with_reducible rfl)
        try simp only [Act.put, List.setIfInBounds_toArray, List.set_cons_zero, List.set_cons_succ]
        refine wpAnyH_take (i := 7) (oi := { dst := some 35, op := _, type := _, pos := _, after := _, guard := _ }) (v := ?vx7) rfl (by kernel_rfl) (by kernel_rfl) (by kernel_rfl) (fun _ _ _ h => h) (Or.inl ⟨by rfl, ?hyx7⟩) (by assumption) ?restx7
        case hyx7 => (intro w hSw; (try dsimp only at hSw); go_simp; try with_reducible rfl)
        try simp only [Act.put, List.setIfInBounds_toArray, List.set_cons_zero, List.set_cons_succ]
        refine wpAnyH_take (i := 8) (oi := { dst := some 36, op := _, type := _, pos := _, after := _, guard := _ }) (v := ?vx8) rfl (by kernel_rfl) (by kernel_rfl) (by kernel_rfl) (fun _ _ _ h => h) (Or.inl ⟨by rfl, ?hyx8⟩) (by assumption) ?restx8
        case hyx8 => (intro w hSw; (try dsimp only at hSw); go_simp; try with_reducible rfl)
        try simp only [Act.put, List.setIfInBounds_toArray, List.set_cons_zero, List.set_cons_succ]
        refine wpAnyH_take (i := 9) (oi := { dst := some 37, op := _, type := _, pos := _, after := _, guard := _ }) (v := ?vx9) rfl (by kernel_rfl) (by kernel_rfl) (by kernel_rfl) (fun _ _ _ h => h) (Or.inl ⟨by rfl, ?hyx9⟩) (by assumption) ?restx9
        case hyx9 => (intro w hSw; (try dsimp only at hSw); go_simp; try with_reducible rfl)
        try simp only [Act.put, List.setIfInBounds_toArray, List.set_cons_zero, List.set_cons_succ]
        refine wpAnyH_take (i := 10) (oi := { dst := some 38, op := _, type := _, pos := _, after := _, guard := _ }) (v := ?vx10) rfl (by kernel_rfl) (by kernel_rfl) (by kernel_rfl) (fun _ _ _ h => h) (Or.inl ⟨by rfl, ?hyx10⟩) (by assumption) ?restx10
        case hyx10 => (intro w hSw; (try dsimp only at hSw); go_simp; try with_reducible rfl)
        try simp only [Act.put, List.setIfInBounds_toArray, List.set_cons_zero, List.set_cons_succ]
        refine wpAnyH_take (i := 11) (oi := { dst := some 39, op := _, type := _, pos := _, after := _, guard := _ }) (v := ?vx11) rfl (by kernel_rfl) (by kernel_rfl) (by kernel_rfl) (fun _ _ _ h => h) (Or.inl ⟨by rfl, ?hyx11⟩) (by assumption) ?restx11
        case hyx11 => (intro w hSw; (try dsimp only at hSw); go_simp; try with_reducible rfl)
        try simp only [Act.put, List.setIfInBounds_toArray, List.set_cons_zero, List.set_cons_succ]
        refine wpAnyH_take (i := 12) (oi := { dst := some 40, op := _, type := _, pos := _, after := _, guard := _ }) (v := ?vx12) rfl (by kernel_rfl) (by kernel_rfl) (by kernel_rfl) (fun _ _ _ h => h) (Or.inl ⟨by rfl, ?hyx12⟩) (by assumption) ?restx12
        case hyx12 => (intro w hSw; (try dsimp only at hSw); go_simp; try with_reducible rfl)
        try simp only [Act.put, List.setIfInBounds_toArray, List.set_cons_zero, List.set_cons_succ]
        refine wpAnyH_take (i := 13) (oi := { dst := some 41, op := _, type := _, pos := _, after := _, guard := _ }) (v := ?vx13) rfl (by kernel_rfl) (by kernel_rfl) (by kernel_rfl) (fun _ _ _ h => h) (Or.inl ⟨by rfl, ?hyx13⟩) (by assumption) ?restx13
        case hyx13 => (intro w hSw; (try dsimp only at hSw); go_simp; try with_reducible rfl)
        try simp only [Act.put, List.setIfInBounds_toArray, List.set_cons_zero, List.set_cons_succ]
        refine wpAnyH_take (i := 14) (oi := { dst := some 42, op := _, type := _, pos := _, after := _, guard := _ }) (v := ?vx14) rfl (by kernel_rfl) (by kernel_rfl) (by kernel_rfl) (fun _ _ _ h => h) (Or.inl ⟨by rfl, ?hyx14⟩) (by assumption) ?restx14
        case hyx14 => (intro w hSw; (try dsimp only at hSw); go_simp; try with_reducible rfl)
        try simp only [Act.put, List.setIfInBounds_toArray, List.set_cons_zero, List.set_cons_succ]
        refine wpAnyH_take (i := 15) (oi := { dst := some 43, op := _, type := _, pos := _, after := _, guard := _ }) (v := ?vx15) rfl (by kernel_rfl) (by kernel_rfl) (by kernel_rfl) (fun _ _ _ h => h) (Or.inl ⟨by rfl, ?hyx15⟩) (by assumption) ?restx15
        case hyx15 => (intro w hSw; (try dsimp only at hSw); go_simp; try with_reducible rfl)
        try simp only [Act.put, List.setIfInBounds_toArray, List.set_cons_zero, List.set_cons_succ]
        refine wpAnyH_take (i := 16) (oi := { dst := some 44, op := _, type := _, pos := _, after := _, guard := _ }) (v := ?vx16) rfl (by kernel_rfl) (by kernel_rfl) (by kernel_rfl) (fun _ _ _ h => h) (Or.inl ⟨by rfl, ?hyx16⟩) (by assumption) ?restx16
        case hyx16 => (intro w hSw; (try dsimp only at hSw); go_simp; try with_reducible rfl)
        try simp only [Act.put, List.setIfInBounds_toArray, List.set_cons_zero, List.set_cons_succ]
        refine wpAnyH_take (i := 17) (oi := { dst := some 45, op := _, type := _, pos := _, after := _, guard := _ }) (v := ?vx17) rfl (by kernel_rfl) (by kernel_rfl) (by kernel_rfl) (fun _ _ _ h => h) (Or.inl ⟨by rfl, ?hyx17⟩) (by assumption) ?restx17
        case hyx17 => (intro w hSw; (try dsimp only at hSw); go_simp; try with_reducible rfl)
        try simp only [Act.put, List.setIfInBounds_toArray, List.set_cons_zero, List.set_cons_succ]
        refine wpAnyH_take (i := 18) (oi := { dst := some 46, op := _, type := _, pos := _, after := _, guard := _ }) (v := ?vx18) rfl (by kernel_rfl) (by kernel_rfl) (by kernel_rfl) (fun _ _ _ h => h) (Or.inl ⟨by rfl, ?hyx18⟩) (by assumption) ?restx18
        case hyx18 => (intro w hSw; (try dsimp only at hSw); go_simp; try with_reducible rfl)
        try simp only [Act.put, List.setIfInBounds_toArray, List.set_cons_zero, List.set_cons_succ]
        refine wpAnyH_take (i := 19) (oi := { dst := some 47, op := _, type := _, pos := _, after := _, guard := _ }) (v := ?vx19) rfl (by kernel_rfl) (by kernel_rfl) (by kernel_rfl) (fun _ _ _ h => h) (Or.inl ⟨by rfl, ?hyx19⟩) (by assumption) ?restx19
        case hyx19 => (intro w hSw; (try dsimp only at hSw); go_simp; try with_reducible rfl)
        try simp only [Act.put, List.setIfInBounds_toArray, List.set_cons_zero, List.set_cons_succ]
        refine wpAnyH_take (i := 20) (oi := { dst := some 48, op := _, type := _, pos := _, after := _, guard := _ }) (v := ?vx20) rfl (by kernel_rfl) (by kernel_rfl) (by kernel_rfl) (fun _ _ _ h => h) (Or.inl ⟨by rfl, ?hyx20⟩) (by assumption) ?restx20
        case hyx20 => (intro w hSw; (try dsimp only at hSw); go_simp; try with_reducible rfl)
        try simp only [Act.put, List.setIfInBounds_toArray, List.set_cons_zero, List.set_cons_succ]
        refine wpAnyH_take (i := 21) (oi := { dst := some 49, op := _, type := _, pos := _, after := _, guard := _ }) (v := ?vx21) rfl (by kernel_rfl) (by kernel_rfl) (by kernel_rfl) (fun _ _ _ h => h) (Or.inl ⟨by rfl, ?hyx21⟩) (by assumption) ?restx21
        case hyx21 => (intro w hSw; (try dsimp only at hSw); go_simp; try with_reducible rfl)
        try simp only [Act.put, List.setIfInBounds_toArray, List.set_cons_zero, List.set_cons_succ]
        refine wpAnyH_ready (rs := [4, 22]) (by kernel_rfl) (by simp) ?_
        refine AllReadyH.cons (o := { dst := some 32, op := _, type := _, pos := _, after := _, guard := _ }) rfl (fun K hK => ?_) (AllReadyH.cons (o := { dst := some 50, op := _, type := _, pos := _, after := _, guard := _ }) rfl (fun K hK => ?_) AllReadyH.nil)
        · go_simp
          refine hK.out _ _ (HSS.out _ (bstep HY.out.2.1 (bd wr 1))) (fun hHeld => ?_)
          clear hK K
          try simp only [Act.put, List.setIfInBounds_toArray, List.set_cons_zero, List.set_cons_succ]
          refine wpAnyH_ready (rs := [22]) (by kernel_rfl) (by simp) ?_
          refine AllReadyH.cons (o := { dst := some 50, op := _, type := _, pos := _, after := _, guard := _ }) rfl (fun K hK => ?_) AllReadyH.nil
          go_simp
          refine hK.out _ _ (HSS.out _ (bstep HY.out.2.1 (balloc _ _).drew)) (fun hHeld => ?_)
          clear hK K
          try simp only [Act.put, List.setIfInBounds_toArray, List.set_cons_zero, List.set_cons_succ]
          refine wpAnyH_ready (rs := [23]) (by kernel_rfl) (by simp) ?_
          refine AllReadyH.cons (o := { dst := some 51, op := _, type := _, pos := _, after := _, guard := _ }) rfl (fun K hK => ?_) AllReadyH.nil
          refine step_app_E rfl (.tmp 32) (.tmp 50) rfl 0 fk [(⟨q', m'⟩, ⟨p', n'⟩)] (.slice ae2 fl ce2) _ rfl rfl (HY.out.2.2.2.1.later (balloc wr _).drew) (src_Ed wr (⟨q', m'⟩, ⟨p', n'⟩)) (by have := HA.out.2.2.2.2; simp; omega) (Nat.zero_le _) ?_
          intro v9 w9 ho9 hg9 hl9
          obtain ⟨z1, z2, HZ9⟩ := DG.edgeY HY.out.1 HY.out.2.1 HY.out.2.2.1 ho9 hg9 hl9 HA.out.2.1 ⟨HA.out.2.2.1, HA.out.2.2.2.1⟩ HA.out.2.2.2.2
          clear hl9 hg9
          obtain ⟨av9, cv9, hvv9⟩ := ho9.form
          subst hvv9
          clear ho9
          have hle : (fk ++ [((⟨q', m'⟩, ⟨p', n'⟩) : Ee)]).length = fk.length + 1 := by simp
          rw [hle] at HZ9
          rw [hle]
          clear hle
          refine hK.out _ _ (HSS.out _ HZ9.out.1) (fun hHeld => ?_)
          clear hK K
          try simp only [Act.put, List.setIfInBounds_toArray, List.set_cons_zero, List.set_cons_succ]
          refine wpAnyH_take (i := 24) (oi := { dst := some 52, op := _, type := _, pos := _, after := _, guard := _ }) (v := ?vy122) rfl (by kernel_rfl) (by kernel_rfl) (by kernel_rfl) (fun _ _ _ h => h) (Or.inl ⟨by rfl, ?hyy122⟩) (by assumption) ?resty122
          case hyy122 => (intro w hSw; (try dsimp only at hSw); go_simp; try with_reducible rfl)
          try simp only [Act.put, List.setIfInBounds_toArray, List.set_cons_zero, List.set_cons_succ]
          refine wpAnyH_take (i := 25) (oi := { dst := some 53, op := _, type := _, pos := _, after := _, guard := _ }) (v := ?vy123) rfl (by kernel_rfl) (by kernel_rfl) (by kernel_rfl) (fun _ _ _ h => h) (Or.inl ⟨by rfl, ?hyy123⟩) (by assumption) ?resty123
          case hyy123 => (intro w hSw; (try dsimp only at hSw); go_simp; try with_reducible rfl)
          try simp only [Act.put, List.setIfInBounds_toArray, List.set_cons_zero, List.set_cons_succ]
          refine wpAnyH_ready (rs := [26]) (by kernel_rfl) (by simp) ?_
          refine AllReadyH.cons (o := { dst := none, op := _, type := _, pos := _, after := _, guard := _ }) rfl (fun K hK => ?_) AllReadyH.nil
          go_simp
          refine hK.out _ _ (HSS.out _ HZ9.out.2.1) (fun hHeld => ?_)
          clear hK K
          try simp only [Act.put, List.setIfInBounds_toArray, List.set_cons_zero, List.set_cons_succ]
          refine wpAnyH_done (by kernel_rfl) ?_ _
          refine NoPanic.normal ?_
          go_wp2_with fail
          go_roundw
          case rel =>
            refine ⟨k + 1, by go_num, by omega, ?_, HZ9.out.2.1⟩
            rw [HA.out.1]
            exact HZ9.out.2.2
          case measure => simp [intOf]; omega
        · go_simp
          refine hK.out _ _ (HSS.out _ (bstep HY.out.2.1 (balloc _ _).drew)) (fun hHeld => ?_)
          clear hK K
          try simp only [Act.put, List.setIfInBounds_toArray, List.set_cons_zero, List.set_cons_succ]
          refine wpAnyH_ready (rs := [4]) (by kernel_rfl) (by simp) ?_
          refine AllReadyH.cons (o := { dst := some 32, op := _, type := _, pos := _, after := _, guard := _ }) rfl (fun K hK => ?_) AllReadyH.nil
          go_simp
          refine hK.out _ _ (HSS.out _ (bstep HY.out.2.1 (balloc _ _).drew)) (fun hHeld => ?_)
          clear hK K
          try simp only [Act.put, List.setIfInBounds_toArray, List.set_cons_zero, List.set_cons_succ]
          refine wpAnyH_ready (rs := [23]) (by kernel_rfl) (by simp) ?_
          refine AllReadyH.cons (o := { dst := some 51, op := _, type := _, pos := _, after := _, guard := _ }) rfl (fun K hK => ?_) AllReadyH.nil
          refine step_app_E rfl (.tmp 32) (.tmp 50) rfl 0 fk [(⟨q', m'⟩, ⟨p', n'⟩)] (.slice ae2 fl ce2) _ rfl rfl (HY.out.2.2.2.1.later (balloc wr _).drew) (src_Ed wr (⟨q', m'⟩, ⟨p', n'⟩)) (by have := HA.out.2.2.2.2; simp; omega) (Nat.zero_le _) ?_
          intro v9 w9 ho9 hg9 hl9
          obtain ⟨z1, z2, HZ9⟩ := DG.edgeY HY.out.1 HY.out.2.1 HY.out.2.2.1 ho9 hg9 hl9 HA.out.2.1 ⟨HA.out.2.2.1, HA.out.2.2.2.1⟩ HA.out.2.2.2.2
          clear hl9 hg9
          obtain ⟨av9, cv9, hvv9⟩ := ho9.form
          subst hvv9
          clear ho9
          have hle : (fk ++ [((⟨q', m'⟩, ⟨p', n'⟩) : Ee)]).length = fk.length + 1 := by simp
          rw [hle] at HZ9
          rw [hle]
          clear hle
          refine hK.out _ _ (HSS.out _ HZ9.out.1) (fun hHeld => ?_)
          clear hK K
          try simp only [Act.put, List.setIfInBounds_toArray, List.set_cons_zero, List.set_cons_succ]
          refine wpAnyH_take (i := 24) (oi := { dst := some 52, op := _, type := _, pos := _, after := _, guard := _ }) (v := ?vy222) rfl (by kernel_rfl) (by kernel_rfl) (by kernel_rfl) (fun _ _ _ h => h) (Or.inl ⟨by rfl, ?hyy222⟩) (by assumption) ?resty222
          case hyy222 => (intro w hSw; (try dsimp only at hSw); go_simp; try with_reducible rfl)
          try simp only [Act.put, List.setIfInBounds_toArray, List.set_cons_zero, List.set_cons_succ]
          refine wpAnyH_take (i := 25) (oi := { dst := some 53, op := _, type := _, pos := _, after := _, guard := _ }) (v := ?vy223) rfl (by kernel_rfl) (by kernel_rfl) (by kernel_rfl) (fun _ _ _ h => h) (Or.inl ⟨by rfl, ?hyy223⟩) (by assumption) ?resty223
          case hyy223 => (intro w hSw; (try dsimp only at hSw); go_simp; try with_reducible rfl)
          try simp only [Act.put, List.setIfInBounds_toArray, List.set_cons_zero, List.set_cons_succ]
          refine wpAnyH_ready (rs := [26]) (by kernel_rfl) (by simp) ?_
          refine AllReadyH.cons (o := { dst := none, op := _, type := _, pos := _, after := _, guard := _ }) rfl (fun K hK => ?_) AllReadyH.nil
          go_simp
          refine hK.out _ _ (HSS.out _ HZ9.out.2.1) (fun hHeld => ?_)
          clear hK K
          try simp only [Act.put, List.setIfInBounds_toArray, List.set_cons_zero, List.set_cons_succ]
          refine wpAnyH_done (by kernel_rfl) ?_ _
          refine NoPanic.normal ?_
          go_wp2_with fail
          go_roundw
          case rel =>
            refine ⟨k + 1, by go_num, by omega, ?_, HZ9.out.2.1⟩
            rw [HA.out.1]
            exact HZ9.out.2.2
          case measure => simp [intOf]; omega
      · obtain rfl : el = k := by omega
        go_wp2_with fail
        go_ret
        refine ⟨rfl, ?_, HY.out.2.1⟩
        have := HY.out.1
        rw [← HY.out.2.2.2.2.2, List.take_of_length_le (by rw [HE.out.2.2.2.2.1]; exact Nat.le_refl _)] at this
        exact this
end Go.Proofs.Ytclbnjfmipifnaa
