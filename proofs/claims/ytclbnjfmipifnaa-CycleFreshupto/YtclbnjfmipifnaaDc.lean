/-
  The document's Reach.
-/
import Derived.Test.YtclbnjfmipifnaaDw
namespace Go.Proofs.Ytclbnjfmipifnaa
open Go.RowKit Go.Maps

/-- what is got so far -/
structure RG (N : List Lb) (E : List Ee) (fr got : List Lb) : Prop where
  nd : got.Nodup
  sub : ∀ x ∈ got, x ∈ N ∧ Gs.Rch N E fr x
theorem RG.add {N : List Lb} {E : List Ee} {fr got : List Lb} (h : RG N E fr got) {x : Lb} (hx : x ∉ got) (hn : x ∈ N) (hr : Gs.Rch N E fr x) : RG N E fr (got ++ [x]) := by
  refine ⟨?_, fun y hy => ?_⟩
  · rw [List.nodup_append]
    refine ⟨h.nd, by simp, ?_⟩
    intro a ha b hb
    have : b = x := by simpa using hb
    subst this
    rintro rfl
    exact hx ha
  · rcases List.mem_append.1 hy with hy | hy
    · exact h.sub y hy
    · have : y = x := by simpa using hy
      subst this; exact ⟨hn, hr⟩
theorem RG.len {N : List Lb} {E : List Ee} {fr got : List Lb} (h : RG N E fr got) : got.length ≤ N.length := Gs.nodup_sub got N h.nd (fun x hx => (h.sub x hx).1)

set_option maxRecDepth 100000 in
set_option maxHeartbeats 8000000 in
theorem dreach_any {w : World} {F : Nat → Prop} {d : Nat} {N : List Lb} {E : List Ee} (h : DG w F d N E) {fv : Value} {fr : List Lb} (hf : LS w fv fr) (hfl : fr.length ≤ 4000000) :
    Calls Try.prog 13 #[.pointer (some ⟨d, 0, none⟩), fv] w fun e w' => ∃ u R, e = .returned u ∧ OwnL w.heap.size w' u R ∧ UpL R ∧ (∀ x, x ∈ R ↔ Gs.Rch N E fr x) ∧ Below w.heap.size w w' := by
  obtain ⟨an, cn, ae, ce, h0, h1, _, _, hoN, hoE⟩ := h.rows
  obtain ⟨el, hel⟩ : ∃ el, E.length = el := ⟨_, rfl⟩
  obtain ⟨nl, hnl⟩ : ∃ nl, N.length = nl := ⟨_, rfl⟩
  rw [hel] at h1 hoE
  rw [hnl] at h0 hoN
  obtain ⟨af, cf, hvv, _⟩ := hf.form
  obtain ⟨fl, hfl2⟩ : ∃ fl, fr.length = fl := ⟨_, rfl⟩
  rw [hfl2] at hvv hfl
  subst hvv
  have HE : Hid (w.cell? ⟨d, 0, none⟩ = some (.slice an nl cn) ∧ OwnL 0 w (.slice an nl cn) N ∧ w.cell? ⟨d, 1, none⟩ = some (.slice ae el ce) ∧ OwnE 0 w (.slice ae el ce) E ∧ E.length = el ∧ N.length = nl ∧ d < w.heap.size ∧ DG w F d N E) := ⟨h0, hoN, h1, hoE, hel, hnl, h.dlt, h⟩
  have HF : Hid (LS w (.slice af fl cf) fr ∧ fr.length = fl) := ⟨hf, hfl2⟩
  have hel2 : el ≤ 1000000 := by rw [← hel]; exact h.ez
  have hnl2 : nl ≤ 1000000 := by rw [← hnl]; exact h.nz
  clear h0 h1 hoN hoE hel hnl h hf hfl2
  have hq := eql_run'
  have hg := guard_run
  go_enter Try.func13, Try.ntmps13
  go_wp2_with fail
  go_loopw [5, 6] (fun s5 s6 wr => ∃ (k : Nat) (got : List Lb), s6 = .int .i64 k ∧ k ≤ fl ∧ OwnL w.heap.size wr s5 got ∧ RG N E fr got ∧ (∀ x ∈ fr.take k, x ∈ N → x ∈ got) ∧ Below w.heap.size w wr) (fun _ s6 _ => fl - (intOf s6).toNat)
  case atStart => exact ⟨0, [], rfl, by omega, OwnL.nil _ _, ⟨List.nodup_nil, by simp⟩, by simp, Below.refl _ _⟩
  case round =>
    obtain ⟨k, got, rfl, hk, ho, hG, hx, hb⟩ := hrel
    obtain ⟨ag, cg, hvv⟩ := ho.form
    obtain ⟨gl, hgl⟩ : ∃ gl, got.length = gl := ⟨_, rfl⟩
    rw [hgl] at hvv
    subst hvv
    have hgl2 : gl ≤ nl := by rw [← hgl, ← HE.out.2.2.2.2.2.1]; exact hG.len
    have HY : Hid (OwnL w.heap.size wr (.slice ag gl cg) got ∧ RG N E fr got ∧ (∀ x ∈ fr.take k, x ∈ N → x ∈ got) ∧ Below w.heap.size w wr ∧ got.length = gl) := ⟨ho, hG, hx, hb, hgl⟩
    clear ho hG hx hb hgl
    by_cases hlt : k < fl
    · have hkl : k < fr.length := by rw [HF.out.2]; exact hlt
      obtain ⟨b, off, ea, hbw, d0, d1⟩ := LS.at HF.out.1 HY.out.2.2.2.1 hkl
      subst ea
      obtain ⟨x, hxe⟩ : ∃ x, fr[k] = x := ⟨_, rfl⟩
      have HA : Hid (x ∈ fr ∧ ∀ G : List Lb, (∀ y ∈ fr.take k, y ∈ N → y ∈ G) → (x ∈ N → x ∈ G) → ∀ y ∈ fr.take (k + 1), y ∈ N → y ∈ G) := by
        refine ⟨by rw [← hxe]; exact List.getElem_mem hkl, fun G h1 h2 y hy => ?_⟩
        rw [List.take_succ_eq_append_getElem hkl, List.mem_append, hxe] at hy
        rcases hy with hy | hy
        · exact h1 y hy
        · have : y = x := by simpa using hy
          rw [this]; exact h2
      rw [hxe] at d0 d1
      clear hxe
      have k1 : (k : Int) < (fl : Int) := by omega
      have hdl := Nat.lt_of_lt_of_le HE.out.2.2.2.2.2.2.1 HY.out.2.2.2.1.size
      have hbl := Nat.lt_of_lt_of_le hbw HY.out.2.2.2.1.size
      have x0 : ∀ Y : GW wr, Y.it.cell? ⟨d, 0, none⟩ = some (.slice an nl cn) := fun Y => Y.cell hdl ((HY.out.2.2.2.1.cell (p := ⟨d, 0, none⟩) HE.out.2.2.2.2.2.2.1).trans HE.out.1)
      have x1 : ∀ Y : GW wr, Y.it.cell? ⟨b, off + k * 2, none⟩ = some (.string (bs x.pkg)) := fun Y => Y.cell hbl d0
      have x2 : ∀ Y : GW wr, Y.it.cell? ⟨b, off + k * 2 + 1, none⟩ = some (.string (bs x.name)) := fun Y => Y.cell hbl d1
      have xne := gw_ne wr
      have k0 : Hid (∀ Y : GW wr, Calls Try.prog 12 #[.slice an nl cn, x.val] Y.it fun e w' => e = .returned (.bool (decide (x ∈ N))) ∧ ∃ X : GW wr, w' = X.it) := fun Y => (in_any (HE.out.2.1.rs.later (bstep HY.out.2.2.2.1 Y.below)) (by have := HE.out.2.2.2.2.2.1; omega) x).mono fun _ w' ⟨he, hl⟩ => ⟨he, ⟨w', bstep Y.below hl⟩, rfl⟩
      have k2 : Hid (∀ Y : GW wr, Calls Try.prog 12 #[.slice ag gl cg, x.val] Y.it fun e w' => e = .returned (.bool (decide (x ∈ got))) ∧ ∃ X : GW wr, w' = X.it) := fun Y => (in_any (HY.out.1.rs.later Y.below) (by have := HY.out.2.2.2.2; omega) x).mono fun _ w' ⟨he, hl⟩ => ⟨he, ⟨w', bstep Y.below hl⟩, rfl⟩
      by_cases hn : x ∈ N
      · have hn2 : decide (x ∈ N) = true := by simpa using hn
        rw [hn2] at k0
        by_cases hg2 : x ∈ got
        · have hg3 : decide (x ∈ got) = true := by simpa using hg2
          rw [hg3] at k2
          have HZ : Hid (∀ y ∈ fr.take (k + 1), y ∈ N → y ∈ got) := HA.out.2 got HY.out.2.2.1 (fun _ => hg2)
          clear hn hn2 hg2 hg3 d0 d1 hdl hbl
          obtain ⟨p, m⟩ := x
          simp only [Lb.val] at *
          go_wp2_with fail
          refine wp_region_grow (by kernel_rfl) (by kernel_rfl) ?_
          repeat (go_big_quiet_step (first | with_reducible exact k0.out _ | with_reducible exact k2.out _))
          refine wpQuiet_nil ?_
          rintro w4 ⟨⟨w4, bx⟩, rfl⟩
          have HB4 : Hid (Below wr.heap.size wr w4) := bx
          clear bx x0 x1 x2 xne k0 k2
          go_wp2_with fail
          go_roundw
          case rel => exact ⟨k + 1, got, by go_num, by omega, HY.out.1.later HB4.out, HY.out.2.1, HZ.out, bstep HY.out.2.2.2.1 HB4.out⟩
          case measure => simp [intOf]; omega
        · have hg3 : decide (x ∈ got) = false := by simpa using hg2
          rw [hg3] at k2
          have HZ : Hid (RG N E fr (got ++ [x]) ∧ ∀ y ∈ fr.take (k + 1), y ∈ N → y ∈ got ++ [x]) := ⟨HY.out.2.1.add hg2 hn ⟨x, HA.out.1, hn, .refl x⟩, HA.out.2 _ (fun y hy hm => List.mem_append.2 (.inl (HY.out.2.2.1 y hy hm))) (fun _ => by simp)⟩
          have HD : Hid (b < wr.heap.size ∧ wr.cell? ⟨b, off + k * 2, none⟩ = some (.string (bs x.pkg)) ∧ wr.cell? ⟨b, off + k * 2 + 1, none⟩ = some (.string (bs x.name))) := ⟨hbl, d0, d1⟩
          clear hn hn2 hg2 hg3 d0 d1 hdl hbl
          obtain ⟨p, m⟩ := x
          simp only [Lb.val] at *
          go_wp2_with fail
          refine wp_region_grow (by kernel_rfl) (by kernel_rfl) ?_
          repeat (go_big_quiet_step (first | with_reducible exact k0.out _ | with_reducible exact k2.out _))
          refine wpQuiet_nil ?_
          rintro w4 ⟨⟨w4, bx⟩, rfl⟩
          have HB4 : Hid (Below wr.heap.size wr w4) := bx
          clear bx x0 x1 x2 xne k0 k2
          have f0 := (HB4.out.cell (p := ⟨b, off + k * 2, none⟩) HD.out.1).trans HD.out.2.1
          have f1 := (HB4.out.cell (p := ⟨b, off + k * 2 + 1, none⟩) HD.out.1).trans HD.out.2.2
          have HO4 : Hid (OwnL w.heap.size w4 (.slice ag gl cg) got) := HY.out.1.later HB4.out
          have hs4 : w.heap.size ≤ w4.heap.size := Nat.le_trans HY.out.2.2.2.1.size HB4.out.size
          go_wp2_with (first | (at_builtin; refine app_L1 und_L ⟨p, m⟩ HO4.out (by have := HY.out.2.2.2.2; omega) hs4 rfl (.tmp 33) (.tmp 38) rfl rfl rfl ?_; intro v' w5 ho5 hb5 hon5 hs5 hwh5))
          go_roundw
          case rel => exact ⟨k + 1, got ++ [⟨p, m⟩], by go_num, by omega, ho5, HZ.out.1, HZ.out.2, below_trans (bstep HY.out.2.2.2.1 HB4.out) hb5⟩
          case measure => simp [intOf]; omega
      · have hn2 : decide (x ∈ N) = false := by simpa using hn
        rw [hn2] at k0
        have HZ : Hid (∀ y ∈ fr.take (k + 1), y ∈ N → y ∈ got) := HA.out.2 got HY.out.2.2.1 (fun h => absurd h hn)
        clear hn hn2 d0 d1 hdl hbl k2
        obtain ⟨p, m⟩ := x
        simp only [Lb.val] at *
        go_wp2_with fail
        refine wp_region_grow (by kernel_rfl) (by kernel_rfl) ?_
        repeat (go_big_quiet_step (with_reducible exact k0.out _))
        refine wpQuiet_nil ?_
        rintro w4 ⟨⟨w4, bx⟩, rfl⟩
        have HB4 : Hid (Below wr.heap.size wr w4) := bx
        clear bx x0 x1 x2 xne k0
        go_wp2_with fail
        go_roundw
        case rel => exact ⟨k + 1, got, by go_num, by omega, HY.out.1.later HB4.out, HY.out.2.1, HZ.out, bstep HY.out.2.2.2.1 HB4.out⟩
        case measure => simp [intOf]; omega
    · obtain rfl : fl = k := by omega
      have HALL : Hid (∀ x ∈ fr, x ∈ N → x ∈ got) := by
        have := HY.out.2.2.1
        rw [List.take_of_length_le (by rw [HF.out.2]; exact Nat.le_refl _)] at this
        exact this
      rename World => w6
      go_wp2_with fail
      go_loopw [5, 7] (fun s5 s7 wr => ∃ (i : Nat) (got : List Lb), s7 = .int .i64 i ∧ i ≤ got.length ∧ OwnL w.heap.size wr s5 got ∧ RG N E fr got ∧ (∀ x ∈ fr, x ∈ N → x ∈ got) ∧ (∀ x ∈ got.take i, ∀ y, (x, y) ∈ E → y ∈ got) ∧ Below w.heap.size w wr) (fun _ s7 _ => nl - (intOf s7).toNat)
      case atStart => exact ⟨0, got, rfl, by omega, HY.out.1, HY.out.2.1, HALL.out, by simp, HY.out.2.2.2.1⟩
      case round =>
        clear HY HALL hgl2
        obtain ⟨i, got, rfl, hi, ho, hG, hx, hcl, hb⟩ := hrel
        obtain ⟨ag, cg, hvv⟩ := ho.form
        obtain ⟨gl, hgl⟩ : ∃ gl, got.length = gl := ⟨_, rfl⟩
        rw [hgl] at hvv hi
        subst hvv
        have hgl2 : gl ≤ nl := by rw [← hgl, ← HE.out.2.2.2.2.2.1]; exact hG.len
        have HY : Hid (OwnL w.heap.size wr (.slice ag gl cg) got ∧ RG N E fr got ∧ (∀ x ∈ fr, x ∈ N → x ∈ got) ∧ (∀ x ∈ got.take i, ∀ y, (x, y) ∈ E → y ∈ got) ∧ Below w.heap.size w wr ∧ got.length = gl) := ⟨ho, hG, hx, hcl, hb, hgl⟩
        clear ho hG hx hcl hb hgl
        by_cases hlt2 : i < gl
        · have hil : i < got.length := by rw [HY.out.2.2.2.2.2]; exact hlt2
          obtain ⟨a, hae⟩ : ∃ a, got[i] = a := ⟨_, rfl⟩
          have HA : Hid (got[i] = a ∧ a ∈ N ∧ Gs.Rch N E fr a) := by
            have := HY.out.2.1.sub a (by rw [← hae]; exact List.getElem_mem hil)
            exact ⟨hae, this.1, this.2⟩
          clear hae
          have k1 : (i : Int) < (gl : Int) := by omega
          obtain ⟨p, m⟩ := a
          rename World => w7
          go_wp2_with fail
          go_loopw [5, 8] (fun s5 s8 wr => ∃ (j : Nat) (G : List Lb), s8 = .int .i64 j ∧ j ≤ el ∧ OwnL w.heap.size wr s5 G ∧ RG N E fr G ∧ (∀ x ∈ got, x ∈ G) ∧ G.take (i + 1) = got.take (i + 1) ∧ (∀ e ∈ E.take j, e.1 = ⟨p, m⟩ → e.2 ∈ G) ∧ Below w.heap.size w wr ∧ i < G.length) (fun _ s8 _ => el - (intOf s8).toNat)
          case atStart => exact ⟨0, got, rfl, by omega, HY.out.1, HY.out.2.1, fun _ h => h, rfl, by simp, HY.out.2.2.2.2.1, hil⟩
          case round =>
            obtain ⟨j, G, rfl, hj, ho, hG, hsub, htk, hE, hb, hiG⟩ := hrel
            obtain ⟨a2, c2, hvv⟩ := ho.form
            obtain ⟨g2, hg2⟩ : ∃ g2, G.length = g2 := ⟨_, rfl⟩
            rw [hg2] at hvv hiG
            subst hvv
            have hgl3 : g2 ≤ nl := by rw [← hg2, ← HE.out.2.2.2.2.2.1]; exact hG.len
            have HG : Hid (OwnL w.heap.size wr (.slice a2 g2 c2) G ∧ RG N E fr G ∧ (∀ x ∈ got, x ∈ G) ∧ G.take (i + 1) = got.take (i + 1) ∧ (∀ e ∈ E.take j, e.1 = ⟨p, m⟩ → e.2 ∈ G) ∧ Below w.heap.size w wr ∧ G.length = g2) := ⟨ho, hG, hsub, htk, hE, hb, hg2⟩
            have e1 := (hb.cell (p := ⟨d, 1, none⟩) HE.out.2.2.2.2.2.2.1).trans HE.out.2.2.1
            clear ho hG hsub htk hE hb hg2
            by_cases hjl : j < el
            · have hjl2 : j < E.length := by rw [HE.out.2.2.2.2.1]; exact hjl
              have hiG2 : i < G.length := by rw [HG.out.2.2.2.2.2.2]; exact hiG
              obtain ⟨bb, off, ea, hbw, d0, d1, d2, d3⟩ := ES.at HE.out.2.2.2.1.rs HG.out.2.2.2.2.2.1 hjl2
              subst ea
              obtain ⟨b2, off2, ea, hbw2, f0, f1⟩ := LS.at HG.out.1.rs (Below.refl _ wr) hiG2
              subst ea
              have hGi : G[i] = ⟨p, m⟩ := by
                have h1 : (G.take (i + 1))[i]? = (got.take (i + 1))[i]? := by rw [HG.out.2.2.2.1]
                rw [List.getElem?_take_of_lt (by omega), List.getElem?_take_of_lt (by omega), List.getElem?_eq_getElem hiG2, List.getElem?_eq_getElem hil, HA.out.1] at h1
                injection h1
              rw [hGi] at f0 f1
              clear hGi
              obtain ⟨x, hxe⟩ : ∃ x, E[j] = x := ⟨_, rfl⟩
              have HX : Hid (x ∈ E ∧ ∀ G' : List Lb, (∀ y ∈ G, y ∈ G') → (x.1 = ⟨p, m⟩ → x.2 ∈ G') → ∀ e ∈ E.take (j + 1), e.1 = ⟨p, m⟩ → e.2 ∈ G') := by
                refine ⟨by rw [← hxe]; exact List.getElem_mem hjl2, fun G' h1 h2 e he => ?_⟩
                rw [List.take_succ_eq_append_getElem hjl2, List.mem_append, hxe] at he
                rcases he with he | he
                · exact fun h => h1 _ (HG.out.2.2.2.2.1 e he h)
                · have : e = x := by simpa using he
                  rw [this]; exact h2
              rw [hxe] at d0 d1 d2 d3
              clear hxe
              obtain ⟨⟨p', n'⟩, ⟨q', m'⟩⟩ := x
              simp only at d0 d1 d2 d3 f0 f1
              have k2 : (j : Int) < (el : Int) := by omega
              have k3 : (i : Int) < (g2 : Int) := by omega
              have hdl := Nat.lt_of_lt_of_le HE.out.2.2.2.2.2.2.1 HG.out.2.2.2.2.2.1.size
              have hbl := Nat.lt_of_lt_of_le hbw HG.out.2.2.2.2.2.1.size
              have x0 : ∀ Y : GW wr, Y.it.cell? ⟨d, 1, none⟩ = some (.slice (some ⟨bb, off, none⟩) el ce) := fun Y => Y.cell hdl e1
              have x1 : ∀ Y : GW wr, Y.it.cell? ⟨b2, off2 + i * 2, none⟩ = some (.string (bs p)) := fun Y => Y.cell hbw2 f0
              have x2 : ∀ Y : GW wr, Y.it.cell? ⟨b2, off2 + i * 2 + 1, none⟩ = some (.string (bs m)) := fun Y => Y.cell hbw2 f1
              have y0 : ∀ Y : GW wr, Y.it.cell? ⟨bb, off + j * 4, none⟩ = some (.string (bs p')) := fun Y => Y.cell hbl d0
              have y1 : ∀ Y : GW wr, Y.it.cell? ⟨bb, off + j * 4 + 1, none⟩ = some (.string (bs n')) := fun Y => Y.cell hbl d1
              have y2 : ∀ Y : GW wr, Y.it.cell? ⟨bb, off + j * 4 + 2, none⟩ = some (.string (bs q')) := fun Y => Y.cell hbl d2
              have y3 : ∀ Y : GW wr, Y.it.cell? ⟨bb, off + j * 4 + 3, none⟩ = some (.string (bs m')) := fun Y => Y.cell hbl d3
              have xne := gw_ne wr
              have k0 : Hid (∀ Y : GW wr, Calls Try.prog 12 #[.slice (some ⟨b2, off2, none⟩) g2 c2, .agg #[.string (bs q'), .string (bs m')]] Y.it fun e w' => e = .returned (.bool (decide ((⟨q', m'⟩ : Lb) ∈ G))) ∧ ∃ X : GW wr, w' = X.it) := fun Y => (in_any (HG.out.1.rs.later Y.below) (by have := HG.out.2.2.2.2.2.2; omega) ⟨q', m'⟩).mono fun _ w' ⟨he, hl⟩ => ⟨he, ⟨w', bstep Y.below hl⟩, rfl⟩
              have HDD : Hid (bb < wr.heap.size ∧ d < wr.heap.size ∧ wr.cell? ⟨bb, off + j * 4 + 2, none⟩ = some (.string (bs q')) ∧ wr.cell? ⟨bb, off + j * 4 + 3, none⟩ = some (.string (bs m')) ∧ wr.cell? ⟨d, 1, none⟩ = some (.slice (some ⟨bb, off, none⟩) el ce)) := ⟨hbl, hdl, d2, d3, e1⟩
              clear d0 d1 d2 d3 f0 f1 hdl hbl
              by_cases he : (⟨p', n'⟩ : Lb) = ⟨p, m⟩
              · have he2 : leq ⟨p', n'⟩ ⟨p, m⟩ = true := by unfold leq; simpa using he
                have HEQ : Hid ((⟨p', n'⟩ : Lb) = ⟨p, m⟩) := he
                clear he
                by_cases hm : (⟨q', m'⟩ : Lb) ∈ G
                · have hm2 : decide ((⟨q', m'⟩ : Lb) ∈ G) = true := by simpa using hm
                  rw [hm2] at k0
                  have HM : Hid (∀ e ∈ E.take (j + 1), e.1 = ⟨p, m⟩ → e.2 ∈ G) := HX.out.2 G (fun _ h => h) (fun _ => hm)
                  clear hm hm2
                  go_wp2_with fail
                  refine wp_region_grow (by kernel_rfl) (by kernel_rfl) ?_
                  repeat (go_big_quiet_step (with_reducible exact k0.out _))
                  refine wpQuiet_nil ?_
                  rintro w4 ⟨⟨w4, bx⟩, rfl⟩
                  have HB4 : Hid (Below wr.heap.size wr w4) := bx
                  clear bx x0 x1 x2 y0 y1 y2 y3 xne k0 he2
                  go_wp2_with fail
                  go_roundw
                  case rel => exact ⟨j + 1, G, by go_num, by omega, HG.out.1.later HB4.out, HG.out.2.1, HG.out.2.2.1, HG.out.2.2.2.1, HM.out, bstep HG.out.2.2.2.2.2.1 HB4.out, hiG2⟩
                  case measure => simp [intOf]; omega
                · have hm2 : decide ((⟨q', m'⟩ : Lb) ∈ G) = false := by simpa using hm
                  rw [hm2] at k0
                  have HM : Hid (RG N E fr (G ++ [⟨q', m'⟩]) ∧ (∀ e ∈ E.take (j + 1), e.1 = ⟨p, m⟩ → e.2 ∈ G ++ [⟨q', m'⟩]) ∧ (G ++ [(⟨q', m'⟩ : Lb)]).take (i + 1) = got.take (i + 1) ∧ i < (G ++ [(⟨q', m'⟩ : Lb)]).length) := by
                    refine ⟨HG.out.2.1.add hm (HE.out.2.2.2.2.2.2.2.sub _ HX.out.1).2 (Gs.rch_step HA.out.2.2 (by rw [← HEQ.out]; exact HX.out.1)), HX.out.2 _ (fun y hy => List.mem_append.2 (.inl hy)) (fun _ => by simp), ?_, by simp; omega⟩
                    rw [List.take_append_of_le_length (by omega)]; exact HG.out.2.2.2.1
                  clear hm hm2
                  go_wp2_with fail
                  refine wp_region_grow (by kernel_rfl) (by kernel_rfl) ?_
                  repeat (go_big_quiet_step (with_reducible exact k0.out _))
                  refine wpQuiet_nil ?_
                  rintro w4 ⟨⟨w4, bx⟩, rfl⟩
                  have HB4 : Hid (Below wr.heap.size wr w4) := bx
                  clear bx x0 x1 x2 y0 y1 y2 y3 xne k0 he2
                  have z0 := (HB4.out.cell (p := ⟨d, 1, none⟩) HDD.out.2.1).trans HDD.out.2.2.2.2
                  have z2 := (HB4.out.cell (p := ⟨bb, off + j * 4 + 2, none⟩) HDD.out.1).trans HDD.out.2.2.1
                  have z3 := (HB4.out.cell (p := ⟨bb, off + j * 4 + 3, none⟩) HDD.out.1).trans HDD.out.2.2.2.1
                  have HO4 : Hid (OwnL w.heap.size w4 (.slice (some ⟨b2, off2, none⟩) g2 c2) G) := HG.out.1.later HB4.out
                  have hs4 : w.heap.size ≤ w4.heap.size := Nat.le_trans HG.out.2.2.2.2.2.1.size HB4.out.size
                  go_wp2_with (first | (at_builtin; refine app_L1 und_L ⟨q', m'⟩ HO4.out (by have := HG.out.2.2.2.2.2.2; omega) hs4 rfl (.tmp 81) (.tmp 90) rfl rfl rfl ?_; intro v' w5 ho5 hb5 hon5 hs5 hwh5))
                  go_roundw
                  case rel => exact ⟨j + 1, G ++ [⟨q', m'⟩], by go_num, by omega, ho5, HM.out.1, fun x hx => List.mem_append.2 (.inl (HG.out.2.2.1 x hx)), HM.out.2.2.1, HM.out.2.1, below_trans (bstep HG.out.2.2.2.2.2.1 HB4.out) hb5, HM.out.2.2.2⟩
                  case measure => simp [intOf]; omega
              · have he2 : leq ⟨p', n'⟩ ⟨p, m⟩ = false := by unfold leq; simpa using he
                have HM : Hid (∀ e ∈ E.take (j + 1), e.1 = ⟨p, m⟩ → e.2 ∈ G) := HX.out.2 G (fun _ h => h) (fun h => absurd h he)
                clear he
                go_wp2_with fail
                refine wp_region_grow (by kernel_rfl) (by kernel_rfl) ?_
                repeat (go_big_quiet_step (with_reducible exact k0.out _))
                refine wpQuiet_nil ?_
                rintro w4 ⟨⟨w4, bx⟩, rfl⟩
                have HB4 : Hid (Below wr.heap.size wr w4) := bx
                clear bx x0 x1 x2 y0 y1 y2 y3 xne k0 he2
                go_wp2_with fail
                go_roundw
                case rel => exact ⟨j + 1, G, by go_num, by omega, HG.out.1.later HB4.out, HG.out.2.1, HG.out.2.2.1, HG.out.2.2.2.1, HM.out, bstep HG.out.2.2.2.2.2.1 HB4.out, hiG2⟩
                case measure => simp [intOf]; omega
            · obtain rfl : el = j := by omega
              have HM : Hid (∀ x ∈ G.take (i + 1), ∀ y, (x, y) ∈ E → y ∈ G) := by
                intro x hx y hy
                rw [HG.out.2.2.2.1, List.take_succ_eq_append_getElem hil, List.mem_append, HA.out.1] at hx
                rcases hx with hx | hx
                · exact HG.out.2.2.1 _ (HY.out.2.2.2.1 x hx y hy)
                · have : x = ⟨p, m⟩ := by simpa using hx
                  subst this
                  have h6 := HG.out.2.2.2.2.1
                  rw [List.take_of_length_le (by rw [HE.out.2.2.2.2.1]; exact Nat.le_refl _)] at h6
                  exact h6 _ hy rfl
              go_wp2_with fail
              go_roundw
              case rel => exact ⟨i + 1, G, by go_num, by have := HG.out.2.2.2.2.2.2; omega, HG.out.1, HG.out.2.1, fun x hx hn => HG.out.2.2.1 x (HY.out.2.2.1 x hx hn), HM.out, HG.out.2.2.2.2.2.1⟩
              case measure => simp [intOf]; omega
        · obtain rfl : gl = i := by omega
          have HALL : Hid (∀ x, x ∈ got ↔ Gs.Rch N E fr x) := by
            have h4 := HY.out.2.2.2.1
            rw [List.take_of_length_le (by rw [HY.out.2.2.2.2.2]; exact Nat.le_refl _)] at h4
            exact fun x => Gs.rch_iff (fun a ha hn => HY.out.2.2.1 a ha hn) (fun x hx => (HY.out.2.1.sub x hx).2) (fun x hx y hy => h4 x hx y hy) x
          have HD : Hid (Calls Try.prog 20 #[.slice ag gl cg] wr fun e w' => ∃ u, e = .returned u ∧ OwnL wr.heap.size w' u (rs got) ∧ Below wr.heap.size wr w') := drising_any HY.out.1.rs (by rw [HY.out.2.2.2.2.2]; omega) (fun x hx => HE.out.2.2.2.2.2.2.2.lu x (HY.out.2.1.sub x hx).1)
          go_wp2_with fail
          refine HD.out.mono ?_
          rintro e w8 ⟨u, rfl, ho8, hb8⟩
          have HZ : Hid (OwnL w.heap.size w8 u (rs got) ∧ Below w.heap.size w w8) := ⟨ho8.mono HY.out.2.2.2.2.1.size, bstep HY.out.2.2.2.2.1 hb8⟩
          clear ho8 hb8
          go_wp2_with fail
          go_ret
          exact ⟨u, rs got, rfl, HZ.out.1, Gs.ris_up stoL got, fun x => by rw [show (x ∈ rs got ↔ x ∈ got) from Gs.mem_ris _ _]; exact HALL.out x, HZ.out.2⟩
end Go.Proofs.Ytclbnjfmipifnaa
