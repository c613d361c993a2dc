/-
  The document's Rising, walked.
-/
import Derived.Test.YtclbnjfmipifnaaJDr
namespace Go.Proofs.Ytclbnjfmipifnaa
open Go.RowKit Go.Maps

set_option maxRecDepth 100000 in
set_option maxHeartbeats 8000000 in
theorem drising_any {w : World} {v : Value} {l : List Lb} (h : LS w v l) (hl : l.length ≤ 1000000) (hu : ∀ x ∈ l, Lu x) :
    Calls Try.prog 20 #[v] w fun e w' => ∃ u, e = .returned u ∧ OwnL w.heap.size w' u (rs l) ∧ Below w.heap.size w w' := by
  have H : Hid (LS w v l ∧ ∀ x ∈ l, Lu x) := ⟨h, hu⟩
  obtain ⟨av, cv, hvv, _⟩ := h.form
  obtain ⟨n, hn⟩ : ∃ n, l.length = n := ⟨_, rfl⟩
  rw [hn] at hvv hl
  subst hvv
  have HN : Hid (l.length = n) := hn
  clear h hn hu
  have hq := eql_run'
  have hg := guard_run
  go_enter Try.func20, Try.ntmps20
  go_wp2_with fail
  go_loopw [3, 4] (fun s3 s4 wr => ∃ (k : Nat), s4 = .int .i64 k ∧ k ≤ n ∧ OwnL w.heap.size wr s3 (rs (l.take k)) ∧ Below w.heap.size w wr) (fun _ s4 _ => n - (intOf s4).toNat)
  case atStart => exact ⟨0, rfl, by omega, OwnL.nil _ _, Below.refl _ _⟩
  case round =>
    rename_i s3 _
    obtain ⟨k, rfl, hk, ho, hb⟩ := hrel
    obtain ⟨o, hoe⟩ : ∃ o, rs (l.take k) = o := ⟨_, rfl⟩
    rw [hoe] at ho
    obtain ⟨ad, cap, hvv⟩ := ho.form
    obtain ⟨on, hon⟩ : ∃ on, o.length = on := ⟨_, rfl⟩
    rw [hon] at hvv
    subst hvv
    have hol : on ≤ n := by
      rw [← hon, ← hoe]
      have := Gs.ris_le (lt := ltL) (l.take k)
      have h2 : (l.take k).length ≤ n := by rw [← HN.out]; simp; omega
      exact Nat.le_trans this h2
    have HX : Hid (OwnL w.heap.size wr (.slice ad on cap) o ∧ Below w.heap.size w wr ∧ rs (l.take k) = o ∧ o.length = on ∧ (∀ x ∈ o, Lu x)) := ⟨ho, hb, hoe, hon, fun x hx => by
      rw [← hoe] at hx
      exact H.out.2 x (List.mem_of_mem_take ((Gs.mem_ris _ _).1 hx))⟩
    clear ho hb hoe hon
    by_cases hlt : k < n
    · have hkl : k < l.length := by rw [HN.out]; exact hlt
      obtain ⟨x, hxe⟩ : ∃ x, l[k] = x := ⟨_, rfl⟩
      have HA : Hid (l[k] = x ∧ Lu x ∧ Gs.insr ltL x o = rs (l.take (k + 1))) := by
        refine ⟨hxe, by rw [← hxe]; exact H.out.2 _ (List.getElem_mem hkl), ?_⟩
        rw [List.take_succ_eq_append_getElem hkl, hxe]
        unfold rs
        rw [Gs.ris_snoc, ← HX.out.2.2.1]
      have HD : Hid (∀ W, Below w.heap.size w W → ∃ b off, av = some ⟨b, off, none⟩ ∧ b < w.heap.size ∧ W.cell? ⟨b, off + k * 2, none⟩ = some (.string (bs x.pkg)) ∧ W.cell? ⟨b, off + k * 2 + 1, none⟩ = some (.string (bs x.name))) := fun W hb => by
        have := LS.at H.out.1 hb hkl
        rw [hxe] at this; exact this
      clear hxe
      have k1 : (k : Int) < (n : Int) := by omega
      obtain ⟨p, m⟩ := x
      rename World => w9
      go_wp2_with fail
      go_loopw [5] (fun s5 wr => ∃ (a : Nat), s5 = .int .i64 a ∧ a ≤ on ∧ (∀ y ∈ o.take a, ltL y ⟨p, m⟩ = true) ∧ OwnL w.heap.size wr (.slice ad on cap) o ∧ Below w.heap.size w wr) (fun s5 _ => on - (intOf s5).toNat)
      case atStart => exact ⟨0, rfl, by omega, by simp, HX.out.1, HX.out.2.1⟩
      case round =>
        obtain ⟨a, rfl, ha, hta, ho, hb⟩ := hrel
        have HY : Hid ((∀ y ∈ o.take a, ltL y ⟨p, m⟩ = true) ∧ OwnL w.heap.size wr (.slice ad on cap) o ∧ Below w.heap.size w wr) := ⟨hta, ho, hb⟩
        clear hta ho hb
        obtain ⟨b, off, ea, hbw, d0, d1⟩ := HD.out wr HY.out.2.2
        subst ea
        have HC : Hid (∀ W, Below w.heap.size w W → W.cell? ⟨b, off + k * 2, none⟩ = some (.string (bs p)) ∧ W.cell? ⟨b, off + k * 2 + 1, none⟩ = some (.string (bs m))) := fun W hW => by
          obtain ⟨b', off', ea, _, z0, z1⟩ := HD.out W hW
          injection ea with ea
          injection ea with e1 e2 _
          subst e1 e2
          exact ⟨z0, z1⟩
        by_cases hal : a < on
        · have hal2 : a < o.length := by rw [HX.out.2.2.2.1]; exact hal
          obtain ⟨b2, off2, ea, hbw2, e0, e1⟩ := LS.at HY.out.2.1.rs (Below.refl _ wr) hal2
          subst ea
          obtain ⟨y, hye⟩ : ∃ y, o[a] = y := ⟨_, rfl⟩
          have HB : Hid (o[a] = y ∧ Lu y) := ⟨hye, by rw [← hye]; exact HX.out.2.2.2.2 _ (List.getElem_mem hal2)⟩
          rw [hye] at e0 e1
          clear hye
          obtain ⟨q, r⟩ := y
          simp only at e0 e1
          have k2 : (a : Int) < (on : Int) := by omega
          have x0 : ∀ Y : GW wr, Y.it.cell? ⟨b, off + k * 2, none⟩ = some (.string (bs p)) := fun Y => Y.cell (Nat.lt_of_lt_of_le hbw HY.out.2.2.size) d0
          have x1 : ∀ Y : GW wr, Y.it.cell? ⟨b, off + k * 2 + 1, none⟩ = some (.string (bs m)) := fun Y => Y.cell (Nat.lt_of_lt_of_le hbw HY.out.2.2.size) d1
          have y0 : ∀ Y : GW wr, Y.it.cell? ⟨b2, off2 + a * 2, none⟩ = some (.string (bs q)) := fun Y => Y.cell hbw2 e0
          have y1 : ∀ Y : GW wr, Y.it.cell? ⟨b2, off2 + a * 2 + 1, none⟩ = some (.string (bs r)) := fun Y => Y.cell hbw2 e1
          have xne := gw_ne wr
          obtain ⟨lt, hlt9⟩ : ∃ lt, ltL ⟨q, r⟩ ⟨p, m⟩ = lt := ⟨_, rfl⟩
          have HLT : Hid (ltL ⟨q, r⟩ ⟨p, m⟩ = lt) := hlt9
          have k0 : Hid (∀ Y : GW wr, Calls Try.prog 11 #[.agg #[.string (bs q), .string (bs r)], .agg #[.string (bs p), .string (bs m)]] Y.it fun e w' => e = .returned (.bool lt) ∧ ∃ X : GW wr, w' = X.it) := fun Y => by
            have := gw_of (fun W => less_any ⟨q, r⟩ ⟨p, m⟩ W HB.out.2 HA.out.2.1) Y
            rw [hlt9] at this; exact this
          have HE : Hid (wr.cell? ⟨b2, off2 + a * 2, none⟩ = some (.string (bs q)) ∧ wr.cell? ⟨b2, off2 + a * 2 + 1, none⟩ = some (.string (bs r))) := ⟨e0, e1⟩
          clear hlt9 d0 d1 e0 e1
          cases lt with
          | true =>
            go_wp2_with fail
            refine wp_region_grow (by kernel_rfl) (by kernel_rfl) ?_
            repeat (go_big_quiet_step (with_reducible exact k0.out _))
            refine wpQuiet_nil ?_
            rintro w4 ⟨⟨w4, bx⟩, rfl⟩
            have HB4 : Hid (Below wr.heap.size wr w4) := bx
            clear bx x0 x1 y0 y1 xne k0
            go_wp2_with fail
            go_roundw
            case rel =>
              refine ⟨a + 1, by go_num, by omega, fun y hy => ?_, HY.out.2.1.later HB4.out, bstep HY.out.2.2 HB4.out⟩
              rw [List.take_succ_eq_append_getElem hal2, List.mem_append, HB.out.1] at hy
              rcases hy with hy | hy
              · exact HY.out.1 y hy
              · have : y = ⟨q, r⟩ := by simpa using hy
                rw [this]; exact HLT.out
            case measure => simp [intOf]; omega
          | false =>
            go_wp2_with fail
            refine wp_region_grow (by kernel_rfl) (by kernel_rfl) ?_
            repeat (go_big_quiet_step (with_reducible exact k0.out _))
            refine wpQuiet_nil ?_
            rintro w4 ⟨⟨w4, bx⟩, rfl⟩
            have HB4 : Hid (Below wr.heap.size wr w4) := bx
            clear bx x0 x1 y0 y1 xne k0
            obtain ⟨g0, g1⟩ := HC.out w4 (bstep HY.out.2.2 HB4.out)
            have h0 : w4.cell? ⟨b2, off2 + a * 2, none⟩ = some (.string (bs q)) := (HB4.out.cell (p := ⟨b2, off2 + a * 2, none⟩) hbw2).trans HE.out.1
            have h1 : w4.cell? ⟨b2, off2 + a * 2 + 1, none⟩ = some (.string (bs r)) := (HB4.out.cell (p := ⟨b2, off2 + a * 2 + 1, none⟩) hbw2).trans HE.out.2
            by_cases he : (⟨q, r⟩ : Lb) = ⟨p, m⟩
            · have he2 : leq ⟨q, r⟩ ⟨p, m⟩ = true := by unfold leq; simpa using he
              have HEQ : Hid ((⟨q, r⟩ : Lb) = ⟨p, m⟩) := he
              clear he
              go_wp2_with fail
              go_quiet (fail)
              go_wp2_with fail
              go_roundw
              case rel =>
                refine ⟨k + 1, by go_num, by omega, ?_, bstep HY.out.2.2 (bstep HB4.out (bd _ _))⟩
                rw [← HA.out.2.2, insr_hit hal2 HY.out.1 (HB.out.1.trans HEQ.out)]
                exact HY.out.2.1.later (bstep HB4.out (bd _ _))
              case measure => simp [intOf]; omega
            · have he2 : leq ⟨q, r⟩ ⟨p, m⟩ = false := by unfold leq; simpa using he
              have HEQ : Hid (¬ (⟨q, r⟩ : Lb) = ⟨p, m⟩) := he
              have HIN : Hid (Gs.insr ltL ⟨p, m⟩ o = o.take a ++ [⟨p, m⟩] ++ o.drop a) := insr_new (by have := HX.out.2.2.2.1; omega) HY.out.1 (fun _ => by rw [HB.out.1]; exact ⟨HLT.out, he⟩)
              clear he
              go_wp2_with fail
              go_quiet (fail)
              have HW0 : Hid (OwnL w.heap.size (w4.drewN nq) (.slice (some ⟨b2, off2, none⟩) on cap) o ∧ Below w.heap.size w (w4.drewN nq)) := ⟨HY.out.2.1.later (bstep HB4.out (bd _ _)), bstep HY.out.2.2 (bstep HB4.out (bd _ _))⟩
              clear g0 g1 h0 h1 he2
              generalize w4.drewN nq = W0 at HW0
              obtain ⟨X, hX, hSX⟩ : ∃ X, (∀ W, (Instr.slice 32 (.slice (some ⟨b2, off2, none⟩) on cap) (some (.int .i64 (a : Int))) none none).run Try.prog W = .ok X W) ∧ Src Try.prog 2 32 X (o.drop a).length (lc (o.drop a)) W0 := ⟨_, run_tail (some ⟨b2, off2, none⟩) on cap a ha, src_tail HW0.out.1 HX.out.2.2.2.1 a ha⟩
              have HSX : Hid (Src Try.prog 2 32 X (o.drop a).length (lc (o.drop a)) W0) := hSX
              obtain ⟨Y, hY, hOY, hbY⟩ : ∃ Y, (∀ W, (Instr.slice 32 (.slice (some ⟨b2, off2, none⟩) on cap) none (some (.int .i64 (a : Int))) none).run Try.prog W = .ok Y W) ∧ OwnL w.heap.size W0 Y (o.take a) ∧ Y.ownBlock = (Value.slice (some ⟨b2, off2, none⟩) on cap).ownBlock := by
                obtain ⟨z1, z2, z3⟩ := own_head HW0.out.1 HX.out.2.2.2.1 a ha
                exact ⟨_, run_head (some ⟨b2, off2, none⟩) on cap a z3, z1, z2⟩
              have HOY : Hid (OwnL w.heap.size W0 Y (o.take a)) := hOY
              clear hSX hOY hbY
              have hs0 : w.heap.size ≤ W0.heap.size := HW0.out.2.size
              go_wp2_with (first | (at_builtin; refine app_Lt und_L (base := W0.heap.size) (l := []) (k := o.drop a) (OwnL.nil _ _) HSX.out (by have := HX.out.2.2.2.1; simp; omega) (Nat.le_refl _) rfl (.tmp 45) (.tmp 48) rfl rfl rfl ?_; intro rv w10 ho10 hg10 hv10))
              have hb10 : Below W0.heap.size W0 w10 := (only_grown hg10).below (Nat.le_refl _) (fun k hk => by simp [bl, Value.ownBlock] at hk)
              have HB10 : Hid (Below W0.heap.size W0 w10 ∧ OwnL W0.heap.size w10 rv (o.drop a) ∧ OwnL w.heap.size w10 Y (o.take a)) := ⟨hb10, by simpa using ho10, HOY.out.later hb10⟩
              have hs1 : w.heap.size ≤ w10.heap.size := Nat.le_trans hs0 hb10.size
              obtain ⟨f0, f1⟩ := HC.out w10 (bstep HW0.out.2 hb10)
              have f0' : (w10.alloc (.cells #[.string (bs p), .string (bs m)] 35)).cell? ⟨b, off + k * 2, none⟩ = some (.string (bs p)) := cell_alloc _ (Nat.lt_of_lt_of_le hbw hs1) f0
              clear ho10 hg10 hv10 hb10 hX
              go_region_law (refine step_app_L und_L rfl (.tmp 52) (.tmp 57) rfl w.heap.size (o.take a) [⟨p, m⟩] Y _ rfl rfl (own_d HB10.out.2.2 _) (src_Ld und_L w10 ⟨p, m⟩) (by have := HX.out.2.2.2.1; simp; omega) (by simp; omega) ?_; intro v' w11 ho11 hg11 hl11)
              have hbY : ∀ k ∈ bl Y, Y.ownBlock = some k := fun k hk => by unfold bl at hk; simpa using hk
              have hon11 : Only (bl Y) w10 w11 := (Only.of_below (balloc w10 (.cells #[.string (bs p), .string (bs m)] 35)).drew (bl Y)).trans (only_grown hg11)
              have HR11 : Hid (OwnL W0.heap.size w11 rv (o.drop a) ∧ OwnL w.heap.size w11 v' (o.take a ++ [⟨p, m⟩]) ∧ Below w.heap.size w w11) := by
                refine ⟨HB10.out.2.1.only hon11 (fun k hk hm => ?_), ho11, below_trans (bstep HW0.out.2 HB10.out.1) (hon11.below hs1 (fun k hk => (HB10.out.2.2.lt (hbY k hk)).1))⟩
                have h1 := (HB10.out.2.1.lt hk).1
                have h2 := (HOY.out.lt (hbY k hm)).2
                omega
              clear hbY hon11 ho11 hg11 hl11 f0 f1 f0' hY
              go_wp2_with (first | (at_builtin; refine app_Lt und_L (base := w.heap.size) (l := o.take a ++ [⟨p, m⟩]) (k := o.drop a) HR11.out.2.1 (src_own HR11.out.1) (by have := HX.out.2.2.2.1; simp; omega) HR11.out.2.2.size rfl (.tmp 59) (.tmp 60) rfl rfl rfl ?_; intro v2 w12 ho12 hg12 hv12))
              go_roundw
              case rel =>
                refine ⟨k + 1, by go_num, by omega, ?_, ?_⟩
                · rw [← HA.out.2.2, HIN.out]; exact ho12
                · exact below_trans HR11.out.2.2 ((only_grown (show w11.grownBy w12 v'.ownBlock from hg12)).below HR11.out.2.2.size (fun k hk => (HR11.out.2.1.lt (show v'.ownBlock = some k by unfold bl at hk; simpa using hk)).1))
              case measure => simp [intOf]; omega
        · obtain rfl : on = a := by omega
          have k3 : decide ((on : Int) < (on : Int)) = false := by simp
          have HIN : Hid (Gs.insr ltL ⟨p, m⟩ o = o.take on ++ [⟨p, m⟩] ++ o.drop on) := insr_new (by have := HX.out.2.2.2.1; omega) HY.out.1 (fun h => by have := HX.out.2.2.2.1; omega)
          clear d0 d1
          go_wp2_with fail
          go_quiet (fail)
          have HW9 : Hid (OwnL w.heap.size (wr.drewN nq) (.slice ad on cap) o ∧ Below w.heap.size w (wr.drewN nq)) := ⟨HY.out.2.1.later (bd _ _), bstep HY.out.2.2 (bd _ _)⟩
          generalize wr.drewN nq = w4 at HW9
          go_wp2_with fail
          go_quiet (fail)
          have HW0 : Hid (OwnL w.heap.size (w4.drewN nq) (.slice ad on cap) o ∧ Below w.heap.size w (w4.drewN nq)) := ⟨HW9.out.1.later (bd _ _), bstep HW9.out.2 (bd _ _)⟩
          generalize w4.drewN nq = W0 at HW0
          obtain ⟨X, hX, hSX⟩ : ∃ X, (∀ W, (Instr.slice 32 (.slice ad on cap) (some (.int .i64 (on : Int))) none none).run Try.prog W = .ok X W) ∧ Src Try.prog 2 32 X (o.drop on).length (lc (o.drop on)) W0 := ⟨_, run_tail ad on cap on (Nat.le_refl _), src_tail HW0.out.1 HX.out.2.2.2.1 on (Nat.le_refl _)⟩
          have HSX : Hid (Src Try.prog 2 32 X (o.drop on).length (lc (o.drop on)) W0) := hSX
          obtain ⟨Y, hY, hOY, hbY⟩ : ∃ Y, (∀ W, (Instr.slice 32 (.slice ad on cap) none (some (.int .i64 (on : Int))) none).run Try.prog W = .ok Y W) ∧ OwnL w.heap.size W0 Y (o.take on) ∧ Y.ownBlock = (Value.slice ad on cap).ownBlock := by
            obtain ⟨z1, z2, z3⟩ := own_head HW0.out.1 HX.out.2.2.2.1 on (Nat.le_refl _)
            exact ⟨_, run_head ad on cap on z3, z1, z2⟩
          have HOY : Hid (OwnL w.heap.size W0 Y (o.take on)) := hOY
          clear hSX hOY hbY
          have hs0 : w.heap.size ≤ W0.heap.size := HW0.out.2.size
          go_wp2_with (first | (at_builtin; refine app_Lt und_L (base := W0.heap.size) (l := []) (k := o.drop on) (OwnL.nil _ _) HSX.out (by have := HX.out.2.2.2.1; simp; omega) (Nat.le_refl _) rfl (.tmp 45) (.tmp 48) rfl rfl rfl ?_; intro rv w10 ho10 hg10 hv10))
          have hb10 : Below W0.heap.size W0 w10 := (only_grown hg10).below (Nat.le_refl _) (fun k hk => by simp [bl, Value.ownBlock] at hk)
          have HB10 : Hid (Below W0.heap.size W0 w10 ∧ OwnL W0.heap.size w10 rv (o.drop on) ∧ OwnL w.heap.size w10 Y (o.take on)) := ⟨hb10, by simpa using ho10, HOY.out.later hb10⟩
          have hs1 : w.heap.size ≤ w10.heap.size := Nat.le_trans hs0 hb10.size
          obtain ⟨f0, f1⟩ := HC.out w10 (bstep HW0.out.2 hb10)
          have f0' : (w10.alloc (.cells #[.string (bs p), .string (bs m)] 35)).cell? ⟨b, off + k * 2, none⟩ = some (.string (bs p)) := cell_alloc _ (Nat.lt_of_lt_of_le hbw hs1) f0
          clear ho10 hg10 hv10 hb10 hX
          go_region_law (refine step_app_L und_L rfl (.tmp 52) (.tmp 57) rfl w.heap.size (o.take on) [⟨p, m⟩] Y _ rfl rfl (own_d HB10.out.2.2 _) (src_Ld und_L w10 ⟨p, m⟩) (by have := HX.out.2.2.2.1; simp; omega) (by simp; omega) ?_; intro v' w11 ho11 hg11 hl11)
          have hbY : ∀ k ∈ bl Y, Y.ownBlock = some k := fun k hk => by unfold bl at hk; simpa using hk
          have hon11 : Only (bl Y) w10 w11 := (Only.of_below (balloc w10 (.cells #[.string (bs p), .string (bs m)] 35)).drew (bl Y)).trans (only_grown hg11)
          have HR11 : Hid (OwnL W0.heap.size w11 rv (o.drop on) ∧ OwnL w.heap.size w11 v' (o.take on ++ [⟨p, m⟩]) ∧ Below w.heap.size w w11) := by
            refine ⟨HB10.out.2.1.only hon11 (fun k hk hm => ?_), ho11, below_trans (bstep HW0.out.2 HB10.out.1) (hon11.below hs1 (fun k hk => (HB10.out.2.2.lt (hbY k hk)).1))⟩
            have h1 := (HB10.out.2.1.lt hk).1
            have h2 := (HOY.out.lt (hbY k hm)).2
            omega
          clear hbY hon11 ho11 hg11 hl11 f0 f1 f0' hY
          go_wp2_with (first | (at_builtin; refine app_Lt und_L (base := w.heap.size) (l := o.take on ++ [⟨p, m⟩]) (k := o.drop on) HR11.out.2.1 (src_own HR11.out.1) (by have := HX.out.2.2.2.1; simp; omega) HR11.out.2.2.size rfl (.tmp 59) (.tmp 60) rfl rfl rfl ?_; intro v2 w12 ho12 hg12 hv12))
          go_roundw
          case rel =>
            refine ⟨k + 1, by go_num, by omega, ?_, ?_⟩
            · rw [← HA.out.2.2, HIN.out]; exact ho12
            · exact below_trans HR11.out.2.2 ((only_grown (show w11.grownBy w12 v'.ownBlock from hg12)).below HR11.out.2.2.size (fun k hk => (HR11.out.2.1.lt (show v'.ownBlock = some k by unfold bl at hk; simpa using hk)).1))
          case measure => simp [intOf]; omega
    · obtain rfl : n = k := by omega
      go_wp2_with fail
      go_ret
      refine ⟨_, rfl, ?_, HX.out.2.1⟩
      have := HX.out.2.2.1
      rw [List.take_of_length_le (by rw [HN.out]; exact Nat.le_refl _)] at this
      rw [this]; exact HX.out.1
end Go.Proofs.Ytclbnjfmipifnaa
