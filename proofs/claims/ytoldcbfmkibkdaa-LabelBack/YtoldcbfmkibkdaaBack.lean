/-
  There and back: the law, walked.
-/
import Derived.Test.YtoldcbfmkibkdaaB17
namespace Go.Proofs.Ytoldcbfmkibkdaa
open Go.RowKit

/-- are two labels one? -/
def leq (a b : Lb) : Bool := decide (a = b)
theorem eql_run' (w : World) (p t p' t' : List UInt8) :
    (binOp .eql 23 (.agg #[.string (bs p), .string (bs t)]) (.agg #[.string (bs p'), .string (bs t')])).run Try.prog w = .ok (.bool (leq ⟨p, t⟩ ⟨p', t'⟩)) w := eql_run w p t p' t'
/-- the three labels, by their number -/
def tri (a b c : Lb) (k : Nat) : Lb := if k = 0 then a else if k = 1 then b else c
/-- an array of labels in a block -/
def AR (w : World) (g : Nat) (L : Nat → Lb) : Prop := g < w.heap.size ∧ ∀ k, k < 3 → w.cell? ⟨g, k * 2, none⟩ = some (.string (bs (L k).pkg)) ∧ w.cell? ⟨g, k * 2 + 1, none⟩ = some (.string (bs (L k).name))
theorem AR.later {w w' : World} {g : Nat} {L : Nat → Lb} (h : AR w g L) (hb : Below w.heap.size w w') : AR w' g L :=
  ⟨Nat.lt_of_lt_of_le h.1 hb.size, fun k hk => ⟨(hb.cell (p := ⟨g, k * 2, none⟩) h.1).trans (h.2 k hk).1, (hb.cell (p := ⟨g, k * 2 + 1, none⟩) h.1).trans (h.2 k hk).2⟩⟩
theorem AR.new (w : World) (a b c : Lb) (t : TypeId) : AR (w.alloc (.cells #[.string (bs a.pkg), .string (bs a.name), .string (bs b.pkg), .string (bs b.name), .string (bs c.pkg), .string (bs c.name)] t)) w.heap.size (tri a b c) := by
  refine ⟨by simp, fun k hk => ?_⟩
  have hr : k = 0 ∨ k = 1 ∨ k = 2 := by omega
  rcases hr with rfl | rfl | rfl <;> simp [tri]
theorem at_ar {w : World} {g k : Nat} {L : Nat → Lb} {p n : List UInt8} (h : AR w g L) (hk : k < 3) (e : L k = ⟨p, n⟩) : w.cell? ⟨g, k * 2, none⟩ = some (.string (bs p)) ∧ w.cell? ⟨g, k * 2 + 1, none⟩ = some (.string (bs n)) := by
  have := h.2 k hk
  rw [e] at this; exact this

/-- all that the law's own variables hold -/
structure Vars (w : World) (g3 g4 g5 g7 : Nat) (a b c : Lb) : Prop where
  ra : RB w g3 a
  rb : RB w g4 b
  rc : RB w g5 c
  ar : AR w g7 (tri a b c)
theorem Vars.later {w w' : World} {g3 g4 g5 g7 : Nat} {a b c : Lb} (h : Vars w g3 g4 g5 g7 a b c) (hb : Below w.heap.size w w') : Vars w' g3 g4 g5 g7 a b c :=
  ⟨h.ra.later hb, h.rb.later hb, h.rc.later hb, h.ar.later hb⟩
/-- the contracts, at a world that grew -/
structure Con (w : World) (x : Lb) : Prop where
  v : ∀ X : GW w, Calls Try.prog 9 #[.agg #[.string (bs x.pkg), .string (bs x.name)]] X.it fun e w' => e = .returned (.bool (okL x)) ∧ ∃ Y : GW w, w' = Y.it
  p : ∀ X : GW w, Calls Try.prog 8 #[.agg #[.string (bs x.pkg), .string (bs x.name)]] X.it fun e w' => e = .returned (.string (bs (prt x))) ∧ ∃ Y : GW w, w' = Y.it
theorem con (w : World) {x : Lb} (h : Lw x) : Con w x := ⟨fun X => gw_of (fun W => lvalid_any x W h.lm) X, fun X => gw_of (fun W => lprint_any x W h.lm) X⟩
theorem con_cmp (w : World) {x y : Lb} (h : Lw x) (k : Lw y) : ∀ X : GW w, Calls Try.prog 10 #[.agg #[.string (bs x.pkg), .string (bs x.name)], .agg #[.string (bs y.pkg), .string (bs y.name)]] X.it fun e w' => e = .returned (.int .i64 (cmpL x y)) ∧ ∃ Y : GW w, w' = Y.it :=
  fun X => gw_of (fun W => lcmp_any x y W h.lm k.lm) X

set_option maxRecDepth 100000 in
set_option maxHeartbeats 16000000 in
theorem back_any (a b c : Lb) (w : World) (ha : Lw a) (hb : Lw b) (hc : Lw c) : Calls Try.prog 3 #[a.val, b.val, c.val] w fun e w' => e = .returned (.bool true) ∧ Below w.heap.size w w' := by
  have HL : Hid (∀ k, Lw (tri a b c k)) := fun k => by
    show Lw _
    unfold tri
    split
    · exact ha
    split
    · exact hb
    · exact hc
  have HA : Hid (Lw a ∧ Lw b ∧ Lw c) := ⟨ha, hb, hc⟩
  clear ha hb hc
  obtain ⟨ap, an⟩ := a
  obtain ⟨bp, bn⟩ := b
  obtain ⟨cp, cn⟩ := c
  simp only [Lb.val]
  have q1 := eql_run'
  have q2 := guard_run
  have RA : Hid (RB (((w.alloc (.cells #[.string (bs ap), .string (bs an)] 23)).alloc (.cells #[.string (bs bp), .string (bs bn)] 23)).alloc (.cells #[.string (bs cp), .string (bs cn)] 23)) w.heap.size ⟨ap, an⟩) := ((RB.new w ⟨ap, an⟩).later (balloc _ _)).later (balloc _ _)
  have RBB : Hid (RB (((w.alloc (.cells #[.string (bs ap), .string (bs an)] 23)).alloc (.cells #[.string (bs bp), .string (bs bn)] 23)).alloc (.cells #[.string (bs cp), .string (bs cn)] 23)) (w.heap.size + 1) ⟨bp, bn⟩) := by
    show RB _ _ _
    have := (RB.new (w.alloc (.cells #[.string (bs ap), .string (bs an)] 23)) ⟨bp, bn⟩).later (balloc _ (.cells #[.string (bs cp), .string (bs cn)] 23))
    simpa using this
  have RC : Hid (RB (((w.alloc (.cells #[.string (bs ap), .string (bs an)] 23)).alloc (.cells #[.string (bs bp), .string (bs bn)] 23)).alloc (.cells #[.string (bs cp), .string (bs cn)] 23)) (w.heap.size + 1 + 1) ⟨cp, cn⟩) := by
    show RB _ _ _
    have := RB.new ((w.alloc (.cells #[.string (bs ap), .string (bs an)] 23)).alloc (.cells #[.string (bs bp), .string (bs bn)] 23)) ⟨cp, cn⟩
    simpa using this
  go_enter Try.func3, Try.ntmps3
  go_wp2_with fail
  refine (head_any _).mono ?_
  rintro e w1 ⟨rfl, hb1⟩
  have B1 : Hid (Below w.heap.size w w1) := bstep (bstep (bstep (balloc w _) (balloc _ _)) (balloc _ _)) hb1
  have R1 : Hid (RB w1 w.heap.size ⟨ap, an⟩) := RA.out.later hb1
  have R2 : Hid (RB w1 (w.heap.size + 1) ⟨bp, bn⟩) := RBB.out.later hb1
  have R3 : Hid (RB w1 (w.heap.size + 1 + 1) ⟨cp, cn⟩) := RC.out.later hb1
  clear hb1 RA RBB RC
  generalize w.heap.size + 1 + 1 = g5 at *
  generalize w.heap.size + 1 = g4 at *
  obtain ⟨g3, hg3⟩ : ∃ g, w.heap.size = g := ⟨_, rfl⟩
  rw [hg3] at R1 ⊢
  have HG : Hid (w.heap.size = g3) := hg3
  clear hg3
  obtain ⟨a0, a1, _, _⟩ := R1.out.cells
  obtain ⟨b0, b1, _, _⟩ := R2.out.cells
  obtain ⟨c0, c1, _, _⟩ := R3.out.cells
  simp only at a0 a1 b0 b1 c0 c1
  have V1 : Hid (Vars (w1.alloc (.cells #[.string (bs ap), .string (bs an), .string (bs bp), .string (bs bn), .string (bs cp), .string (bs cn)] 25)) g3 g4 g5 w1.heap.size ⟨ap, an⟩ ⟨bp, bn⟩ ⟨cp, cn⟩) :=
    ⟨R1.out.later (balloc _ _), R2.out.later (balloc _ _), R3.out.later (balloc _ _), AR.new w1 ⟨ap, an⟩ ⟨bp, bn⟩ ⟨cp, cn⟩ 25⟩
  have B2 : Hid (Below w.heap.size w (w1.alloc (.cells #[.string (bs ap), .string (bs an), .string (bs bp), .string (bs bn), .string (bs cp), .string (bs cn)] 25))) := bstep B1.out (balloc _ _)
  go_wp2_with fail
  rename_i hK
  have HK : Hid _ := hK
  clear hK
  obtain ⟨g7, hg7⟩ : ∃ g, w1.heap.size = g := ⟨_, rfl⟩
  rw [hg7] at V1 ⊢
  clear hg7 R1 R2 R3 a0 a1 b0 b1 c0 c1
  generalize w1.alloc (.cells #[.string (bs ap), .string (bs an), .string (bs bp), .string (bs bn), .string (bs cp), .string (bs cn)] 25) = W0 at *
  go_loopw [8] (fun i wr => ∃ k : Nat, k ≤ 3 ∧ i = .int .i64 k ∧ Below w.heap.size w wr ∧ Vars wr g3 g4 g5 g7 ⟨ap, an⟩ ⟨bp, bn⟩ ⟨cp, cn⟩) (fun i _ => 3 - (intOf i).toNat)
  case atStart => exact ⟨0, by omega, rfl, B2.out, V1.out⟩
  case round =>
    obtain ⟨i, hi, rfl, hbw, hv⟩ := hrel
    have HB : Hid (Below w.heap.size w wr) := hbw
    have HV : Hid (Vars wr g3 g4 g5 g7 ⟨ap, an⟩ ⟨bp, bn⟩ ⟨cp, cn⟩) := hv
    clear hbw hv
    by_cases hi3 : i < 3
    · obtain ⟨x, hx⟩ : ∃ x, tri ⟨ap, an⟩ ⟨bp, bn⟩ ⟨cp, cn⟩ i = x := ⟨_, rfl⟩
      obtain ⟨xp, xn⟩ := x
      have HX : Hid (Lw ⟨xp, xn⟩) := by show Lw _; rw [← hx]; exact HL.out i
      have HXE : Hid (tri ⟨ap, an⟩ ⟨bp, bn⟩ ⟨cp, cn⟩ i = ⟨xp, xn⟩) := hx
      clear hx
      obtain ⟨m0, m1⟩ := at_ar HV.out.ar hi3 HXE.out
      have HP : Hid (∀ W : World, Calls Try.prog 8 #[.agg #[.string (bs xp), .string (bs xn)]] W fun e w' => e = .returned (.string (bs (prt ⟨xp, xn⟩))) ∧ Below W.heap.size W w') := fun W => lprint_any ⟨xp, xn⟩ W HX.out.lm
      have HQ : Hid (∀ W : World, Calls Try.prog 7 #[.string (bs (prt ⟨xp, xn⟩))] W fun e w' => e = .returned (pair (prs (prt ⟨xp, xn⟩))) ∧ Below W.heap.size W w') := fun W => lparse_any (prt ⟨xp, xn⟩) W (prt_len HX.out)
      have k1 : (0 : Int) ≤ (i : Int) := by omega
      have k2 : (i : Int) < 3 := by omega
      cases hok : okL ⟨xp, xn⟩
      · skip
        have HOK : Hid (okL ⟨xp, xn⟩ = false) := hok
        have hpp : prs (prt ⟨xp, xn⟩) = (⟨[], []⟩, 10) := prs_bad hok
        rw [hpp] at HQ
        simp only [pair, Lb.val] at HQ
        clear hok hpp
        go_wp2_with fail
        refine (HP.out _).mono ?_
        rintro e w2 ⟨rfl, hb2⟩
        have HB2 : Hid (Below w.heap.size w w2) := bstep HB.out hb2
        have HV2 : Hid (Vars w2 g3 g4 g5 g7 ⟨ap, an⟩ ⟨bp, bn⟩ ⟨cp, cn⟩) := HV.out.later hb2
        clear hb2 m0 m1
        go_wp2_with fail
        refine (HQ.out _).mono ?_
        rintro e w3 ⟨rfl, hb3⟩
        have HB3 : Hid (Below w.heap.size w (w3.alloc (.cells #[.string (bs []), .string (bs [])] 23))) := bstep (bstep HB2.out hb3) (balloc _ _)
        have HV3 : Hid (Vars (w3.alloc (.cells #[.string (bs []), .string (bs [])] 23)) g3 g4 g5 g7 ⟨ap, an⟩ ⟨bp, bn⟩ ⟨cp, cn⟩) := (HV2.out.later hb3).later (balloc _ _)
        have RX : Hid (RB (w3.alloc (.cells #[.string (bs []), .string (bs [])] 23)) w3.heap.size ⟨[], []⟩) := RB.new w3 ⟨[], []⟩
        clear hb3

        have x0 : ∀ Y : GW (w3.alloc (.cells #[.string (bs []), .string (bs [])] 23)), Y.it.cell? ⟨g7, i * 2, none⟩ = some (.string (bs xp)) := fun Y => Y.cell HV3.out.ar.1 (at_ar HV3.out.ar hi3 HXE.out).1
        have x1 : ∀ Y : GW (w3.alloc (.cells #[.string (bs []), .string (bs [])] 23)), Y.it.cell? ⟨g7, i * 2 + 1, none⟩ = some (.string (bs xn)) := fun Y => Y.cell HV3.out.ar.1 (at_ar HV3.out.ar hi3 HXE.out).2
        have xne := gw_ne (w3.alloc (.cells #[.string (bs []), .string (bs [])] 23))
        have k0 : Hid (∀ Y : GW (w3.alloc (.cells #[.string (bs []), .string (bs [])] 23)), Calls Try.prog 9 #[.agg #[.string (bs xp), .string (bs xn)]] Y.it fun e w' => e = .returned (.bool false) ∧ ∃ X : GW (w3.alloc (.cells #[.string (bs []), .string (bs [])] 23)), w' = X.it) := fun Y => by
          have h := (con _ HX.out).v Y
          rw [HOK.out] at h; exact h
        go_wp2_with fail
        generalize w3.alloc (.cells #[.string (bs []), .string (bs [])] 23) = w3a at *
        refine wp_region_grow (by kernel_rfl) (by kernel_rfl) ?_
        repeat (go_big_quiet_step (with_reducible exact k0.out _))
        refine wpQuiet_nil ?_
        rintro w4 ⟨⟨w4, bx⟩, rfl⟩
        have HB4 : Hid (Below w.heap.size w w4) := bstep HB3.out bx
        have HV4 : Hid (Vars w4 g3 g4 g5 g7 ⟨ap, an⟩ ⟨bp, bn⟩ ⟨cp, cn⟩) := HV3.out.later bx
        clear bx x0 x1 xne k0
        go_wp2_with fail

        go_loopw [11] (fun j wr => ∃ k : Nat, k ≤ 3 ∧ j = .int .i64 k ∧ Below w.heap.size w wr ∧ Vars wr g3 g4 g5 g7 ⟨ap, an⟩ ⟨bp, bn⟩ ⟨cp, cn⟩) (fun j _ => 3 - (intOf j).toNat)
        case atStart => exact ⟨0, by omega, rfl, HB4.out, HV4.out⟩
        case round =>

          obtain ⟨k, hk, rfl, hbw, hv⟩ := hrel
          have HB5 : Hid (Below w.heap.size w wr) := hbw
          have HV5 : Hid (Vars wr g3 g4 g5 g7 ⟨ap, an⟩ ⟨bp, bn⟩ ⟨cp, cn⟩) := hv
          clear hbw hv
          by_cases hk3 : k < 3
          · obtain ⟨y, hy⟩ : ∃ y, tri ⟨ap, an⟩ ⟨bp, bn⟩ ⟨cp, cn⟩ k = y := ⟨_, rfl⟩
            obtain ⟨yp, yn⟩ := y
            have HY : Hid (Lw ⟨yp, yn⟩) := by show Lw _; rw [← hy]; exact HL.out k
            have HYE : Hid (tri ⟨ap, an⟩ ⟨bp, bn⟩ ⟨cp, cn⟩ k = ⟨yp, yn⟩) := hy
            clear hy
            have HX5 := at_ar HV5.out.ar hi3 HXE.out
            have HY5 := at_ar HV5.out.ar hk3 HYE.out
            have j1 : (0 : Int) ≤ (k : Int) := by omega
            have j2 : (k : Int) < 3 := by omega
            obtain ⟨d, hd⟩ : ∃ d, cmpL ⟨yp, yn⟩ ⟨xp, xn⟩ = d := ⟨_, rfl⟩
            have hdr := cmpL_range ⟨yp, yn⟩ ⟨xp, xn⟩
            have hdn := cmpL_neg ⟨yp, yn⟩ ⟨xp, xn⟩
            rw [hd] at hdr hdn
            have dr1 : -1 ≤ d := by omega
            have dr2 : d ≤ 1 := by omega
            have y0 : ∀ Y : GW wr, Y.it.cell? ⟨g7, i * 2, none⟩ = some (.string (bs xp)) := fun Y => Y.cell HV5.out.ar.1 HX5.1
            have y1 : ∀ Y : GW wr, Y.it.cell? ⟨g7, i * 2 + 1, none⟩ = some (.string (bs xn)) := fun Y => Y.cell HV5.out.ar.1 HX5.2
            have v0 : ∀ Y : GW wr, Y.it.cell? ⟨g7, k * 2, none⟩ = some (.string (bs yp)) := fun Y => Y.cell HV5.out.ar.1 HY5.1
            have v1 : ∀ Y : GW wr, Y.it.cell? ⟨g7, k * 2 + 1, none⟩ = some (.string (bs yn)) := fun Y => Y.cell HV5.out.ar.1 HY5.2
            have xne := gw_ne wr
            have k5 : Hid (∀ Y : GW wr, Calls Try.prog 10 #[.agg #[.string (bs xp), .string (bs xn)], .agg #[.string (bs yp), .string (bs yn)]] Y.it fun e w' => e = .returned (.int .i64 (-d)) ∧ ∃ X : GW wr, w' = X.it) := fun Y => by
              have h := con_cmp wr HX.out HY.out Y
              rw [hdn] at h; exact h
            have k6 : Hid (∀ Y : GW wr, Calls Try.prog 10 #[.agg #[.string (bs yp), .string (bs yn)], .agg #[.string (bs xp), .string (bs xn)]] Y.it fun e w' => e = .returned (.int .i64 d) ∧ ∃ X : GW wr, w' = X.it) := fun Y => by
              have h := con_cmp wr HY.out HX.out Y
              rw [hd] at h; exact h
            have dd : (-d != -d) = false := by simp
            clear hd hdr hdn HX5 HY5
            go_wp2_with fail
            refine wp_region_grow (by kernel_rfl) (by kernel_rfl) ?_
            repeat (go_big_quiet_step (first | with_reducible exact k5.out _ | with_reducible exact k6.out _))
            refine wpQuiet_nil ?_
            rintro w7 ⟨⟨w7, bx⟩, rfl⟩
            have HB7 : Hid (Below w.heap.size w w7) := bstep HB5.out bx
            have HV7 : Hid (Vars w7 g3 g4 g5 g7 ⟨ap, an⟩ ⟨bp, bn⟩ ⟨cp, cn⟩) := HV5.out.later bx
            have HX7 : Hid (w7.cell? ⟨g7, i * 2, none⟩ = some (.string (bs xp)) ∧ w7.cell? ⟨g7, i * 2 + 1, none⟩ = some (.string (bs xn))) := at_ar HV7.out.ar hi3 HXE.out
            have HY7 : Hid (w7.cell? ⟨g7, k * 2, none⟩ = some (.string (bs yp)) ∧ w7.cell? ⟨g7, k * 2 + 1, none⟩ = some (.string (bs yn))) := at_ar HV7.out.ar hk3 HYE.out
            clear bx y0 y1 v0 v1 xne k5 k6 dd dr1 dr2
            have y0 : ∀ Y : GW w7, Y.it.cell? ⟨g7, i * 2, none⟩ = some (.string (bs xp)) := fun Y => Y.cell HV7.out.ar.1 (HX7.out.1)
            have y1 : ∀ Y : GW w7, Y.it.cell? ⟨g7, i * 2 + 1, none⟩ = some (.string (bs xn)) := fun Y => Y.cell HV7.out.ar.1 (HX7.out.2)
            have xne := gw_ne w7
            have k0 : Hid (∀ Y : GW w7, Calls Try.prog 9 #[.agg #[.string (bs xp), .string (bs xn)]] Y.it fun e w' => e = .returned (.bool false) ∧ ∃ X : GW w7, w' = X.it) := fun Y => by
              have h := (con w7 HX.out).v Y
              rw [HOK.out] at h; exact h
            go_wp2_with fail
            refine wp_region_grow (by kernel_rfl) (by kernel_rfl) ?_
            repeat (go_big_quiet_step (with_reducible exact k0.out _))
            refine wpQuiet_nil ?_
            rintro w8 ⟨⟨w8, bx⟩, rfl⟩
            have HB8 : Hid (Below w.heap.size w w8) := bstep HB7.out bx
            have HV8 : Hid (Vars w8 g3 g4 g5 g7 ⟨ap, an⟩ ⟨bp, bn⟩ ⟨cp, cn⟩) := HV7.out.later bx
            clear bx y0 y1 xne k0
            go_wp2_with fail
            go_round
            case rel => exact ⟨k + 1, by omega, by simp, HB8.out, HV8.out⟩
            case measure => simp only [intOf]; omega

          · have hk3' : k = 3 := by omega
            subst hk3'
            go_wp2_with fail
            go_round
            case rel => exact ⟨i + 1, by omega, by simp, HB5.out, HV5.out⟩
            case measure => simp only [intOf]; omega

      · skip
        have HOK : Hid (okL ⟨xp, xn⟩ = true) := hok
        have hpp : prs (prt ⟨xp, xn⟩) = (⟨xp, xn⟩, 0) := prs_good hok
        rw [hpp] at HQ
        simp only [pair, Lb.val] at HQ
        clear hok hpp
        go_wp2_with fail
        refine (HP.out _).mono ?_
        rintro e w2 ⟨rfl, hb2⟩
        have HB2 : Hid (Below w.heap.size w w2) := bstep HB.out hb2
        have HV2 : Hid (Vars w2 g3 g4 g5 g7 ⟨ap, an⟩ ⟨bp, bn⟩ ⟨cp, cn⟩) := HV.out.later hb2
        clear hb2 m0 m1
        go_wp2_with fail
        refine (HQ.out _).mono ?_
        rintro e w3 ⟨rfl, hb3⟩
        have HB3 : Hid (Below w.heap.size w (w3.alloc (.cells #[.string (bs xp), .string (bs xn)] 23))) := bstep (bstep HB2.out hb3) (balloc _ _)
        have HV3 : Hid (Vars (w3.alloc (.cells #[.string (bs xp), .string (bs xn)] 23)) g3 g4 g5 g7 ⟨ap, an⟩ ⟨bp, bn⟩ ⟨cp, cn⟩) := (HV2.out.later hb3).later (balloc _ _)
        have RX : Hid (RB (w3.alloc (.cells #[.string (bs xp), .string (bs xn)] 23)) w3.heap.size ⟨xp, xn⟩) := RB.new w3 ⟨xp, xn⟩
        clear hb3

        have x0 : ∀ Y : GW (w3.alloc (.cells #[.string (bs xp), .string (bs xn)] 23)), Y.it.cell? ⟨g7, i * 2, none⟩ = some (.string (bs xp)) := fun Y => Y.cell HV3.out.ar.1 (at_ar HV3.out.ar hi3 HXE.out).1
        have x1 : ∀ Y : GW (w3.alloc (.cells #[.string (bs xp), .string (bs xn)] 23)), Y.it.cell? ⟨g7, i * 2 + 1, none⟩ = some (.string (bs xn)) := fun Y => Y.cell HV3.out.ar.1 (at_ar HV3.out.ar hi3 HXE.out).2
        have u0 : ∀ Y : GW (w3.alloc (.cells #[.string (bs xp), .string (bs xn)] 23)), Y.it.cell? ⟨w3.heap.size, 0, none⟩ = some (.string (bs xp)) := fun Y => Y.cell RX.out.lt RX.out.cells.1
        have u1 : ∀ Y : GW (w3.alloc (.cells #[.string (bs xp), .string (bs xn)] 23)), Y.it.cell? ⟨w3.heap.size, 1, none⟩ = some (.string (bs xn)) := fun Y => Y.cell RX.out.lt RX.out.cells.2.1
        have d1 : leq ⟨xp, xn⟩ ⟨xp, xn⟩ = true := decide_eq_true rfl
        have xne := gw_ne (w3.alloc (.cells #[.string (bs xp), .string (bs xn)] 23))
        have k0 : Hid (∀ Y : GW (w3.alloc (.cells #[.string (bs xp), .string (bs xn)] 23)), Calls Try.prog 9 #[.agg #[.string (bs xp), .string (bs xn)]] Y.it fun e w' => e = .returned (.bool true) ∧ ∃ X : GW (w3.alloc (.cells #[.string (bs xp), .string (bs xn)] 23)), w' = X.it) := fun Y => by
          have h := (con _ HX.out).v Y
          rw [HOK.out] at h; exact h
        go_wp2_with fail
        generalize w3.alloc (.cells #[.string (bs xp), .string (bs xn)] 23) = w3a at *
        refine wp_region_grow (by kernel_rfl) (by kernel_rfl) ?_
        repeat (go_big_quiet_step (with_reducible exact k0.out _))
        refine wpQuiet_nil ?_
        rintro w4 ⟨⟨w4, bx⟩, rfl⟩
        have HB4 : Hid (Below w.heap.size w w4) := bstep HB3.out bx
        have HV4 : Hid (Vars w4 g3 g4 g5 g7 ⟨ap, an⟩ ⟨bp, bn⟩ ⟨cp, cn⟩) := HV3.out.later bx
        clear bx x0 x1 xne k0 u0 u1 d1
        go_wp2_with fail

        go_loopw [11] (fun j wr => ∃ k : Nat, k ≤ 3 ∧ j = .int .i64 k ∧ Below w.heap.size w wr ∧ Vars wr g3 g4 g5 g7 ⟨ap, an⟩ ⟨bp, bn⟩ ⟨cp, cn⟩) (fun j _ => 3 - (intOf j).toNat)
        case atStart => exact ⟨0, by omega, rfl, HB4.out, HV4.out⟩
        case round =>

          obtain ⟨k, hk, rfl, hbw, hv⟩ := hrel
          have HB5 : Hid (Below w.heap.size w wr) := hbw
          have HV5 : Hid (Vars wr g3 g4 g5 g7 ⟨ap, an⟩ ⟨bp, bn⟩ ⟨cp, cn⟩) := hv
          clear hbw hv
          by_cases hk3 : k < 3
          · obtain ⟨y, hy⟩ : ∃ y, tri ⟨ap, an⟩ ⟨bp, bn⟩ ⟨cp, cn⟩ k = y := ⟨_, rfl⟩
            obtain ⟨yp, yn⟩ := y
            have HY : Hid (Lw ⟨yp, yn⟩) := by show Lw _; rw [← hy]; exact HL.out k
            have HYE : Hid (tri ⟨ap, an⟩ ⟨bp, bn⟩ ⟨cp, cn⟩ k = ⟨yp, yn⟩) := hy
            clear hy
            have HX5 := at_ar HV5.out.ar hi3 HXE.out
            have HY5 := at_ar HV5.out.ar hk3 HYE.out
            have j1 : (0 : Int) ≤ (k : Int) := by omega
            have j2 : (k : Int) < 3 := by omega
            obtain ⟨d, hd⟩ : ∃ d, cmpL ⟨yp, yn⟩ ⟨xp, xn⟩ = d := ⟨_, rfl⟩
            have hdr := cmpL_range ⟨yp, yn⟩ ⟨xp, xn⟩
            have hdn := cmpL_neg ⟨yp, yn⟩ ⟨xp, xn⟩
            rw [hd] at hdr hdn
            have dr1 : -1 ≤ d := by omega
            have dr2 : d ≤ 1 := by omega
            have y0 : ∀ Y : GW wr, Y.it.cell? ⟨g7, i * 2, none⟩ = some (.string (bs xp)) := fun Y => Y.cell HV5.out.ar.1 HX5.1
            have y1 : ∀ Y : GW wr, Y.it.cell? ⟨g7, i * 2 + 1, none⟩ = some (.string (bs xn)) := fun Y => Y.cell HV5.out.ar.1 HX5.2
            have v0 : ∀ Y : GW wr, Y.it.cell? ⟨g7, k * 2, none⟩ = some (.string (bs yp)) := fun Y => Y.cell HV5.out.ar.1 HY5.1
            have v1 : ∀ Y : GW wr, Y.it.cell? ⟨g7, k * 2 + 1, none⟩ = some (.string (bs yn)) := fun Y => Y.cell HV5.out.ar.1 HY5.2
            have xne := gw_ne wr
            have k5 : Hid (∀ Y : GW wr, Calls Try.prog 10 #[.agg #[.string (bs xp), .string (bs xn)], .agg #[.string (bs yp), .string (bs yn)]] Y.it fun e w' => e = .returned (.int .i64 (-d)) ∧ ∃ X : GW wr, w' = X.it) := fun Y => by
              have h := con_cmp wr HX.out HY.out Y
              rw [hdn] at h; exact h
            have k6 : Hid (∀ Y : GW wr, Calls Try.prog 10 #[.agg #[.string (bs yp), .string (bs yn)], .agg #[.string (bs xp), .string (bs xn)]] Y.it fun e w' => e = .returned (.int .i64 d) ∧ ∃ X : GW wr, w' = X.it) := fun Y => by
              have h := con_cmp wr HY.out HX.out Y
              rw [hd] at h; exact h
            have dd : (-d != -d) = false := by simp
            clear hd hdr hdn HX5 HY5
            go_wp2_with fail
            refine wp_region_grow (by kernel_rfl) (by kernel_rfl) ?_
            repeat (go_big_quiet_step (first | with_reducible exact k5.out _ | with_reducible exact k6.out _))
            refine wpQuiet_nil ?_
            rintro w7 ⟨⟨w7, bx⟩, rfl⟩
            have HB7 : Hid (Below w.heap.size w w7) := bstep HB5.out bx
            have HV7 : Hid (Vars w7 g3 g4 g5 g7 ⟨ap, an⟩ ⟨bp, bn⟩ ⟨cp, cn⟩) := HV5.out.later bx
            have HX7 : Hid (w7.cell? ⟨g7, i * 2, none⟩ = some (.string (bs xp)) ∧ w7.cell? ⟨g7, i * 2 + 1, none⟩ = some (.string (bs xn))) := at_ar HV7.out.ar hi3 HXE.out
            have HY7 : Hid (w7.cell? ⟨g7, k * 2, none⟩ = some (.string (bs yp)) ∧ w7.cell? ⟨g7, k * 2 + 1, none⟩ = some (.string (bs yn))) := at_ar HV7.out.ar hk3 HYE.out
            clear bx y0 y1 v0 v1 xne k5 k6 dd dr1 dr2
            cases hoy : okL ⟨yp, yn⟩
            · have HOY : Hid (okL ⟨yp, yn⟩ = false) := hoy
              clear hoy
              have y0 : ∀ Y : GW w7, Y.it.cell? ⟨g7, i * 2, none⟩ = some (.string (bs xp)) := fun Y => Y.cell HV7.out.ar.1 (HX7.out.1)
              have y1 : ∀ Y : GW w7, Y.it.cell? ⟨g7, i * 2 + 1, none⟩ = some (.string (bs xn)) := fun Y => Y.cell HV7.out.ar.1 (HX7.out.2)
              have v0 : ∀ Y : GW w7, Y.it.cell? ⟨g7, k * 2, none⟩ = some (.string (bs yp)) := fun Y => Y.cell HV7.out.ar.1 (HY7.out.1)
              have v1 : ∀ Y : GW w7, Y.it.cell? ⟨g7, k * 2 + 1, none⟩ = some (.string (bs yn)) := fun Y => Y.cell HV7.out.ar.1 (HY7.out.2)
              have xne := gw_ne w7
              have k0 : Hid (∀ Y : GW w7, Calls Try.prog 9 #[.agg #[.string (bs xp), .string (bs xn)]] Y.it fun e w' => e = .returned (.bool true) ∧ ∃ X : GW w7, w' = X.it) := fun Y => by
                have h := (con w7 HX.out).v Y
                rw [HOK.out] at h; exact h
              have k1 : Hid (∀ Y : GW w7, Calls Try.prog 9 #[.agg #[.string (bs yp), .string (bs yn)]] Y.it fun e w' => e = .returned (.bool false) ∧ ∃ X : GW w7, w' = X.it) := fun Y => by
                have h := (con w7 HY.out).v Y
                rw [HOY.out] at h; exact h

              go_wp2_with fail
              refine wp_region_grow (by kernel_rfl) (by kernel_rfl) ?_
              repeat (go_big_quiet_step (first | with_reducible exact k0.out _ | with_reducible exact k1.out _))
              refine wpQuiet_nil ?_
              rintro w8 ⟨⟨w8, bx⟩, rfl⟩
              have HB8 : Hid (Below w.heap.size w w8) := bstep HB7.out bx
              have HV8 : Hid (Vars w8 g3 g4 g5 g7 ⟨ap, an⟩ ⟨bp, bn⟩ ⟨cp, cn⟩) := HV7.out.later bx
              clear bx y0 y1 v0 v1 xne k0 k1
              go_wp2_with fail
              go_round
              case rel => exact ⟨k + 1, by omega, by simp, HB8.out, HV8.out⟩
              case measure => simp only [intOf]; omega

            · have HOY : Hid (okL ⟨yp, yn⟩ = true) := hoy
              obtain ⟨c, hc⟩ : ∃ c, cmpL ⟨xp, xn⟩ ⟨yp, yn⟩ = c := ⟨_, rfl⟩
              obtain ⟨P, hP⟩ : ∃ P, prt ⟨xp, xn⟩ = P := ⟨_, rfl⟩
              obtain ⟨R, hR⟩ : ∃ R, prt ⟨yp, yn⟩ = R := ⟨_, rfl⟩
              have HC : Hid (cmpL ⟨xp, xn⟩ ⟨yp, yn⟩ = c) := hc
              have HPX : Hid (prt ⟨xp, xn⟩ = P) := hP
              have HPY : Hid (prt ⟨yp, yn⟩ = R) := hR
              have hi := prt_inj HOK.out HOY.out
              rw [hP, hR] at hi
              have hcz := cmpL_zero ⟨xp, xn⟩ ⟨yp, yn⟩
              rw [hc] at hcz
              by_cases he : (⟨xp, xn⟩ : Lb) = ⟨yp, yn⟩
              · have c1 : c = 0 := hcz.2 he
                have c2 : P = R := hi.2 he
                have d1 : leq ⟨xp, xn⟩ ⟨yp, yn⟩ = true := decide_eq_true he
                subst c1 c2
                clear hi hcz hc hP hR he hoy
                have y0 : ∀ Y : GW w7, Y.it.cell? ⟨g7, i * 2, none⟩ = some (.string (bs xp)) := fun Y => Y.cell HV7.out.ar.1 (HX7.out.1)
                have y1 : ∀ Y : GW w7, Y.it.cell? ⟨g7, i * 2 + 1, none⟩ = some (.string (bs xn)) := fun Y => Y.cell HV7.out.ar.1 (HX7.out.2)
                have v0 : ∀ Y : GW w7, Y.it.cell? ⟨g7, k * 2, none⟩ = some (.string (bs yp)) := fun Y => Y.cell HV7.out.ar.1 (HY7.out.1)
                have v1 : ∀ Y : GW w7, Y.it.cell? ⟨g7, k * 2 + 1, none⟩ = some (.string (bs yn)) := fun Y => Y.cell HV7.out.ar.1 (HY7.out.2)
                have xne := gw_ne w7
                have k0 : Hid (∀ Y : GW w7, Calls Try.prog 9 #[.agg #[.string (bs xp), .string (bs xn)]] Y.it fun e w' => e = .returned (.bool true) ∧ ∃ X : GW w7, w' = X.it) := fun Y => by
                  have h := (con w7 HX.out).v Y
                  rw [HOK.out] at h; exact h
                have k1 : Hid (∀ Y : GW w7, Calls Try.prog 9 #[.agg #[.string (bs yp), .string (bs yn)]] Y.it fun e w' => e = .returned (.bool true) ∧ ∃ X : GW w7, w' = X.it) := fun Y => by
                  have h := (con w7 HY.out).v Y
                  rw [HOY.out] at h; exact h

                have k2 : Hid (∀ Y : GW w7, Calls Try.prog 10 #[.agg #[.string (bs xp), .string (bs xn)], .agg #[.string (bs yp), .string (bs yn)]] Y.it fun e w' => e = .returned (.int .i64 0) ∧ ∃ X : GW w7, w' = X.it) := fun Y => by
                  have h := con_cmp w7 HX.out HY.out Y
                  rw [HC.out] at h; exact h
                have k3 : Hid (∀ Y : GW w7, Calls Try.prog 8 #[.agg #[.string (bs xp), .string (bs xn)]] Y.it fun e w' => e = .returned (.string (bs P)) ∧ ∃ X : GW w7, w' = X.it) := fun Y => by
                  have h := (con w7 HX.out).p Y
                  rw [HPX.out] at h; exact h
                have k4 : Hid (∀ Y : GW w7, Calls Try.prog 8 #[.agg #[.string (bs yp), .string (bs yn)]] Y.it fun e w' => e = .returned (.string (bs P)) ∧ ∃ X : GW w7, w' = X.it) := fun Y => by
                  have h := (con w7 HY.out).p Y
                  rw [HPY.out] at h; exact h
                have t1 := bs_toList P


                go_wp2_with fail
                refine wp_region_grow (by kernel_rfl) (by kernel_rfl) ?_
                repeat (go_big_quiet_step (first | with_reducible exact k0.out _ | with_reducible exact k1.out _ | with_reducible exact k2.out _ | with_reducible exact k3.out _ | with_reducible exact k4.out _))
                refine wpQuiet_nil ?_
                rintro w8 ⟨⟨w8, bx⟩, rfl⟩
                have HB8 : Hid (Below w.heap.size w w8) := bstep HB7.out bx
                have HV8 : Hid (Vars w8 g3 g4 g5 g7 ⟨ap, an⟩ ⟨bp, bn⟩ ⟨cp, cn⟩) := HV7.out.later bx
                clear bx y0 y1 v0 v1 xne k0 k1
                go_wp2_with fail
                go_round
                case rel => exact ⟨k + 1, by omega, by simp, HB8.out, HV8.out⟩
                case measure => simp only [intOf]; omega

              · have c1 : (c == 0) = false := by rw [beq_eq_false_iff_ne]; exact fun h => he (hcz.1 h)
                have c2 : (P == R) = false := by rw [beq_eq_false_iff_ne]; exact fun h => he (hi.1 h)
                have d1 : leq ⟨xp, xn⟩ ⟨yp, yn⟩ = false := decide_eq_false he
                clear hi hcz hc hP hR he hoy
                have y0 : ∀ Y : GW w7, Y.it.cell? ⟨g7, i * 2, none⟩ = some (.string (bs xp)) := fun Y => Y.cell HV7.out.ar.1 (HX7.out.1)
                have y1 : ∀ Y : GW w7, Y.it.cell? ⟨g7, i * 2 + 1, none⟩ = some (.string (bs xn)) := fun Y => Y.cell HV7.out.ar.1 (HX7.out.2)
                have v0 : ∀ Y : GW w7, Y.it.cell? ⟨g7, k * 2, none⟩ = some (.string (bs yp)) := fun Y => Y.cell HV7.out.ar.1 (HY7.out.1)
                have v1 : ∀ Y : GW w7, Y.it.cell? ⟨g7, k * 2 + 1, none⟩ = some (.string (bs yn)) := fun Y => Y.cell HV7.out.ar.1 (HY7.out.2)
                have xne := gw_ne w7
                have k0 : Hid (∀ Y : GW w7, Calls Try.prog 9 #[.agg #[.string (bs xp), .string (bs xn)]] Y.it fun e w' => e = .returned (.bool true) ∧ ∃ X : GW w7, w' = X.it) := fun Y => by
                  have h := (con w7 HX.out).v Y
                  rw [HOK.out] at h; exact h
                have k1 : Hid (∀ Y : GW w7, Calls Try.prog 9 #[.agg #[.string (bs yp), .string (bs yn)]] Y.it fun e w' => e = .returned (.bool true) ∧ ∃ X : GW w7, w' = X.it) := fun Y => by
                  have h := (con w7 HY.out).v Y
                  rw [HOY.out] at h; exact h

                have k2 : Hid (∀ Y : GW w7, Calls Try.prog 10 #[.agg #[.string (bs xp), .string (bs xn)], .agg #[.string (bs yp), .string (bs yn)]] Y.it fun e w' => e = .returned (.int .i64 c) ∧ ∃ X : GW w7, w' = X.it) := fun Y => by
                  have h := con_cmp w7 HX.out HY.out Y
                  rw [HC.out] at h; exact h
                have k3 : Hid (∀ Y : GW w7, Calls Try.prog 8 #[.agg #[.string (bs xp), .string (bs xn)]] Y.it fun e w' => e = .returned (.string (bs P)) ∧ ∃ X : GW w7, w' = X.it) := fun Y => by
                  have h := (con w7 HX.out).p Y
                  rw [HPX.out] at h; exact h
                have k4 : Hid (∀ Y : GW w7, Calls Try.prog 8 #[.agg #[.string (bs yp), .string (bs yn)]] Y.it fun e w' => e = .returned (.string (bs R)) ∧ ∃ X : GW w7, w' = X.it) := fun Y => by
                  have h := (con w7 HY.out).p Y
                  rw [HPY.out] at h; exact h
                have t1 := bs_toList P
                have t2 := bs_toList R

                go_wp2_with fail
                refine wp_region_grow (by kernel_rfl) (by kernel_rfl) ?_
                repeat (go_big_quiet_step (first | with_reducible exact k0.out _ | with_reducible exact k1.out _ | with_reducible exact k2.out _ | with_reducible exact k3.out _ | with_reducible exact k4.out _))
                refine wpQuiet_nil ?_
                rintro w8 ⟨⟨w8, bx⟩, rfl⟩
                have HB8 : Hid (Below w.heap.size w w8) := bstep HB7.out bx
                have HV8 : Hid (Vars w8 g3 g4 g5 g7 ⟨ap, an⟩ ⟨bp, bn⟩ ⟨cp, cn⟩) := HV7.out.later bx
                clear bx y0 y1 v0 v1 xne k0 k1
                go_wp2_with fail
                go_round
                case rel => exact ⟨k + 1, by omega, by simp, HB8.out, HV8.out⟩
                case measure => simp only [intOf]; omega

          · have hk3' : k = 3 := by omega
            subst hk3'
            go_wp2_with fail
            go_round
            case rel => exact ⟨i + 1, by omega, by simp, HB5.out, HV5.out⟩
            case measure => simp only [intOf]; omega

    · have hi3' : i = 3 := by omega
      subst hi3'
      have X17 : Hid (Tri w wr g3 g4 g5 ⟨ap, an⟩ ⟨bp, bn⟩ ⟨cp, cn⟩) := ⟨HB.out, HV.out.ra, HV.out.rb, HV.out.rc, HA.out.1, HA.out.2.1, HA.out.2.2⟩
      go_wp2_with fail
      refine HK.out _ _ ?_
      clear HK
      exact b17 X17
end Go.Proofs.Ytoldcbfmkibkdaa
