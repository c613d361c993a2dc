/-
  The law over all that is told.
-/
import Derived.Test.YtceoelclnnfhhadGreatStps
namespace Go.Proofs.YtceoelclnnfhhadGreat
open Go.RowKit

def GoodE (w : World) (e : Ending) (w' : World) : Prop := e = .returned (.bool true) ∧ Below w.heap.size w w'
theorem eqR (w : World) (x : Option Addr) : (binOp .eql 30 (.pointer x) (.pointer none)).run Tryz.prog w = .ok (.bool x.isNone) w := by cases x <;> kernel_rfl
set_option maxRecDepth 100000 in
set_option maxHeartbeats 8000000 in
theorem all_law {w : World} {va vs : Value} {L : List Fl} {S : List Stp} (h : FS w va L) (sm : FSm L) (hs : TS6 w vs S) (ss : SSm S) :
    Calls Tryz.prog 4 #[va, vs] w (GoodE w) := by
  unfold GoodE
  have H : Hid (FS w va L ∧ FSm L ∧ TS6 w vs S ∧ SSm S) := ⟨h, sm, hs, ss⟩
  obtain ⟨a0, c0, rfl, _⟩ := h.form
  obtain ⟨sa, sc1, rfl⟩ := hs.form
  rename_i q9
  have hns := ss.len
  clear h sm hs ss q9
  obtain ⟨n0, hn0⟩ : ∃ n0, L.length = n0 := ⟨_, rfl⟩
  obtain ⟨ns, hn1⟩ : ∃ ns, S.length = ns := ⟨_, rfl⟩
  have HN : Hid (L.length = n0 ∧ S.length = ns) := ⟨hn0, hn1⟩
  rw [hn0, hn1] at H
  rw [hn1] at hns
  rw [hn0, hn1]
  clear hn0 hn1
  have q1 := eqT
  have q2 := eqR
  by_cases hv : validE L = 0
  · have HV : Hid (validE L = 0) := hv
    have HR : Hid (∀ W, w = W → Calls Tryz.prog 7 #[.slice a0 n0 c0] W fun e w' => ∃ r, e = .returned (.tuple #[.pointer (some ⟨r, 0, none⟩), .int .i64 0]) ∧ RT w' W.heap.size r L ∧ Below W.heap.size W w') := by
      rintro W rfl
      refine (rnewT_any H.out.1 H.out.2.1).mono ?_
      rintro e w' ⟨h1, h2⟩
      rw [if_pos hv] at h1
      obtain ⟨r, h3, h4⟩ := h1
      exact ⟨r, h3, h4, h2⟩
    clear hv
    go_enter Tryz.func4, Tryz.ntmps4
    go_wp2_with fail
    refine (HR.out _ rfl).mono ?_
    rintro e w1 ⟨r, rfl, hr1, hb1⟩
    have H1 : Hid (RT w1 w.heap.size r L ∧ Below w.heap.size w w1) := ⟨hr1, hb1⟩
    clear hr1 hb1
    go_wp2_with fail
    refine (new_good (H.out.1.later H1.out.2) H.out.2.1 HV.out).mono ?_
    rintro e w2 ⟨t, rfl, htr, hb2⟩
    have H2 : Hid (PS w w2 t r L L 12000) := by
      have hs := H1.out.2.size
      exact ⟨⟨_, htr, fun i hi => by omega⟩, H1.out.1.later hb2, bstep H1.out.2 hb2, H.out.2.1.each⟩
    clear htr hb2
    go_wp2_with fail
    refine (known_any w2).mono ?_
    rintro e w3 ⟨rfl, hb3⟩
    have H3 : Hid (PS w w3 t r L L 12000) := H2.out.later hb3
    clear hb3
    go_wp2_with fail
    obtain ⟨w4, hw4⟩ : ∃ w4, w3.alloc (.cells #[.pointer (some ⟨t, 0, none⟩), .pointer (some ⟨r, 0, none⟩)] 44) = w4 := ⟨_, rfl⟩
    obtain ⟨g, hg⟩ : ∃ g, w3.heap.size = g := ⟨_, rfl⟩
    have H4 : Hid (PS w w4 t r L L 12000 ∧ PB w4 g t r) := by
      rw [← hw4, ← hg]
      exact ⟨H3.out.later (balloc _ _), ⟨heap_alloc_new _ _⟩⟩
    rw [hw4, hg]
    clear hw4 hg
    go_loopw [10] (fun i wr => ∃ (k N : Nat) (R : List Fl), k ≤ ns ∧ i = .int .i64 k ∧ N ≤ 12000 + 20 * k ∧ PS w wr t r R R N ∧ PB wr g t r) (fun i _ => ns - (intOf i).toNat)
    case atStart => exact ⟨0, 12000, L, by omega, rfl, by omega, H4.out⟩
    case round =>
      rename World => w5
      obtain ⟨k, N, R, hk, rfl, hN, hps, hpb⟩ := hrel
      have H5 : Hid (N ≤ 12000 + 20 * k ∧ PS w w5 t r R R N ∧ PB w5 g t r) := ⟨hN, hps, hpb⟩
      clear hN hps hpb
      by_cases hlt : k < ns
      · have hkl : k < S.length := by have := HN.out.2; omega
        obtain ⟨b, off, ea, hbw, d0, d1, d2, d3, d4, d5⟩ := TS6.at H.out.2.2.1 H5.out.2.1.below hkl
        subst ea
        obtain ⟨hfk, hpl, hk0, hk1⟩ := H.out.2.2.2.each _ (List.getElem_mem hkl)
        obtain ⟨stp, hst⟩ : ∃ st, S[k] = st := ⟨_, rfl⟩
        rw [hst] at d0 d1 d2 d3 d4 d5 hfk hpl
        have HSK : Hid (∀ W, Below w.heap.size w W → W.cell? ⟨b, off + k * 6, none⟩ = some (.int .i64 stp.kind) ∧ W.cell? ⟨b, off + k * 6 + 1, none⟩ = some (.string (bs stp.f.path)) ∧ W.cell? ⟨b, off + k * 6 + 2, none⟩ = some (.string (bs stp.f.text)) ∧ W.cell? ⟨b, off + k * 6 + 3, none⟩ = some (.int .i64 stp.f.blob) ∧ W.cell? ⟨b, off + k * 6 + 4, none⟩ = some (.int .i64 stp.f.size) ∧ W.cell? ⟨b, off + k * 6 + 5, none⟩ = some (.string (bs stp.p))) := by
          intro W hW
          obtain ⟨b', off', ea', _, z0⟩ := TS6.at H.out.2.2.1 hW hkl
          cases ea'
          rw [hst] at z0
          exact z0
        clear hst hkl hk0 hk1
        obtain ⟨kd, ⟨p, tx, bl, s⟩, q⟩ := stp
        simp only at d0 d1 d2 d3 d4 d5 hfk hpl HSK
        have HF : Hid (Fok ⟨p, tx, bl, s⟩ ∧ q.length ≤ 4194304) := ⟨hfk, hpl⟩
        clear hfk hpl
        have k1 : (0 : Int) ≤ (k : Int) := by omega
        have k2 : (k : Int) < (ns : Int) := by omega
        obtain ⟨c0', c1'⟩ := H5.out.2.2.cells
        have hb0 : Below w5.heap.size w5 w5.drew := (Below.refl _ _).drew
        have HST : Hid (Calls Tryz.prog 17 #[.agg #[.pointer (some ⟨t, 0, none⟩), .pointer (some ⟨r, 0, none⟩)], .agg #[.int .i64 kd, .string (bs p), .string (bs tx), .int .i64 bl, .int .i64 s, .string (bs q)]] w5.drew fun e w' => e = .returned (.bool true) ∧ (∃ R', PS w w' t r R' R' (N + 20)) ∧ AK2 w5.drew w') := step_law (H5.out.2.1.later hb0) HF.out.1 HF.out.2 (by have := H5.out.1; omega)
        go_wp2_with fail
        go_region_held3 (fun w' => w'.cell? ⟨g, 0, none⟩ = some (.pointer (some ⟨t, 0, none⟩)) ∧ w'.cell? ⟨g, 1, none⟩ = some (.pointer (some ⟨r, 0, none⟩)) ∧ w'.cell? ⟨b, off + k * 6, none⟩ = some (.int .i64 kd) ∧ w'.cell? ⟨b, off + k * 6 + 1, none⟩ = some (.string (bs p)) ∧ w'.cell? ⟨b, off + k * 6 + 2, none⟩ = some (.string (bs tx)) ∧ w'.cell? ⟨b, off + k * 6 + 3, none⟩ = some (.int .i64 bl) ∧ w'.cell? ⟨b, off + k * 6 + 4, none⟩ = some (.int .i64 s) ∧ w'.cell? ⟨b, off + k * 6 + 5, none⟩ = some (.string (bs q)))
          (first | (with_reducible exact ⟨e0, e1, f0, f1, f2, f3, f4, f5⟩) | go_keep)
          (first | (go_at_call 17; with_reducible refine HST.out.mono ?_; rintro e w6 ⟨rfl, ⟨R', hp6⟩, hk6⟩; have hk6' : AK2 w5 w6 := (AK2.of_below hb0).trans hk6; obtain ⟨e0, e1⟩ := (H5.out.2.2.ak2 hk6').cells; obtain ⟨f0, f1, f2, f3, f4, f5⟩ := HSK.out _ hp6.below))
        have H6 : Hid (PS w w6 t r R' R' (N + 20) ∧ PB w6 g t r) := ⟨hp6, H5.out.2.2.ak2 hk6'⟩
        clear hp6 hk6 hk6' e0 e1 f0 f1 f2 f3 f4 f5 d0 d1 d2 d3 d4 d5 c0' c1' hb0
        go_wp2_with fail
        go_roundw
        case rel => exact ⟨k + 1, N + 20, R', by omega, by go_num, by have := H5.out.1; omega, H6.out⟩
        case measure => simp [intOf]; omega
      · obtain rfl : ns = k := by omega
        go_wp2_with fail
        go_loopw [11] (fun i wr => ∃ k : Nat, k ≤ ns ∧ i = .int .i64 k ∧ PS w wr t r R R N ∧ PB wr g t r) (fun i _ => ns - (intOf i).toNat)
        case atStart => exact ⟨0, by omega, rfl, H5.out.2⟩
        case round =>
          rename World => w6
          obtain ⟨k, hk2, rfl, hps, hpb⟩ := hrel
          have H6 : Hid (PS w w6 t r R R N ∧ PB w6 g t r) := ⟨hps, hpb⟩
          clear hps hpb
          by_cases hlt2 : k < ns
          · have hkl : k < S.length := by have := HN.out.2; omega
            obtain ⟨b, off, ea, hbw, d0, d1, d2, d3, d4, d5⟩ := TS6.at H.out.2.2.1 H6.out.1.below hkl
            subst ea
            obtain ⟨hfk, hpl, _, _⟩ := H.out.2.2.2.each _ (List.getElem_mem hkl)
            have hfp := hfk.path
            obtain ⟨p, hp⟩ : ∃ p, S[k].f.path = p := ⟨_, rfl⟩
            obtain ⟨q, hq⟩ : ∃ q, S[k].p = q := ⟨_, rfl⟩
            rw [hp] at d1 hfp
            rw [hq] at d5 hpl
            have hbl : b < w6.heap.size := Nat.lt_of_lt_of_le hbw H6.out.1.below.size
            have y1 : ∀ Y : GW w6, Y.it.cell? ⟨b, off + k * 6 + 1, none⟩ = some (.string (bs p)) := fun Y => Y.cell hbl d1
            have y5 : ∀ Y : GW w6, Y.it.cell? ⟨b, off + k * 6 + 5, none⟩ = some (.string (bs q)) := fun Y => Y.cell hbl d5
            obtain ⟨c0', c1'⟩ := H6.out.2.cells
            have hgl := H6.out.2.lt
            have z0 : ∀ Y : GW w6, Y.it.cell? ⟨g, 0, none⟩ = some (.pointer (some ⟨t, 0, none⟩)) := fun Y => Y.cell hgl c0'
            have z1 : ∀ Y : GW w6, Y.it.cell? ⟨g, 1, none⟩ = some (.pointer (some ⟨r, 0, none⟩)) := fun Y => Y.cell hgl c1'
            have HTL : Hid (∀ (x : List UInt8) (_ : x.length ≤ 4194304) (Y : GW w6), Calls Tryz.prog 18 #[.agg #[.pointer (some ⟨t, 0, none⟩), .pointer (some ⟨r, 0, none⟩)], .string (bs x)] Y.it fun e w' => e = .returned (.bool true) ∧ ∃ X : GW w6, w' = X.it) := by
              intro x hx Y
              refine (told_law (H6.out.1.later Y.below) x hx).mono ?_
              rintro e w' ⟨rfl, hb⟩
              exact ⟨rfl, ⟨w', bstep Y.below hb⟩, rfl⟩
            have HT1 : Hid (∀ Y : GW w6, Calls Tryz.prog 18 #[.agg #[.pointer (some ⟨t, 0, none⟩), .pointer (some ⟨r, 0, none⟩)], .string (bs q)] Y.it fun e w' => e = .returned (.bool true) ∧ ∃ X : GW w6, w' = X.it) := HTL.out q hpl
            have HT2 : Hid (∀ Y : GW w6, Calls Tryz.prog 18 #[.agg #[.pointer (some ⟨t, 0, none⟩), .pointer (some ⟨r, 0, none⟩)], .string (bs p)] Y.it fun e w' => e = .returned (.bool true) ∧ ∃ X : GW w6, w' = X.it) := HTL.out p hfp
            have xne := gw_ne w6
            have k1 : (0 : Int) ≤ (k : Int) := by omega
            have k2 : (k : Int) < (ns : Int) := by omega
            clear hp hq d0 d1 d2 d3 d4 d5 c0' c1' hfk
            go_wp2_with fail
            refine wp_region_grow (by kernel_rfl) (by kernel_rfl) ?_
            repeat (go_big_quiet_step (first | with_reducible exact HT1.out _ | with_reducible exact HT2.out _))
            refine wpQuiet_nil ?_
            rintro w7 ⟨⟨w7, bx⟩, rfl⟩
            have H7 : Hid (PS w w7 t r R R N ∧ PB w7 g t r) := ⟨H6.out.1.later bx, H6.out.2.later bx⟩
            clear bx y1 y5 z0 z1
            go_wp2_with fail
            go_roundw
            case rel => exact ⟨k + 1, by omega, by go_num, H7.out⟩
            case measure => simp [intOf]; omega
          · obtain rfl : ns = k := by omega
            obtain ⟨c0', c1'⟩ := H6.out.2.cells
            have HTL : Hid (∀ W, w6 = W → Calls Tryz.prog 18 #[.agg #[.pointer (some ⟨t, 0, none⟩), .pointer (some ⟨r, 0, none⟩)], .string ⟨#[]⟩] W fun e w' => e = .returned (.bool true) ∧ Below W.heap.size W w') := by
              rintro W rfl
              exact told_law H6.out.1 [] (by simp)
            go_wp2_with fail
            refine (HTL.out _ rfl).mono ?_
            rintro e w7 ⟨rfl, hb7⟩
            have H7 : Hid (Below w.heap.size w w7) := bstep H6.out.1.below hb7
            clear hb7
            go_wp2_with fail
            go_ret
            exact ⟨rfl, H7.out⟩
  · obtain ⟨E, hE⟩ : ∃ E, validE L = E := ⟨_, rfl⟩
    have hEb : (E != 0) = true := by rw [← hE]; simpa using hv
    have hEE : (E != E) = false := by simp
    have HR : Hid (∀ W, w = W → Calls Tryz.prog 7 #[.slice a0 n0 c0] W fun e w' => e = .returned (.tuple #[.pointer none, .int .i64 E]) ∧ Below W.heap.size W w') := by
      rintro W rfl
      refine (rnewT_any H.out.1 H.out.2.1).mono ?_
      rintro e w' ⟨h1, h2⟩
      rw [if_neg hv, hE] at h1
      exact ⟨h1, h2⟩
    have HNW : Hid (∀ W, Below w.heap.size w W → Calls Tryz.prog 5 #[.slice a0 n0 c0] W fun e w' => e = .returned (.tuple #[.pointer none, .int .i64 E]) ∧ Below W.heap.size W w') := by
      intro W hW
      have := new_bad (H.out.1.later hW) H.out.2.1 hv
      rw [hE] at this; exact this
    clear hv hE
    go_enter Tryz.func4, Tryz.ntmps4
    go_wp2_with fail
    refine (HR.out _ rfl).mono ?_
    rintro e w1 ⟨rfl, hb1⟩
    have H1 : Hid (Below w.heap.size w w1) := hb1
    clear hb1
    go_wp2_with fail
    refine (HNW.out _ H1.out).mono ?_
    rintro e w2 ⟨rfl, hb2⟩
    have H2 : Hid (Below w.heap.size w w2) := bstep H1.out hb2
    clear hb2
    go_wp2_with fail
    refine (known_any w2).mono ?_
    rintro e w3 ⟨rfl, hb3⟩
    have H3 : Hid (Below w.heap.size w w3) := bstep H2.out hb3
    clear hb3
    go_wp2_with fail
    go_ret
    exact ⟨rfl, H3.out⟩
end Go.Proofs.YtceoelclnnfhhadGreat
