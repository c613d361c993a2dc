/-
  The deeds of a delta; a delta applied.
-/
import Derived.Test.YtinhdjoidbcfaaaDds
namespace Go.Proofs.Ytinhdjoidbcfaaa
open Go.RowKit

def fitC (a : List Fl) (c : Ch) : Bool := ((lk Fl.path a c.path).isSome == c.had) && feq ((lk Fl.path a c.path).getD zf) c.old
theorem fitA_all (a : List Fl) (d : List Ch) : fitA a d = d.all (fitC a) := rfl
theorem bneq_not (a b : Bool) : (a != b) = !(a == b) := rfl
set_option maxRecDepth 100000 in
set_option maxHeartbeats 8000000 in
theorem deeds_any {w : World} {va vd' : Value} {a : List Fl} {d : List Ch} (ha : FS w va a) (hd : CS w vd' d) (sa : FSm a) (sd : CSm d) :
    Calls Try.prog 29 #[va, vd'] w fun e w' => ∃ tv, e = .returned (.tuple #[tv, .bool (decide (d.length ≤ 1024) && vd d && fitA a d)]) ∧ Below w.heap.size w w' ∧ ((decide (d.length ≤ 1024) && vd d && fitA a d) = true → ∃ xs, OD w.heap.size w' tv (dds d) xs) := by
  have H : Hid (FS w va a ∧ CS w vd' d ∧ FSm a ∧ CSm d) := ⟨ha, hd, sa, sd⟩
  have HV : Hid (∀ W, Below w.heap.size w W → Calls Try.prog 18 #[vd'] W fun x w' => x = .returned (.bool (vd d)) ∧ Below w.heap.size w w') := fun W hW => (valid_d (hd.later hW) sd).mono fun _ _ h => ⟨h.1, bstep hW h.2⟩
  have HF : Hid (∀ W (q : List UInt8), Below w.heap.size w W → Calls Try.prog 19 #[va, .string (bs q)] W fun x w' => x = .returned (.tuple #[((lk Fl.path a q).getD zf).val, .bool (lk Fl.path a q).isSome]) ∧ Below W.heap.size W w') := fun W q hW => find_any q (ha.later hW) sa
  obtain ⟨a1, c1, hva, _⟩ := ha.form
  rename_i q1
  obtain ⟨a2, c2, hvd⟩ := hd.shape
  obtain ⟨na, hna⟩ : ∃ n, a.length = n := ⟨_, rfl⟩
  obtain ⟨n, hn⟩ : ∃ n, d.length = n := ⟨_, rfl⟩
  rw [hna] at hva
  rw [hn] at hvd ⊢
  clear q1
  subst hva hvd
  have H' : Hid (CS w (.slice a2 d.length c2) d) := by show CS w (.slice a2 d.length c2) d; rw [hn]; exact H.out.2.1
  have HN : Hid (d.length = n) := hn
  have hlen : n ≤ 140737488355328 := by rw [← hn]; exact sd.len
  clear ha hd sa sd hn hna
  by_cases h1 : n ≤ 1024
  · have hd1 : decide (n ≤ 1024) = true := by simpa using h1
    rw [hd1, Bool.true_and]
    clear hd1
    cases h2 : vd d
    · rw [h2] at HV
      simp only [Bool.false_and]
      clear h2
      go_enter Try.func29, Try.ntmps29
      go_wp2_with fail
      refine (HV.out _ (Below.refl _ _)).mono ?_
      rintro x w1 ⟨rfl, hb1⟩
      have HB : Hid (Below w.heap.size w w1) := hb1
      clear hb1
      go_wp2_with fail
      go_ret2
      exact ⟨.slice none 0 0, rfl, HB.out, fun h => by simp at h⟩
    · rw [h2] at HV
      simp only [Bool.true_and]
      clear h2
      obtain ⟨R, hR⟩ : ∃ R, fitA a d = R := ⟨_, rfl⟩
      rw [hR]
      have HR : Hid ((d.drop 0).all (fitC a) = R) := hR
      clear hR
      have q2 := guard_run
      go_enter Try.func29, Try.ntmps29
      go_wp2_with fail
      refine (HV.out _ (Below.refl _ _)).mono ?_
      rintro x w1 ⟨rfl, hb1⟩
      have HB1 : Hid (Below w.heap.size w w1) := hb1
      clear hb1
      go_wp2_with fail
      go_loopw [6, 21] (fun o s wr => ∃ (k : Nat) (xs : List Value), k ≤ n ∧ s = .int .i64 k ∧ OD w.heap.size wr o (dds (d.take k)) xs ∧ Below w.heap.size w wr ∧ (d.drop k).all (fitC a) = R) (fun _ s _ => n - (intOf s).toNat)
      case atStart => exact ⟨0, [], by omega, rfl, OD.nil _ _, HB1.out, HR.out⟩
      case round =>
        obtain ⟨k, xs, hk, rfl, ho, hb, hr⟩ := hrel
        have HO : Hid (OD w.heap.size wr u6 (dds (d.take k)) xs) := ho
        have HB : Hid (Below w.heap.size w wr) := hb
        have HRk : Hid ((d.drop k).all (fitC a) = R) := hr
        have HXL : Hid (xs.length ≤ 2 * k) := by
          show xs.length ≤ 2 * k
          rw [ho.val.len]
          have := dds_len (d.take k)
          have h2 : (d.take k).length ≤ k := by simp; omega
          omega
        clear ho hb hr
        by_cases hlt : k < n
        · have hkl : k < d.length := by have := HN.out; omega
          obtain ⟨b, off, ea, hbw, _, d0, d1, d2, d3, d4, d5, d6, d7, d8, d9, d10⟩ := CS.at H'.out HB.out hkl
          subst ea
          have HT : Hid (dds (d.take (k + 1)) = dds (d.take k) ++ ddc (d[k]'hkl)) := dds_take d k hkl
          have HR2 : Hid ((fitC a (d[k]'hkl) && (d.drop (k + 1)).all (fitC a)) = R) := by
            have h1 := HRk.out
            rw [all_step' d _ k hkl] at h1; exact h1
          have hcok := H.out.2.2.2.at hkl
          have HCK : Hid (Cok (d[k]'hkl)) := hcok
          have HFk : Hid (∀ W, Below w.heap.size w W → Calls Try.prog 19 #[.slice a1 na c1, .string (bs (d[k]'hkl).path)] W fun x w' => x = .returned (.tuple #[((lk Fl.path a (d[k]'hkl).path).getD zf).val, .bool (lk Fl.path a (d[k]'hkl).path).isSome]) ∧ Below W.heap.size W w') := fun W hW => HF.out W _ hW
          generalize hc : d[k] = c at d0 d1 d2 d3 d4 d5 d6 d7 d8 d9 d10 HT HR2 HCK HFk
          clear hc hcok
          obtain ⟨F, hF⟩ : ∃ F, (lk Fl.path a c.path).getD zf = F := ⟨_, rfl⟩
          obtain ⟨th, hth⟩ : ∃ th, (lk Fl.path a c.path).isSome = th := ⟨_, rfl⟩
          have HFC : Hid (fitC a c = ((th == c.had) && feq F c.old)) := by show fitC a c = _; unfold fitC; rw [hF, hth]
          rw [hF, hth] at HFk
          clear hF hth
          obtain ⟨fp, ft, fb, fs⟩ := F
          obtain ⟨p, ha, hb, ⟨q, t, bl, s⟩, ⟨r, y, dd, z⟩⟩ := c
          simp only [Fl.val] at d0 d1 d2 d3 d4 d5 d6 d7 d8 d9 d10 HFk HFC
          have HFQ : Hid (∀ W, (binOp .neq 40 (.agg #[.string (bs fp), .string (bs ft), .int .i64 fb, .int .i64 fs]) (.agg #[.string (bs q), .string (bs t), .int .i64 bl, .int .i64 s])).run Try.prog W = .ok (.bool (!feq ⟨fp, ft, fb, fs⟩ ⟨q, t, bl, s⟩)) W) := fun W => neq_run W fp ft q t fb fs bl s
          generalize feq ⟨fp, ft, fb, fs⟩ ⟨q, t, bl, s⟩ = fe at *
          have k1 : (0 : Int) ≤ (k : Int) := by omega
          have k2 : (k : Int) < (n : Int) := by omega
          have hbr : b < wr.heap.size := Nat.lt_of_lt_of_le hbw HB.out.size
          go_wp2_with fail
          refine (HFk.out _ (bstep HB.out (balloc _ _))).mono ?_
          rintro x w2 ⟨rfl, hb2⟩
          have HC2 : Hid (CB w2 wr.heap.size 0 ⟨p, ha, hb, ⟨q, t, bl, s⟩, ⟨r, y, dd, z⟩⟩) := (CB.new wr ⟨p, ha, hb, ⟨q, t, bl, s⟩, ⟨r, y, dd, z⟩⟩ 42).later (by simp) hb2
          have HB2 : Hid (Below wr.heap.size wr w2) := bstep (balloc _ _) hb2
          have hw2 : wr.heap.size < w2.heap.size := Nat.lt_of_lt_of_le (by simp) hb2.size
          clear hb2 d0 d1 d2 d3 d4 d5 d6 d7 d8 d9 d10
          obtain ⟨c0, c1, c2, c3, c4, c5, c6, c7, c8, c9, c10⟩ := HC2.out
          simp only [Nat.zero_add] at c0 c1 c2 c3 c4 c5 c6 c7 c8 c9 c10
          have q1 := HFQ.out
          have HX : Hid (R = (((th == ha) && fe) && (d.drop (k + 1)).all (fitC a))) := by
            show R = _
            have h1 := HR2.out
            rw [HFC.out] at h1; exact h1.symm
          clear HR2 HFC
          cases th
          · cases ha
            · cases fe
              · have HE : Hid (R = false) := by show R = false; rw [HX.out]; rfl
                go_wp2_with fail
                go_ret2
                exact ⟨.slice none 0 0, by rw [HE.out]; rfl, bstep (bstep HB.out HB2.out) (balloc _ _), fun h => by rw [HE.out] at h; simp at h⟩
              · have HE : Hid ((d.drop (k + 1)).all (fitC a) = R) := by show _ = R; rw [HX.out]; simp
                have HBA : Hid (Below w2.heap.size w2 (w2.alloc (.cells #[.string (bs fp), .string (bs ft), .int .i64 fb, .int .i64 fs] 40))) := balloc _ _
                obtain ⟨wA, hwA⟩ : ∃ wA, wA = w2.alloc (.cells #[.string (bs fp), .string (bs ft), .int .i64 fb, .int .i64 fs] 40) := ⟨_, rfl⟩
                rw [← hwA] at HBA
                have HA : Hid (OD w.heap.size wA u6 (dds (d.take k)) xs ∧ Below wr.heap.size wr wA ∧ CB wA wr.heap.size 0 ⟨p, false, hb, ⟨q, t, bl, s⟩, ⟨r, y, dd, z⟩⟩ ∧ wr.heap.size < wA.heap.size) := ⟨HO.out.later (bstep HB2.out HBA.out), bstep HB2.out HBA.out, HC2.out.later hw2 HBA.out, Nat.lt_of_lt_of_le hw2 HBA.out.size⟩
                have HWA : Hid (wA = w2.alloc (.cells #[.string (bs fp), .string (bs ft), .int .i64 fb, .int .i64 fs] 40)) := hwA
                clear hwA
                cases hb
                · go_wp2_with fail
                  rw [← HWA.out]
                  go_roundw
                  case rel => exact ⟨k + 1, xs, by omega, by go_num, by rw [HT.out]; simpa [ddc] using HA.out.1, bstep HB.out HA.out.2.1, HE.out⟩
                  case measure => simp [intOf]; omega
                · go_wp2_with fail
                  rw [← HWA.out]
                  refine (put_mk ⟨r, y, dd, z⟩ _).mono ?_
                  rintro x w5 ⟨rfl, hw5⟩
                  have hb5 : Below wA.heap.size wA w5 := by rw [hw5]; exact balloc _ _
                  have H5 : Hid (OD w.heap.size w5 u6 (dds (d.take k)) xs ∧ DV u6.ownBlock w5 (.func (.func 61) #[] #[.pointer (some ⟨wA.heap.size, 0, none⟩)]) (.put ⟨r, y, dd, z⟩) ∧ Below w.heap.size w w5) := by
                    refine ⟨HA.out.1.later hb5, ⟨wA.heap.size, rfl, by rw [hw5]; exact FB.new wA ⟨r, y, dd, z⟩ 40, fun e => ?_⟩, bstep (bstep HB.out HA.out.2.1) hb5⟩
                    have := (HA.out.1.lt e.symm).2
                    omega
                  have hw5' : w.heap.size ≤ w5.heap.size := H5.out.2.2.size
                  clear hw5 hb5 c0 c1 c2 c3 c4 c5 c6 c7 c8 c9 c10
                  go_wp2_with (first | (at_builtin; refine app_dd (base := w.heap.size) (D := (dds (d.take k))) (xs := xs) (e := .put ⟨r, y, dd, z⟩) (H5.out.1.later (balloc _ _)) (H5.out.2.1.later (balloc _ _)) (src_dd w5 _ rfl) (by have := HXL.out; omega) (by simp; omega) rfl (.tmp 52) (.tmp 56) rfl rfl rfl ?_; intro v6 w6 ho6 hb6 _; have H6 : Hid (OD w.heap.size w6 v6 ((dds (d.take k)) ++ [.put ⟨r, y, dd, z⟩]) (xs ++ [.func (.func 61) #[] #[.pointer (some ⟨wA.heap.size, 0, none⟩)]]) ∧ Below w.heap.size w w6) := ⟨ho6, below_trans (bstep H5.out.2.2 (balloc _ _)) hb6⟩; clear ho6 hb6))
                  go_roundw
                  case rel => exact ⟨k + 1, _, by omega, by go_num, by rw [HT.out]; simpa [ddc] using H6.out.1, H6.out.2, HE.out⟩
                  case measure => simp [intOf]; omega
            · have HE : Hid (R = false) := by show R = false; rw [HX.out]; rfl
              go_wp2_with fail
              go_ret2
              exact ⟨.slice none 0 0, by rw [HE.out]; rfl, bstep (bstep HB.out HB2.out) (balloc _ _), fun h => by rw [HE.out] at h; simp at h⟩
          · cases ha
            · have HE : Hid (R = false) := by show R = false; rw [HX.out]; rfl
              go_wp2_with fail
              go_ret2
              exact ⟨.slice none 0 0, by rw [HE.out]; rfl, bstep (bstep HB.out HB2.out) (balloc _ _), fun h => by rw [HE.out] at h; simp at h⟩
            · cases fe
              · have HE : Hid (R = false) := by show R = false; rw [HX.out]; rfl
                go_wp2_with fail
                go_ret2
                exact ⟨.slice none 0 0, by rw [HE.out]; rfl, bstep (bstep HB.out HB2.out) (balloc _ _), fun h => by rw [HE.out] at h; simp at h⟩
              · have HE : Hid ((d.drop (k + 1)).all (fitC a) = R) := by show _ = R; rw [HX.out]; simp
                have HBA : Hid (Below w2.heap.size w2 (w2.alloc (.cells #[.string (bs fp), .string (bs ft), .int .i64 fb, .int .i64 fs] 40))) := balloc _ _
                obtain ⟨wA, hwA⟩ : ∃ wA, wA = w2.alloc (.cells #[.string (bs fp), .string (bs ft), .int .i64 fb, .int .i64 fs] 40) := ⟨_, rfl⟩
                rw [← hwA] at HBA
                have HA : Hid (OD w.heap.size wA u6 (dds (d.take k)) xs ∧ Below wr.heap.size wr wA ∧ CB wA wr.heap.size 0 ⟨p, true, hb, ⟨q, t, bl, s⟩, ⟨r, y, dd, z⟩⟩ ∧ wr.heap.size < wA.heap.size) := ⟨HO.out.later (bstep HB2.out HBA.out), bstep HB2.out HBA.out, HC2.out.later hw2 HBA.out, Nat.lt_of_lt_of_le hw2 HBA.out.size⟩
                have HWA : Hid (wA = w2.alloc (.cells #[.string (bs fp), .string (bs ft), .int .i64 fb, .int .i64 fs] 40)) := hwA
                clear hwA
                cases hb
                · go_wp2_with fail
                  rw [← HWA.out]
                  refine (cut_mk p wA).mono ?_
                  rintro x w3 ⟨rfl, hw3⟩
                  have hb3 : Below wA.heap.size wA w3 := by rw [hw3]; exact balloc _ _
                  have H3 : Hid (OD w.heap.size w3 u6 (dds (d.take k)) xs ∧ DV u6.ownBlock w3 (.func (.func 58) #[] #[.pointer (some ⟨wA.heap.size, 0, none⟩)]) (.cut p) ∧ Below wr.heap.size wr w3 ∧ CB w3 wr.heap.size 0 ⟨p, true, false, ⟨q, t, bl, s⟩, ⟨r, y, dd, z⟩⟩ ∧ wr.heap.size < w3.heap.size) := by
                    refine ⟨HA.out.1.later hb3, ⟨wA.heap.size, rfl, by rw [hw3]; simp, by rw [hw3]; simp, fun e => ?_⟩, bstep HA.out.2.1 hb3, HA.out.2.2.1.later HA.out.2.2.2 hb3, Nat.lt_of_lt_of_le HA.out.2.2.2 hb3.size⟩
                    have := (HA.out.1.lt e.symm).2
                    omega
                  have hw3' : w.heap.size ≤ w3.heap.size := by have := HB.out.size; have := H3.out.2.2.2.2; omega
                  clear hw3 hb3 c0 c1 c2 c3 c4 c5 c6 c7 c8 c9 c10
                  go_wp2_with (first | (at_builtin; refine app_dd (base := w.heap.size) (D := dds (d.take k)) (xs := xs) (e := .cut p) (H3.out.1.later (balloc _ _)) (H3.out.2.1.later (balloc _ _)) (src_dd w3 _ rfl) (by have := HXL.out; omega) (by simp; omega) rfl (.tmp 44) (.tmp 48) rfl rfl rfl ?_; intro v4 w4 ho4 hb4 hc4; have H4 : Hid (OD w.heap.size w4 v4 (dds (d.take k) ++ [.cut p]) (xs ++ [.func (.func 58) #[] #[.pointer (some ⟨wA.heap.size, 0, none⟩)]]) ∧ Below w.heap.size w w4 ∧ CB w4 wr.heap.size 0 ⟨p, true, false, ⟨q, t, bl, s⟩, ⟨r, y, dd, z⟩⟩ ∧ wr.heap.size < w4.heap.size) := ⟨ho4, below_trans (bstep HB.out (bstep H3.out.2.2.1 (balloc _ _))) hb4, (H3.out.2.2.2.1.later H3.out.2.2.2.2 (balloc _ _)).cells (fun j => hc4 wr.heap.size j (by have := H3.out.2.2.2.2; simp; omega) (fun e => by have := (HO.out.lt e).2; omega)), Nat.lt_of_lt_of_le (Nat.lt_of_lt_of_le H3.out.2.2.2.2 (by simp)) hb4.size⟩; clear ho4 hb4 hc4; obtain ⟨c0, c1, c2, c3, c4, c5, c6, c7, c8, c9, c10⟩ := H4.out.2.2.1; simp only [Nat.zero_add] at c0 c1 c2 c3 c4 c5 c6 c7 c8 c9 c10))
                  go_roundw
                  case rel => exact ⟨k + 1, _, by omega, by go_num, by rw [HT.out]; simpa [ddc] using H4.out.1, H4.out.2.1, HE.out⟩
                  case measure => simp [intOf]; omega
                · go_wp2_with fail
                  rw [← HWA.out]
                  refine (cut_mk p wA).mono ?_
                  rintro x w3 ⟨rfl, hw3⟩
                  have hb3 : Below wA.heap.size wA w3 := by rw [hw3]; exact balloc _ _
                  have H3 : Hid (OD w.heap.size w3 u6 (dds (d.take k)) xs ∧ DV u6.ownBlock w3 (.func (.func 58) #[] #[.pointer (some ⟨wA.heap.size, 0, none⟩)]) (.cut p) ∧ Below wr.heap.size wr w3 ∧ CB w3 wr.heap.size 0 ⟨p, true, true, ⟨q, t, bl, s⟩, ⟨r, y, dd, z⟩⟩ ∧ wr.heap.size < w3.heap.size) := by
                    refine ⟨HA.out.1.later hb3, ⟨wA.heap.size, rfl, by rw [hw3]; simp, by rw [hw3]; simp, fun e => ?_⟩, bstep HA.out.2.1 hb3, HA.out.2.2.1.later HA.out.2.2.2 hb3, Nat.lt_of_lt_of_le HA.out.2.2.2 hb3.size⟩
                    have := (HA.out.1.lt e.symm).2
                    omega
                  have hw3' : w.heap.size ≤ w3.heap.size := by have := HB.out.size; have := H3.out.2.2.2.2; omega
                  clear hw3 hb3 c0 c1 c2 c3 c4 c5 c6 c7 c8 c9 c10
                  go_wp2_with (first | (at_builtin; refine app_dd (base := w.heap.size) (D := dds (d.take k)) (xs := xs) (e := .cut p) (H3.out.1.later (balloc _ _)) (H3.out.2.1.later (balloc _ _)) (src_dd w3 _ rfl) (by have := HXL.out; omega) (by simp; omega) rfl (.tmp 44) (.tmp 48) rfl rfl rfl ?_; intro v4 w4 ho4 hb4 hc4; have H4 : Hid (OD w.heap.size w4 v4 (dds (d.take k) ++ [.cut p]) (xs ++ [.func (.func 58) #[] #[.pointer (some ⟨wA.heap.size, 0, none⟩)]]) ∧ Below w.heap.size w w4 ∧ CB w4 wr.heap.size 0 ⟨p, true, true, ⟨q, t, bl, s⟩, ⟨r, y, dd, z⟩⟩ ∧ wr.heap.size < w4.heap.size) := ⟨ho4, below_trans (bstep HB.out (bstep H3.out.2.2.1 (balloc _ _))) hb4, (H3.out.2.2.2.1.later H3.out.2.2.2.2 (balloc _ _)).cells (fun j => hc4 wr.heap.size j (by have := H3.out.2.2.2.2; simp; omega) (fun e => by have := (HO.out.lt e).2; omega)), Nat.lt_of_lt_of_le (Nat.lt_of_lt_of_le H3.out.2.2.2.2 (by simp)) hb4.size⟩; clear ho4 hb4 hc4; obtain ⟨c0, c1, c2, c3, c4, c5, c6, c7, c8, c9, c10⟩ := H4.out.2.2.1; simp only [Nat.zero_add] at c0 c1 c2 c3 c4 c5 c6 c7 c8 c9 c10))
                  refine (put_mk ⟨r, y, dd, z⟩ _).mono ?_
                  rintro x w5 ⟨rfl, hw5⟩
                  have hb5 : Below w4.heap.size w4 w5 := by rw [hw5]; exact balloc _ _
                  have H5 : Hid (OD w.heap.size w5 v4 (dds (d.take k) ++ [.cut p]) (xs ++ [.func (.func 58) #[] #[.pointer (some ⟨wA.heap.size, 0, none⟩)]]) ∧ DV v4.ownBlock w5 (.func (.func 61) #[] #[.pointer (some ⟨w4.heap.size, 0, none⟩)]) (.put ⟨r, y, dd, z⟩) ∧ Below w.heap.size w w5) := by
                    refine ⟨H4.out.1.later hb5, ⟨w4.heap.size, rfl, by rw [hw5]; exact FB.new w4 ⟨r, y, dd, z⟩ 40, fun e => ?_⟩, bstep H4.out.2.1 hb5⟩
                    have := (H4.out.1.lt e.symm).2
                    omega
                  have hw5' : w.heap.size ≤ w5.heap.size := H5.out.2.2.size
                  clear hw5 hb5 c0 c1 c2 c3 c4 c5 c6 c7 c8 c9 c10
                  go_wp2_with (first | (at_builtin; refine app_dd (base := w.heap.size) (D := (dds (d.take k) ++ [.cut p])) (xs := (xs ++ [.func (.func 58) #[] #[.pointer (some ⟨wA.heap.size, 0, none⟩)]])) (e := .put ⟨r, y, dd, z⟩) (H5.out.1.later (balloc _ _)) (H5.out.2.1.later (balloc _ _)) (src_dd w5 _ rfl) (by have := HXL.out; simp; omega) (by simp; omega) rfl (.tmp 52) (.tmp 56) rfl rfl rfl ?_; intro v6 w6 ho6 hb6 _; have H6 : Hid (OD w.heap.size w6 v6 ((dds (d.take k) ++ [.cut p]) ++ [.put ⟨r, y, dd, z⟩]) ((xs ++ [.func (.func 58) #[] #[.pointer (some ⟨wA.heap.size, 0, none⟩)]]) ++ [.func (.func 61) #[] #[.pointer (some ⟨w4.heap.size, 0, none⟩)]]) ∧ Below w.heap.size w w6) := ⟨ho6, below_trans (bstep H5.out.2.2 (balloc _ _)) hb6⟩; clear ho6 hb6))
                  go_roundw
                  case rel => exact ⟨k + 1, _, by omega, by go_num, by rw [HT.out]; simpa [ddc] using H6.out.1, H6.out.2, HE.out⟩
                  case measure => simp [intOf]; omega
        · obtain rfl : k = n := by omega
          have HT : Hid (dds (d.take k) = dds d) := by show dds (d.take k) = dds d; rw [List.take_of_length_le (by have := HN.out; omega)]
          go_wp2_with fail
          go_ret2
          have h1 := HRk.out
          rw [List.drop_eq_nil_of_le (by have := HN.out; omega)] at h1
          refine ⟨u6, by rw [← h1]; rfl, HB.out, fun _ => ⟨xs, by rw [← HT.out]; exact HO.out⟩⟩
  · have hd1 : decide (n ≤ 1024) = false := by simpa using h1
    have h3 : (1024 : Int) < (n : Int) := by omega
    rw [hd1, Bool.false_and, Bool.false_and]
    clear hd1
    go_enter Try.func29, Try.ntmps29
    go_wp2_with fail
    go_ret2
    exact ⟨.slice none 0 0, rfl, Below.refl _ _, fun h => by simp at h⟩
end Go.Proofs.Ytinhdjoidbcfaaa
