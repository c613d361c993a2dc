/-
  A delta applied.
-/
import Derived.Test.YtinhdjoidbcfaaaApl
namespace Go.Proofs.Ytinhdjoidbcfaaa
open Go.RowKit

theorem apl_not {a : List Fl} {d : List Ch} (ha : stand a = true) (h : (decide (d.length ≤ 1024) && vd d && fitA a d) = false) : apl a d = ([], 9) := by
  unfold apl
  rw [ha]
  simp only [if_true]
  rw [if_neg]
  intro hc
  simp only [Bool.and_eq_true] at hc
  obtain ⟨⟨h1, h2⟩, h3⟩ := hc
  rw [h1, h2, Bool.and_true, Bool.and_true] at h
  have := long_not ha ((vd_iff d).1 h1) h2 (by simpa using h)
  rw [this] at h3; simp at h3
theorem apl_yes {a : List Fl} {d : List Ch} (ha : stand a = true) (h : (decide (d.length ≤ 1024) && vd d && fitA a d) = true) : apl a d = if stand (res a d) then (res a d, 0) else ([], 9) := by
  simp only [Bool.and_eq_true] at h
  unfold apl
  rw [ha, h.1.2, h.2]
  simp
theorem runs_snoc (D : List Dd) (k : Nat) (h : k < D.length) (l : List Fl) : runs (D.take (k + 1)) l = (D[k]'h).run (runs (D.take k) l) := by
  rw [List.take_add_one, List.getElem?_eq_getElem h, Option.toList_some, runs_app]; rfl
set_option maxRecDepth 100000 in
set_option maxHeartbeats 8000000 in
theorem apply_any {w : World} {va vd' : Value} {a : List Fl} {d : List Ch} (ha : FS w va a) (hd : CS w vd' d) (sa : FSm a) (sd : CSm d) :
    Calls Try.prog 7 #[va, vd'] w fun e w' => ∃ v', e = .returned (.tuple #[v', .int .i64 (apl a d).2]) ∧ OwnF w.heap.size w' v' (apl a d).1 ∧ Below w.heap.size w w' := by
  have H : Hid (FS w va a ∧ CS w vd' d ∧ FSm a ∧ CSm d) := ⟨ha, hd, sa, sd⟩
  have HV : Hid (Calls Try.prog 15 #[va] w fun x w' => x = .returned (.int .i64 (validE a)) ∧ Below w.heap.size w w') := valid2_any ha sa
  have HD : Hid (∀ W, Below w.heap.size w W → Calls Try.prog 29 #[va, vd'] W fun e w' => ∃ tv, e = .returned (.tuple #[tv, .bool (decide (d.length ≤ 1024) && vd d && fitA a d)]) ∧ Below W.heap.size W w' ∧ ((decide (d.length ≤ 1024) && vd d && fitA a d) = true → ∃ xs, OD W.heap.size w' tv (dds d) xs)) := fun W hW => deeds_any (ha.later hW) (hd.later hW) sa sd
  obtain ⟨a1, c1, hva, _⟩ := ha.form
  rename_i q1
  obtain ⟨a2, c2, hvd⟩ := hd.shape
  obtain ⟨na, hna⟩ : ∃ n, a.length = n := ⟨_, rfl⟩
  obtain ⟨n, hn⟩ : ∃ n, d.length = n := ⟨_, rfl⟩
  rw [hna] at hva
  have hvd2 : vd' = .slice a2 n c2 := by rw [hvd, hn]
  clear q1 hvd
  subst hva hvd2
  clear ha hd sa sd hn hna
  cases h1 : stand a
  · have e1 : apl a d = ([], validE a) := by unfold apl; rw [h1]; rfl
    have hE := valid_no h1
    have HR : Hid (apl a d = ([], validE a)) := e1
    rw [e1]
    clear e1 h1
    obtain ⟨E, hE2⟩ : ∃ E, validE a = E := ⟨_, rfl⟩
    rw [hE2] at HV hE ⊢
    clear hE2 HR
    go_enter Try.func7, Try.ntmps7
    go_wp2_with fail
    refine HV.out.mono ?_
    rintro x w1 ⟨rfl, hb1⟩
    have HB : Hid (Below w.heap.size w w1) := hb1
    clear hb1
    go_wp2_with fail
    go_ret2
    exact ⟨.slice none 0 0, rfl, OwnF.nil _ _, HB.out⟩
  · rw [(validE_zero a).2 h1] at HV
    cases h2 : (decide (d.length ≤ 1024) && vd d && fitA a d)
    · rw [apl_not h1 h2]
      rw [h2] at HD
      clear h1 h2
      go_enter Try.func7, Try.ntmps7
      go_wp2_with fail
      refine HV.out.mono ?_
      rintro x w1 ⟨rfl, hb1⟩
      have HB : Hid (Below w.heap.size w w1) := hb1
      clear hb1
      go_wp2_with fail
      refine (HD.out _ HB.out).mono ?_
      rintro x w2 ⟨tv, rfl, hb2, _⟩
      have HB2 : Hid (Below w.heap.size w w2) := bstep HB.out hb2
      clear hb2
      go_wp2_with fail
      go_ret2
      exact ⟨.slice none 0 0, rfl, OwnF.nil _ _, HB2.out⟩
    · rw [apl_yes h1 h2]
      have hc := h2
      simp only [Bool.and_eq_true, decide_eq_true_eq] at hc
      have HOK : Hid (okD (dds d) a ∧ a.length ≤ 512 ∧ d.length ≤ 1024) := ⟨ok_dds d a (stand_up h1) ((vd_iff d).1 hc.1.2) hc.2, stand_len h1, hc.1.1⟩
      rw [h2] at HD
      clear h1 h2 hc
      obtain ⟨S, hS⟩ : ∃ S, stand (res a d) = S := ⟨_, rfl⟩
      obtain ⟨RR, hRR⟩ : ∃ RR, (if S = true then (res a d, (0 : Int)) else ([], 9)) = RR := ⟨_, rfl⟩
      rw [hS, hRR]
      have HRR : Hid ((if S = true then (res a d, (0 : Int)) else ([], 9)) = RR ∧ stand (res a d) = S) := ⟨hRR, hS⟩
      clear hS hRR
      go_enter Try.func7, Try.ntmps7
      go_wp2_with fail
      refine HV.out.mono ?_
      rintro x w1 ⟨rfl, hb1⟩
      have HB : Hid (Below w.heap.size w w1) := hb1
      clear hb1
      go_wp2_with fail
      refine (HD.out _ HB.out).mono ?_
      rintro x w2 ⟨tv, rfl, hb2, hxs⟩
      obtain ⟨xs, hxs⟩ := hxs (by trivial)
      have HB2 : Hid (Below w.heap.size w w2) := bstep HB.out hb2
      have HX : Hid (OD w1.heap.size w2 tv (dds d) xs) := hxs
      clear hb2 hxs
      go_wp2_with fail
      refine (clone_any (H.out.1.later HB2.out) (by have := HOK.out.2.1; omega)).mono ?_
      rintro x w3 ⟨v3, rfl, ho3, hb3⟩
      have H3 : Hid (OwnF w2.heap.size w3 v3 a ∧ Below w2.heap.size w2 w3) := ⟨ho3, hb3⟩
      clear ho3 hb3
      obtain ⟨D, hD⟩ : ∃ D, dds d = D := ⟨_, rfl⟩
      have HDD : Hid (dds d = D ∧ D.length ≤ 2048 ∧ (∀ e ∈ D, e.ok) ∧ runs D a = res a d) := ⟨hD, by rw [← hD]; have := dds_len d; have := HOK.out.2.2; omega, by rw [← hD]; exact dds_ok H.out.2.2.2.each, by rw [← hD]; exact runs_dds d a⟩
      have HOK2 : Hid (okD D a) := by show okD D a; rw [← hD]; exact HOK.out.1
      rw [hD] at HX
      clear hD
      -- how the deeds lie
      have HXL : Hid (xs.length = D.length) := HX.out.val.len
      obtain ⟨ta, tc, htv, htg⟩ : ∃ ta tc, tv = .slice ta xs.length tc ∧ ∀ k (hk : k < xs.length), ∃ g, ta = some ⟨g, 0, none⟩ ∧ g < w2.heap.size ∧ w2.cell? ⟨g, k, none⟩ = some (xs[k]'hk) := by
        rcases HX.out.own.2 with ⟨e, h0⟩ | ⟨g, cap, cur, e, _, hg, _⟩
        · exact ⟨none, 0, by rw [e, h0], fun k hk => by omega⟩
        · refine ⟨_, cap, e, fun k hk => ⟨g, rfl, (Array.getElem?_eq_some_iff.1 hg).1, ?_⟩⟩
          have := World.ownsRow.cells HX.out.own (g := g) (by rw [e]; rfl) k _ (List.getElem?_eq_getElem hk)
          rw [add_lit, Nat.zero_add] at this; exact this
      have HTG : Hid (∀ k (hk : k < xs.length), ∃ g, ta = some ⟨g, 0, none⟩ ∧ g < w2.heap.size ∧ w2.cell? ⟨g, k, none⟩ = some (xs[k]'hk)) := htg
      have HVS : Hid (DVs tv.ownBlock w2 xs D) := HX.out.val
      clear HX htg
      obtain ⟨m, hm⟩ : ∃ m, xs.length = m := ⟨_, rfl⟩
      rw [hm] at htv
      generalize tv.ownBlock = nb at HVS
      subst htv
      have HM : Hid (xs.length = m) := hm
      have hm2 : m ≤ 2048 := by rw [← hm, HXL.out]; exact HDD.out.2.1
      clear hm
      go_wp2_with fail
      go_loopw [9, 29] (fun o s wr => ∃ (k : Nat), k ≤ m ∧ s = .int .i64 k ∧ OwnF w2.heap.size wr o (runs (D.take k) a) ∧ Below w2.heap.size w2 wr ∧ okD (D.drop k) (runs (D.take k) a)) (fun _ s _ => m - (intOf s).toNat)
      case atStart => exact ⟨0, by omega, rfl, H3.out.1, H3.out.2, HOK2.out⟩
      case round =>
        obtain ⟨k, hk, rfl, ho, hb, hok⟩ := hrel
        have HO : Hid (OwnF w2.heap.size wr u9 (runs (D.take k) a) ∧ Below w2.heap.size w2 wr ∧ okD (D.drop k) (runs (D.take k) a)) := ⟨ho, hb, hok⟩
        have hz := hb.size
        clear ho hb hok
        by_cases hlt : k < m
        · have hkx : k < xs.length := by have := HM.out; omega
          have hkD : k < D.length := by have := HXL.out; omega
          obtain ⟨g, eg, hg, hcell⟩ := HTG.out k hkx
          subst eg
          have c0 : wr.cell? ⟨g, k, none⟩ = some (xs[k]'hkx) := (HO.out.2.1.cell (p := ⟨g, k, none⟩) hg).trans hcell
          have hdv := HVS.out.at k hkx hkD
          have HSN : Hid (runs (D.take (k + 1)) a = (D[k]'hkD).run (runs (D.take k) a)) := runs_snoc D k hkD a
          have HOK3 : Hid (okD (D.drop (k + 1)) ((D[k]'hkD).run (runs (D.take k) a))) := by
            have h1 := HO.out.2.2
            rw [List.drop_eq_getElem_cons hkD] at h1
            exact h1.2
          have HL : Hid ((runs (D.take k) a).length ≤ 4096 ∧ ∀ x ∈ runs (D.take k) a, Fok x) := by
            refine ⟨?_, runs_ok _ _ (fun e he => HDD.out.2.2.1 e (List.mem_of_mem_take he)) H.out.2.2.1.each⟩
            have := runs_len (D.take k) a
            have h2 : (D.take k).length ≤ D.length := by simp; omega
            have := HDD.out.2.1
            have := HOK.out.2.1
            omega
          have HEO : Hid ((D[k]'hkD).ok) := HDD.out.2.2.1 _ (List.getElem_mem hkD)
          generalize xs[k] = x at c0 hdv
          generalize D[k] = e at hdv HSN HOK3 HEO
          clear hcell
          have hgr : g < wr.heap.size := by omega
          cases e with
          | cut p =>
            obtain ⟨bx, rfl, hbx, hlt2, _⟩ := hdv
            have hbx2 : wr.cell? ⟨bx, 0, none⟩ = some (.string (bs p)) := (HO.out.2.1.cell (p := ⟨bx, 0, none⟩) hlt2).trans hbx
            have HBX : Hid (wr.cell? ⟨bx, 0, none⟩ = some (.string (bs p)) ∧ bx < w2.heap.size) := ⟨hbx2, hlt2⟩
            clear hbx hbx2
            go_wp2_with fail
            refine (do_cut HO.out.1 (by have := HL.out.1; omega) p bx HBX.out.1 HBX.out.2 hz).mono ?_
            rintro e w4 ⟨v4, rfl, ho4, hb4⟩
            have H4 : Hid (OwnF w2.heap.size w4 v4 (cutF p (runs (D.take k) a)) ∧ Below w2.heap.size w2 w4) := ⟨ho4, below_trans HO.out.2.1 hb4⟩
            clear ho4 hb4 c0
            go_wp2_with fail
            go_roundw
            case rel => exact ⟨k + 1, by omega, by go_num, by rw [HSN.out]; exact H4.out.1, H4.out.2, by rw [HSN.out]; exact HOK3.out⟩
            case measure => simp [intOf]; omega
          | put f =>
            obtain ⟨bx, rfl, hbx, _⟩ := hdv
            have HBX : Hid (FB wr bx f ∧ bx < w2.heap.size) := ⟨hbx.later HO.out.2.1, hbx.lt⟩
            clear hbx
            go_wp2_with fail
            refine (do_put HO.out.1 HO.out.2.2.up (by have := HL.out.1; omega) (fun x hx => (HL.out.2 x hx).path) f HEO.out.path bx HBX.out.1 HBX.out.2 hz).mono ?_
            rintro e w4 ⟨v4, rfl, ho4, hb4⟩
            have H4 : Hid (OwnF w2.heap.size w4 v4 (insF f (runs (D.take k) a)) ∧ Below w2.heap.size w2 w4) := ⟨ho4, below_trans HO.out.2.1 hb4⟩
            clear ho4 hb4 c0
            go_wp2_with fail
            go_roundw
            case rel => exact ⟨k + 1, by omega, by go_num, by rw [HSN.out]; exact H4.out.1, H4.out.2, by rw [HSN.out]; exact HOK3.out⟩
            case measure => simp [intOf]; omega
        · obtain rfl : k = m := by omega
          have HF : Hid (OwnF w2.heap.size wr u9 (res a d) ∧ FSm (res a d)) := by
            have h1 := HO.out.1
            rw [List.take_of_length_le (by have := HM.out; have := HXL.out; omega), HDD.out.2.2.2] at h1
            refine ⟨h1, ?_⟩
            have h2 := runs_ok D a HDD.out.2.2.1 H.out.2.2.1.each
            have h3 := runs_len D a
            rw [HDD.out.2.2.2] at h2 h3
            exact ⟨by have := HDD.out.2.1; have := HOK.out.2.1; omega, h2⟩
          go_wp2_with fail
          refine (valid2_any HF.out.1.fs HF.out.2).mono ?_
          rintro e w5 ⟨rfl, hb5⟩
          have H5 : Hid (OwnF w2.heap.size w5 u9 (res a d) ∧ Below w.heap.size w w5) := ⟨HF.out.1.later hb5, bstep (bstep HB2.out HO.out.2.1) hb5⟩
          clear hb5
          cases S
          · have hE := valid_no HRR.out.2
            have HRX : Hid (RR = ([], 9)) := HRR.out.1.symm
            generalize validE (res a d) = E at *
            go_wp2_with fail
            go_ret2
            exact ⟨.slice none 0 0, by rw [HRX.out]; rfl, by rw [HRX.out]; exact OwnF.nil _ _, H5.out.2⟩
          · have hE : validE (res a d) = 0 := (validE_zero _).2 HRR.out.2
            have HRX : Hid (RR = (res a d, 0)) := HRR.out.1.symm
            rw [hE]
            clear hE
            go_wp2_with fail
            go_ret2
            exact ⟨u9, by rw [HRX.out]; rfl, by rw [HRX.out]; exact H5.out.1.mono HB2.out.size, H5.out.2⟩
end Go.Proofs.Ytinhdjoidbcfaaa
