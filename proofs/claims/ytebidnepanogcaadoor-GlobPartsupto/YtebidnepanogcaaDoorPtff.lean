/-
  GlobParts.
-/
import Derived.Test.YtebidnepanogcaaDoorGwp
namespace Go.Proofs.YtebidnepanogcaaDoor
open Go.RowKit

set_option maxRecDepth 100000 in
set_option maxHeartbeats 16000000 in
theorem parts_tff {w : World} {v vk : Value} {l : List Fl} {ks : List Bool} (E : Ev w) (p s : List UInt8) (h : FS w v l) (sm : FQ l) (hk : BL w vk ks) (hl : l.length ≤ 1048576) (hp : p.length ≤ 4000000) (hs : s.length ≤ 4000000)
    (hok : (exl l (whl p s)).2 = true) (hst : starP s = false) (hfn : (exl (kp l ks l.length) (whl p s)).2 = false) :
    Calls Tryd.prog 3 #[v, .string (bs p), .string (bs s), vk] w fun e w' => e = .returned (.bool true) ∧ Below w.heap.size w w' := by
  have HAl : Hid (∀ W : World, Below w.heap.size w W → Calls Tryd.prog 8 #[] W fun e w' => e = .returned (.bool true) ∧ Below W.heap.size W w') := fun W hW => alive_any (E.later hW)
  have HX1 : Hid (Calls Tryd.prog 7 #[v, .string (bs p), .string (bs s)] w fun e w' => ∃ r, e = .returned (.tuple #[r, .bool true]) ∧ OwnF w.heap.size w' r (exl l (whl p s)).1 ∧ Below w.heap.size w w') := by
    have := expand_any p s h sm E (by omega) (by omega)
    rw [hok] at this; exact this
  have HX2 : Hid (∀ (W : World) (u : Value), Below w.heap.size w W → FS W u (kp l ks l.length) → Calls Tryd.prog 7 #[u, .string (bs p), .string (bs s)] W fun e w' => ∃ r, e = .returned (.tuple #[r, .bool false]) ∧ OwnF W.heap.size w' r (exl (kp l ks l.length) (whl p s)).1 ∧ Below W.heap.size W w') := fun W u hW hu => by
    have := expand_any p s hu (sm.kp ks) (E.later hW) (by omega) (by omega)
    rw [hfn] at this; exact this
  have HSt : Hid (∀ W : World, Below w.heap.size w W → Calls Tryd.prog 10 #[.string (bs s)] W fun e w' => e = .returned (.bool false) ∧ Below W.heap.size W w') := fun W hW => by
    have := starP_any s (E.later hW) (by omega)
    rw [hst] at this; exact this
  have HVa : Hid (∀ W : World, Below w.heap.size w W → Calls Tryd.prog 9 #[.string (bs s)] W fun e w' => e = .returned (.bool true) ∧ Below W.heap.size W w') := fun W hW => by
    have := valP_any s (E.later hW) (by omega)
    rw [ok_val hok] at this; exact this
  have HMt : Hid (∀ n : List UInt8, n.length ≤ 1000000000 → ∀ W : World, Below w.heap.size w W → Calls Tryd.prog 12 #[.string (bs s), .string (bs n)] W fun e w' => e = .returned (.bool (mat s n)) ∧ Below W.heap.size W w') := fun n hn W hW => mat_any s n (E.later hW) (by omega) hn
  have hXl := exl_len l (whl p s)
  have hPl : (kp l ks l.length).length ≤ l.length := kp_len l ks _
  generalize (exl (kp l ks l.length) (whl p s)).1 = Y at *
  generalize (exl l (whl p s)).1 = X at *
  have H : Hid (FS w v l) := h
  have HK : Hid (BL w vk ks) := hk
  have HLl : Hid (l.length ≤ 1048576) := hl
  obtain ⟨a, c, hv, _⟩ := h.form
  obtain ⟨ka, kc, hvk, _⟩ := hk
  obtain ⟨n, hn⟩ : ∃ n, l.length = n := ⟨_, rfl⟩
  have HN : Hid (l.length = n) := hn
  obtain ⟨kn, hkn⟩ : ∃ kn, ks.length = kn := ⟨_, rfl⟩
  have HKN : Hid (ks.length = kn) := hkn
  rw [hn] at hv hl hPl
  rw [hkn] at hvk
  subst hv hvk
  rename_i hf1 hf2
  clear hf1 hf2 h sm hok hst hfn hn hkn
  have hzs : (bs s).size = s.length := rfl
  go_enter Tryd.func3, Tryd.ntmps3
  go_wp2_with fail
  refine HX1.out.mono ?_
  rintro e w1 ⟨ra, rfl, hra, hb1⟩
  have HA1 : Hid (OwnF w.heap.size w1 ra X) := hra
  have HB1 : Hid (Below w.heap.size w w1) := hb1
  obtain ⟨aa, ca, hfa⟩ := hra.form
  clear hra hb1
  obtain ⟨nx, hnx⟩ : ∃ nx, X.length = nx := ⟨_, rfl⟩
  rw [hnx] at hfa
  subst hfa
  go_wp2_with fail
  refine (HAl.out _ HB1.out).mono ?_
  rintro e w2 ⟨rfl, hb2⟩
  have HB2 : Hid (Below w.heap.size w w2) := bstep HB1.out hb2
  have HA2 : Hid (OwnF w.heap.size w2 _ X) := HA1.out.later hb2
  clear hb2
  go_wp2_with fail
  refine (HVa.out _ HB2.out).mono ?_
  rintro e w3 ⟨rfl, hb3⟩
  have HB3 : Hid (Below w.heap.size w w3) := bstep HB2.out hb3
  have HA3 : Hid (OwnF w.heap.size w3 _ X) := HA2.out.later hb3
  clear hb3
  go_wp2_with fail
  refine (HSt.out _ HB3.out).mono ?_
  rintro e w4 ⟨rfl, hb4⟩
  have HB4 : Hid (Below w.heap.size w w4) := bstep HB3.out hb4
  have HA4 : Hid (OwnF w.heap.size w4 _ X) := HA3.out.later hb4
  clear hb4
  go_wp2_with fail
  have HBs : Hid (Below w.heap.size w w4) := HB4.out
  have HAs : Hid (OwnF w.heap.size w4 _ X) := HA4.out
  obtain ⟨ws, rfl⟩ : ∃ x, x = w4 := ⟨_, rfl⟩
  go_loopw [11, 12] (fun o i wr => ∃ k : Nat, k ≤ n ∧ i = .int .i64 k ∧ OwnF ws.heap.size wr o (kp l ks k) ∧ Below ws.heap.size ws wr) (fun _ i _ => n - (intOf i).toNat)
  case atStart => exact ⟨0, by omega, rfl, by rw [kp_zero]; exact OwnF.nil _ _, Below.refl _ _⟩
  case round =>
    obtain ⟨k, hk, rfl, ho, hb⟩ := hrel
    have HO : Hid (OwnF ws.heap.size wr _ (kp l ks k)) := ho
    have HB : Hid (Below ws.heap.size ws wr) := hb
    have hkl0 : (kp l ks k).length ≤ 1048576 := by have := kp_len l ks k; omega
    obtain ⟨ao, co, eo⟩ := ho.form
    subst eo
    obtain ⟨no, hno⟩ : ∃ no, (kp l ks k).length = no := ⟨_, rfl⟩
    rw [hno] at HO hkl0 ⊢
    clear ho hb
    have hzb := HB.out.size
    by_cases hlt : k < n
    · have hkl : k < l.length := by have := HN.out; omega
      have HKs : Hid (kp l ks (k + 1) = kp l ks k ++ if ks.getD k false = true then [l[k]'hkl] else []) := kp_step l ks k hkl
      have k1 : (0 : Int) ≤ (k : Int) := by omega
      have k2 : (k : Int) < (n : Int) := by omega
      by_cases hkk : k < kn
      · have k3 : (k : Int) < (kn : Int) := by omega
        have hkks : k < ks.length := by have := HKN.out; omega
        obtain ⟨a1, cc1, e1, hcell⟩ := HK.out
        injection e1 with e1 _ _
        subst e1
        obtain ⟨bk, ok, e2, hbk, hck⟩ := hcell k hkks
        subst e2
        have hck' : wr.cell? ⟨bk, ok + k, none⟩ = some (.bool (ks[k]'hkks)) := by
          rw [(bstep HBs.out HB.out).cell (p := ⟨bk, ok + k, none⟩) hbk]; exact hck
        have hgd : ks.getD k false = ks[k]'hkks := by simp [List.getD, hkks]
        rw [hgd] at HKs
        clear hcell hck hgd
        generalize ks[k]'hkks = kb at *
        cases kb
        · go_wp2_with fail
          go_roundw
          case rel =>
            refine ⟨k + 1, by omega, by go_num, ?_, HB.out⟩
            rw [HKs.out, if_neg (by simp), List.append_nil]; exact HO.out
          case measure => simp [intOf]; omega
        · obtain ⟨b, off, ea, hfc⟩ := FS.fc (H.out.row HN.out) (bstep HBs.out HB.out) hkl
          subst ea
          obtain ⟨f, hf⟩ : ∃ f, l[k]'hkl = f := ⟨_, rfl⟩
          rw [hf] at hfc HKs
          clear hf
          obtain ⟨fp, ft, bl', z⟩ := f
          obtain ⟨d0, d1, d2, d3, hbl⟩ := hfc
          simp only at d0 d1 d2 d3
          go_wp2_with (at_builtin; refine app_files (base := ws.heap.size) (l := kp l ks k) (k := [⟨fp, ft, bl', z⟩]) (HO.out.later (balloc _ _)) (src_file _ ⟨fp, ft, bl', z⟩) (by simp only [List.length_cons, List.length_nil, hno]; omega) (by simp; omega) rfl _ _ rfl rfl rfl ?_; intro v9 w9 ho9 hg9 _)
          go_roundw
          case rel =>
            have HB9 : Below ws.heap.size wr w9 := (below_mono (balloc wr _) (by omega)).grown hg9 (by simp; omega) (fun j hj => (HO.out.lt hj).1)
            refine ⟨k + 1, by omega, by go_num, ?_, below_trans HB.out HB9⟩
            rw [HKs.out, if_pos (by simp)]; exact ho9
          case measure => simp [intOf]; omega
      · have k3 : ¬ (k : Int) < (kn : Int) := by omega
        have hgd : ks.getD k false = false := by
          have := HKN.out
          simp [List.getD, List.getElem?_eq_none (by omega : ks.length ≤ k)]
        rw [hgd] at HKs
        clear hgd
        go_wp2_with fail
        go_roundw
        case rel =>
          refine ⟨k + 1, by omega, by go_num, ?_, HB.out⟩
          rw [HKs.out, if_neg (by simp), List.append_nil]; exact HO.out
        case measure => simp [intOf]; omega
    · obtain rfl : k = n := by omega
      have HPt : Hid (OwnF ws.heap.size wr (.slice ao no co) (kp l ks l.length)) := by
        have := HO.out
        rw [← HN.out] at this; exact this
      have HAr : Hid (OwnF w.heap.size wr _ X) := HAs.out.later HB.out
      have HBr : Hid (Below w.heap.size w wr) := bstep HBs.out HB.out
      clear HO
      obtain ⟨wt, rfl⟩ : ∃ x, x = wr := ⟨_, rfl⟩
      go_wp2_with fail
      refine (HX2.out _ _ HBr.out HPt.out.fs).mono ?_
      rintro e x1 ⟨rb, rfl, hrb, hb1⟩
      have HBx1 : Hid (Below w.heap.size w x1) := bstep HBr.out hb1
      have HAx1 : Hid (OwnF w.heap.size x1 _ X) := HAr.out.later hb1
      have HPx1 : Hid (OwnF ws.heap.size x1 (.slice ao no co) (kp l ks l.length)) := HPt.out.later hb1
      have HYx1 : Hid (OwnF wt.heap.size x1 rb Y) := hrb
      obtain ⟨ab, cb, hfb⟩ := hrb.form
      clear hrb hb1
      obtain ⟨ny, hny⟩ : ∃ ny, Y.length = ny := ⟨_, rfl⟩
      rw [hny] at hfb
      subst hfb
      go_wp2_with fail
      refine (HSt.out _ HBx1.out).mono ?_
      rintro e x2 ⟨rfl, hb2⟩
      have HBx2 : Hid (Below w.heap.size w x2) := bstep HBx1.out hb2
      have HAx2 : Hid (OwnF w.heap.size x2 _ X) := HAx1.out.later hb2
      have HPx2 : Hid (OwnF ws.heap.size x2 (.slice ao no co) (kp l ks l.length)) := HPx1.out.later hb2
      have HYx2 : Hid (OwnF wt.heap.size x2 _ Y) := HYx1.out.later hb2
      clear hb2
      go_wp2_with fail
      have kS : Hid (∀ X : GW x2, Calls Tryd.prog 10 #[.string (bs s)] X.it fun e w' => e = .returned (.bool false) ∧ ∃ Y : GW x2, w' = Y.it) := fun X => gw_ev HSt.out HBx2.out X
      have xne := gw_ne x2
      refine wp_region_grow (by kernel_rfl) (by kernel_rfl) ?_
      repeat (go_big_quiet_step (with_reducible exact kS.out _))
      refine wpQuiet_nil ?_
      rintro x5 ⟨⟨x5, bx⟩, rfl⟩
      have HB5 : Hid (Below w.heap.size w x5) := bstep HBx2.out bx
      clear bx kS xne
      go_wp2_with fail
      go_loopw [15] (fun i wr => ∃ k : Nat, k ≤ s.length ∧ i = .int .i64 k ∧ Below w.heap.size w wr) (fun i _ => s.length - (intOf i).toNat)
      case atStart => exact ⟨0, by omega, rfl, HB5.out⟩
      case round =>
        obtain ⟨k2, hk2, rfl, hb⟩ := hrel
        have HB : Hid (Below w.heap.size w wr) := hb
        clear hb
        by_cases hlt : k2 < s.length
        · have i1 : (0 : Int) ≤ (k2 : Int) := by omega
          have i2 : (k2 : Int) < (s.length : Int) := by omega
          have hkz : k2 < (bs s).size := hlt
          have hbk : (bs s)[k2]'hkz = s[k2]'hlt := bs_get _ _ _ hlt
          have xne := gw_ne wr
          by_cases h42 : s[k2]'hlt = 42
          · have q1 : ((((bs s)[k2]'hkz).toNat : Int) == 42) = true := by rw [hbk, h42]; rfl
            obtain ⟨T, hT⟩ : ∃ T, s.take k2 = T := ⟨_, rfl⟩
            obtain ⟨D, hD⟩ : ∃ D, s.drop (k2 + 1) = D := ⟨_, rfl⟩
            have E1 : (bs s).extract 0 k2 = bs T := by rw [extract_to, hT]
            have E2 : (bs s).extract (k2 + 1) s.length = bs D := by rw [extract_from, hD]
            have E4 : bs T ++ { data := #[42] } ++ bs D = bs s := by
              show bs T ++ bs [42] ++ bs D = bs s
              rw [bs_app, bs_app, ← hT, ← hD]
              congr 1
              have := put_back hlt h42
              simpa using this
            have zT : (bs T).size = k2 := by show T.length = k2; rw [← hT]; simp; omega
            have zD : (bs D).size = s.length - (k2 + 1) := by show D.length = _; rw [← hD]; simp
            have i3 : (k2 : Int) ≤ (s.length : Int) := by omega
            have i4 : (k2 : Int) + 1 ≤ (s.length : Int) := by omega
            have kM : Hid (∀ X : GW wr, Calls Tryd.prog 12 #[.string (bs s), .string (bs s)] X.it fun e w' => e = .returned (.bool (mat s s)) ∧ ∃ Y : GW wr, w' = Y.it) := fun X => gw_ev (HMt.out s (by omega)) HB.out X
            generalize mat s s = ms at *
            have q4 : (ms != ms) = false := by cases ms <;> rfl
            clear h42 hbk hT hD
            go_wp2_with fail
            refine wp_region_grow (by kernel_rfl) (by kernel_rfl) ?_
            repeat (go_big_quiet_step (with_reducible exact kM.out _))
            refine wpQuiet_nil ?_
            rintro x6 ⟨⟨x6, bx⟩, rfl⟩
            have HB6 : Hid (Below w.heap.size w x6) := bstep HB.out bx
            clear bx xne kM q4
            go_wp2_with fail
            refine (HSt.out _ HB6.out).mono ?_
            rintro e x7 ⟨rfl, hb7⟩
            have HB7 : Hid (Below w.heap.size w x7) := bstep HB6.out hb7
            clear hb7
            have HBx7 : Hid (Below w.heap.size w x7) := HB7.out
            go_wp2_with fail
            have kS : Hid (∀ X : GW x7, Calls Tryd.prog 10 #[.string (bs s)] X.it fun e w' => e = .returned (.bool false) ∧ ∃ Y : GW x7, w' = Y.it) := fun X => gw_ev HSt.out HBx7.out X
            have xne := gw_ne x7
            refine wp_region_grow (by kernel_rfl) (by kernel_rfl) ?_
            repeat (go_big_quiet_step (first | with_reducible exact kS.out _))
            refine wpQuiet_nil ?_
            rintro x9 ⟨⟨x9, bx⟩, rfl⟩
            have HB9 : Hid (Below w.heap.size w x9) := bstep HBx7.out bx
            clear bx xne kS
            go_wp2_with fail
            go_roundw
            case rel => exact ⟨k2 + 1, by omega, by go_num, HB9.out⟩
            case measure => simp [intOf]; omega
          · have q1 : ((((bs s)[k2]'hkz).toNat : Int) == 42) = false := by
              rw [hbk, beq_eq_false_iff_ne]; intro e; apply h42; apply UInt8.toNat_inj.1; exact Int.ofNat.inj e
            clear h42 hbk
            go_wp2_with fail
            refine wp_region_grow (by kernel_rfl) (by kernel_rfl) ?_
            repeat (go_big_quiet_step (fail))
            refine wpQuiet_nil ?_
            rintro x6 ⟨⟨x6, bx⟩, rfl⟩
            have HB6 : Hid (Below w.heap.size w x6) := bstep HB.out bx
            clear bx xne
            have xne := gw_ne x6
            go_wp2_with fail
            refine wp_region_grow (by kernel_rfl) (by kernel_rfl) ?_
            repeat (go_big_quiet_step (fail))
            refine wpQuiet_nil ?_
            rintro x7 ⟨⟨x7, bx⟩, rfl⟩
            have HB7 : Hid (Below w.heap.size w x7) := bstep HB6.out bx
            clear bx xne
            go_wp2_with fail
            go_roundw
            case rel => exact ⟨k2 + 1, by omega, by go_num, HB7.out⟩
            case measure => simp [intOf]; omega
        · obtain rfl : k2 = s.length := by omega
          go_wp2_with fail
          go_ret
          exact ⟨rfl, HB.out⟩
end Go.Proofs.YtebidnepanogcaaDoor
