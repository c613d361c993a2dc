/-
  The law of MergeFewer.
-/
import Derived.Test.YtbaheiimcnfaaaaGreatJSl
namespace Go.Proofs.YtbaheiimcnfaaaaGreat
open Go.RowKit Go.Maps
attribute [local go_sem] Oper.semAt_some

theorem validE_or (l : List Fl) : validE l = 0 ∨ validE l = 7 ∨ validE l = 8 := by
  unfold validE
  split
  · split <;> simp
  · simp
theorem mErr_say {l : List Fl} {k : List (List UInt8)} (h : mErr l k ≠ 0) : coneB k = false ∨ mErr l k = 7 ∨ mErr l k = 8 := by
  unfold mErr at h ⊢
  by_cases hv : validE l = 0
  · rw [if_pos hv] at h ⊢
    unfold coneE at h
    cases hc : coneB k with
    | false => exact .inl rfl
    | true => rw [hc] at h; exact absurd rfl h
  · rw [if_neg hv]
    rcases validE_or l with h1 | h1 | h1
    · exact absurd h1 hv
    · exact .inr (.inl h1)
    · exact .inr (.inr h1)
theorem mErr_zeroF {l : List Fl} {k : List (List UInt8)} : mErr l k = 0 ↔ validE l = 0 ∧ coneE k = 0 := by
  unfold mErr
  by_cases hv : validE l = 0
  · rw [if_pos hv]; exact ⟨fun h => ⟨hv, h⟩, fun h => h.2⟩
  · rw [if_neg hv]; exact ⟨fun h => absurd h hv, fun h => absurd h.1 hv⟩
theorem FSm.take {l : List Fl} (h : FSm l) (n : Nat) : FSm (l.take n) := ⟨by have := h.len; rw [List.length_take]; omega, fun f hf => h.each f (List.mem_of_mem_take hf)⟩
theorem Sm.takes {l : List (List UInt8)} (h : Sm l) (n : Nat) : Sm (l.take n) := ⟨by have := h.len; rw [List.length_take]; omega, fun x hx => h.each x (List.mem_of_mem_take hx)⟩
theorem bud (b : Int) : ∃ B : Nat, 1 ≤ B ∧ B ≤ 16 ∧ wrap64 (1 + bits .and .i64 b 15) = (B : Int) := by
  have h : ∃ x : Nat, x ≤ 15 ∧ bits .and .i64 b 15 = (x : Int) := by
    refine ⟨(BitVec.ofInt 64 b).toNat &&& 15, Nat.and_le_right, ?_⟩
    have h2 : (BitVec.ofInt 64 (15 : Int)).toNat = 15 := by decide
    have hx : (BitVec.ofInt 64 b).toNat &&& 15 ≤ 15 := Nat.and_le_right
    show IntKind.i64.wrap ((BitVec.ofInt 64 b &&& BitVec.ofInt 64 15).toNat : Int) = _
    rw [BitVec.toNat_and, h2, IntKind.wrap_i64]
    omega
  obtain ⟨x, hx, e⟩ := h
  exact ⟨x + 1, by omega, by omega, by rw [e]; unfold wrap64; omega⟩
def slN : Value → Nat
  | .slice _ n _ => n
  | _ => 0
theorem filt_sub {f g : Fl → Bool} (h : ∀ x, f x = true → g x = true) (l : List Fl) : (l.filter f).Sublist (l.filter g) := by
  have e : l.filter f = (l.filter g).filter f := by
    rw [List.filter_filter]
    refine List.filter_congr (fun x _ => ?_)
    cases hf : f x with
    | false => rfl
    | true => rw [h x hf]; rfl
  rw [e]; exact List.filter_sublist
theorem cone_len {k : List (List UInt8)} (h : coneE k = 0) : ∀ c ∈ k, c.length ≤ 120 := fun c hc => (okP_len ((coneB_iff.1 (coneE_zero.1 h)).1 c hc)).1
theorem cone_sm {k : List (List UInt8)} (h : coneE k = 0) (hl : k.length ≤ 1000) : Sm k := ⟨by omega, fun c hc => by have := cone_len h c hc; omega⟩
theorem sizes_ok {l : List Fl} (h : validE l = 0) : ∀ f ∈ l, 0 ≤ f.size := fun f hf => by
  have h1 := ((fileE_zero f).1 (stand_all ((validE_zero l).1 h) f hf)).2
  unfold fits at h1
  split at h1
  · simp only [Bool.and_eq_true, beq_iff_eq] at h1; omega
  · simp only [Bool.and_eq_true, decide_eq_true_eq] at h1; exact h1.2.1
set_option maxRecDepth 100000 in
set_option maxHeartbeats 8000000 in
theorem fewer_law (M : MC) {w : World} {lv kv : Value} {l : List Fl} {k : List (List UInt8)} (b : Int) (hf : FS w lv l) (hk : SS w kv k) (sl : FSm l) (sk : Sm k) (hl : l.length ≤ 1000000000) (hkl : k.length ≤ 1000000000) :
    Calls Tryz.prog 3 #[lv, kv, .int .i64 b] w fun e w' => e = .returned (.bool true) ∧ Below w.heap.size w w' := by
  have HX : Hid (FS w lv l ∧ SS w kv k ∧ FSm l ∧ Sm k) := ⟨hf, hk, sl, sk⟩
  obtain ⟨fa, fcp, hfv, _⟩ := hf.form
  obtain ⟨fn, hfn⟩ : ∃ fn, l.length = fn := ⟨_, rfl⟩
  rw [hfn] at hfv hl
  subst hfv
  obtain ⟨ka, kcp, hkv, -⟩ := hk.form
  obtain ⟨kn, hkn⟩ : ∃ kn, k.length = kn := ⟨_, rfl⟩
  rw [hkn] at hkv hkl
  subst hkv
  have HH := hid_of (head_any M w)
  have HSM := hid_of (fun W (hW : Below w.heap.size w W) => small_any (hf.later hW) (hk.later hW) (by omega) (by omega))
  clear hf hk sl sk hfn hkn
  go_enter Tryz.func3, Tryz.ntmps3
  go_wp2_with fail
  refine HH.out.mono ?_
  rintro e w1 ⟨rfl, hb1⟩
  have HB1 : Hid (Below w.heap.size w w1) := hb1
  clear HH hb1
  go_wp2_with fail
  refine (HSM.out w1 HB1.out).mono ?_
  rintro e w2 ⟨⟨x, y, rfl, hfx, hky⟩, hb2⟩
  have HB2 : Hid (Below w.heap.size w w2 ∧ FSm (l.take 120) ∧ Sm (k.take 16) ∧ (k.take 16).length ≤ 16 ∧ (l.take 120).length ≤ 120) := ⟨bstep HB1.out hb2, HX.out.2.2.1.take _, HX.out.2.2.2.takes _, by rw [List.length_take]; omega, by rw [List.length_take]; omega⟩
  clear hb2 HSM HX HB1
  generalize l.take 120 = L at hfx HB2
  generalize k.take 16 = K at hky HB2
  obtain ⟨la, lc, hx, -⟩ := hfx.form
  obtain ⟨ln, hln⟩ : ∃ ln, L.length = ln := ⟨_, rfl⟩
  rw [hln] at hx
  subst hx
  obtain ⟨qa, qc, hy, -⟩ := hky.form
  obtain ⟨qn, hqn⟩ : ∃ qn, K.length = qn := ⟨_, rfl⟩
  rw [hqn] at hy
  subst hy
  have HL : Hid (FS w2 (.slice la ln lc) L ∧ SS w2 (.slice qa qn qc) K ∧ L.length = ln ∧ K.length = qn) := ⟨hfx, hky, hln, hqn⟩
  clear hfx hky hln hqn
  go_wp2_with fail
  refine (M.cost HL.out.1 HB2.out.2.1 HL.out.2.1 HB2.out.2.2.1).mono ?_
  rintro e w3 ⟨rfl, hb3⟩
  have HB3 : Hid (Below w2.heap.size w2 w3) := hb3
  clear hb3
  obtain ⟨er, her⟩ : ∃ er, mErr L K = er := ⟨_, rfl⟩
  by_cases he : er = 0
  · subst he
    have hmc : mcst L K = (cst L K, 0) := by unfold mcst; rw [if_pos her]
    rw [hmc]
    have HE : Hid (validE L = 0 ∧ coneE K = 0) := mErr_zeroF.1 her
    clear hmc her
    go_wp2_with fail
    obtain ⟨B, hB1, hB2, hB⟩ := bud b
    rw [hB]
    clear hB
    have HZ : Hid (∀ now, coneE now = 0 → mErr L now = 0) := fun now h => mErr_zeroF.2 ⟨HE.out.1, h⟩
    have hqn16 : qn ≤ 16 := by have h1 := HB2.out.2.2.2.1; have h2 := HL.out.2.2.2; omega
    go_loopw [9] (fun s9 wr => ∃ (na : Option Addr) (nn nc : Nat) (now : List (List UInt8)), s9 = .slice na nn nc ∧ SS wr (.slice na nn nc) now ∧ now.length = nn ∧ nn ≤ 16 ∧ coneE now = 0 ∧ dwn L B now = dwn L B K ∧ Below w2.heap.size w2 wr) (fun s9 _ => slN s9)
    case atStart => exact ⟨qa, qn, qc, K, rfl, HL.out.2.1.later HB3.out, HL.out.2.2.2, hqn16, HE.out.2, rfl, HB3.out⟩
    case round =>
      obtain ⟨na, nn, nc, now, rfl, hss, hnl, hn16, hcn, hdw, hbr⟩ := hrel
      obtain ⟨wo, hwo⟩ : ∃ wo, wo = wr := ⟨_, rfl⟩
      subst hwo
      have HR : Hid (SS wo (.slice na nn nc) now ∧ now.length = nn ∧ coneE now = 0 ∧ dwn L B now = dwn L B K ∧ Below w2.heap.size w2 wo ∧ Sm now) := ⟨hss, hnl, hcn, hdw, hbr, cone_sm hcn (by omega)⟩
      clear hss hnl hcn hdw hbr
      by_cases hlt : B < nn
      · have g1 : (B : Int) < (nn : Int) := by omega
        go_wp2_with fail
        refine (M.step (HL.out.1.later HR.out.2.2.2.2.1) HB2.out.2.1 HR.out.1 HR.out.2.2.2.2.2).mono ?_
        intro e w4 h
        unfold TwoS at h
        obtain ⟨xv, rfl, hxo, hb4⟩ := h
        have hms : mstp L now = (stp L now, 0) := by unfold mstp; rw [if_pos (HZ.out _ HR.out.2.2.1)]
        rw [hms] at hxo ⊢
        simp only at hxo ⊢
        obtain ⟨xa, xc, hx⟩ := hxo.slc
        obtain ⟨xn, hxn⟩ : ∃ xn, (stp L now).length = xn := ⟨_, rfl⟩
        rw [hxn] at hx
        subst hx
        have hfw := stp_fewer (l := L) HR.out.2.2.1 (by have := HR.out.2.1; omega)
        have hok := stp_ok (l := L) HR.out.2.2.1
        rw [hxn, HR.out.2.1] at hfw
        have HXS : Hid (SS w4 (.slice xa xn xc) (stp L now) ∧ (stp L now).length = xn ∧ coneE (stp L now) = 0 ∧ Sm (stp L now) ∧ Below wo.heap.size wo w4) := ⟨hxo.bs, hxn, hok, cone_sm hok (by omega), hb4⟩
        obtain ⟨hf1, hf2⟩ := hfw
        have g2 : ¬ (nn : Int) ≤ (xn : Int) := by omega
        have g3 : ¬ (xn : Int) < 1 := by omega
        clear hms hxo hb4 hxn hok
        go_wp2_with fail
        refine (M.valid HXS.out.1 HXS.out.2.2.2.1).mono ?_
        rintro e w5 ⟨rfl, hb5⟩
        rw [HXS.out.2.2.1]
        have HB5 : Hid (Below wo.heap.size wo w5 ∧ Below w4.heap.size w4 w5) := ⟨bstep HXS.out.2.2.2.2 hb5, hb5⟩
        clear hb5
        go_wp2_with fail
        refine (covered_any M.above (HR.out.1.later HB5.out.1) (HXS.out.1.later HB5.out.2) (cone_len HR.out.2.2.1) (cone_len HXS.out.2.2.1) (by have := HR.out.2.1; omega) (by have := HXS.out.2.1; omega) (fun c hc => stp_cover hc)).mono ?_
        rintro e w6 ⟨rfl, hb6⟩
        have HB6 : Hid (Below wo.heap.size wo w6 ∧ Below w4.heap.size w4 w6) := ⟨bstep HB5.out.1 hb6, bstep HB5.out.2 hb6⟩
        clear hb6 HB5
        go_wp2_with fail
        refine (M.view (HL.out.1.later (bstep HR.out.2.2.2.2.1 HB6.out.1)) HB2.out.2.1 (HR.out.1.later HB6.out.1) HR.out.2.2.2.2.2).mono ?_
        rintro e w7 ⟨av, rfl, hao, hb7⟩
        rw [viw_ok HE.out.1 HR.out.2.2.1] at hao ⊢
        simp only at hao ⊢
        obtain ⟨aa, ac, hx, -⟩ := hao.fs.form
        obtain ⟨an, han⟩ : ∃ an, (L.filter (fun f => shw now f.path)).length = an := ⟨_, rfl⟩
        rw [han] at hx
        subst hx
        have HB7 : Hid (Below wo.heap.size wo w7 ∧ Below w4.heap.size w4 w7 ∧ FS w7 (.slice aa an ac) (L.filter (fun f => shw now f.path))) := ⟨bstep HB6.out.1 hb7, bstep HB6.out.2 hb7, hao.fs⟩
        clear hao hb7 han HB6
        go_wp2_with fail
        refine (M.view (HL.out.1.later (bstep HR.out.2.2.2.2.1 HB7.out.1)) HB2.out.2.1 (HXS.out.1.later HB7.out.2.1) HXS.out.2.2.2.1).mono ?_
        rintro e w8 ⟨bv, rfl, hbo, hb8⟩
        rw [viw_ok HE.out.1 HXS.out.2.2.1] at hbo ⊢
        simp only at hbo ⊢
        obtain ⟨ba, bc, hx, -⟩ := hbo.fs.form
        obtain ⟨bn, hbn⟩ : ∃ bn, (L.filter (fun f => shw (stp L now) f.path)).length = bn := ⟨_, rfl⟩
        rw [hbn] at hx
        subst hx
        have HB8 : Hid (Below wo.heap.size wo w8 ∧ Below w4.heap.size w4 w8 ∧ FS w8 (.slice aa an ac) (L.filter (fun f => shw now f.path)) ∧ FS w8 (.slice ba bn bc) (L.filter (fun f => shw (stp L now) f.path))) := ⟨bstep HB7.out.1 hb8, bstep HB7.out.2.1 hb8, HB7.out.2.2.later hb8, hbo.fs⟩
        clear hbo hb8 hbn HB7
        go_wp2_with fail
        refine (M.cost (HL.out.1.later (bstep HR.out.2.2.2.2.1 HB8.out.1)) HB2.out.2.1 (HR.out.1.later HB8.out.1) HR.out.2.2.2.2.2).mono ?_
        rintro e w9 ⟨rfl, hb9⟩
        rw [show mcst L now = (cst L now, 0) from by unfold mcst; rw [if_pos (HZ.out _ HR.out.2.2.1)]]
        have HB9 : Hid (Below wo.heap.size wo w9 ∧ Below w4.heap.size w4 w9 ∧ Below w8.heap.size w8 w9) := ⟨bstep HB8.out.1 hb9, bstep HB8.out.2.1 hb9, hb9⟩
        clear hb9
        go_wp2_with fail
        refine (M.cost (HL.out.1.later (bstep HR.out.2.2.2.2.1 HB9.out.1)) HB2.out.2.1 (HXS.out.1.later HB9.out.2.1) HXS.out.2.2.2.1).mono ?_
        rintro e w10 ⟨rfl, hb10⟩
        rw [show mcst L (stp L now) = (cst L (stp L now), 0) from by unfold mcst; rw [if_pos (HZ.out _ HXS.out.2.2.1)]]
        have HB10 : Hid (Below wo.heap.size wo w10 ∧ Below w4.heap.size w4 w10 ∧ Below w8.heap.size w8 w10) := ⟨bstep HB9.out.1 hb10, bstep HB9.out.2.1 hb10, bstep HB9.out.2.2 hb10⟩
        have hcc := stp_costs (l := L) (k := now) (sizes_ok HE.out.1)
        have g4 : ¬ cst L (stp L now) < cst L now := by omega
        have HLST : Hid (∀ p ∈ cds now, cst L (stp L now) ≤ cst L (wid p false now)) := fun p hp => stp_least (by have := HR.out.2.1; omega) hp
        obtain ⟨cx, hcx⟩ : ∃ cx, cst L (stp L now) = cx := ⟨_, rfl⟩
        rw [hcx] at g4 HLST ⊢
        obtain ⟨cy, hcy⟩ : ∃ cy, cst L now = cy := ⟨_, rfl⟩
        rw [hcy] at g4 ⊢
        clear hb10 HB9 hcc hcx hcy
        go_wp2_with fail
        refine (wthn_any (HB8.out.2.2.1.later HB10.out.2.2) (HB8.out.2.2.2.later HB10.out.2.2) (filt_sub (fun f hf => stp_shows hf) L) (by have h1 := List.length_filter_le (fun f : Fl => shw (stp L now) f.path) L; have h2 := HB2.out.2.2.2.2; omega)).mono ?_
        rintro e w11 ⟨rfl, hb11⟩
        have HB11 : Hid (Below wo.heap.size wo w11 ∧ Below w4.heap.size w4 w11) := ⟨bstep HB10.out.1 hb11, bstep HB10.out.2.1 hb11⟩
        clear hb11 HB10 HB8
        go_wp2_with fail
        go_loopw [20] (fun s20 wr => ∃ i : Nat, s20 = .int .i64 i ∧ i + 1 ≤ nn ∧ Below wo.heap.size wo wr ∧ Below w4.heap.size w4 wr) (fun s20 _ => nn - (intOf s20).toNat)
        case atStart => exact ⟨0, rfl, by omega, HB11.out.1, HB11.out.2⟩
        case round =>
          obtain ⟨i, rfl, hi, hbi, hbi4⟩ := hrel
          have HI : Hid (Below wo.heap.size wo wr ∧ Below w4.heap.size w4 wr) := ⟨hbi, hbi4⟩
          clear hbi hbi4
          by_cases hin : i + 1 < nn
          · have i1 : (i : Int) + 1 < (nn : Int) := by omega
            have i2 : (i : Int) < (nn : Int) := by omega
            have i3 : (0 : Int) ≤ (i : Int) := by omega
            have i4 : (0 : Int) ≤ (i : Int) + 1 := by omega
            have hil : i < now.length := by have := HR.out.2.1; omega
            have hil2 : i + 1 < now.length := by have := HR.out.2.1; omega
            obtain ⟨b, off, hna, hx0, hy0⟩ : ∃ b off, na = some ⟨b, off, none⟩ ∧ (∀ W, Below wo.heap.size wo W → W.cell? ⟨b, off + i, none⟩ = some (.string (bs now[i]))) ∧ (∀ W, Below wo.heap.size wo W → W.cell? ⟨b, off + (i + 1), none⟩ = some (.string (bs now[i + 1]))) := by
              obtain ⟨a', c', e, hc⟩ := HR.out.1.form
              injection e with e1 _ _
              obtain ⟨b, off, h1, h2, h3⟩ := hc i hil
              obtain ⟨b', off', h4, h5, h6⟩ := hc (i + 1) hil2
              rw [h1] at h4
              injection h4 with h4
              injection h4 with h7 h8 _
              subst h7
              subst h8
              exact ⟨b, off, e1.trans h1, fun W hW => (hW.cell (p := ⟨b, off + i, none⟩) h2).trans h3, fun W hW => (hW.cell (p := ⟨b, off + (i + 1), none⟩) h2).trans h6⟩
            subst hna
            have hp : cmn now[i] now[i + 1] ∈ cds now := List.mem_of_getElem? (cds_get now i hil2)
            have hw2 := wid_two HR.out.2.2.1 hp
            obtain ⟨_, _, _, _, _, _, hokp, _⟩ := cone_two HR.out.2.2.1 hp
            have hxl := cone_len HR.out.2.2.1 _ (List.getElem_mem hil)
            have hyl := cone_len HR.out.2.2.1 _ (List.getElem_mem hil2)
            have hle := HLST.out _ hp
            have hma : mat now (cmn now[i] now[i + 1]) = (wid (cmn now[i] now[i + 1]) false now, 0) := by unfold mat; rw [if_pos HR.out.2.2.1, if_pos hokp]
            generalize now[i] = x at hx0 hp hw2 hokp hxl hle hma
            generalize now[i + 1] = y at hy0 hp hw2 hokp hyl hle hma
            obtain ⟨j, hj⟩ : ∃ j, i + 1 = j := ⟨_, rfl⟩
            rw [hj] at hy0
            have hwr : IntKind.i64.wrap ((i : Int) + 1) = (j : Int) := by rw [IntKind.wrap_i64]; omega
            have j1 : (0 : Int) ≤ (j : Int) := by omega
            have j2 : (j : Int) < (nn : Int) := by omega
            have HJ : Hid (i + 1 = j) := hj
            clear hj
            have HS : Hid (∀ W, Below wr.heap.size wr W → W.cell? ⟨b, off + i, none⟩ = some (.string (bs x)) ∧ W.cell? ⟨b, off + j, none⟩ = some (.string (bs y))) := fun W hW => ⟨hx0 W (bstep HI.out.1 hW), hy0 W (bstep HI.out.1 hW)⟩
            have HCM := hid_of (fun W => M.common x y W hxl hyl)
            obtain ⟨p, hpe⟩ : ∃ p, cmn x y = p := ⟨_, rfl⟩
            rw [hpe] at hp hw2 hokp hle hma
            have HP : Hid (cmn x y = p ∧ mat now p = (wid p false now, 0) ∧ coneE (wid p false now) = 0 ∧ (wid p false now).length < nn ∧ cx ≤ cst L (wid p false now) ∧ p.length ≤ 120) := ⟨hpe, hma, hw2.1, by have h1 := hw2.2.1; rw [HR.out.2.1] at h1; exact h1, hle, (okP_len hokp).1⟩
            clear hx0 hy0 hp hw2 hokp hxl hyl hle hma hpe
            go_upto_region 22 with fail
            obtain ⟨g0', g1'⟩ := HS.out _ (bd1 wr)
            refine wp_region_noPanic ?_
            refine wp_region_held_drew (S := fun W' => W'.cell? ⟨b, off + i, none⟩ = some (.string (bs x)) ∧ W'.cell? ⟨b, off + j, none⟩ = some (.string (bs y))) (by kernel_rfl) (by exact HS.out _ (bd1 wr)) (fun hHeld => ?_)
            refine wpAnyH_take (i := 0) (oi := { dst := some 143, op := _, type := _, pos := _, after := _, guard := _ }) (v := ?vx1) rfl (by kernel_rfl) (by kernel_rfl) (by kernel_rfl) (fun _ _ _ h => h) (Or.inl ⟨by rfl, ?hyx1⟩) (by assumption) ?restx1
            case hyx1 => (intro w hSw; (try dsimp only at hSw); go_simp; try with_reducible rfl)
            try simp only [Act.put, List.setIfInBounds_toArray, List.set_cons_zero, List.set_cons_succ]
            refine wpAnyH_take (i := 1) (oi := { dst := some 144, op := _, type := _, pos := _, after := _, guard := _ }) (v := ?vx2) rfl (by kernel_rfl) (by kernel_rfl) (by kernel_rfl) (fun _ _ _ h => h) (Or.inl ⟨by rfl, ?hyx2⟩) (by assumption) ?restx2
            case hyx2 => (intro w hSw; (try dsimp only at hSw); go_simp; try with_reducible rfl)
            try simp only [Act.put, List.setIfInBounds_toArray, List.set_cons_zero, List.set_cons_succ]
            refine wpAnyH_take (i := 2) (oi := { dst := some 145, op := _, type := _, pos := _, after := _, guard := _ }) (v := ?vx3) rfl (by kernel_rfl) (by kernel_rfl) (by kernel_rfl) (fun _ _ _ h => h) (Or.inl ⟨by rfl, ?hyx3⟩) (by assumption) ?restx3
            case hyx3 => (intro w hSw; (try dsimp only at hSw); go_simp; try with_reducible rfl)
            try simp only [Act.put, List.setIfInBounds_toArray, List.set_cons_zero, List.set_cons_succ]
            refine wpAnyH_take (i := 3) (oi := { dst := some 146, op := _, type := _, pos := _, after := _, guard := _ }) (v := ?vx4) rfl (by kernel_rfl) (by kernel_rfl) (by kernel_rfl) (fun _ _ _ h => h) (Or.inl ⟨by rfl, ?hyx4⟩) (by assumption) ?restx4
            case hyx4 => (intro w hSw; (try dsimp only at hSw); go_simp; try with_reducible rfl)
            try simp only [Act.put, List.setIfInBounds_toArray, List.set_cons_zero, List.set_cons_succ]
            refine wpAnyH_take (i := 4) (oi := { dst := some 147, op := _, type := _, pos := _, after := _, guard := _ }) (v := ?vx5) rfl (by kernel_rfl) (by kernel_rfl) (by kernel_rfl) (fun _ _ _ h => h) (Or.inl ⟨by rfl, ?hyx5⟩) (by assumption) ?restx5
            case hyx5 => (intro w hSw; (try dsimp only at hSw); go_simp; try with_reducible rfl)
            try simp only [Act.put, List.setIfInBounds_toArray, List.set_cons_zero, List.set_cons_succ]
            refine wpAnyH_take (i := 5) (oi := { dst := some 148, op := _, type := _, pos := _, after := _, guard := _ }) (v := ?vx6) rfl (by kernel_rfl) (by kernel_rfl) (by kernel_rfl) (fun _ _ _ h => h) (Or.inl ⟨by rfl, ?hyx6⟩) (by assumption) ?restx6
            case hyx6 => (intro w hSw; (try dsimp only at hSw); go_simp; try with_reducible rfl)
            try simp only [Act.put, List.setIfInBounds_toArray, List.set_cons_zero, List.set_cons_succ]
            refine wpAnyH_take (i := 6) (oi := { dst := some 149, op := _, type := _, pos := _, after := _, guard := _ }) (v := ?vx7) rfl (by kernel_rfl) (by kernel_rfl) (by kernel_rfl) (fun _ _ _ h => h) (Or.inl ⟨by rfl, ?hyx7⟩) (by assumption) ?restx7
            case hyx7 => (intro w hSw; (try dsimp only at hSw); go_simp; try with_reducible rfl)
            try simp only [Act.put, List.setIfInBounds_toArray, List.set_cons_zero, List.set_cons_succ]
            refine wpAnyH_take (i := 7) (oi := { dst := some 150, op := _, type := _, pos := _, after := _, guard := _ }) (v := ?vx8) rfl (by kernel_rfl) (by kernel_rfl) (by kernel_rfl) (fun _ _ _ h => h) (Or.inl ⟨by rfl, ?hyx8⟩) (by assumption) ?restx8
            case hyx8 => (intro w hSw; (try dsimp only at hSw); go_simp; try with_reducible rfl)
            try simp only [Act.put, List.setIfInBounds_toArray, List.set_cons_zero, List.set_cons_succ]
            refine wpAnyH_take (i := 8) (oi := { dst := some 151, op := _, type := _, pos := _, after := _, guard := _ }) (v := ?vx9) rfl (by kernel_rfl) (by kernel_rfl) (by kernel_rfl) (fun _ _ _ h => h) (Or.inl ⟨by rfl, ?hyx9⟩) (by assumption) ?restx9
            case hyx9 => (intro w hSw; (try dsimp only at hSw); go_simp; try with_reducible rfl)
            try simp only [Act.put, List.setIfInBounds_toArray, List.set_cons_zero, List.set_cons_succ]
            refine wpAnyH_take (i := 9) (oi := { dst := some 152, op := _, type := _, pos := _, after := _, guard := _ }) (v := ?vx10) rfl (by kernel_rfl) (by kernel_rfl) (by kernel_rfl) (fun _ _ _ h => h) (Or.inl ⟨by rfl, ?hyx10⟩) (by assumption) ?restx10
            case hyx10 => (intro w hSw; (try dsimp only at hSw); go_simp; try with_reducible rfl)
            try simp only [Act.put, List.setIfInBounds_toArray, List.set_cons_zero, List.set_cons_succ]
            refine wpAnyH_ready (rs := [10]) (by kernel_rfl) (by simp) ?_
            refine AllReadyH.cons (o := { dst := some 153, op := _, type := _, pos := _, after := _, guard := _ }) rfl (fun K hK => ?_) AllReadyH.nil
            go_simp
            with_reducible refine (HCM.out wr.drew).mono ?_
            rintro e z1 ⟨rfl, hb⟩
            have Hz1 : Hid (Below wr.heap.size wr z1) := bstep (bd1 wr) hb
            clear hb
            rw [HP.out.1]
            refine hK.out _ _ (HS.out z1 Hz1.out) (fun hHeld => ?_)
            clear hK K
            try simp only [List.setIfInBounds_toArray, List.set_cons_zero, List.set_cons_succ]
            refine wpAnyH_ready (rs := [11]) (by kernel_rfl) (by simp) ?_
            refine AllReadyH.cons (o := { dst := some 154, op := _, type := _, pos := _, after := _, guard := _ }) rfl (fun K hK => ?_) AllReadyH.nil
            go_simp
            with_reducible refine (M.at' p (HR.out.1.later (bstep HI.out.1 Hz1.out)) HR.out.2.2.2.2.2 (by have := HP.out.2.2.2.2.2; omega)).mono ?_
            intro e z2 h
            unfold TwoS at h
            obtain ⟨ov, rfl, hoo, hb⟩ := h
            rw [HP.out.2.1] at hoo ⊢
            simp only at hoo ⊢
            obtain ⟨oa, oc, hx⟩ := hoo.slc
            obtain ⟨on', hon⟩ : ∃ on', (wid p false now).length = on' := ⟨_, rfl⟩
            rw [hon] at hx
            subst hx
            have Hz2 : Hid (Below wr.heap.size wr z2 ∧ SS z2 (.slice oa on' oc) (wid p false now)) := ⟨bstep Hz1.out hb, hoo.bs⟩
            clear hoo hb hon
            refine hK.out _ _ (HS.out z2 Hz2.out.1) (fun hHeld => ?_)
            clear hK K
            try simp only [List.setIfInBounds_toArray, List.set_cons_zero, List.set_cons_succ]
            refine wpAnyH_take (i := 12) (oi := { dst := some 142, op := _, type := _, pos := _, after := _, guard := _ }) (v := ?vx11) rfl (by kernel_rfl) (by kernel_rfl) (by kernel_rfl) (fun _ _ _ h => h) (Or.inl ⟨by rfl, ?hyx11⟩) (by assumption) ?restx11
            case hyx11 => (intro w hSw; (try dsimp only at hSw); go_simp; try with_reducible rfl)
            try simp only [Act.put, List.setIfInBounds_toArray, List.set_cons_zero, List.set_cons_succ]
            refine wpAnyH_take (i := 13) (oi := { dst := some 155, op := _, type := _, pos := _, after := _, guard := _ }) (v := ?vx12) rfl (by kernel_rfl) (by kernel_rfl) (by kernel_rfl) (fun _ _ _ h => h) (Or.inl ⟨by rfl, ?hyx12⟩) (by assumption) ?restx12
            case hyx12 => (intro w hSw; (try dsimp only at hSw); go_simp; try with_reducible rfl)
            try simp only [Act.put, List.setIfInBounds_toArray, List.set_cons_zero, List.set_cons_succ]
            refine wpAnyH_take (i := 14) (oi := { dst := some 156, op := _, type := _, pos := _, after := _, guard := _ }) (v := ?vx13) rfl (by kernel_rfl) (by kernel_rfl) (by kernel_rfl) (fun _ _ _ h => h) (Or.inl ⟨by rfl, ?hyx13⟩) (by assumption) ?restx13
            case hyx13 => (intro w hSw; (try dsimp only at hSw); go_simp; try with_reducible rfl)
            try simp only [Act.put, List.setIfInBounds_toArray, List.set_cons_zero, List.set_cons_succ]
            refine wpAnyH_take (i := 15) (oi := { dst := some 21, op := _, type := _, pos := _, after := _, guard := _ }) (v := ?vx14) rfl (by kernel_rfl) (by kernel_rfl) (by kernel_rfl) (fun _ _ _ h => h) (Or.inl ⟨by rfl, ?hyx14⟩) (by assumption) ?restx14
            case hyx14 => (intro w hSw; (try dsimp only at hSw); go_simp; try with_reducible rfl)
            try simp only [Act.put, List.setIfInBounds_toArray, List.set_cons_zero, List.set_cons_succ]
            refine wpAnyH_take (i := 16) (oi := { dst := some 22, op := _, type := _, pos := _, after := _, guard := _ }) (v := ?vx15) rfl (by kernel_rfl) (by kernel_rfl) (by kernel_rfl) (fun _ _ _ h => h) (Or.inl ⟨by rfl, ?hyx15⟩) (by assumption) ?restx15
            case hyx15 => (intro w hSw; (try dsimp only at hSw); go_simp; try with_reducible rfl)
            try simp only [Act.put, List.setIfInBounds_toArray, List.set_cons_zero, List.set_cons_succ]
            refine wpAnyH_done (by kernel_rfl) ?_ _
            refine NoPanic.normal ?_
            clear hHeld g0' g1'
            go_wp2_with fail
            refine (M.cost (HL.out.1.later (bstep HR.out.2.2.2.2.1 (bstep HI.out.1 Hz2.out.1))) HB2.out.2.1 Hz2.out.2 (cone_sm HP.out.2.2.1 (by have := HP.out.2.2.2.1; omega))).mono ?_
            rintro e z3 ⟨rfl, hb⟩
            rw [show mcst L (wid p false now) = (cst L (wid p false now), 0) from by unfold mcst; rw [if_pos (HZ.out _ HP.out.2.2.1)]]
            have Hz3 : Hid (Below wo.heap.size wo z3 ∧ Below w4.heap.size w4 z3) := ⟨bstep (bstep HI.out.1 Hz2.out.1) hb, bstep (bstep HI.out.2 Hz2.out.1) hb⟩
            have hle := HP.out.2.2.2.2.1
            generalize cst L (wid p false now) = cz at hle ⊢
            have g5 : ¬ cz < cx := by omega
            clear hb hle
            go_wp2_with fail
            go_roundw
            case rel => exact ⟨j, by first | rfl | go_num, by have := HJ.out; omega, Hz3.out.1, Hz3.out.2⟩
            case measure => have := HJ.out; simp [intOf]; omega
          · have i1 : ¬ (i : Int) + 1 < (nn : Int) := by omega
            go_wp2_with fail
            go_roundw
            case rel => exact ⟨xa, xn, xc, stp L now, rfl, HXS.out.1.later HI.out.2, HXS.out.2.1, by omega, HXS.out.2.2.1, by rw [← dwn_step hB1 HR.out.2.2.1 (by have := HR.out.2.1; omega)]; exact HR.out.2.2.2.1, bstep HR.out.2.2.2.2.1 HI.out.1⟩
            case measure => simp [slN]; omega
      · have g1 : ¬ (B : Int) < (nn : Int) := by omega
        have hdn : dwn L B K = now := by rw [← HR.out.2.2.2.1]; exact dwn_done (by have := HR.out.2.1; omega)
        have hm1 : mdwn L K (B : Int) = (now, 0) := by unfold mdwn; rw [if_pos (HZ.out _ HE.out.2), if_pos (by omega), show (B : Int).toNat = B from rfl, hdn]
        have hm2 : mdwn L K ((qn : Int) + 1) = (K, 0) := by unfold mdwn; rw [if_pos (HZ.out _ HE.out.2), if_pos (by omega), dwn_done (by have := HL.out.2.2.2; omega)]
        have HM : Hid (mdwn L K (B : Int) = (now, 0) ∧ mdwn L K ((qn : Int) + 1) = (K, 0)) := ⟨hm1, hm2⟩
        have sK : Hid (Sm K) := HB2.out.2.2.1
        clear hdn hm1 hm2
        go_wp2_with fail
        refine (M.down (B : Int) (HL.out.1.later HR.out.2.2.2.2.1) HB2.out.2.1 (HL.out.2.1.later HR.out.2.2.2.2.1) sK.out (by omega) (by omega)).mono ?_
        intro e w12 h
        unfold TwoS at h
        obtain ⟨gv, rfl, hgo, hb12⟩ := h
        rw [HM.out.1] at hgo ⊢
        simp only at hgo ⊢
        obtain ⟨ga, gc, hx⟩ := hgo.slc
        rw [HR.out.2.1] at hx
        subst hx
        have HB12 : Hid (Below wo.heap.size wo w12 ∧ SS w12 (.slice ga nn gc) now) := ⟨hb12, hgo.bs⟩
        clear hgo hb12
        go_wp2_with fail
        refine (M.down ((qn : Int) + 1) (HL.out.1.later (bstep HR.out.2.2.2.2.1 HB12.out.1)) HB2.out.2.1 (HL.out.2.1.later (bstep HR.out.2.2.2.2.1 HB12.out.1)) sK.out (by omega) (by omega)).mono ?_
        intro e w13 h
        unfold TwoS at h
        obtain ⟨tv, rfl, hto, hb13⟩ := h
        rw [HM.out.2] at hto ⊢
        simp only at hto ⊢
        obtain ⟨ta, tc, hx⟩ := hto.slc
        rw [HL.out.2.2.2] at hx
        subst hx
        have HB13 : Hid (Below wo.heap.size wo w13 ∧ SS w13 (.slice ga nn gc) now ∧ SS w13 (.slice ta qn tc) K) := ⟨bstep HB12.out.1 hb13, HB12.out.2.later hb13, hto.bs⟩
        clear hto hb13 HB12
        go_wp2_with fail
        refine (same_any HB13.out.2.1 (HR.out.1.later HB13.out.1) (by have := HR.out.2.1; omega)).mono ?_
        rintro e wq ⟨rfl, n, rfl⟩
        rw [decide_eq_true (rfl : now = now)]
        have hb : Below w13.heap.size w13 (w13.drewN n) := drw_below _ n
        generalize w13.drewN n = w14 at hb ⊢
        have HB14 : Hid (Below w13.heap.size w13 w14) := hb
        clear hb
        go_wp2_with fail
        refine (same_any (HB13.out.2.2.later HB14.out) (HL.out.2.1.later (bstep (bstep HR.out.2.2.2.2.1 HB13.out.1) HB14.out)) (by have := HL.out.2.2.2; omega)).mono ?_
        rintro e wq ⟨rfl, n, rfl⟩
        rw [decide_eq_true (rfl : K = K)]
        have hb : Below w14.heap.size w14 (w14.drewN n) := drw_below _ n
        generalize w14.drewN n = w15 at hb ⊢
        have HB15 : Hid (Below w14.heap.size w14 w15) := hb
        clear hb
        go_wp2_with fail
        go_ret
        exact ⟨rfl, bstep (bstep (bstep (bstep HB2.out.1 HR.out.2.2.2.2.1) HB13.out.1) HB14.out) HB15.out⟩
  · have hmc : mcst L K = (0, er) := by unfold mcst; rw [if_neg (by rw [her]; exact he), her]
    rw [hmc]
    have hs := mErr_say (l := L) (k := K) (by rw [her]; exact he)
    rw [her] at hs
    have n1 : (er == 0) = false := by simpa using he
    have n2 : (er != 0) = true := by simpa using he
    have HS : Hid (coneB K = false ∨ er = 7 ∨ er = 8) := hs
    clear hmc her hs
    go_wp2_with fail
    refine (M.cones (HL.out.2.1.later HB3.out) HB2.out.2.2.1).mono ?_
    rintro e w4 ⟨rfl, hb4⟩
    have HB4 : Hid (Below w.heap.size w w4) := bstep (bstep HB2.out.1 HB3.out) hb4
    clear hb4
    obtain ⟨cb, hcb⟩ : ∃ cb, coneB K = cb := ⟨_, rfl⟩
    rw [hcb] at HS ⊢
    clear hcb
    cases cb
    · go_wp2_with fail
      go_ret
      exact ⟨rfl, HB4.out⟩
    · rcases HS.out with h | h | h
      · cases h
      · subst h
        go_wp2_with fail
        go_ret
        exact ⟨rfl, HB4.out⟩
      · subst h
        go_wp2_with fail
        go_ret
        exact ⟨rfl, HB4.out⟩
end Go.Proofs.YtbaheiimcnfaaaaGreat
