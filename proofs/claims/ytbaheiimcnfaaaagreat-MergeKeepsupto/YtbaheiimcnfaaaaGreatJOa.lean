/-
  The document's steps.
  At of any directory that is small enough.
-/
import Derived.Test.YtbaheiimcnfaaaaGreatNy
namespace Go.Proofs.YtbaheiimcnfaaaaGreat
open Go.RowKit Go.Maps
attribute [local go_sem] Oper.semAt_some

def TwoR (w : World) (r : List (List UInt8) × Int) (e : Ending) (w' : World) : Prop := ∃ v, e = .returned (.tuple #[v, .int .i64 r.2]) ∧ SS w' v r.1 ∧ Below w.heap.size w w'
def lenV : Value → Nat
  | .slice _ n _ => n
  | _ => 0
set_option maxRecDepth 100000 in
set_option maxHeartbeats 4000000 in
theorem rStep_any {w : World} {v u : Value} {l : List Fl} {k : List (List UInt8)} (h : FS w v l) (sm : FSm l) (hu : SS w u k) (sk : Sm k) (hkl : k.length ≤ 1000000) : Calls Tryz.prog 20 #[v, u] w (TwoR w (mstp l k)) := by
  have HV := hid_of (rlooked_any h sm hu sk)
  have HD : Hid (TwoR w (mstp l k) = TwoR w (if mErr l k = 0 then (stp l k, 0) else ([], mErr l k))) := rfl
  have HS := hid_of (fun (he : mErr l k = 0) (h2 : 2 ≤ k.length) W (hW : Below w.heap.size w W) => rstep_any (h.later hW) (hu.later hW) (RefOk.of (mErr_zero.1 he).1 sm) (mErr_zero.1 he).2 sk hkl h2)
  have HU := hid_of (And.intro hu (fun h2 : k.length < 2 => stp_short (l := l) h2))
  obtain ⟨m, hm⟩ : ∃ m, mErr l k = m := ⟨_, rfl⟩
  rw [hm] at HV HD HS
  obtain ⟨ad, c, hv, -⟩ := hu.form
  obtain ⟨n, hn⟩ : ∃ n, k.length = n := ⟨_, rfl⟩
  rw [hn] at hv hkl
  subst hv
  have HN := hid_of hn
  clear h sm hu sk hm hn
  by_cases h0 : m = 0
  · subst h0
    rw [if_pos rfl] at HD
    by_cases h2 : 2 ≤ n
    · have HS2 := hid_of (fun W hW => HS.out rfl (by rw [HN.out]; exact h2) W hW)
      have k1 : ¬ ((n : Int) < 2) := by omega
      clear HS HU
      go_enter Tryz.func20, Tryz.ntmps20
      go_wp2_with fail
      refine HV.out.mono ?_
      rintro e w1 ⟨rfl, hb1⟩
      have H1 := hid_of hb1
      clear hb1
      go_wp2_with fail
      refine (HS2.out w1 H1.out).mono ?_
      rintro e w2 ⟨v2, rfl, ho2, hb2⟩
      have H2 := hid_of (And.intro ho2 (bstep H1.out hb2))
      clear ho2 hb2
      go_wp2_with fail
      go_ret2
      rw [HD.out]
      exact ⟨_, rfl, H2.out.1.bs, H2.out.2⟩
    · have k1 : (n : Int) < 2 := by omega
      have HE := hid_of (HU.out.2 (by rw [HN.out]; omega))
      clear HS
      go_enter Tryz.func20, Tryz.ntmps20
      go_wp2_with fail
      refine HV.out.mono ?_
      rintro e w1 ⟨rfl, hb1⟩
      have H1 := hid_of hb1
      clear hb1
      go_wp2_with fail
      go_ret2
      rw [HD.out, HE.out]
      exact ⟨_, rfl, HU.out.1.later H1.out, H1.out⟩
  · rw [if_neg h0] at HD
    clear HS HU
    go_enter Tryz.func20, Tryz.ntmps20
    go_wp2_with fail
    refine HV.out.mono ?_
    rintro e w1 ⟨rfl, hb1⟩
    have H1 := hid_of hb1
    clear hb1
    go_wp2_with fail
    go_ret2
    rw [HD.out]
    exact ⟨_, rfl, SS_nil _, H1.out⟩
def DrS (w wr : World) (s1 : Value) (l : List Fl) (m : Nat) (k0 : List (List UInt8)) : Prop := ∃ k, SS wr s1 k ∧ coneE k = 0 ∧ Sm k ∧ k.length ≤ 1000000 ∧ dwn l m k = dwn l m k0 ∧ Below w.heap.size w wr
set_option maxRecDepth 100000 in
set_option maxHeartbeats 4000000 in
theorem rDown_any {w : World} {v u : Value} {l : List Fl} {k : List (List UInt8)} (b : Int) (h : FS w v l) (sm : FSm l) (hu : SS w u k) (sk : Sm k) (hkl : k.length ≤ 1000000) : Calls Tryz.prog 21 #[v, u, .int .i64 b] w (TwoR w (mdwn l k b)) := by
  have HV := hid_of (rlooked_any h sm hu sk)
  have HD : Hid (TwoR w (mdwn l k b) = TwoR w (if mErr l k = 0 then (if 1 ≤ b then (dwn l b.toNat k, 0) else ([], 6)) else ([], mErr l k))) := rfl
  have HS : Hid (∀ (he : mErr l k = 0) (W : World) (u' : Value) (k1 : List (List UInt8)), Below w.heap.size w W → SS W u' k1 → coneE k1 = 0 → Sm k1 → k1.length ≤ 1000000 → 2 ≤ k1.length → Calls Tryz.prog 45 #[v, u'] W fun e w' => ∃ v', e = .returned v' ∧ Own W.heap.size w' v' (stp l k1) ∧ Below W.heap.size W w') := fun he W u' k1 hW hs hc hsk hkk h2 => rstep_any (h.later hW) hs (RefOk.of (mErr_zero.1 he).1 sm) hc hsk hkk h2
  have HU : Hid (mErr l k = 0 → SS w u k ∧ coneE k = 0 ∧ Sm k ∧ k.length ≤ 1000000) := fun he => ⟨hu, (mErr_zero.1 he).2, sk, hkl⟩
  obtain ⟨m0, hm⟩ : ∃ m, mErr l k = m := ⟨_, rfl⟩
  rw [hm] at HV HD HS HU
  clear h sm hu sk hm hkl
  by_cases h0 : m0 = 0
  · subst h0
    rw [if_pos rfl] at HD
    by_cases h1 : 1 ≤ b
    · rw [if_pos h1] at HD
      obtain ⟨m, rfl⟩ : ∃ m : Nat, b = (m : Int) := ⟨b.toNat, by omega⟩
      rw [Int.toNat_natCast] at HD
      have hm1 : 1 ≤ m := by omega
      have HST := hid_of (fun W u' k1 a1 a2 a3 a4 a5 a6 => HS.out rfl W u' k1 a1 a2 a3 a4 a5 a6)
      have HU2 := hid_of (HU.out rfl)
      clear HS HU
      go_enter Tryz.func21, Tryz.ntmps21
      go_wp2_with fail
      refine HV.out.mono ?_
      rintro e w1 ⟨rfl, hb1⟩
      have H1 : Hid (DrS w w1 u l m k) := ⟨k, HU2.out.1.later hb1, HU2.out.2.1, HU2.out.2.2.1, HU2.out.2.2.2, rfl, hb1⟩
      clear hb1
      go_wp2_with fail
      go_loopw [1] (fun s1 wr => DrS w wr s1 l m k) (fun s1 _ => lenV s1)
      case atStart => exact H1.out
      case round =>
        obtain ⟨k1, hs1, hk1, sk1, hkk, hd1, hb⟩ := hrel
        obtain ⟨ad, c, hv, -⟩ := hs1.form
        obtain ⟨n, hn⟩ : ∃ n, k1.length = n := ⟨_, rfl⟩
        rw [hn] at hv hkk
        subst hv
        have HN := hid_of hn
        have HR := hid_of (And.intro hs1 (And.intro hk1 (And.intro sk1 (And.intro hd1 hb))))
        clear hs1 hk1 sk1 hd1 hb hn
        by_cases hlt : m < n
        · have i1 : (m : Int) < (n : Int) := by omega
          have h2 : 2 ≤ k1.length := by rw [HN.out]; omega
          have HSS := hid_of (HST.out wr _ k1 HR.out.2.2.2.2 HR.out.1 HR.out.2.1 HR.out.2.2.1 (by rw [HN.out]; exact hkk) h2)
          have HNX : Hid (coneE (stp l k1) = 0 ∧ Sm (stp l k1) ∧ dwn l m (stp l k1) = dwn l m k ∧ (stp l k1).length < n) := ⟨stp_ok HR.out.2.1, stp_sm HR.out.2.1 HR.out.2.2.1, by rw [← dwn_step hm1 HR.out.2.1 (by rw [HN.out]; exact hlt)]; exact HR.out.2.2.2.1, by rw [← HN.out]; exact (stp_fewer HR.out.2.1 h2).1⟩
          clear h2
          go_wp2_with fail
          refine HSS.out.mono ?_
          rintro e w2 ⟨v2, rfl, ho2, hb2⟩
          obtain ⟨a2, c2, hv2, -⟩ := ho2.bs.form
          subst hv2
          have H2 : Hid (DrS w w2 (.slice a2 (stp l k1).length c2) l m k) := ⟨stp l k1, ho2.bs, HNX.out.1, HNX.out.2.1, by have := HNX.out.2.2.2; omega, HNX.out.2.2.1, bstep HR.out.2.2.2.2 hb2⟩
          clear ho2 hb2
          go_wp2_with fail
          go_roundw
          case rel => exact H2.out
          case measure => exact HNX.out.2.2.2
        · have i1 : ¬ ((m : Int) < (n : Int)) := by omega
          have HE : Hid (dwn l m k = k1) := by
            show _ = _
            rw [← HR.out.2.2.2.1]
            exact dwn_done (by rw [HN.out]; omega)
          go_wp2_with fail
          go_ret2
          rw [HD.out, HE.out]
          exact ⟨_, rfl, HR.out.1, HR.out.2.2.2.2⟩
    · rw [if_neg h1] at HD
      have h1' : b < 1 := by omega
      clear HS HU
      go_enter Tryz.func21, Tryz.ntmps21
      go_wp2_with fail
      refine HV.out.mono ?_
      rintro e w1 ⟨rfl, hb1⟩
      have H1 := hid_of hb1
      clear hb1
      go_wp2_with fail
      go_ret2
      rw [HD.out]
      exact ⟨_, rfl, SS_nil _, H1.out⟩
  · rw [if_neg h0] at HD
    clear HS HU
    go_enter Tryz.func21, Tryz.ntmps21
    go_wp2_with fail
    refine HV.out.mono ?_
    rintro e w1 ⟨rfl, hb1⟩
    have H1 := hid_of hb1
    clear hb1
    go_wp2_with fail
    go_ret2
    rw [HD.out]
    exact ⟨_, rfl, SS_nil _, H1.out⟩
end Go.Proofs.YtbaheiimcnfaaaaGreat

namespace Go.Proofs.YtbaheiimcnfaaaaGreat
open Go.RowKit Go.Maps
attribute [local go_sem] Oper.semAt_some

set_option maxRecDepth 100000 in
set_option maxHeartbeats 4000000 in
theorem mat_big {w : World} {u : Value} {k : List (List UInt8)} (p : List UInt8) (h : SS w u k) (sm : Sm k) (hp : p.length ≤ 4194304) : Calls Tryz.prog 15 #[u, .string (bs p)] w (TwoS w (mat k p)) := by
  have HV := hid_of (cvalid_any h sm)
  have HP := hid_of (fun W => valid_any p W (by omega))
  have HCL := hid_of (fun W (hW : Below w.heap.size w W) => sclone_any (h.later hW) sm)
  have HM := hid_of (fun (hk : coneE k = 0) W v (ho : Own w.heap.size W v k) => mergeAt_any ho hk sm p (by omega))
  have HD : Hid (TwoS w (mat k p) = TwoS w (if coneE k = 0 then (if okP p = true then (wid p false k, 0) else ([], 7)) else ([], 13))) := rfl
  obtain ⟨c, hc⟩ : ∃ c, coneE k = c := ⟨_, rfl⟩
  obtain ⟨q, hq⟩ : ∃ q, okP p = q := ⟨_, rfl⟩
  have hc' : c = 0 ∨ c = 13 := by rw [← hc]; unfold coneE; split <;> simp
  rw [hc, hq] at HD
  rw [hc] at HV HM
  rw [hq] at HP
  clear h sm hp hc hq
  rcases hc' with rfl | rfl
  · cases q
    · go_enter Tryz.func15, Tryz.ntmps15
      go_wp2_with fail
      refine HV.out.mono ?_
      rintro e w1 ⟨rfl, hb⟩
      have H1 := hid_of hb
      clear hb
      go_wp2_with fail
      refine (HP.out w1).mono ?_
      rintro e w2 ⟨rfl, hb2⟩
      have H2 := hid_of (bstep H1.out hb2)
      clear hb2
      go_wp2_with fail
      go_ret2
      rw [HD.out]
      exact ⟨_, rfl, Own.nil _ _, H2.out⟩
    · go_enter Tryz.func15, Tryz.ntmps15
      go_wp2_with fail
      refine HV.out.mono ?_
      rintro e w1 ⟨rfl, hb⟩
      have H1 := hid_of hb
      clear hb
      go_wp2_with fail
      refine (HP.out w1).mono ?_
      rintro e w2 ⟨rfl, hb2⟩
      have H2 := hid_of (bstep H1.out hb2)
      clear hb2
      go_wp2_with fail
      refine (HCL.out w2 H2.out).mono ?_
      rintro e w3 ⟨v3, rfl, ho3, hb3⟩
      have H3 := hid_of (And.intro ho3 (bstep H2.out hb3))
      have H2s := hid_of H2.out.size
      clear ho3 hb3
      go_wp2_with fail
      refine (HM.out trivial w3 v3 (H3.out.1.mono H2s.out)).mono ?_
      rintro e w4 ⟨v4, rfl, ho4, hon, -⟩
      have H4 := hid_of (And.intro ho4 hon)
      clear ho4 hon
      go_wp2_with fail
      go_ret2
      rw [HD.out]
      refine ⟨_, rfl, H4.out.1, ?_⟩
      refine below_trans H3.out.2 (Only.below H4.out.2 H3.out.2.size fun x hx => ?_)
      have := (H3.out.1.lt (k := x) (by simpa [eq_comm] using hx)).1
      have := H2s.out
      omega
  · go_enter Tryz.func15, Tryz.ntmps15
    go_wp2_with fail
    refine HV.out.mono ?_
    rintro e w1 ⟨rfl, hb⟩
    have H1 := hid_of hb
    clear hb
    go_wp2_with fail
    go_ret2
    rw [HD.out]
    exact ⟨_, rfl, Own.nil _ _, H1.out⟩
set_option maxRecDepth 100000 in
set_option maxHeartbeats 8000000 in
theorem rat_big (M : MC) (V : ∀ (p : List UInt8) (w : World), p.length ≤ 4194304 → Calls Tryz.prog 25 #[.string (bs p)] w fun e w' => e = .returned (.bool (okP p)) ∧ Below w.heap.size w w')
    {w : World} {u : Value} {k : List (List UInt8)} (p : List UInt8) (h : SS w u k) (sk : Sm k) (hp : p.length ≤ 4194304) (hl : k.length ≤ 1000000) : Calls Tryz.prog 19 #[u, .string (bs p)] w (TwoS w (mat k p)) := by
  have HX : Hid (SS w u k ∧ Sm k ∧ p.length ≤ 4194304) := ⟨h, sk, hp⟩
  have HVV := hid_of (fun W => V p W hp)
  obtain ⟨ka, kc, hv, hc⟩ := h.form
  obtain ⟨n, hn⟩ : ∃ n, k.length = n := ⟨_, rfl⟩
  rw [hn] at hv hl
  subst hv
  have HN : Hid (k.length = n) := hn
  have HC : Hid (∀ j, (hj : j < k.length) → ∃ b off, ka = some ⟨b, off, none⟩ ∧ b < w.heap.size ∧ w.cell? ⟨b, off + j, none⟩ = some (.string (bs k[j]))) := hc
  clear h sk hp hn hc V
  go_enter Tryz.func19, Tryz.ntmps19
  go_wp2_with fail
  refine (M.cones HX.out.1 HX.out.2.1).mono ?_
  rintro e w1 ⟨rfl, hb1⟩
  have HB1 : Hid (Below w.heap.size w w1) := hb1
  clear hb1
  obtain ⟨cb, hcb⟩ : ∃ cb, coneB k = cb := ⟨_, rfl⟩
  rw [hcb]
  cases cb
  · have HM : Hid (mat k p = ([], 13)) := by
      show mat k p = ([], 13)
      unfold mat coneE
      rw [hcb]; rfl
    go_wp2_with fail
    refine bodyPost_ret (results_tmp2 rfl _ _ _) rfl ?_
    unfold TwoS
    rw [HM.out]
    exact ⟨_, rfl, Own.nil _ _, HB1.out⟩
  · have hc0 : coneE k = 0 := by unfold coneE; rw [hcb]; rfl
    clear hcb
    go_wp2_with fail
    refine (HVV.out w1).mono ?_
    rintro e w2 ⟨rfl, hb2⟩
    have HB2 : Hid (Below w.heap.size w w2) := bstep HB1.out hb2
    clear hb2 HVV HB1
    obtain ⟨ob, hob⟩ : ∃ ob, okP p = ob := ⟨_, rfl⟩
    rw [hob]
    cases ob
    · have HM : Hid (mat k p = ([], 7)) := by
        show mat k p = ([], 7)
        unfold mat
        rw [if_pos hc0, if_neg (by rw [hob]; simp)]
      go_wp2_with fail
      refine bodyPost_ret (results_tmp2 rfl _ _ _) rfl ?_
      unfold TwoS
      rw [HM.out]
      exact ⟨_, rfl, Own.nil _ _, HB2.out⟩
    · have HM : Hid (mat k p = (wid p false k, 0)) := by
        show mat k p = (wid p false k, 0)
        unfold mat
        rw [if_pos hc0, if_pos hob]
      have HLN : Hid ((∀ c ∈ k, c.length ≤ 120) ∧ p.length ≤ 120) := ⟨fun c hc => (okP_len ((coneB_iff.1 (coneE_zero.1 hc0)).1 c hc)).1, (okP_len hob).1⟩
      clear hc0 hob
      go_wp2_with fail
      go_loopw [6, 7, 8] (fun s6 s7 s8 wr => ∃ (i : Nat) (done : Bool) (out : List (List UInt8)), s7 = .bool done ∧ s8 = .int .i64 i ∧ i ≤ n ∧ out.length ≤ i ∧ Own w.heap.size wr s6 out ∧ out ++ wid p done (k.drop i) = wid p false k ∧ Below w.heap.size w wr) (fun _ _ s8 _ => n - (intOf s8).toNat)
      case atStart => exact ⟨0, false, [], rfl, rfl, Nat.zero_le _, by simp, Own.nil _ _, rfl, HB2.out⟩
      case round =>
        obtain ⟨i, done, out, rfl, rfl, hi, hol, hown, hwd, hb⟩ := hrel
        have HR : Hid (Own w.heap.size wr u6 out ∧ out ++ wid p done (k.drop i) = wid p false k ∧ Below w.heap.size w wr ∧ out.length ≤ i) := ⟨hown, hwd, hb, hol⟩
        clear hown hwd hb hol
        by_cases hlt : i < n
        · have i1 : (i : Int) < (n : Int) := by omega
          have i2 : (0 : Int) ≤ (i : Int) := by omega
          have hil : i < k.length := by rw [HN.out]; exact hlt
          obtain ⟨b, off, ea, hbl, c0⟩ := HC.out i hil
          subst ea
          have hst := wid_at p k i hil done
          have hcl := HLN.out.1 _ (List.getElem_mem hil)
          generalize k[i] = c at c0 hst hcl
          have HC0 : Hid (∀ W, Below w.heap.size w W → W.cell? ⟨b, off + i, none⟩ = some (.string (bs c))) := fun W hW => (hW.cell (p := ⟨b, off + i, none⟩) hbl).trans c0
          have c1 := HC0.out wr HR.out.2.2.1
          have t1 : (bs c).toList = c := bs_toList _
          have t2 : (bs p).toList = p := bs_toList _
          have hsz := HR.out.2.2.1.size
          obtain ⟨d, hd⟩ : ∃ d, (c == p) = d := ⟨_, rfl⟩
          have hd2 : decide (c = p) = d := by rw [← hd]; exact Bool.eq_iff_iff.2 (by simp)
          rw [hd2] at hst
          clear c0
          cases d
          · have hd3 : (c != p) = true := by rw [bne, hd]; rfl
            go_wp2_with fail
            refine (M.above p c wr HLN.out.2 hcl).mono ?_
            rintro e w3 ⟨rfl, hb3⟩
            have HB3 : Hid (Below wr.heap.size wr w3) := hb3
            clear hb3
            obtain ⟨a, ha⟩ : ∃ a, abvV p c = a := ⟨_, rfl⟩
            rw [ha] at hst ⊢
            have c2 := HC0.out w3 (bstep HR.out.2.2.1 HB3.out)
            cases a
            · have hown := HR.out.1.later HB3.out
              have hDl : out.length + 1 ≤ 8796093022208 := by have := HR.out.2.2.2; omega
              have hzw : w.heap.size ≤ w3.heap.size := (bstep HR.out.2.2.1 HB3.out).size
              go_wp2_with (at_builtin; refine app_one (base := w.heap.size) c hown hDl hzw rfl (.tmp 36) (.tmp 41) rfl rfl rfl ?_; intro v' w' ho hbw hbs' hgr hat)
              go_roundw
              case rel => exact ⟨i + 1, done, out ++ [c], rfl, by go_num, by omega, by rw [List.length_append]; have := HR.out.2.2.2; simp; omega, ho, by rw [List.append_assoc, ← HR.out.2.1, hst]; rfl, below_trans (bstep HR.out.2.2.1 HB3.out) hbw⟩
              case measure => simp [intOf]; omega
            · cases done
              · have hown := HR.out.1.later HB3.out
                have hDl : out.length + 1 ≤ 8796093022208 := by have := HR.out.2.2.2; omega
                have hzw : w.heap.size ≤ w3.heap.size := (bstep HR.out.2.2.1 HB3.out).size
                go_wp2_with (at_builtin; refine app_one (base := w.heap.size) p hown hDl hzw rfl (.tmp 45) (.tmp 47) rfl rfl rfl ?_; intro v' w' ho hbw hbs' hgr hat)
                go_roundw
                case rel => exact ⟨i + 1, true, out ++ [p], rfl, by go_num, by omega, by rw [List.length_append]; have := HR.out.2.2.2; simp; omega, ho, by rw [List.append_assoc, ← HR.out.2.1, hst]; rfl, below_trans (bstep HR.out.2.2.1 HB3.out) hbw⟩
                case measure => simp [intOf]; omega
              · go_wp2_with fail
                go_roundw
                case rel => exact ⟨i + 1, true, out, rfl, by go_num, by omega, by have := HR.out.2.2.2; omega, HR.out.1.later HB3.out, by rw [← HR.out.2.1, hst]; rfl, bstep HR.out.2.2.1 HB3.out⟩
                case measure => simp [intOf]; omega
          · have hd3 : (c != p) = false := by rw [bne, hd]; rfl
            cases done
            · have hown := HR.out.1
              have hDl : out.length + 1 ≤ 8796093022208 := by have := HR.out.2.2.2; omega
              have hzw : w.heap.size ≤ wr.heap.size := (HR.out.2.2.1).size
              go_wp2_with (at_builtin; refine app_one (base := w.heap.size) p hown hDl hzw rfl (.tmp 45) (.tmp 47) rfl rfl rfl ?_; intro v' w' ho hbw hbs' hgr hat)
              go_roundw
              case rel => exact ⟨i + 1, true, out ++ [p], rfl, by go_num, by omega, by rw [List.length_append]; have := HR.out.2.2.2; simp; omega, ho, by rw [List.append_assoc, ← HR.out.2.1, hst]; rfl, below_trans (HR.out.2.2.1) hbw⟩
              case measure => simp [intOf]; omega
            · go_wp2_with fail
              go_roundw
              case rel => exact ⟨i + 1, true, out, rfl, by go_num, by omega, by have := HR.out.2.2.2; omega, HR.out.1, by rw [← HR.out.2.1, hst]; rfl, HR.out.2.2.1⟩
              case measure => simp [intOf]; omega
        · obtain rfl : n = i := by omega
          have hfin : out = wid p false k := by
            have h1 := HR.out.2.1
            rw [List.drop_eq_nil_of_le (by rw [HN.out]; exact Nat.le_refl _)] at h1
            rw [← h1]
            cases done <;> simp [wid]
          go_wp2_with fail
          refine bodyPost_ret (results_tmp2 rfl _ _ _) rfl ?_
          unfold TwoS
          rw [HM.out]
          exact ⟨_, rfl, by rw [← hfin]; exact HR.out.1, HR.out.2.2.1⟩
end Go.Proofs.YtbaheiimcnfaaaaGreat
