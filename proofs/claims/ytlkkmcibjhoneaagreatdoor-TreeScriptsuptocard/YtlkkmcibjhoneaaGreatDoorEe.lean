/-
  The law TreeScripts, of the contracts.
-/
import Derived.Test.YtlkkmcibjhoneaaGreatDoorJTs
namespace Go.Proofs.YtlkkmcibjhoneaaGreatDoor
open Go.RowKit

/-- the tree behind the first steps of a script -/
def scT (l : List Fl) (S : List Opp) (k : Nat) : TT := (S.take k).foldl (fun T o => opT o T) (newT l)
theorem scT_succ (l : List Fl) (S : List Opp) (k : Nat) (h : k < S.length) : scT l S (k + 1) = opT (S[k]'h) (scT l S k) := by
  unfold scT
  rw [List.take_succ_eq_append_getElem h, List.foldl_append]
  rfl
theorem scT_ok {l : List Fl} (hv : validE l = 0) (S : List Opp) : ∀ k, k ≤ S.length → TOk (scT l S k)
  | 0, _ => TOk.new hv
  | k + 1, h => by
    rw [scT_succ l S k h]
    exact (scT_ok hv S k (by omega)).opT _
theorem TZ.new {l : List Fl} (hv : validE l = 0) (hm : FSm l) : TZ 70000 (newT l) := by
  have h := TSz.new hv hm
  exact ⟨h.nf, h.nd, by show ([] : List UInt8).length + ([] : List UInt8).length ≤ 70000; simp, h.ns, h.ef, h.s1⟩
theorem scT_sz {l : List Fl} (hv : validE l = 0) (hm : FSm l) {S : List Opp} (ho : ∀ o ∈ S, Ook o) : ∀ k, k ≤ S.length → TZ (70000 + bsm (S.take k)) (scT l S k)
  | 0, _ => by
    have := TZ.new hv hm
    exact this.mono (by omega)
  | k + 1, h => by
    rw [scT_succ l S k h, bsm_snoc S k h]
    have := (scT_sz hv hm ho k (by omega)).op (scT_ok hv S k (by omega)) (ho _ (List.getElem_mem h))
    exact this.mono (by omega)
theorem B2.cast {TA : World → (Nat → Prop) → Nat → TT → Prop} {P : Nat → Prop} {B c d : Nat} {w W : World} {T U : TT} (h : B2 TA P B w W c T d T) (e : T = U) : B2 TA P B w W c U d U := e ▸ h

set_option maxHeartbeats 16000000 in
set_option maxRecDepth 100000 in
theorem tscripts_law {TA : World → (Nat → Prop) → Nat → TT → Prop} (C : TcP TA) {w : World} (E : Ev w) {vl vs : Value} {l : List Fl} {S : List Opp} (hl : FS w vl l) (hm : FSm l) (hlb : l.length ≤ 4000000 ∧ ∀ f ∈ l, f.path.length ≤ 100000000) (hs : OS (fun k => k < w.heap.size) w vs S)
    (ho : ∀ o ∈ S, Ook o) (hop : ∀ o ∈ S, o.f.path.length ≤ 100000000) (hn : bsm S ≤ 1050000) :
    Calls Tryz.prog 6 #[vl, vs] w fun e w' => e = .returned (.bool true) ∧ Below w.heap.size w w' := by
  have H0 : Hid (FS w vl l ∧ FSm l ∧ OS (fun k => k < w.heap.size) w vs S) := ⟨hl, hm, hs⟩
  have HLB : Hid (l.length ≤ 4000000 ∧ (∀ f ∈ l, Fok f) ∧ ∀ f ∈ l, f.path.length ≤ 100000000) := ⟨hlb.1, hm.each, hlb.2⟩
  have hfl : Hid (l.length ≤ 1000000000) := hm.len
  have hl4 := hlb.1
  have HEV : Hid (Ev w) := E
  clear hl hm hs hlb E
  go_enter Tryz.func6, Tryz.ntmps6
  go_wp2_with (at_builtin; apply hold)
  unfold Hid
  refine app_files (base := w.heap.size) (l := []) (k := l) (OwnF.nil _ _) H0.out.1.src (by simp; omega) (Nat.le_refl _) rfl (.tmp 14) (.tmp 15) rfl rfl rfl ?_
  intro vm w1 k1 k2 k3
  rw [List.nil_append] at k1
  obtain ⟨N, hN⟩ : ∃ N, l.length = N := ⟨_, rfl⟩
  obtain ⟨ma, mc, e⟩ := k1.form
  subst e
  have HM1 : Hid (OwnF w.heap.size w1 (.slice ma l.length mc) l ∧ Below w.heap.size w w1) := ⟨k1, grown_none k2⟩
  rw [hN] at HM1 ⊢
  rw [hN] at hl4
  have HN : Hid (l.length = N) := hN
  clear k1 k2 k3 hN
  go_wp2_with fail
  refine (C.new HM1.out.1.fs H0.out.2.1 (HEV.out.later HM1.out.2)).mono ?_
  rintro e w2 ⟨hb2, ⟨hv, c, rfl, hc1⟩ | ⟨hno, rfl⟩⟩
  case inr =>
    have HM2 : Hid (OwnF w.heap.size w2 (.slice ma N mc) l ∧ Below w.heap.size w w2) := ⟨HM1.out.1.later hb2, bstep HM1.out.2 hb2⟩
    clear hb2 HM1
    obtain ⟨ec, hec⟩ : ∃ ec, validE l = ec := ⟨_, rfl⟩
    have HEC : Hid (validE l = ec) := hec
    rw [hec] at hno ⊢
    have q1 : (ec == ec) = true := by simp
    have q2 : (ec != ec) = false := by simp
    clear hec
    go_wp2_with fail
    refine (rnew_any (H0.out.1.later HM2.out.2) HLB.out).mono ?_
    rintro e w3 ⟨hb3, ⟨hv, _⟩ | ⟨_, rfl⟩⟩
    · rw [HEC.out] at hv
      exact absurd hv hno
    rw [HEC.out]
    have HM3 : Hid (OwnF w.heap.size w3 (.slice ma N mc) l ∧ Below w.heap.size w w3) := ⟨HM2.out.1.later hb3, bstep HM2.out.2 hb3⟩
    clear hb3 HM2
    go_wp2_with (go_at_call 9; refine (num_any _ _).mono ?_; rintro e wq ⟨rfl, rfl⟩)
    refine (alive_any C _ (HEV.out.later HM3.out.2)).mono ?_
    rintro e w4 ⟨rfl, hb4⟩
    have HM4 : Hid (OwnF w.heap.size w4 (.slice ma N mc) l ∧ Below w.heap.size w w4) := ⟨HM3.out.1.later hb4, bstep HM3.out.2 hb4⟩
    clear hb4 HM3
    go_wp2_with fail
    refine (files_any HM4.out.1.fs (H0.out.1.later HM4.out.2) hfl.out).mono ?_
    rintro e w5 ⟨rfl, hb5⟩
    rw [(leq_iff l l).2 rfl]
    have B5 : Hid (Below w.heap.size w w5) := bstep HM4.out.2 hb5
    clear hb5 HM4
    go_wp2_with fail
    go_ret
    exact ⟨rfl, B5.out⟩
  have HA2 : Hid (TA w2 (fun k => w1.heap.size ≤ k ∧ k < w2.heap.size) c (newT l) ∧ Below w1.heap.size w1 w2) := ⟨hc1, hb2⟩
  clear hc1 hb2
  go_wp2_with fail
  refine (rnew_any (H0.out.1.later (bstep HM1.out.2 HA2.out.2)) HLB.out).mono ?_
  rintro e w3 ⟨hb3, ⟨_, d, rfl, hd1⟩ | ⟨hno, _⟩⟩
  case inr => exact absurd hv hno
  have X3 : Hid (B2 TA (fun k => k < w1.heap.size) w.heap.size w w3 c (newT l) d (newT l) ∧ OwnF w.heap.size w3 (.slice ma N mc) l) := ⟨B2.pair C HEV.out.big HM1.out.2 HM1.out.2.size HA2.out.1 HA2.out.2 hd1 hb3 (fun _ h => h), HM1.out.1.later (bstep HA2.out.2 hb3)⟩
  have HZ1 : Hid (w.heap.size ≤ w1.heap.size ∧ ∀ k, (Value.slice ma N mc).ownBlock = some k → w.heap.size ≤ k ∧ k < w1.heap.size) := ⟨HM1.out.2.size, fun k hk => HM1.out.1.lt hk⟩
  clear hb3 hd1 HA2 HM1
  go_wp2_with (go_at_call 9; refine (num_any _ _).mono ?_; rintro e wq ⟨rfl, rfl⟩)
  refine (alive_any C _ (X3.out.1.ev C)).mono ?_
  rintro e w4 ⟨rfl, hb4⟩
  have X4 : Hid (B2 TA (fun k => k < w1.heap.size) w.heap.size w w4 c (newT l) d (newT l) ∧ OwnF w.heap.size w4 (.slice ma N mc) l) := ⟨X3.out.1.lat C hb4, X3.out.2.later hb4⟩
  clear hb4 X3
  go_wp2_with fail
  refine (files_any X4.out.2.fs (H0.out.1.later X4.out.1.bel) hfl.out).mono ?_
  rintro e w5 ⟨rfl, hb5⟩
  rw [(leq_iff l l).2 rfl]
  have X5 : Hid (B2 TA (fun k => k < w1.heap.size) w.heap.size w w5 c (newT l) d (newT l) ∧ OwnF w.heap.size w5 (.slice ma N mc) l) := ⟨X4.out.1.lat C hb5, X4.out.2.later hb5⟩
  clear hb5 X4
  go_wp2_with fail
  rename_i hKK
  have HK_ : Hid _ := hKK
  clear hKK
  go_loopw [10] (fun i wr => ∃ k : Nat, k ≤ N ∧ i = .int .i64 k ∧ B2 TA (fun k => k < w1.heap.size) w.heap.size w wr c (newT l) d (newT l) ∧ ∃ lm, lm.length = N ∧ OwnF w.heap.size wr (.slice ma N mc) lm) (fun i _ => N - (intOf i).toNat)
  case atStart => exact ⟨0, by omega, rfl, X5.out.1, l, HN.out, X5.out.2⟩
  case round =>
    obtain ⟨k, hk, rfl, hx, lm, l1, l2⟩ := hrel
    have Hx : Hid (B2 TA (fun k => k < w1.heap.size) w.heap.size w wr c (newT l) d (newT l)) := hx
    clear hx
    by_cases hlt : k < N
    · rcases l2.form' with ⟨_, h0⟩ | ⟨g, c', e, _⟩
      · rw [h0] at l1; simp at l1; omega
      obtain rfl : ma = some ⟨g, 0, none⟩ := by injection e
      have hkl : k < lm.length := by omega
      obtain ⟨⟨c0, c1, c2, c3⟩, ⟨f0, f1, f2, f3⟩, -, -⟩ := own_cellF l2 k hkl
      have HS : Hid (OwnF w.heap.size ((((wr.setCell ⟨g, k * 4, none⟩ (.string (bs [37]))).setCell ⟨g, k * 4 + 1, none⟩ (.string (bs []))).setCell ⟨g, k * 4 + 2, none⟩ (.int .i64 0)).setCell ⟨g, k * 4 + 3, none⟩ (.int .i64 0)) (.slice (some ⟨g, 0, none⟩) N mc) (lm.set k (mkP 37))) := own_setF l2 k (mkP 37)
      have i1 : (0 : Int) ≤ (k : Int) := by omega
      have i2 : (k : Int) < (N : Int) := by omega
      clear l2 e
      go_wp2_with fail
      go_roundw
      case rel =>
        have o1 : Only [g] wr ((((wr.setCell ⟨g, k * 4, none⟩ (.string (bs [37]))).setCell ⟨g, k * 4 + 1, none⟩ (.string (bs []))).setCell ⟨g, k * 4 + 2, none⟩ (.int .i64 0)).setCell ⟨g, k * 4 + 3, none⟩ (.int .i64 0)) := (((Only.set _ _ _ _).trans (Only.set _ _ _ _)).trans (Only.set _ _ _ _)).trans (Only.set _ _ _ _)
        obtain ⟨z1, z2⟩ := HZ1.out.2 g rfl
        exact ⟨k + 1, by omega, by go_num, Hx.out.write C z2 z1 o1, _, by rw [List.length_set]; exact l1, HS.out⟩
      case measure => simp [intOf]; omega
    · obtain rfl : N = k := by omega
      clear l1 l2
      go_wp2_with fail
      refine HK_.out _ _ ?_
      clear HK_
      obtain ⟨wo, hwo⟩ : ∃ wo, wo = wr := ⟨_, rfl⟩
      subst hwo
      have Y0 : Hid (B2 TA (fun k => k < w.heap.size) w.heap.size w wo c (newT l) d (newT l)) := Hx.out.less (fun k h => Nat.lt_of_lt_of_le h HZ1.out.1)
      clear Hx X5 HZ1
      obtain ⟨sa, sc_, rfl, hcell⟩ := H0.out.2.2.form
      obtain ⟨M, hM⟩ : ∃ M, S.length = M := ⟨_, rfl⟩
      rw [hM]
      have HM_ : Hid (S.length = M) := hM
      have HC : Hid (∀ wr, Below w.heap.size w wr → ∀ k, (hk : k < S.length) → ∃ g off u, sa = some ⟨g, off, none⟩ ∧ g < w.heap.size ∧ OpC wr g (off + k * 8) S[k] u ∧ (S[k].b ≠ [] → ∀ j, u.ownBlock = some j → j < w.heap.size)) := fun wr hb k hk => by
        obtain ⟨g, off, u, ha, hg, hc, hu⟩ := hcell k hk
        exact ⟨g, off, u, ha, hg, hc.stay hb.size (hb.block g hg) (fun hne j hj => hb.block j (hu hne j hj)), hu⟩
      have hMb : M ≤ 1050000 := by have := len_bsm S; omega
      have HSZ : Hid (∀ k, k ≤ S.length → TSz 1200000 (scT l S k) ∧ TOk (scT l S k)) := fun k hk => ⟨((scT_sz hv H0.out.2.1 ho k hk).sz).mono (by have := bsm_take S k; omega), scT_ok hv S k hk⟩
      clear hcell hM
      go_wp2_with fail
      rename_i hKK
      have HK_ : Hid _ := hKK
      clear hKK
      go_loopw [6, 8, 11] (fun st sr i wr => ∃ k c d : Nat, k ≤ M ∧ st = .pointer (some ⟨c, 0, none⟩) ∧ sr = .pointer (some ⟨d, 0, none⟩) ∧ i = .int .i64 k ∧ B2 TA (fun k => k < w.heap.size) w.heap.size w wr c (scT l S k) d (scT l S k)) (fun _ _ i _ => M - (intOf i).toNat)
      case atStart => exact ⟨0, c, d, by omega, rfl, rfl, rfl, Y0.out⟩
      case round =>
        obtain ⟨k, c, d, hk, rfl, rfl, rfl, hx⟩ := hrel
        have Hx : Hid (B2 TA (fun k => k < w.heap.size) w.heap.size w wr c (scT l S k) d (scT l S k)) := hx
        clear hx
        by_cases hlt : k < M
        · have hkl : k < S.length := by have := HM_.out; omega
          obtain ⟨g, off, u, ea, hg, hc, hu⟩ := HC.out wr Hx.out.bel k hkl
          subst ea
          obtain ⟨o, hoe⟩ : ∃ o, S[k]'hkl = o := ⟨_, rfl⟩
          have hoo := ho _ (List.getElem_mem hkl)
          have hop' := hop _ (List.getElem_mem hkl)
          have hnx := scT_succ l S k hkl
          rw [hoe] at hc hoo hop' hnx hu
          obtain ⟨ua, un, uc, rfl⟩ : ∃ a m c, u = .slice a m c := by
            rcases hc.bs with ⟨⟨a, c, rfl⟩, _⟩ | ⟨b, of, cap, rfl, _⟩
            · exact ⟨_, _, _, rfl⟩
            · exact ⟨_, _, _, rfl⟩
          obtain ⟨T, hT⟩ : ∃ T, scT l S k = T := ⟨_, rfl⟩
          obtain ⟨szT, okT⟩ := HSZ.out k (by omega)
          obtain ⟨szN, okN⟩ := HSZ.out (k + 1) (by omega)
          rw [hnx] at szN okN
          rw [hT] at Hx szT okT hnx szN okN
          have HNX : Hid (scT l S (k + 1) = opT o T) := hnx
          have HZ : Hid (TSz 1200000 T ∧ TOk T ∧ TSz 1200000 (opT o T)) := ⟨szT, okT, szN⟩
          have HO : Hid (OpC wr g (off + k * 8) o (.slice ua un uc) ∧ g < w.heap.size ∧ (o.b ≠ [] → ∀ j, (Value.slice ua un uc).ownBlock = some j → j < w.heap.size)) := ⟨hc, hg, hu⟩
          have HOO : Hid (Ook o ∧ o.f.path.length ≤ 100000000) := ⟨hoo, hop'⟩
          have c0 := hc.c0
          have c1 := hc.c1
          have c2 := hc.c2
          have c3 := hc.c3
          have c4 := hc.c4
          have c5 := hc.c5
          have c6 := hc.c6
          have c7 := hc.c7
          have hk0 := hoo.k0
          have hk1 := hoo.k1
          have n0 := hoo.n0
          have n1 := hoo.n1
          have i1 : (0 : Int) ≤ (k : Int) := by omega
          have i2 : (k : Int) < (M : Int) := by omega
          clear hc hu hoe hoo hop' hnx hT szT okT szN okN
          by_cases h8 : o.kind = 8
          · have hoT : opT o T = T.cr o.n := by unfold opT; rw [if_pos h8]
            obtain ⟨U, hU⟩ : ∃ U, T.cr o.n = U := ⟨_, rfl⟩
            have HU : Hid (T.cr o.n = U ∧ opT o T = U) := ⟨hU, hoT.trans hU⟩
            have HZU : Hid (TSz 1200000 U ∧ TOk U) := ⟨by have := HZ.out.2.2; rwa [HU.out.2] at this, by have := HZ.out.2.1.opT o; rwa [HU.out.2] at this⟩
            have HC7 : Hid (∀ W', Below wr.heap.size wr W' → W'.cell? ⟨g, off + k * 8 + 7, none⟩ = some (.int .i64 o.n)) := fun W' hb => (hb.cell (p := ⟨g, off + k * 8 + 7, none⟩) (Nat.lt_of_lt_of_le HO.out.2.1 Hx.out.bel.size)).trans HO.out.1.c7
            obtain ⟨R, hR⟩ : ∃ R, U.ap [9] = R := ⟨_, rfl⟩
            have HR : Hid (U.ap [9] = R) := hR
            have hRR : (R.2 == R.2) = true := by simp
            have hRR2 : (R.2 != R.2) = false := by simp
            clear hoT hU hR
            go_wp2_with fail
            refine (Hx.out.craT C (HZ.out.1.mono (by omega)) o.n n0 n1).mono ?_
            rintro e a1 ⟨c', rfl, t1, b1⟩
            rw [HU.out.1] at t1
            have A1 : Hid (TA a1 (fun k => wr.heap.size ≤ k ∧ k < a1.heap.size) c' U ∧ Below wr.heap.size wr a1) := ⟨t1, b1⟩
            have e7 : a1.cell? ⟨g, off + k * 8 + 7, none⟩ = some (.int .i64 o.n) := HC7.out _ (A1.out.2)
            clear t1 b1 c0 c1 c2 c3 c4 c5 c6 c7
            go_wp2_with fail
            clear e7
            refine (Hx.out.craR (HZ.out.1.mono (by omega)) A1.out.2 o.n).mono ?_
            rintro e a2 ⟨d', rfl, r2, b2⟩
            rw [HU.out.1] at r2
            have YC : Hid (B2 TA (fun k => k < wr.heap.size) wr.heap.size wr a2 c' U d' U) := B2.pair C (Hx.out.ev C).big (Below.refl _ _) (Nat.le_refl _) A1.out.1 A1.out.2 r2 b2 (fun _ h => h)
            clear r2 b2 A1
            go_wp2_with fail
            refine (YC.out.told C (HZU.out.1.mono (by omega))).mono ?_
            rintro e a3 ⟨rfl, b3⟩
            have YC3 : Hid (B2 TA (fun k => k < wr.heap.size) wr.heap.size wr a3 c' U d' U) := YC.out.lat C b3
            clear b3 YC
            go_wp2_with fail
            refine ((Hx.out.lat C YC3.out.bel).told C (HZ.out.1.mono (by omega))).mono ?_
            rintro e a4 ⟨rfl, b4⟩
            have YC4 : Hid (B2 TA (fun k => k < wr.heap.size ∨ k = a4.heap.size) wr.heap.size wr (a4.alloc (.cells #[.int .u8 9] 5)) c' U d' U) := (YC3.out.lat C b4).later C (balloc _ _) (by
              rintro k (h | h)
              · exact .inl h
              · exact .inr ⟨by omega, by rw [h]; simp⟩)
            clear b4 YC3
            go_wp2_with fail
            refine (YC4.out.stT (Q := fun e _ => e = .returned (.int .i64 R.2)) (R := R.1) (fun F h hP => (C.app h (HZU.out.1.mono (by omega)) (bs_lit a4 9) (fun _ k hk => hP k (.inr (by simpa [Value.ownBlock] using hk.symm))) (by simp)).mono (fun e w' h => by rw [HR.out] at h; exact h))).mono ?_
            rintro e a5 ⟨rfl, x5, -⟩
            have YC5 : Hid (B2 TA (fun k => k < wr.heap.size ∨ k = a5.heap.size) wr.heap.size wr (a5.alloc (.cells #[.int .u8 9] 5)) c' R.1 d' U) := x5.later C (balloc _ _) (by
              rintro k (h | h)
              · exact .inl (.inl h)
              · exact .inr ⟨by omega, by rw [h]; simp⟩)
            clear x5 YC4
            go_wp2_with (go_at_call 9; refine (num_any _ _).mono ?_; rintro e wq ⟨rfl, rfl⟩)
            refine (YC5.out.stR C (Q := fun e _ => e = .returned (.int .i64 R.2)) (R := R.1) (fun G h hP => (rappend_any h (HZU.out.1.mono (by omega)) HZU.out.2 (bs_lit wq 9) (fun _ k hk => hP k (.inr (by simpa [Value.ownBlock] using hk.symm))) (by simp)).mono (fun e w' h => by rw [HR.out] at h; exact h))).mono ?_
            rintro e a6 ⟨rfl, x6, -⟩
            have YO6 : Hid (B2 TA (fun k => k < w.heap.size) w.heap.size w a6 c T d T ∧ Below wr.heap.size wr a6) := ⟨Hx.out.lat C x6.bel, x6.bel⟩
            clear x6 YC5
            go_wp2_with fail
            refine (YO6.out.1.told C (HZ.out.1.mono (by omega))).mono ?_
            rintro e a7 ⟨rfl, b7⟩
            have YO7 : Hid (B2 TA (fun k => k < w.heap.size) w.heap.size w a7 c T d T ∧ Below wr.heap.size wr a7) := ⟨YO6.out.1.lat C b7, bstep YO6.out.2 b7⟩
            clear b7 YO6
            have e7 : a7.cell? ⟨g, off + k * 8 + 7, none⟩ = some (.int .i64 o.n) := HC7.out _ (YO7.out.2)
            go_wp2_with fail
            clear e7
            refine (YO7.out.1.craT C (HZ.out.1.mono (by omega)) o.n n0 n1).mono ?_
            rintro e a8 ⟨c2, rfl, t8, b8⟩
            rw [HU.out.1] at t8
            have A8 : Hid (TA a8 (fun k => a7.heap.size ≤ k ∧ k < a8.heap.size) c2 U ∧ Below a7.heap.size a7 a8) := ⟨t8, b8⟩
            have e7 : a8.cell? ⟨g, off + k * 8 + 7, none⟩ = some (.int .i64 o.n) := HC7.out _ (bstep YO7.out.2 A8.out.2)
            clear t8 b8
            go_wp2_with fail
            clear e7
            refine (YO7.out.1.craR (HZ.out.1.mono (by omega)) A8.out.2 o.n).mono ?_
            rintro e a9 ⟨d2, rfl, r9, b9⟩
            rw [HU.out.1] at r9
            have Y9 : Hid (B2 TA (fun k => k < w.heap.size) w.heap.size w a9 c2 U d2 U) := B2.pair C HEV.out.big YO7.out.1.bel YO7.out.1.bel.size A8.out.1 A8.out.2 r9 b9 (fun k h => Nat.lt_of_lt_of_le h YO7.out.1.bel.size)
            clear r9 b9 A8 YO7
            go_wp2_with fail
            refine (Y9.out.told C (HZU.out.1.mono (by omega))).mono ?_
            rintro e b0 ⟨rfl, bb⟩
            have Y10 : Hid (B2 TA (fun k => k < w.heap.size) w.heap.size w b0 c2 U d2 U) := Y9.out.lat C bb
            clear bb Y9
            go_wp2_with fail
            go_roundw
            case rel => exact ⟨k + 1, c2, d2, by omega, rfl, rfl, by go_num, Y10.out.cast (HU.out.2.symm.trans HNX.out.symm)⟩
            case measure => simp [intOf]; omega
          · have h8b : (o.kind != 8) = true := by simpa using h8
            have h8c : (o.kind == 8) = false := by simpa using h8
            go_wp2_with fail
            refine (does_any C Hx.out (HZ.out.1.mono (by omega)) HZ.out.2.1 HOO.out.1 HOO.out.2 HO.out.1.bs HO.out.2.2 h8).mono ?_
            rintro e w6 ⟨rfl, x6⟩
            have X6 : Hid (B2 TA (fun k => k < w.heap.size) w.heap.size w w6 c (opT o T) d (opT o T)) := x6
            clear x6
            go_wp2_with fail
            refine (X6.out.told C (HZ.out.2.2.mono (by omega))).mono ?_
            rintro e w7 ⟨rfl, hb7⟩
            have X7 : Hid (B2 TA (fun k => k < w.heap.size) w.heap.size w w7 c (opT o T) d (opT o T)) := X6.out.lat C hb7
            clear hb7
            go_wp2_with fail
            go_roundw
            case rel => exact ⟨k + 1, c, d, by omega, rfl, rfl, by go_num, X7.out.cast HNX.out.symm⟩
            case measure => simp [intOf]; omega
        · obtain rfl : M = k := by omega
          go_wp2_with fail
          refine HK_.out _ _ ?_
          clear HK_
          go_wp2_with fail
          refine (Hx.out.told C ((HSZ.out M (by have := HM_.out; omega)).1.mono (by omega))).mono ?_
          rintro e w7 ⟨rfl, hb7⟩
          have B7 : Hid (Below w.heap.size w w7) := bstep Hx.out.bel hb7
          clear hb7
          go_wp2_with fail
          go_ret
          exact ⟨rfl, B7.out⟩
end Go.Proofs.YtlkkmcibjhoneaaGreatDoor
