/-
  One step, and all steps: the package's calls.
-/
import Derived.Test.YtbaheiimcnfaaaaGreatNr
namespace Go.Proofs.YtbaheiimcnfaaaaGreat
open Go.RowKit Go.Maps
attribute [local go_sem] Oper.semAt_some

theorem fok2 {l : List Fl} (h : validE l = 0) (sm : FSm l) : Fok2 l := by
  obtain ⟨h1, h2, _⟩ := valid_fls h sm
  exact ⟨h1, h2⟩
theorem stp_sm {l : List Fl} {k : List (List UInt8)} (hk : coneE k = 0) (sk : Sm k) : Sm (stp l k) := by
  by_cases h2 : 2 ≤ k.length
  · obtain ⟨d, hd, e, _⟩ := stp_at (l := l) h2
    obtain ⟨_, _, _, _, _, _, hok, _⟩ := cone_two hk hd
    rw [e]
    refine ⟨?_, fun x hx => ?_⟩
    · have := (wid_two hk hd).2.1
      have := sk.len
      omega
    · rcases wid_mem hx with ⟨rfl, _, _⟩ | ⟨hx, _⟩
      · have := (okP_len hok).1
        omega
      · exact sk.each x hx
  · rw [stp_short (by omega)]; exact sk
set_option maxRecDepth 100000 in
set_option maxHeartbeats 4000000 in
theorem mStep_any {w : World} {v u : Value} {l : List Fl} {k : List (List UInt8)} (h : FS w v l) (sm : FSm l) (hu : SS w u k) (sk : Sm k) : Calls Tryz.prog 10 #[v, u] w (TwoS w (mstp l k)) := by
  by_cases he : mErr l k = 0
  · have HB := hid_of (begin_good h sm hu sk he)
    obtain ⟨hv, hk⟩ := mErr_zero.1 he
    have HS := hid_of (fun (W : World) (gm t : Nat) (F : Nat → Prop) (vk vc : Value) (h2 : 2 ≤ k.length) (hm : MG w.heap.size W gm t F vk vc (cst l k) k (cdl l k) (hid l k)) (hB : w.heap.size ≤ W.heap.size) => mstep_any (fok2 hv sm) hk sk h2 hm hB)
    have HD : Hid (TwoS w (mstp l k) = TwoS w (stp l k, 0)) := by show _ = _; unfold mstp; rw [if_pos he]
    have HSH := hid_of (fun h2 : k.length < 2 => stp_short (l := l) h2)
    obtain ⟨n, hn⟩ : ∃ n, k.length = n := ⟨_, rfl⟩
    have HN := hid_of hn
    clear h sm hu sk he hv hk hn
    go_enter Tryz.func10, Tryz.ntmps10
    go_wp2_with fail
    refine HB.out.mono ?_
    rintro e w1 ⟨gm, t, F, vk, vc, rfl, hm, hb⟩
    obtain ⟨ak, ck, hvk, -⟩ := hm.own.bs.form
    rw [HN.out] at hvk
    subst hvk
    have H1 := hid_of (And.intro hm hb)
    obtain ⟨q0, -, -, -, -⟩ := hm.cells
    clear hm hb
    by_cases h2 : 2 ≤ n
    · have k1 : (1 : Int) < (n : Int) := by omega
      have HST := hid_of (HS.out w1 gm t F _ vc (by rw [HN.out]; exact h2) H1.out.1 H1.out.2.size)
      go_wp2_with fail
      refine HST.out.mono ?_
      rintro e w2 ⟨rfl, t2, F2, vk2, vc2, hm2, hb2⟩
      obtain ⟨ak2, ck2, hvk2, -⟩ := hm2.own.bs.form
      obtain ⟨n2, hn2⟩ : ∃ n2, (stp l k).length = n2 := ⟨_, rfl⟩
      rw [hn2] at hvk2
      subst hvk2
      have H2 := hid_of (And.intro hm2 (below_trans H1.out.2 hb2))
      clear q0
      obtain ⟨q0, -, -, -, -⟩ := hm2.cells
      clear hm2 hb2 hn2
      go_wp2_with fail
      go_ret2
      rw [HD.out]
      exact ⟨_, rfl, H2.out.1.own, H2.out.2⟩
    · have k1 : ¬ ((1 : Int) < (n : Int)) := by omega
      have HE : Hid (stp l k = k) := HSH.out (by rw [HN.out]; omega)
      go_wp2_with fail
      go_ret2
      rw [HD.out, HE.out]
      exact ⟨_, rfl, H1.out.1.own, H1.out.2⟩
  · have HB := hid_of (begin_bad h sm hu sk he)
    have HD : Hid (TwoS w (mstp l k) = TwoS w ([], mErr l k)) := by show _ = _; unfold mstp; rw [if_neg he]
    obtain ⟨m, hm⟩ : ∃ m, mErr l k = m := ⟨_, rfl⟩
    rw [hm] at HB HD he
    clear h sm hu sk hm
    go_enter Tryz.func10, Tryz.ntmps10
    go_wp2_with fail
    refine HB.out.mono ?_
    rintro e w1 ⟨rfl, hb⟩
    have H1 := hid_of hb
    clear hb
    go_wp2_with fail
    go_ret2
    rw [HD.out]
    exact ⟨_, rfl, Own.nil _ _, H1.out⟩
/-- how many cones the state has -/
def mlen (w : World) (gm : Nat) : Nat := match w.cell? ⟨gm, 0, none⟩ with
  | some (.slice _ n _) => n
  | _ => 0
theorem MG.mlen {B : Nat} {w : World} {gm t : Nat} {F : Nat → Prop} {vk vc : Value} {c : Int} {k : List (List UInt8)} {C : List Cnd} {H : List Fl} (h : MG B w gm t F vk vc c k C H) : mlen w gm = k.length := by
  obtain ⟨q0, -, -, -, -⟩ := h.cells
  obtain ⟨ak, ck, hvk, -⟩ := h.own.bs.form
  unfold Go.Proofs.YtbaheiimcnfaaaaGreat.mlen
  rw [q0, hvk]
/-- the state while there are too many -/
def DnS (w wr : World) (gm : Nat) (l : List Fl) (b : Nat) (k0 : List (List UInt8)) : Prop := ∃ t F vk vc k, MG w.heap.size wr gm t F vk vc (cst l k) k (cdl l k) (hid l k) ∧ coneE k = 0 ∧ Sm k ∧ dwn l b k = dwn l b k0 ∧ Below w.heap.size w wr
set_option maxRecDepth 100000 in
set_option maxHeartbeats 4000000 in
theorem mDown_any {w : World} {v u : Value} {l : List Fl} {k : List (List UInt8)} (b : Int) (h : FS w v l) (sm : FSm l) (hu : SS w u k) (sk : Sm k) (_hb0 : -9223372036854775808 ≤ b) (_hb1 : b ≤ 9223372036854775807) : Calls Tryz.prog 17 #[v, u, .int .i64 b] w (TwoS w (mdwn l k b)) := by
  by_cases he : mErr l k = 0
  · have HB := hid_of (begin_good h sm hu sk he)
    obtain ⟨hv, hk⟩ := mErr_zero.1 he
    have HL := hid_of (And.intro (fok2 hv sm) (And.intro hk sk))
    have HD : Hid (TwoS w (mdwn l k b) = TwoS w (if 1 ≤ b then (dwn l b.toNat k, 0) else ([], 6))) := by show _ = _; unfold mdwn; rw [if_pos he]
    clear h sm hu sk he hv hk
    by_cases h1 : 1 ≤ b
    · rw [if_pos h1] at HD
      obtain ⟨m, rfl⟩ : ∃ m : Nat, b = (m : Int) := ⟨b.toNat, by omega⟩
      rw [Int.toNat_natCast] at HD
      have hm1 : 1 ≤ m := by omega
      go_enter Tryz.func17, Tryz.ntmps17
      go_wp2_with fail
      refine HB.out.mono ?_
      rintro e w1 ⟨gm, t, F, vk, vc, rfl, hm, hb⟩
      have H1 : Hid (DnS w w1 gm l m k) := ⟨t, F, vk, vc, k, hm, HL.out.2.1, HL.out.2.2, rfl, hb⟩
      clear hm hb
      go_wp2_with fail
      go_loopw [] (fun wr => DnS w wr gm l m k) (fun wr => mlen wr gm)
      case atStart => exact H1.out
      case round =>
        obtain ⟨t, F, vk, vc, k1, hm, hk1, sk1, hd1, hb⟩ := hrel
        have HR := hid_of (And.intro hm (And.intro hk1 (And.intro sk1 (And.intro hd1 hb))))
        obtain ⟨ak, ck, hvk, -⟩ := hm.own.bs.form
        obtain ⟨n, hn⟩ : ∃ n, k1.length = n := ⟨_, rfl⟩
        rw [hn] at hvk
        subst hvk
        have HN := hid_of hn
        obtain ⟨q0, -, -, -, -⟩ := hm.cells
        clear hm hk1 sk1 hd1 hb hn
        by_cases hlt : m < n
        · have i1 : (m : Int) < (n : Int) := by omega
          have h2 : 2 ≤ k1.length := by rw [HN.out]; omega
          have HST := hid_of (mstep_any HL.out.1 HR.out.2.1 HR.out.2.2.1 h2 HR.out.1 HR.out.2.2.2.2.size)
          have HNX : Hid (coneE (stp l k1) = 0 ∧ Sm (stp l k1) ∧ dwn l m (stp l k1) = dwn l m k ∧ (stp l k1).length < k1.length) := ⟨stp_ok HR.out.2.1, stp_sm HR.out.2.1 HR.out.2.2.1, by rw [← dwn_step hm1 HR.out.2.1 (by rw [HN.out]; exact hlt)]; exact HR.out.2.2.2.1, (stp_fewer HR.out.2.1 h2).1⟩
          clear h2
          go_wp2_with fail
          refine HST.out.mono ?_
          rintro e w2 ⟨rfl, t2, F2, vk2, vc2, hm2, hb2⟩
          have H2 : Hid (DnS w w2 gm l m k ∧ mlen w2 gm < mlen wr gm) := ⟨⟨t2, F2, vk2, vc2, stp l k1, hm2, HNX.out.1, HNX.out.2.1, HNX.out.2.2.1, below_trans HR.out.2.2.2.2 hb2⟩, by rw [hm2.mlen, HR.out.1.mlen]; exact HNX.out.2.2.2⟩
          clear hm2 hb2
          go_wp2_with fail
          go_roundw
          case rel => exact H2.out.1
          case measure => exact H2.out.2
        · have i1 : ¬ ((m : Int) < (n : Int)) := by omega
          have HE : Hid (dwn l m k = k1) := by
            show _ = _
            rw [← HR.out.2.2.2.1]
            exact dwn_done (by rw [HN.out]; omega)
          go_wp2_with fail
          go_ret2
          rw [HD.out, HE.out]
          exact ⟨_, rfl, HR.out.1.own, HR.out.2.2.2.2⟩
    · rw [if_neg h1] at HD
      have h1' : b < 1 := by omega
      go_enter Tryz.func17, Tryz.ntmps17
      go_wp2_with fail
      refine HB.out.mono ?_
      rintro e w1 ⟨gm, t, F, vk, vc, rfl, hm, hb⟩
      have H1 := hid_of hb
      clear hm hb
      go_wp2_with fail
      go_ret2
      rw [HD.out]
      exact ⟨_, rfl, Own.nil _ _, H1.out⟩
  · have HB := hid_of (begin_bad h sm hu sk he)
    have HD : Hid (TwoS w (mdwn l k b) = TwoS w ([], mErr l k)) := by show _ = _; unfold mdwn; rw [if_neg he]
    obtain ⟨m, hm⟩ : ∃ m, mErr l k = m := ⟨_, rfl⟩
    rw [hm] at HB HD he
    clear h sm hu sk hm
    go_enter Tryz.func17, Tryz.ntmps17
    go_wp2_with fail
    refine HB.out.mono ?_
    rintro e w1 ⟨rfl, hb⟩
    have H1 := hid_of hb
    clear hb
    go_wp2_with fail
    go_ret2
    rw [HD.out]
    exact ⟨_, rfl, Own.nil _ _, H1.out⟩
end Go.Proofs.YtbaheiimcnfaaaaGreat
