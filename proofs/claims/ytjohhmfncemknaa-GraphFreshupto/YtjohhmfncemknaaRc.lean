/-
  Reach.
-/
import Derived.Test.YtjohhmfncemknaaJMk
namespace Go.Proofs.Ytjohhmfncemknaa
open Go.RowKit Go.Maps

/-- the edges -/
def Eg (ns : List Lb) (out : Lb → List Lb) : List (Lb × Lb) := ns.flatMap (fun a => (out a).map (fun b => (a, b)))
theorem mem_Eg {w : World} {F : Nat → Prop} {g : Nat} {ns : List Lb} {out : Lb → List Lb} (h : GR w F g ns out) (a b : Lb) : (a, b) ∈ Eg ns out ↔ b ∈ out a := by
  unfold Eg
  rw [List.mem_flatMap]
  constructor
  · rintro ⟨x, _, hx⟩
    obtain ⟨y, hy, e⟩ := List.mem_map.1 hx
    injection e with e1 e2
    subst e1 e2
    exact hy
  · intro hb
    exact ⟨a, (h.sub a b hb).1, List.mem_map.2 ⟨b, hb, rfl⟩⟩
/-- what is met: only what is reached; all beginnings so far; all ends so far -/
structure MR (ns fr : List Lb) (E : List (Lb × Lb)) (M : List Lb) : Prop where
  sub : ∀ x ∈ M, x ∈ ns ∧ Gs.Rch ns E fr x
theorem MR.add {ns fr M : List Lb} {E : List (Lb × Lb)} (h : MR ns fr E M) {a : Lb} (ha : a ∈ ns) (hr : Gs.Rch ns E fr a) : MR ns fr E (addN M a) := by
  refine ⟨fun x hx => ?_⟩
  rcases mem_addN.1 hx with h1 | rfl
  · exact h.sub x h1
  · exact ⟨ha, hr⟩
theorem addN_pre (M : List Lb) (a : Lb) (k : Nat) (hk : k ≤ M.length) : (addN M a).take k = M.take k := by
  unfold addN
  split
  · rfl
  · rw [List.take_append_of_le_length hk]
theorem addN_ge (M : List Lb) (a : Lb) : M.length ≤ (addN M a).length := by unfold addN; split <;> simp

set_option maxRecDepth 100000 in
set_option maxHeartbeats 8000000 in
theorem reach_any {w : World} {F : Nat → Prop} {g : Nat} {ns : List Lb} {out : Lb → List Lb} (h : GR w F g ns out) (hz : ns.length + 2 ≤ 1000000) {v : Value} {fr : List Lb} (hv : LS w v fr) (hl : fr.length ≤ 4000000) (hu : ∀ x ∈ fr, Lu x) :
    Calls Try.prog 12 #[.pointer (some ⟨g, 0, none⟩), v] w fun e w' => ∃ v' R, e = .returned v' ∧ OwnL w.heap.size w' v' R ∧ UpL R ∧ (∀ x, x ∈ R ↔ Gs.Rch ns (Eg ns out) fr x) ∧ Below w.heap.size w w' := by
  have H : Hid (GR w F g ns out ∧ LS w v fr ∧ (∀ x ∈ fr, Lu x) ∧ ns.length + 2 ≤ 1000000) := ⟨h, hv, hu, hz⟩
  have HRM : Hid (Calls Try.prog 30 #[.pointer (some ⟨g, 0, none⟩), v] w fun e w' => ∃ r : Nat, e = .returned (.int .i64 r) ∧ r ≤ 1000000 ∧ Below w.heap.size w w') := room_any h hv hl hu
  obtain ⟨fl, hfl⟩ : ∃ fl, fr.length = fl := ⟨_, rfl⟩
  obtain ⟨av, cv, hvv, _⟩ := hv.form
  rw [hfl] at hvv hl
  subst hvv
  have HFL : Hid (fr.length = fl) := hfl
  clear h hv hu hfl hz
  have hmm := @run_makeMap Try.prog
  go_enter Try.func12, Try.ntmps12
  go_wp2_with fail
  refine HRM.out.mono ?_
  rintro e w1 ⟨r, rfl, hr, hb1⟩
  have HB1 : Hid (Below w.heap.size w w1) := hb1
  clear hb1
  have hr0 : (0 : Int) ≤ (r : Int) := by omega
  have hr1 : (r : Int) ≤ 1000000 := by omega
  have hms := make_L r hr
  have hmp := make_M cU.und r
  simp only [show cU.t = 68 from rfl] at hmp
  have HME0 : Hid (ME w.heap.size (w1.heap.size + 1 + 1 + 1) (w1.heap.size + 1) [] ((((w1.alloc (.cells (mkC r) 31)).alloc (.cells #[.slice (some ⟨w1.heap.size, 0, none⟩) 0 r] 28)).alloc (.map #[] 0)).alloc (.cells #[.map (some (w1.heap.size + 1 + 1))] 68)) ∧ Below w.heap.size w ((((w1.alloc (.cells (mkC r) 31)).alloc (.cells #[.slice (some ⟨w1.heap.size, 0, none⟩) 0 r] 28)).alloc (.map #[] 0)).alloc (.cells #[.map (some (w1.heap.size + 1 + 1))] 68))) := by
    have hsz := HB1.out.size
    refine ⟨⟨⟨w1.heap.size + 1 + 1, ?_, ?_, by omega⟩, ⟨.slice (some ⟨w1.heap.size, 0, none⟩) 0 r, ?_, ?_⟩, by omega, by omega, List.nodup_nil, by simp⟩, ?_⟩
    · have := Boxed.new (((w1.alloc (.cells (mkC r) 31)).alloc (.cells #[.slice (some ⟨w1.heap.size, 0, none⟩) 0 r] 28)).alloc (.map #[] 0)) 68 (.map (some (w1.heap.size + 1 + 1)))
      simpa using this
    · have := (MP.new cU ((w1.alloc (.cells (mkC r) 31)).alloc (.cells #[.slice (some ⟨w1.heap.size, 0, none⟩) 0 r] 28))).later (balloc _ (.cells #[.map (some (w1.heap.size + 1 + 1))] 68))
      simpa using this
    · have := ((Boxed.new (w1.alloc (.cells (mkC r) 31)) 28 (.slice (some ⟨w1.heap.size, 0, none⟩) 0 r)).alloc (.map #[] 0)).alloc (.cells #[.map (some (w1.heap.size + 1 + 1))] 68)
      simpa using this
    · exact (((own_L r hr w1).later (balloc _ _)).later (balloc _ _)).later (balloc _ _) |>.mono hsz
    · exact bstep HB1.out (bstep (balloc _ _) (bstep (balloc _ _) (bstep (balloc _ _) (balloc _ _))))
  go_wp2_with fail
  obtain ⟨Bm, hBm⟩ : ∃ Bm, w1.heap.size + 1 = Bm := ⟨_, rfl⟩
  obtain ⟨Bk, hBk⟩ : ∃ Bk, w1.heap.size + 1 + 1 + 1 = Bk := ⟨_, rfl⟩
  rw [hBm] at HME0
  rw [show Bm + 1 + 1 = Bk by omega] at HME0
  have HBK : Hid (Bm + 1 + 1 = Bk) := by show Bm + 1 + 1 = Bk; omega
  rw [hBm, HBK.out]
  clear hBm hBk hms hmp hmm
  go_loopw [24] (fun s24 wr => ∃ (k : Nat) (M : List Lb), s24 = .int .i64 k ∧ k ≤ fl ∧ ME w.heap.size Bk Bm M wr ∧ MR ns fr (Eg ns out) M ∧ (∀ x ∈ fr.take k, x ∈ ns → x ∈ M) ∧ Below w.heap.size w wr) (fun s24 _ => fl - (intOf s24).toNat)
  case atStart => exact ⟨0, [], rfl, by omega, HME0.out.1, ⟨by simp⟩, by simp, HME0.out.2⟩
  case round =>
    obtain ⟨k, M, rfl, hk, hM, hMR, hfr, hb⟩ := hrel
    have HX : Hid (ME w.heap.size Bk Bm M wr ∧ MR ns fr (Eg ns out) M ∧ (∀ x ∈ fr.take k, x ∈ ns → x ∈ M) ∧ Below w.heap.size w wr) := ⟨hM, hMR, hfr, hb⟩
    clear hM hMR hfr hb
    by_cases hlt : k < fl
    · have hkl : k < fr.length := by rw [HFL.out]; exact hlt
      obtain ⟨b, off, ea, hbw, d0, d1⟩ := LS.at H.out.2.1 HX.out.2.2.2 hkl
      subst ea
      obtain ⟨a, hae⟩ : ∃ a, fr[k] = a := ⟨_, rfl⟩
      have HA : Hid (fr[k] = a ∧ Lu a ∧ a ∈ fr) := by
        have hm : a ∈ fr := by rw [← hae]; exact List.getElem_mem hkl
        exact ⟨hae, H.out.2.2.1 a hm, hm⟩
      rw [hae] at d0 d1
      clear hae
      have k1 : (k : Int) < (fl : Int) := by omega
      have HH : Hid (Calls Try.prog 26 #[.pointer (some ⟨g, 0, none⟩), a.val] (wr.alloc (.cells #[.string (bs a.pkg), .string (bs a.name)] 31)) fun e w' => e = .returned (.bool (decide (a ∈ ns))) ∧ Below (wr.alloc (.cells #[.string (bs a.pkg), .string (bs a.name)] 31)).heap.size (wr.alloc (.cells #[.string (bs a.pkg), .string (bs a.name)] 31)) w') := has_any ((H.out.1.later HX.out.2.2.2).later (balloc _ _)) a HA.out.2.1
      have HRB : Hid (RB (wr.alloc (.cells #[.string (bs a.pkg), .string (bs a.name)] 31)) wr.heap.size a) := RB.new wr a
      by_cases hin : a ∈ ns
      · have e1 : decide (a ∈ ns) = true := by simp [hin]
        rw [e1] at HH
        have HR : Hid (a ∈ ns ∧ MR ns fr (Eg ns out) (addN M a)) := ⟨hin, HX.out.2.1.add hin ⟨a, HA.out.2.2, hin, .refl a⟩⟩
        have HF : Hid (∀ x ∈ fr.take (k + 1), x ∈ ns → x ∈ addN M a) := by
          intro x hx hxn
          rw [List.take_succ_eq_append_getElem hkl, List.mem_append] at hx
          rw [mem_addN]
          rcases hx with hx | hx
          · exact .inl (HX.out.2.2.1 x hx hxn)
          · rw [HA.out.1] at hx
            exact .inr (by simpa using hx)
        have HML : Hid (M.length + 1 ≤ 1000000) := by
          have h1 := Gs.nodup_sub M ns HX.out.1.nd (fun x hx => (HX.out.2.1.sub x hx).1)
          have := H.out.2.2.2
          show M.length + 1 ≤ 1000000
          omega
        have HC : Hid (∀ w', Below wr.heap.size wr w' → Calls Try.prog 31 #[a.val, .pointer (some ⟨Bk, 0, none⟩), .pointer (some ⟨Bm, 0, none⟩)] w' fun e w'' => e = .returned (.tuple #[]) ∧ ME w.heap.size Bk Bm (addN M a) w'' ∧ Below w.heap.size w' w'') := fun w' hb => met_any (HX.out.1.later hb) (Nat.le_trans HX.out.2.2.2.size hb.size) HML.out a HA.out.2.1
        clear e1 hin
        obtain ⟨p, n⟩ := a
        simp only [Lb.val] at HH HC HRB d0 d1
        go_wp2_with fail
        refine HH.out.mono ?_
        rintro e w3 ⟨rfl, hb3⟩
        obtain ⟨c0, c1, _, _⟩ := (HRB.out.later hb3).cells
        simp only at c0 c1
        have HB3 : Hid (Below wr.heap.size wr w3) := bstep (balloc _ _) hb3
        clear hb3
        go_wp2_with fail
        refine (HC.out w3 HB3.out).mono ?_
        rintro e w4 ⟨rfl, hM4, hb4⟩
        have HM4 : Hid (ME w.heap.size Bk Bm (addN M ⟨p, n⟩) w4 ∧ Below w.heap.size w w4) := ⟨hM4, below_trans HX.out.2.2.2 (below_trans (below_mono HB3.out HX.out.2.2.2.size) hb4)⟩
        clear hM4 hb4 c0 c1 d0 d1
        go_wp2_with fail
        go_roundw
        case rel => exact ⟨k + 1, addN M ⟨p, n⟩, by go_num, by omega, HM4.out.1, HR.out.2, HF.out, HM4.out.2⟩
        case measure => simp [intOf]; omega
      · have e1 : decide (a ∈ ns) = false := by simp [hin]
        rw [e1] at HH
        have HF : Hid (∀ x ∈ fr.take (k + 1), x ∈ ns → x ∈ M) := by
          intro x hx hxn
          rw [List.take_succ_eq_append_getElem hkl, List.mem_append] at hx
          rcases hx with hx | hx
          · exact HX.out.2.2.1 x hx hxn
          · rw [HA.out.1] at hx
            have : x = a := by simpa using hx
            exact absurd (this ▸ hxn) hin
        clear e1 hin
        obtain ⟨p, n⟩ := a
        simp only [Lb.val] at HH HRB d0 d1
        go_wp2_with fail
        refine HH.out.mono ?_
        rintro e w3 ⟨rfl, hb3⟩
        have HB3 : Hid (Below wr.heap.size wr w3) := bstep (balloc _ _) hb3
        clear hb3 d0 d1
        go_wp2_with fail
        go_roundw
        case rel => exact ⟨k + 1, M, by go_num, by omega, HX.out.1.later HB3.out, HX.out.2.1, HF.out, below_trans HX.out.2.2.2 (below_mono HB3.out HX.out.2.2.2.size)⟩
        case measure => simp [intOf]; omega
    · obtain rfl : fl = k := by omega
      have HFA : Hid (∀ x ∈ fr, x ∈ ns → x ∈ M) := by
        have := HX.out.2.2.1
        rw [List.take_of_length_le (by rw [HFL.out]; omega)] at this
        exact this
      rename World => wo
      go_wp2_with fail
      go_loopw [11] (fun s11 wr => ∃ (i : Nat) (M : List Lb), s11 = .int .i64 i ∧ i ≤ M.length ∧ ME w.heap.size Bk Bm M wr ∧ MR ns fr (Eg ns out) M ∧ (∀ x ∈ fr, x ∈ ns → x ∈ M) ∧ (∀ x ∈ M.take i, ∀ y ∈ out x, y ∈ M) ∧ Below w.heap.size w wr) (fun s11 _ => ns.length - (intOf s11).toNat)
      case atStart => exact ⟨0, M, rfl, by omega, HX.out.1, HX.out.2.1, HFA.out, by simp, HX.out.2.2.2⟩
      case round =>
        clear HX HFA
        obtain ⟨i, M, rfl, hi, hM, hMR, hfr, hcl, hb⟩ := hrel
        have hMl : M.length + 2 ≤ 1000000 ∧ M.length ≤ ns.length := by
          have h1 := Gs.nodup_sub M ns hM.nd (fun x hx => (hMR.sub x hx).1)
          have := H.out.2.2.2
          omega
        obtain ⟨ml, hml⟩ : ∃ ml, M.length = ml := ⟨_, rfl⟩
        have HX : Hid (ME w.heap.size Bk Bm M wr ∧ MR ns fr (Eg ns out) M ∧ (∀ x ∈ fr, x ∈ ns → x ∈ M) ∧ (∀ x ∈ M.take i, ∀ y ∈ out x, y ∈ M) ∧ Below w.heap.size w wr ∧ M.length = ml ∧ ml ≤ ns.length) := ⟨hM, hMR, hfr, hcl, hb, hml, by omega⟩
        obtain ⟨vm, hvb, hvo⟩ := hM.row
        obtain ⟨am, cm, hvv⟩ := hvo.form
        rw [hml] at hvv hi hMl
        subst hvv
        have hcb := hvb.cell
        have HV : Hid (Boxed wr Bm 28 (.slice am ml cm) ∧ OwnL w.heap.size wr (.slice am ml cm) M) := ⟨hvb, hvo⟩
        have hMl1 := hMl.1
        clear hM hMR hfr hcl hb hml hvb hvo hMl
        by_cases hlt2 : i < ml
        · have hil : i < M.length := by rw [HX.out.2.2.2.2.2.1]; exact hlt2
          obtain ⟨b, off, ea, hbw, d0, d1⟩ := LS.at HV.out.2.rs (Below.refl _ wr) hil
          subst ea
          obtain ⟨a, hae⟩ : ∃ a, M[i] = a := ⟨_, rfl⟩
          have HA : Hid (M[i] = a ∧ a ∈ ns ∧ Lu a ∧ Gs.Rch ns (Eg ns out) fr a) := by
            have hm : a ∈ M := by rw [← hae]; exact List.getElem_mem hil
            have h2 := HX.out.2.1.sub a hm
            exact ⟨hae, h2.1, H.out.1.lu a h2.1, h2.2⟩
          rw [hae] at d0 d1
          clear hae
          have k1 : (i : Int) < (ml : Int) := by omega
          obtain ⟨mm, hmc, _, hmml, _, _, hlk⟩ := H.out.1.map
          obtain ⟨va, hva, _, hlook⟩ := hlk a HA.out.2.2.1
          have hmc3 := (HX.out.2.2.2.2.1.cell (p := ⟨g, 0, none⟩) H.out.1.glt).trans hmc
          have hol := H.out.1.olen a
          obtain ⟨ol, hole⟩ : ∃ ol, (out a).length = ol := ⟨_, rfl⟩
          obtain ⟨aa, ca, hvv⟩ := hva.form
          rw [hole] at hvv hol
          subst hvv
          have HVA : Hid (LS w (.slice aa ol ca) (out a) ∧ (out a).length = ol) := ⟨hva.rs, hole⟩
          have hol2 : ol ≤ 1000000 := by have := H.out.2.2.2; omega
          obtain ⟨p, n⟩ := a
          simp only at d0 d1
          have hlook' : ∀ j, (Instr.lookup 60 (.map (some mm)) (.agg #[.string (bs p), .string (bs n)]) false).run Try.prog (wr.drewN j) = .ok (.slice aa ol ca) (wr.drewN j) := fun j => (hlook (wr.drewN j) (HX.out.2.2.2.2.1.block mm hmml)).1
          clear hlook hlk hmc hva hole hmml
          rename World => w9
          go_wp2_with fail
          go_quiet (fail)
          go_wp2_with fail
          clear d0 d1 hmc3 hlook' hcb
          go_loopw [51] (fun s51 wr => ∃ (j : Nat) (N : List Lb), s51 = .int .i64 j ∧ j ≤ ol ∧ ME w.heap.size Bk Bm N wr ∧ MR ns fr (Eg ns out) N ∧ (∀ x ∈ fr, x ∈ ns → x ∈ N) ∧ N.take (i + 1) = M.take (i + 1) ∧ (∀ x ∈ M.take i, ∀ y ∈ out x, y ∈ N) ∧ (∀ y ∈ (out ⟨p, n⟩).take j, y ∈ N) ∧ Below w.heap.size w wr ∧ i < N.length) (fun s51 _ => ol - (intOf s51).toNat)
          case atStart => exact ⟨0, M, rfl, by omega, HX.out.1.later (bd _ _), HX.out.2.1, HX.out.2.2.1, rfl, HX.out.2.2.2.1, by simp, below_trans HX.out.2.2.2.2.1 (below_mono (bd _ _) HX.out.2.2.2.2.1.size), hil⟩
          case round =>
            obtain ⟨j, N, rfl, hj, hN, hNR, hfr, htk, hcl, hnj, hb, hiN⟩ := hrel
            have HY : Hid (ME w.heap.size Bk Bm N wr ∧ MR ns fr (Eg ns out) N ∧ (∀ x ∈ fr, x ∈ ns → x ∈ N) ∧ N.take (i + 1) = M.take (i + 1) ∧ (∀ x ∈ M.take i, ∀ y ∈ out x, y ∈ N) ∧ (∀ y ∈ (out ⟨p, n⟩).take j, y ∈ N) ∧ Below w.heap.size w wr ∧ i < N.length) := ⟨hN, hNR, hfr, htk, hcl, hnj, hb, hiN⟩
            clear hN hNR hfr htk hcl hnj hb hiN
            by_cases hjl : j < ol
            · have hjl2 : j < (out ⟨p, n⟩).length := by rw [HVA.out.2]; exact hjl
              obtain ⟨b2, off2, ea, hbw2, d0, d1⟩ := LS.at HVA.out.1 HY.out.2.2.2.2.2.2.1 hjl2
              subst ea
              obtain ⟨x, hxe⟩ : ∃ x, (out ⟨p, n⟩)[j] = x := ⟨_, rfl⟩
              have HXX : Hid ((out ⟨p, n⟩)[j] = x ∧ x ∈ out ⟨p, n⟩ ∧ x ∈ ns ∧ Lu x) := by
                have hm : x ∈ out ⟨p, n⟩ := by rw [← hxe]; exact List.getElem_mem hjl2
                have h3 := (H.out.1.sub _ x hm).2
                exact ⟨hxe, hm, h3, H.out.1.lu x h3⟩
              rw [hxe] at d0 d1
              clear hxe
              have k2 : (j : Int) < (ol : Int) := by omega
              have HNL : Hid (N.length + 1 ≤ 1000000) := by
                have h1 := Gs.nodup_sub N ns HY.out.1.nd (fun x hx => (HY.out.2.1.sub x hx).1)
                have := H.out.2.2.2
                show N.length + 1 ≤ 1000000
                omega
              have HC : Hid (Calls Try.prog 31 #[x.val, .pointer (some ⟨Bk, 0, none⟩), .pointer (some ⟨Bm, 0, none⟩)] (wr.alloc (.cells #[.string (bs x.pkg), .string (bs x.name)] 31)) fun e w'' => e = .returned (.tuple #[]) ∧ ME w.heap.size Bk Bm (addN N x) w'' ∧ Below w.heap.size (wr.alloc (.cells #[.string (bs x.pkg), .string (bs x.name)] 31)) w'') := met_any (HY.out.1.later (balloc _ _)) (Nat.le_trans HY.out.2.2.2.2.2.2.1.size (balloc wr _).size) HNL.out x HXX.out.2.2.2
              have HR : Hid (MR ns fr (Eg ns out) (addN N x)) := HY.out.2.1.add HXX.out.2.2.1 (Gs.rch_step HA.out.2.2.2 ((mem_Eg H.out.1 _ _).2 HXX.out.2.1))
              have HT : Hid ((addN N x).take (i + 1) = M.take (i + 1) ∧ (∀ y ∈ (out ⟨p, n⟩).take (j + 1), y ∈ addN N x) ∧ i < (addN N x).length) := by
                refine ⟨(addN_pre N x (i + 1) (by have := HY.out.2.2.2.2.2.2.2; omega)).trans HY.out.2.2.2.1, ?_, Nat.lt_of_lt_of_le HY.out.2.2.2.2.2.2.2 (addN_ge N x)⟩
                intro y hy
                rw [List.take_succ_eq_append_getElem hjl2, List.mem_append, HXX.out.1] at hy
                rw [mem_addN]
                rcases hy with hy | hy
                · exact .inl (HY.out.2.2.2.2.2.1 y hy)
                · exact .inr (by simpa using hy)
              obtain ⟨q, m⟩ := x
              simp only [Lb.val] at HC d0 d1
              go_wp2_with fail
              refine HC.out.mono ?_
              rintro e w4 ⟨rfl, hM4, hb4⟩
              have HM4 : Hid (ME w.heap.size Bk Bm (addN N ⟨q, m⟩) w4 ∧ Below w.heap.size w w4) := ⟨hM4, below_trans HY.out.2.2.2.2.2.2.1 (below_trans (below_mono (balloc _ _) HY.out.2.2.2.2.2.2.1.size) hb4)⟩
              clear hM4 hb4 d0 d1
              go_wp2_with fail
              go_roundw
              case rel => exact ⟨j + 1, addN N ⟨q, m⟩, by go_num, by omega, HM4.out.1, HR.out, fun x hx hn => mem_addN.2 (.inl (HY.out.2.2.1 x hx hn)), HT.out.1, fun x hx y hy => mem_addN.2 (.inl (HY.out.2.2.2.2.1 x hx y hy)), HT.out.2.1, HM4.out.2, HT.out.2.2⟩
              case measure => simp [intOf]; omega
            · obtain rfl : ol = j := by omega
              go_wp2_with fail
              go_roundw
              case rel =>
                refine ⟨i + 1, N, by go_num, by have := HY.out.2.2.2.2.2.2.2; omega, HY.out.1, HY.out.2.1, HY.out.2.2.1, ?_, HY.out.2.2.2.2.2.2.1⟩
                intro x hx y hy
                rw [HY.out.2.2.2.1, List.take_succ_eq_append_getElem hil, List.mem_append, HA.out.1] at hx
                rcases hx with hx | hx
                · exact HY.out.2.2.2.2.1 x hx y hy
                · have : x = ⟨p, n⟩ := by simpa using hx
                  subst this
                  have h6 := HY.out.2.2.2.2.2.1
                  rw [List.take_of_length_le (by rw [HVA.out.2]; omega)] at h6
                  exact h6 y hy
              case measure => have := HX.out.2.2.2.2.2.2; simp [intOf]; omega
        · obtain rfl : ml = i := by omega
          have HALL : Hid (∀ x, x ∈ M ↔ Gs.Rch ns (Eg ns out) fr x) := by
            have h4 := HX.out.2.2.2.1
            rw [List.take_of_length_le (by rw [HX.out.2.2.2.2.2.1]; omega)] at h4
            exact fun x => Gs.rch_iff (fun a ha hn => HX.out.2.2.1 a ha hn) (fun x hx => (HX.out.2.1.sub x hx).2) (fun x hx y hy => h4 x hx y ((mem_Eg H.out.1 _ _).1 hy)) x
          have HS : Hid (Calls Try.prog 32 #[.slice am ml cm, .func (.func 28) #[] #[]] wr fun e w' => e = .returned (.tuple #[]) ∧ OwnL w.heap.size w' (.slice am ml cm) (rs M) ∧ Below w.heap.size wr w' ∧ Only (bl (.slice am ml cm)) wr w') := sort_any HV.out.2 (by rw [HX.out.2.2.2.2.2.1]; omega) HX.out.1.lu HX.out.1.nd HX.out.2.2.2.2.1.size
          go_wp2_with fail
          refine HS.out.mono ?_
          rintro e w8 ⟨rfl, ho8, hb8, hon8⟩
          have hbx : Boxed w8 Bm 28 (.slice am ml cm) := by
            refine (hon8.block Bm HV.out.1.lt (fun hm => ?_)).trans HV.out.1
            have hk : (Value.slice am ml cm).ownBlock = some Bm := by unfold bl at hm; simpa using hm
            rcases OL.of HV.out.2 with ⟨e, _⟩ | ⟨q, cap, rest, e, hol⟩
            · rw [e] at hk; cases hk
            · rw [e] at hk
              simp only [Value.ownBlock, Option.some.injEq] at hk
              subst hk
              have := hol.blk.symm.trans HV.out.1
              injection this with this
              injection this with _ this _
              exact absurd this (by decide)
          have hc8 := hbx.cell
          have HO : Hid (OwnL w.heap.size w8 (.slice am ml cm) (rs M) ∧ Below w.heap.size w w8) := ⟨ho8, below_trans HX.out.2.2.2.2.1 hb8⟩
          clear ho8 hb8 hon8 hbx hcb
          go_wp2_with fail
          go_ret
          exact ⟨_, rs M, rfl, HO.out.1, Gs.ris_up stoL M, fun x => by rw [Gs.mem_ris]; exact HALL.out x, HO.out.2⟩
end Go.Proofs.Ytjohhmfncemknaa
