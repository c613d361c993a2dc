/-
  The law TreeSound, of the contracts.
-/
import Derived.Test.YtlkkmcibjhoneaaGreatDoorSc
import Derived.Test.YtlkkmcibjhoneaaGreatDoorTs
namespace Go.Proofs.YtlkkmcibjhoneaaGreatDoor
open Go.RowKit

set_option maxHeartbeats 16000000 in
set_option maxRecDepth 100000 in
theorem tsound_law {TA : World → (Nat → Prop) → Nat → TT → Prop} (C : TcP TA) {w : World} (E : Ev w) {vl vs : Value} {l : List Fl} {S : List Opp} (hl : FS w vl l) (hm : FSm l) (hs : OS (fun k => k < w.heap.size) w vs S)
    (ho : ∀ o ∈ S, Ook o) (hn : bsm S ≤ 1050000) (p : List UInt8) (hp : p.length ≤ 4000000) :
    Calls Tryz.prog 5 #[vl, vs, .string (bs p)] w fun e w' => e = .returned (.bool true) ∧ Below w.heap.size w w' := by
  have H0 : Hid (FS w vl l ∧ FSm l ∧ OS (fun k => k < w.heap.size) w vs S) := ⟨hl, hm, hs⟩
  have HEV : Hid (Ev w) := E
  clear hl hm hs E
  go_enter Tryz.func5, Tryz.ntmps5
  go_wp2_with fail
  refine (C.new H0.out.1 H0.out.2.1 HEV.out).mono ?_
  rintro e w1 ⟨hb1, ⟨hv, t, rfl, hc1⟩ | ⟨hno, rfl⟩⟩
  case inr =>
    have B1 : Hid (Below w.heap.size w w1) := hb1
    clear hb1
    obtain ⟨ec, hec⟩ : ∃ ec, validE l = ec := ⟨_, rfl⟩
    have HEC : Hid (validE l = ec) := hec
    rw [hec] at hno ⊢
    have hno1 : (ec == 0) = false := by simpa using hno
    have hno2 : (ec != 0) = true := by simpa using hno
    have hno3 : (ec == ec) = true := by simp
    clear hec
    go_wp2_with fail
    refine (alive_any C w1 (HEV.out.later B1.out)).mono ?_
    rintro e w3 ⟨rfl, hb3⟩
    have B3 : Hid (Below w.heap.size w w3) := bstep B1.out hb3
    clear hb3
    go_wp2_with (go_at_call 9; refine (num_any _ _).mono ?_; rintro e wq ⟨rfl, rfl⟩)
    refine (valid2_any (H0.out.1.later B3.out) H0.out.2.1).mono ?_
    rintro e w4 ⟨rfl, hb4⟩
    rw [HEC.out]
    have B4 : Hid (Below w.heap.size w w4) := bstep B3.out hb4
    clear hb4
    go_wp2_with (go_at_call 9; refine (num_any _ _).mono ?_; rintro e wq ⟨rfl, rfl⟩)
    go_ret
    exact ⟨rfl, B4.out⟩
  have hF1 : ∀ k, (fun k => w.heap.size ≤ k ∧ k < w1.heap.size) k → w.heap.size ≤ k := fun k hk => hk.1
  have T1 : Hid (Tb TA w.heap.size w w1 t (newT l)) := ⟨_, hc1, hb1, hb1.size, hF1⟩
  clear hc1 hb1 hF1
  go_wp2_with fail
  refine (alive_any C w1 (T1.out.ev C)).mono ?_
  rintro e w2 ⟨rfl, hb2⟩
  have T2' : Hid (Tb TA w.heap.size w w2 t (newT l)) := T1.out.later C hb2
  clear hb2 T1
  go_wp2_with (go_at_call 9; refine (num_any _ _).mono ?_; rintro e wq ⟨rfl, rfl⟩)
  obtain ⟨T, hT⟩ : ∃ T, runT (newT l) S = T := ⟨_, rfl⟩
  have hz1 : TSz 70000 (newT l) := TSz.new hv H0.out.2.1
  have hz : Hid (TSz 1200000 T) := by
    have := hz1.run ho S.length (Nat.le_refl _)
    rw [List.take_length, hT] at this
    exact this.mono (by omega)
  have hok : Hid (TOk T) := hT ▸ TOk.run S (TOk.new hv)
  have h0 : T.sp = 0 := hT ▸ run_free S rfl
  have HRN : Hid (Calls Tryz.prog 11 #[.pointer (some ⟨t, 0, none⟩), vs] wq fun e w' => e = .returned (.tuple #[]) ∧ Tb TA w.heap.size w w' t T) := by
    obtain ⟨F, h1, h2, h3, h4⟩ := T2'.out
    refine (run_any C h1 hz1 (H0.out.2.2.later h2) ho (by omega) (fun k hk hf => absurd (h4 k hf) (Nat.not_le.2 hk))).mono ?_
    rintro e w' ⟨rfl, hc, hon⟩
    rw [hT] at hc
    exact ⟨rfl, Tb.step h4 h2 h3 hc hon⟩
  clear hz1 T2' hT
  refine HRN.out.mono ?_
  rintro e w3 ⟨rfl, t3⟩
  have T3 : Hid (Tb TA w.heap.size w w3 t T) := t3
  clear t3 HRN
  have hz4 : Hid (TSz 4000000 T) := hz.out.mono (by omega)
  go_wp2_with fail
  refine (Tb.files C T3.out hz4.out).mono ?_
  rintro e w4 ⟨vf, rfl, hf4, hb4⟩
  have T4 : Hid (∃ F, TA w4 F t T ∧ Below w.heap.size w w4 ∧ w.heap.size ≤ w4.heap.size ∧ (∀ k, F k → w.heap.size ≤ k ∧ k < w3.heap.size) ∧ OwnF w3.heap.size w4 vf T.fs ∧ w3.heap.size ≤ w4.heap.size) := by
    obtain ⟨F, h1, h2, h3, h4⟩ := T3.out
    exact ⟨F, C.later h1 hb4, h2.trans (below_mono hb4 h3), Nat.le_trans h3 hb4.size, fun k hk => ⟨h4 k hk, C.lt h1 k hk⟩, hf4, hb4.size⟩
  have T4b : Hid (Tb TA w.heap.size w w4 t T) := T3.out.later C hb4
  clear hf4 hb4 T3
  go_wp2_with fail
  refine (Tb.dirs C T4b.out hz4.out).mono ?_
  rintro e w5 ⟨vd, rfl, hd5, hb5⟩
  obtain ⟨NF, hNF⟩ : ∃ NF, T.fs.length = NF := ⟨_, rfl⟩
  obtain ⟨ND, hND⟩ : ∃ ND, T.ds.length = ND := ⟨_, rfl⟩
  have X5 : Hid (SX TA w w5 t T vf T.fs vd T.ds) := by
    obtain ⟨F, h1, h2, h3, h4, h5, h6⟩ := T4.out
    refine ⟨F, C.later h1 hb5, h2.trans (below_mono hb5 h3), Nat.le_trans h3 hb5.size, fun k hk => (h4 k hk).1, h5.fs.later hb5, hd5.ss, fun k hk => ⟨fun hf => ?_, ?_⟩, fun k hk => ⟨fun hf => ?_, ?_⟩⟩
    · have := (h4 k hf).2
      have := (h5.lt hk).1
      omega
    · exact Nat.lt_of_lt_of_le (h5.lt hk).2 hb5.size
    · have := (h4 k hf).2
      have := (hd5.lt hk).1
      omega
    · exact (hd5.lt hk).2
  obtain ⟨fa, fcp, hvf, -⟩ := X5.out.fs.form
  obtain ⟨da, dcp, hvd, -⟩ := X5.out.ss.form
  subst hvf
  subst hvd
  rw [hNF] at X5 ⊢
  rw [hND] at X5 ⊢
  clear hd5 hb5 T4 T4b
  have hnf : NF ≤ 1200000 := by rw [← hNF]; exact hz.out.nf
  have HVL : Hid (Calls Tryz.prog 23 #[.slice fa NF fcp] w5 fun e w' => e = .returned (.int .i64 (validE T.fs)) ∧ Below w5.heap.size w5 w') := valid2_any X5.out.fs ⟨Nat.le_trans hz.out.nf (by omega), hz.out.ef⟩
  have hv0 : NF ≤ 512 → validE T.fs = 0 := fun h => hok.out.valid (by omega)
  by_cases h512 : NF ≤ 512
  · have h512' : (NF : Int) ≤ 512 := by omega
    have hv1 := hv0 h512
    clear hv0
    go_wp2_with fail
    refine HVL.out.mono ?_
    rintro e w6 ⟨rfl, hb6⟩
    rw [hv1]
    have X6 : Hid (SX TA w w6 t T (.slice fa NF fcp) T.fs (.slice da ND dcp) T.ds) := X5.out.later C hb6
    clear hb6 X5 HVL hv1
    go_wp2_with (go_at_call 9; refine (num_any _ _).mono ?_; rintro e wq ⟨rfl, rfl⟩)
    rename_i hKK
    have HL_ : Hid _ := hKK
    clear hKK
    go_loopw [11] (fun i wr => ∃ k : Nat, k ≤ NF ∧ i = .int .i64 k ∧ SX TA w wr t T (.slice fa NF fcp) T.fs (.slice da ND dcp) T.ds) (fun i _ => NF - (intOf i).toNat)
    case atStart => exact ⟨0, by omega, rfl, X6.out⟩
    case round =>
      obtain ⟨k, hk, rfl, hx⟩ := hrel
      have Hx : Hid (SX TA w wr t T (.slice fa NF fcp) T.fs (.slice da ND dcp) T.ds) := hx
      clear hx
      by_cases hlt : k < NF
      · have hkl : k < T.fs.length := by omega
        obtain ⟨a', c', e', hcell⟩ := Hx.out.fs.form
        obtain ⟨g, off, ea, hg, c0, c1, c2, c3⟩ := hcell k hkl
        injection e' with e1 e2 e3
        obtain rfl : fa = some ⟨g, off, none⟩ := by rw [e1, ea]
        obtain ⟨f, hf⟩ : ∃ f, T.fs[k]'hkl = f := ⟨_, rfl⟩
        have hm : f ∈ T.fs := hf ▸ List.getElem_mem hkl
        rw [hf] at c0
        have hfl := (okP_len (fileE_path (hok.out.fe f hm)).2).1
        have hfd := hok.out.fd f hm
        have hfn : decide (f.path ∈ T.ds) = false := decide_eq_false (hok.out.no f hm)
        have hdl : T.ds.length ≤ 8000000 := Nat.le_trans hz.out.nd (by omega)
        obtain ⟨q, qt, qb, qs⟩ := f
        dsimp only at c0 hfl hfd hfn
        have k0 : (0 : Int) ≤ (k : Int) := by omega
        have k1 : (k : Int) < (NF : Int) := by omega
        clear hcell e1 e2 e3 ea c1 c2 c3 hf hm hg
        go_wp2_with fail
        refine (dir_any q _ (by omega)).mono ?_
        rintro e wq ⟨rfl, rfl⟩
        go_wp2_with fail
        refine (in_any (dir q) Hx.out.ss hdl).mono ?_
        rintro e wq ⟨rfl, rfl⟩
        rw [hfd]
        go_wp2_with fail
        refine (among_any q Hx.out.ss hdl).mono ?_
        rintro e wq ⟨rfl, rfl⟩
        rw [hfn]
        go_wp2_with fail
        go_roundw
        case rel => exact ⟨k + 1, by omega, by go_num, Hx.out⟩
        case measure => simp [intOf]; omega
      · obtain rfl : k = NF := by omega
        go_wp2_with fail
        refine HL_.out _ _ ?_
        exact sn16 C Hx hz hok h0 hND hp
  · have h512' : ¬ (NF : Int) ≤ 512 := by omega
    have h512d : decide ((NF : Int) ≤ 512) = false := decide_eq_false h512'
    clear hv0
    have X6 := X5
    clear X5 HVL
    go_wp2_with fail
    rename_i hKK
    have HL_ : Hid _ := hKK
    clear hKK
    go_loopw [11] (fun i wr => ∃ k : Nat, k ≤ NF ∧ i = .int .i64 k ∧ SX TA w wr t T (.slice fa NF fcp) T.fs (.slice da ND dcp) T.ds) (fun i _ => NF - (intOf i).toNat)
    case atStart => exact ⟨0, by omega, rfl, X6.out⟩
    case round =>
      obtain ⟨k, hk, rfl, hx⟩ := hrel
      have Hx : Hid (SX TA w wr t T (.slice fa NF fcp) T.fs (.slice da ND dcp) T.ds) := hx
      clear hx
      by_cases hlt : k < NF
      · have hkl : k < T.fs.length := by omega
        obtain ⟨a', c', e', hcell⟩ := Hx.out.fs.form
        obtain ⟨g, off, ea, hg, c0, c1, c2, c3⟩ := hcell k hkl
        injection e' with e1 e2 e3
        obtain rfl : fa = some ⟨g, off, none⟩ := by rw [e1, ea]
        obtain ⟨f, hf⟩ : ∃ f, T.fs[k]'hkl = f := ⟨_, rfl⟩
        have hm : f ∈ T.fs := hf ▸ List.getElem_mem hkl
        rw [hf] at c0
        have hfl := (okP_len (fileE_path (hok.out.fe f hm)).2).1
        have hfd := hok.out.fd f hm
        have hfn : decide (f.path ∈ T.ds) = false := decide_eq_false (hok.out.no f hm)
        have hdl : T.ds.length ≤ 8000000 := Nat.le_trans hz.out.nd (by omega)
        obtain ⟨q, qt, qb, qs⟩ := f
        dsimp only at c0 hfl hfd hfn
        have k0 : (0 : Int) ≤ (k : Int) := by omega
        have k1 : (k : Int) < (NF : Int) := by omega
        clear hcell e1 e2 e3 ea c1 c2 c3 hf hm hg
        go_wp2_with fail
        refine (dir_any q _ (by omega)).mono ?_
        rintro e wq ⟨rfl, rfl⟩
        go_wp2_with fail
        refine (in_any (dir q) Hx.out.ss hdl).mono ?_
        rintro e wq ⟨rfl, rfl⟩
        rw [hfd]
        go_wp2_with fail
        refine (among_any q Hx.out.ss hdl).mono ?_
        rintro e wq ⟨rfl, rfl⟩
        rw [hfn]
        go_wp2_with fail
        go_roundw
        case rel => exact ⟨k + 1, by omega, by go_num, Hx.out⟩
        case measure => simp [intOf]; omega
      · obtain rfl : k = NF := by omega
        go_wp2_with fail
        refine HL_.out _ _ ?_
        exact sn16 C Hx hz hok h0 hND hp
end Go.Proofs.YtlkkmcibjhoneaaGreatDoor
