/-
  The document's answers: File, Keep.
-/
import Derived.Test.YtgibjnfaagnbfadGreatDoorPkg3
import Derived.Test.YtgibjnfaagnbfadGreatDoorRef
namespace Go.Proofs.YtgibjnfaagnbfadGreatDoor
open Go.RowKit

set_option maxRecDepth 100000 in
set_option maxHeartbeats 4000000 in
theorem kfile_any (f : Fl) (w : World) (hf : Fok f) : Calls Tryz.prog 41 #[f.val] w fun e w' => e = .returned (.int .i64 (fileE f)) ∧ Below w.heap.size w w' := by
  obtain ⟨p, t, b, s⟩ := f
  have HF : Hid (Fok ⟨p, t, b, s⟩) := hf
  have hpl : p.length ≤ 4194304 := hf.path
  clear hf
  have HV : Hid (∀ w : World, Calls Tryz.prog 65 #[.string (bs p)] w fun e w' => e = .returned (.bool (okP p)) ∧ Below w.heap.size w w') := fun w => rvalid_any p w (by omega)
  have HBs : Hid (∀ w : World, Calls Tryz.prog 21 #[.string (bs p)] w fun e w' => e = .returned (.string (bs (base p))) ∧ w' = w) := fun w => rbase_any p w (by omega)
  simp only [Fl.val]
  obtain ⟨A, hA⟩ : ∃ A, fileE ⟨p, t, b, s⟩ = A := ⟨_, rfl⟩
  have HA : Hid (fileE ⟨p, t, b, s⟩ = A) := hA
  rw [hA]
  clear hA
  have ee := isE p
  cases hv : okP p
  · rw [hv] at HV
    have HA2 : Hid (A = 7) := by
      have h := HA.out
      simp [fileE, pathOk, hv] at h
      exact h.symm
    go_enter Tryz.func41, Tryz.ntmps41
    go_wp2_with fail
    refine (HV.out _).mono ?_
    rintro e w1 ⟨rfl, hb1⟩
    have HB : Hid (Below w.heap.size w w1) := bstep (balloc w _) hb1
    clear hb1
    go_wp2_with fail
    go_ret
    exact ⟨by rw [HA2.out]; rfl, HB.out⟩
  · rw [hv] at HV
    cases hp : p.isEmpty
    · have htb : (p == []) = false := by
        cases p with
        | nil => simp at hp
        | cons x r => rfl
      have HA2 : Hid ((if fits ⟨p, t, b, s⟩ then (0 : Int) else 8) = A) := by
        have h := HA.out
        simp only [fileE, pathOk, hv, htb, Bool.not_false, Bool.true_and, if_true] at h
        exact h
      clear htb
      rw [hp] at ee
      go_enter Tryz.func41, Tryz.ntmps41
      go_wp2_with fail
      refine (HV.out _).mono ?_
      rintro e w1 ⟨rfl, hb1⟩
      have hF : Hid (FB w1 w.heap.size ⟨p, t, b, s⟩) := (FB.new w ⟨p, t, b, s⟩ 26).later hb1
      have HB : Hid (Below w.heap.size w w1) := bstep (balloc w _) hb1
      obtain ⟨c0, c1, c2, c3, hlt⟩ := hF.out
      simp only at c0 c1 c2 c3
      clear hb1
      go_wp2_with fail
      refine (HBs.out _).mono ?_
      rintro e w2 ⟨rfl, rfl⟩
      have e1 := c_tgt
      have e2 := bs_toList (base p)
      have ez : (bs t).size = t.length := rfl
      have et := isE t
      cases hm : (base p == tgt)
      · have hM : isM p = false := hm
        cases ht : t.isEmpty
        · have hA3 : A = 8 := by
            have h := HA2.out
            have htb : (t == []) = false := by
              cases t with
              | nil => simp at ht
              | cons x r => rfl
            simp [fits, hM, htb] at h
            exact h.symm
          rw [ht] at et
          go_wp2_with fail
          go_ret
          exact ⟨by rw [hA3]; rfl, HB.out⟩
        · rw [ht] at et
          have htb : (t == []) = true := by
            cases t with
            | nil => rfl
            | cons x r => simp at ht
          have HA3 : Hid ((if (decide (0 ≤ b) && decide (b ≤ 1152921504606846976)) && (decide (0 ≤ s) && decide (s ≤ 4611686018427387904)) then (0 : Int) else 8) = A) := by
            have h := HA2.out
            simp only [fits, hM, htb, Bool.true_and, Bool.false_eq_true, if_false] at h
            exact h
          clear htb
          by_cases h1 : b < 0
          · have hA4 : A = 8 := by have h := HA3.out; rw [if_neg (by simp; omega)] at h; exact h.symm
            have hd : decide (b < 0) = true := by simpa using h1
            go_wp2_with fail
            go_ret
            exact ⟨by rw [hA4]; rfl, HB.out⟩
          · have hd : decide (b < 0) = false := by simpa using h1
            by_cases h2 : 1152921504606846976 < b
            · have hA4 : A = 8 := by have h := HA3.out; rw [if_neg (by simp; omega)] at h; exact h.symm
              have hd2 : decide (1152921504606846976 < b) = true := by simpa using h2
              go_wp2_with fail
              go_ret
              exact ⟨by rw [hA4]; rfl, HB.out⟩
            · have hd2 : decide (1152921504606846976 < b) = false := by simpa using h2
              by_cases h3 : s < 0
              · have hA4 : A = 8 := by have h := HA3.out; rw [if_neg (by simp; omega)] at h; exact h.symm
                have hd3 : decide (s < 0) = true := by simpa using h3
                go_wp2_with fail
                go_ret
                exact ⟨by rw [hA4]; rfl, HB.out⟩
              · have hd3 : decide (s < 0) = false := by simpa using h3
                by_cases h4 : 4611686018427387904 < s
                · have hA4 : A = 8 := by have h := HA3.out; rw [if_neg (by simp; omega)] at h; exact h.symm
                  have hd4 : decide (4611686018427387904 < s) = true := by simpa using h4
                  go_wp2_with fail
                  go_ret
                  exact ⟨by rw [hA4]; rfl, HB.out⟩
                · have hA4 : A = 0 := by have h := HA3.out; rw [if_pos (by simp; omega)] at h; exact h.symm
                  have hd4 : decide (4611686018427387904 < s) = false := by simpa using h4
                  go_wp2_with fail
                  go_ret
                  exact ⟨by rw [hA4]; rfl, HB.out⟩
      · have hM : isM p = true := hm
        have HA3 : Hid ((if b == 0 && s == (t.length : Int) then (0 : Int) else 8) = A) := by
          have h := HA2.out
          simp only [fits, hM, if_true] at h
          exact h
        by_cases h1 : b = 0
        · have hd : (b == 0) = true := by simpa using h1
          by_cases h2 : s = (t.length : Int)
          · have hA4 : A = 0 := by have h := HA3.out; rw [if_pos (by simp [h1, h2])] at h; exact h.symm
            have hd2 : (s == (t.length : Int)) = true := by simpa using h2
            go_wp2_with fail
            go_ret
            exact ⟨by rw [hA4]; rfl, HB.out⟩
          · have hA4 : A = 8 := by have h := HA3.out; rw [if_neg (by simp [h2])] at h; exact h.symm
            have hd2 : (s == (t.length : Int)) = false := by simpa using h2
            go_wp2_with fail
            go_ret
            exact ⟨by rw [hA4]; rfl, HB.out⟩
        · have hA4 : A = 8 := by have h := HA3.out; rw [if_neg (by simp [h1])] at h; exact h.symm
          have hd : (b == 0) = false := by simpa using h1
          go_wp2_with fail
          go_ret
          exact ⟨by rw [hA4]; rfl, HB.out⟩
    · have HA2 : Hid (A = 7) := by
        have h := HA.out
        have htb : (p == []) = true := by
          cases p with
          | nil => rfl
          | cons x r => simp at hp
        simp [fileE, pathOk, htb] at h
        exact h.symm
      rw [hp] at ee
      go_enter Tryz.func41, Tryz.ntmps41
      go_wp2_with fail
      refine (HV.out _).mono ?_
      rintro e w1 ⟨rfl, hb1⟩
      have hF : Hid (FB w1 w.heap.size ⟨p, t, b, s⟩) := (FB.new w ⟨p, t, b, s⟩ 26).later hb1
      have HB : Hid (Below w.heap.size w w1) := bstep (balloc w _) hb1
      obtain ⟨c0, c1, c2, c3, hlt⟩ := hF.out
      simp only at c0 c1 c2 c3
      clear hb1
      go_wp2_with fail
      go_ret
      exact ⟨by rw [HA2.out]; rfl, HB.out⟩

theorem SS.at {w : World} {a : Option Addr} {c : Nat} {l : List (List UInt8)} (h : SS w (.slice a l.length c) l) {wr : World} (hb : Below w.heap.size w wr) {k : Nat} (hk : k < l.length) : ∃ b off, a = some ⟨b, off, none⟩ ∧ b < w.heap.size ∧ wr.cell? ⟨b, off + k, none⟩ = some (.string (bs l[k])) := by
  obtain ⟨a', c', e, hf⟩ := h.form
  obtain ⟨b, off, ha, hlt, h0⟩ := hf k hk
  injection e with e1 e2 e3
  exact ⟨b, off, e1.trans ha, hlt, (hb.cell (p := ⟨b, off + k, none⟩) hlt).trans h0⟩
theorem mem_take_succ {L : List (List UInt8)} {j : Nat} (hj : j < L.length) (p : List UInt8) : decide (p ∈ L.take (j + 1)) = (decide (p ∈ L.take j) || (L[j] == p)) := by
  rw [List.take_add_one, List.getElem?_eq_getElem hj, Bool.eq_iff_iff]
  simp only [Option.toList, List.mem_append, List.mem_singleton, decide_eq_true_eq, Bool.or_eq_true, beq_iff_eq]
  exact ⟨fun h => h.elim .inl (fun e => .inr e.symm), fun h => h.elim .inl (fun e => .inr e.symm)⟩

set_option maxRecDepth 100000 in
set_option maxHeartbeats 4000000 in
theorem kkeep_any {w : World} {v vp : Value} {l : List Fl} {ps : List (List UInt8)} (h : FS w v l) (hp : SS w vp ps) (sm : FSm l) (sp : Sm ps) :
    Calls Tryz.prog 7 #[v, vp] w fun e w' => ∃ v', e = .returned v' ∧ OwnF w.heap.size w' v' (keep l ps) ∧ Below w.heap.size w w' := by
  have H : Hid (FS w v l) := h
  have HP : Hid (SS w vp ps) := hp
  have hlen : l.length ≤ 4194304 := sm.len
  have hlenp : ps.length ≤ 4194304 := Nat.le_trans sp.len (by omega)
  clear sm sp
  obtain ⟨a, c, rfl, _⟩ := h.form
  obtain ⟨ap, cp, rfl, _⟩ := hp.form
  rename_i q1 q2
  clear h hp q1 q2
  obtain ⟨n, hn⟩ : ∃ n, l.length = n := ⟨_, rfl⟩
  obtain ⟨m, hm⟩ : ∃ m, ps.length = m := ⟨_, rfl⟩
  have H' : Hid (FS w (.slice a l.length c) l) := H.out
  have HP' : Hid (SS w (.slice ap ps.length cp) ps) := HP.out
  clear H HP
  rw [hn] at hlen ⊢
  rw [hm] at hlenp ⊢
  have HN : Hid (l.length = n ∧ ps.length = m) := ⟨hn, hm⟩
  clear hn hm
  go_enter Tryz.func7, Tryz.ntmps7
  go_wp2_with fail
  go_loopw [5, 6] (fun o i wr => ∃ k : Nat, k ≤ n ∧ i = .int .i64 k ∧ OwnF w.heap.size wr o (keep (l.take k) ps) ∧ Below w.heap.size w wr) (fun _ i _ => n - (intOf i).toNat)
  case atStart => exact ⟨0, by omega, rfl, by simpa [keep] using OwnF.nil _ _, Below.refl _ _⟩
  case round =>
    rename World => w1
    obtain ⟨k, hk, rfl, ho, hb⟩ := hrel
    have HO : Hid (OwnF w.heap.size w1 u5 (keep (l.take k) ps)) := ho
    have HB : Hid (Below w.heap.size w w1) := hb
    have hz2 := hb.size
    have hkl0 : (keep (l.take k) ps).length ≤ n := by
      have := List.length_filter_le (fun f : Fl => decide (f.path ∈ ps)) (l.take k)
      have h2 : (l.take k).length ≤ l.length := by simp; omega
      have := HN.out
      unfold keep; omega
    obtain ⟨ao, co, eo⟩ := ho.form
    subst eo
    obtain ⟨no, hno⟩ : ∃ no, (keep (l.take k) ps).length = no := ⟨_, rfl⟩
    rw [hno] at HO hkl0 ⊢
    clear ho hb
    by_cases hlt : k < n
    · have hkl : k < l.length := by have := HN.out; omega
      obtain ⟨b, off, ea, hbw, d0, d1, d2, d3⟩ := FS.at H'.out HB.out hkl
      subst ea
      have HK : Hid (keep (l.take (k + 1)) ps = keep (l.take k) ps ++ if (l[k]'hkl).path ∈ ps then [l[k]'hkl] else []) := by
        have e : l.take (k + 1) = l.take k ++ [l[k]'hkl] := by rw [List.take_add_one, List.getElem?_eq_getElem hkl]; rfl
        show keep (l.take (k + 1)) ps = _
        rw [e, keep_app]
        congr 1
        rw [keep_cons]; rfl
      obtain ⟨f, hf⟩ : ∃ f, l[k] = f := ⟨_, rfl⟩
      rw [hf] at d0 d1 d2 d3 HK
      clear hf
      obtain ⟨p, t, bl, s⟩ := f
      simp only at d0 d1 d2 d3
      have k1 : (0 : Int) ≤ (k : Int) := by omega
      have k2 : (k : Int) < (n : Int) := by omega
      have hbr : b < w1.heap.size := Nat.lt_of_lt_of_le hbw HB.out.size
      go_wp2_with fail
      go_loopw [7, 8] (fun o i wq => ∃ j : Nat, j ≤ m ∧ i = .int .i64 j ∧ o = .bool (decide (p ∈ ps.take j)) ∧ Below w1.heap.size w1 wq) (fun _ i _ => m - (intOf i).toNat)
      case atStart => exact ⟨0, by omega, rfl, by simp, Below.refl _ _⟩
      case round =>
        rename World => wq
        obtain ⟨j, hj, rfl, rfl, hq⟩ := hrel
        have HQ : Hid (Below w1.heap.size w1 wq) := hq
        have hzq := hq.size
        clear hq
        by_cases hjm : j < m
        · have hjp : j < ps.length := by have := HN.out; omega
          obtain ⟨bp, offp, eap, hbp, g0⟩ := SS.at HP'.out (bstep HB.out HQ.out) hjp
          subst eap
          have HM := mem_take_succ hjp p
          obtain ⟨q, hq⟩ : ∃ q, ps[j] = q := ⟨_, rfl⟩
          rw [hq] at g0 HM
          have HM' : Hid (decide (p ∈ ps.take (j + 1)) = (decide (p ∈ ps.take j) || (q == p))) := HM
          clear HM hq
          have j1 : (0 : Int) ≤ (j : Int) := by omega
          have j2 : (j : Int) < (m : Int) := by omega
          have hbq : b < wq.heap.size := Nat.lt_of_lt_of_le hbr HQ.out.size
          have hbpq : bp < wq.heap.size := Nat.lt_of_lt_of_le hbp (bstep HB.out HQ.out).size
          have y0 : ∀ X : GW wq, X.it.cell? ⟨b, off + k * 4, none⟩ = some (.string (bs p)) := fun X => X.cell hbq ((HQ.out.cell (p := ⟨b, off + k * 4, none⟩) hbr).trans d0)
          have x0 : ∀ X : GW wq, X.it.cell? ⟨bp, offp + j, none⟩ = some (.string (bs q)) := fun X => X.cell hbpq g0
          have xne := gw_ne wq
          have ep := bs_toList p
          have eq := bs_toList q
          generalize decide (p ∈ ps.take j) = r at *
          cases r
          · go_wp2_with fail
            refine wp_region_grow (by kernel_rfl) (by kernel_rfl) ?_
            repeat (go_big_quiet_step (fail))
            refine wpQuiet_nil ?_
            rintro w2 ⟨⟨w2, bx⟩, rfl⟩
            have HB5 : Hid (Below w1.heap.size w1 w2) := bstep HQ.out bx
            clear bx y0 x0
            go_wp2_with fail
            go_roundw
            case rel => exact ⟨j + 1, by omega, by go_num, by rw [HM'.out]; rfl, HB5.out⟩
            case measure => simp [intOf]; omega
          · go_wp2_with fail
            refine wp_region_grow (by kernel_rfl) (by kernel_rfl) ?_
            repeat (go_big_quiet_step (fail))
            refine wpQuiet_nil ?_
            rintro w2 ⟨⟨w2, bx⟩, rfl⟩
            have HB5 : Hid (Below w1.heap.size w1 w2) := bstep HQ.out bx
            clear bx y0 x0
            go_wp2_with fail
            go_roundw
            case rel => exact ⟨j + 1, by omega, by go_num, by rw [HM'.out]; rfl, HB5.out⟩
            case measure => simp [intOf]; omega
        · obtain rfl : j = m := by omega
          have e : decide (p ∈ ps.take j) = decide (p ∈ ps) := by rw [List.take_of_length_le (by have := HN.out; omega)]
          rw [e]
          clear e
          have O3 : Hid (OwnF w.heap.size wq (.slice ao no co) (keep (l.take k) ps)) := HO.out.later HQ.out
          have g0 := (HQ.out.cell (p := ⟨b, off + k * 4, none⟩) hbr).trans d0
          have g1 := (HQ.out.cell (p := ⟨b, off + k * 4 + 1, none⟩) hbr).trans d1
          have g2 := (HQ.out.cell (p := ⟨b, off + k * 4 + 2, none⟩) hbr).trans d2
          have g3 := (HQ.out.cell (p := ⟨b, off + k * 4 + 3, none⟩) hbr).trans d3
          clear d0 d1 d2 d3
          by_cases hpm : p ∈ ps
          · have hd : decide (p ∈ ps) = true := by simpa using hpm
            rw [hd]
            have HPM : Hid (p ∈ ps) := hpm
            clear hpm
            go_wp2_with (at_builtin; refine app_files (base := w.heap.size) (l := keep (l.take k) ps) (k := [⟨p, t, bl, s⟩]) (O3.out.later (balloc _ _)) (src_file _ ⟨p, t, bl, s⟩) (by simp; omega) (by simp; omega) rfl _ _ rfl rfl rfl ?_; intro v4 w4 ho4 hg4 _)
            go_roundw
            case rel =>
              refine ⟨k + 1, by omega, by go_num, ?_, ?_⟩
              · rw [HK.out, if_pos HPM.out]; exact ho4
              · refine (bstep (bstep HB.out HQ.out) (balloc _ _)).grown hg4 (by simp; omega) (fun j hj => ?_)
                exact (O3.out.lt hj).1
            case measure => simp [intOf]; omega
          · have hd : decide (p ∈ ps) = false := by simpa using hpm
            rw [hd]
            have HPM : Hid (¬ p ∈ ps) := hpm
            clear hpm
            go_wp2_with fail
            go_roundw
            case rel =>
              refine ⟨k + 1, by omega, by go_num, ?_, bstep HB.out HQ.out⟩
              rw [HK.out, if_neg HPM.out, List.append_nil]; exact O3.out
            case measure => simp [intOf]; omega
    · obtain rfl : k = n := by omega
      go_wp2_with fail
      go_ret
      refine ⟨_, rfl, ?_, HB.out⟩
      have e : l.take k = l := List.take_of_length_le (by have := HN.out; omega)
      have := HO.out
      rw [e] at this
      exact this
end Go.Proofs.YtgibjnfaagnbfadGreatDoor
