/-
  The document's answers: File, Valid.
-/
import Derived.Test.YtfdcfcalbongeaaGreatJFx
import Derived.Test.YtfdcfcalbongeaaGreatJTRef
namespace Go.Proofs.YtfdcfcalbongeaaGreat
open Go.RowKit

set_option maxRecDepth 100000 in
set_option maxHeartbeats 4000000 in
theorem kfile_any (f : Fl) (w : World) (hf : Fok f) : Calls Tryz.prog 32 #[f.val] w fun e w' => e = .returned (.int .i64 (fileE f)) ∧ Below w.heap.size w w' := by
  obtain ⟨p, t, b, s⟩ := f
  have HF : Hid (Fok ⟨p, t, b, s⟩) := hf
  have hpl : p.length ≤ 1000000000 := hf.path
  clear hf
  have HV : Hid (∀ w : World, Calls Tryz.prog 49 #[.string (bs p)] w fun e w' => e = .returned (.bool (okP p)) ∧ Below w.heap.size w w') := fun w => rvalid_any p w (by omega)
  have HBs : Hid (∀ w : World, Calls Tryz.prog 50 #[.string (bs p)] w fun e w' => e = .returned (.string (bs (base p))) ∧ w' = w) := fun w => rbase_any p w (by omega)
  simp only [Fl.val]
  obtain ⟨A, hA⟩ : ∃ A, fileE ⟨p, t, b, s⟩ = A := ⟨_, rfl⟩
  have HA : Hid (fileE ⟨p, t, b, s⟩ = A) := hA
  rw [hA]
  clear hA
  have ee := isE p
  cases hv : okP p
  · rw [hv] at HV
    have HA2 : Hid (A = 7) := by
      have h := HA.out
      simp [fileE, pathOk, hv] at h
      exact h.symm
    go_enter Tryz.func32, Tryz.ntmps32
    go_wp2_with fail
    refine (HV.out _).mono ?_
    rintro e w1 ⟨rfl, hb1⟩
    have HB : Hid (Below w.heap.size w w1) := bstep (balloc w _) hb1
    clear hb1
    go_wp2_with fail
    go_ret
    exact ⟨by rw [HA2.out]; rfl, HB.out⟩
  · rw [hv] at HV
    cases hp : p.isEmpty
    · have htb : (p == []) = false := by
        cases p with
        | nil => simp at hp
        | cons x r => rfl
      have HA2 : Hid ((if fits ⟨p, t, b, s⟩ then (0 : Int) else 8) = A) := by
        have h := HA.out
        simp only [fileE, pathOk, hv, htb, Bool.not_false, Bool.true_and, if_true] at h
        exact h
      clear htb
      rw [hp] at ee
      go_enter Tryz.func32, Tryz.ntmps32
      go_wp2_with fail
      refine (HV.out _).mono ?_
      rintro e w1 ⟨rfl, hb1⟩
      have hF : Hid (FB w1 w.heap.size ⟨p, t, b, s⟩) := (FB.new w ⟨p, t, b, s⟩ 30).later hb1
      have HB : Hid (Below w.heap.size w w1) := bstep (balloc w _) hb1
      obtain ⟨c0, c1, c2, c3, hlt⟩ := hF.out
      simp only at c0 c1 c2 c3
      clear hb1
      go_wp2_with fail
      refine (HBs.out _).mono ?_
      rintro e w2 ⟨rfl, rfl⟩
      have e1 := c_tgt
      have e2 := bs_toList (base p)
      have ez : (bs t).size = t.length := rfl
      have et := isE t
      cases hm : (base p == tgt)
      · have hM : isM p = false := hm
        cases ht : t.isEmpty
        · have hA3 : A = 8 := by
            have h := HA2.out
            have htb : (t == []) = false := by
              cases t with
              | nil => simp at ht
              | cons x r => rfl
            simp [fits, hM, htb] at h
            exact h.symm
          rw [ht] at et
          go_wp2_with fail
          go_ret
          exact ⟨by rw [hA3]; rfl, HB.out⟩
        · rw [ht] at et
          have htb : (t == []) = true := by
            cases t with
            | nil => rfl
            | cons x r => simp at ht
          have HA3 : Hid ((if (decide (0 ≤ b) && decide (b ≤ 1152921504606846976)) && (decide (0 ≤ s) && decide (s ≤ 4611686018427387904)) then (0 : Int) else 8) = A) := by
            have h := HA2.out
            simp only [fits, hM, htb, Bool.true_and, Bool.false_eq_true, if_false] at h
            exact h
          clear htb
          by_cases h1 : b < 0
          · have hA4 : A = 8 := by have h := HA3.out; rw [if_neg (by simp; omega)] at h; exact h.symm
            have hd : decide (b < 0) = true := by simpa using h1
            go_wp2_with fail
            go_ret
            exact ⟨by rw [hA4]; rfl, HB.out⟩
          · have hd : decide (b < 0) = false := by simpa using h1
            by_cases h2 : 1152921504606846976 < b
            · have hA4 : A = 8 := by have h := HA3.out; rw [if_neg (by simp; omega)] at h; exact h.symm
              have hd2 : decide (1152921504606846976 < b) = true := by simpa using h2
              go_wp2_with fail
              go_ret
              exact ⟨by rw [hA4]; rfl, HB.out⟩
            · have hd2 : decide (1152921504606846976 < b) = false := by simpa using h2
              by_cases h3 : s < 0
              · have hA4 : A = 8 := by have h := HA3.out; rw [if_neg (by simp; omega)] at h; exact h.symm
                have hd3 : decide (s < 0) = true := by simpa using h3
                go_wp2_with fail
                go_ret
                exact ⟨by rw [hA4]; rfl, HB.out⟩
              · have hd3 : decide (s < 0) = false := by simpa using h3
                by_cases h4 : 4611686018427387904 < s
                · have hA4 : A = 8 := by have h := HA3.out; rw [if_neg (by simp; omega)] at h; exact h.symm
                  have hd4 : decide (4611686018427387904 < s) = true := by simpa using h4
                  go_wp2_with fail
                  go_ret
                  exact ⟨by rw [hA4]; rfl, HB.out⟩
                · have hA4 : A = 0 := by have h := HA3.out; rw [if_pos (by simp; omega)] at h; exact h.symm
                  have hd4 : decide (4611686018427387904 < s) = false := by simpa using h4
                  go_wp2_with fail
                  go_ret
                  exact ⟨by rw [hA4]; rfl, HB.out⟩
      · have hM : isM p = true := hm
        have HA3 : Hid ((if b == 0 && s == (t.length : Int) then (0 : Int) else 8) = A) := by
          have h := HA2.out
          simp only [fits, hM, if_true] at h
          exact h
        by_cases h1 : b = 0
        · have hd : (b == 0) = true := by simpa using h1
          by_cases h2 : s = (t.length : Int)
          · have hA4 : A = 0 := by have h := HA3.out; rw [if_pos (by simp [h1, h2])] at h; exact h.symm
            have hd2 : (s == (t.length : Int)) = true := by simpa using h2
            go_wp2_with fail
            go_ret
            exact ⟨by rw [hA4]; rfl, HB.out⟩
          · have hA4 : A = 8 := by have h := HA3.out; rw [if_neg (by simp [h2])] at h; exact h.symm
            have hd2 : (s == (t.length : Int)) = false := by simpa using h2
            go_wp2_with fail
            go_ret
            exact ⟨by rw [hA4]; rfl, HB.out⟩
        · have hA4 : A = 8 := by have h := HA3.out; rw [if_neg (by simp [h1])] at h; exact h.symm
          have hd : (b == 0) = false := by simpa using h1
          go_wp2_with fail
          go_ret
          exact ⟨by rw [hA4]; rfl, HB.out⟩
    · have HA2 : Hid (A = 7) := by
        have h := HA.out
        have htb : (p == []) = true := by
          cases p with
          | nil => rfl
          | cons x r => simp at hp
        simp [fileE, pathOk, htb] at h
        exact h.symm
      rw [hp] at ee
      go_enter Tryz.func32, Tryz.ntmps32
      go_wp2_with fail
      refine (HV.out _).mono ?_
      rintro e w1 ⟨rfl, hb1⟩
      have hF : Hid (FB w1 w.heap.size ⟨p, t, b, s⟩) := (FB.new w ⟨p, t, b, s⟩ 30).later hb1
      have HB : Hid (Below w.heap.size w w1) := bstep (balloc w _) hb1
      obtain ⟨c0, c1, c2, c3, hlt⟩ := hF.out
      simp only at c0 c1 c2 c3
      clear hb1
      go_wp2_with fail
      go_ret
      exact ⟨by rw [HA2.out]; rfl, HB.out⟩

theorem chain_adj : ∀ (l : List Fl), chain l = true ↔ ∀ (j : Nat) (h : j + 1 < l.length), fol (l[j]'(by omega)).path (l[j + 1]'h).path = true
  | [] => by simp [chain]
  | [a] => by simp [chain]
  | a :: b :: r => by
    rw [chain, Bool.and_eq_true, chain_adj (b :: r)]
    constructor
    · rintro ⟨h1, h2⟩ j h
      cases j with
      | zero => exact h1
      | succ j => exact h2 j (by simpa using h)
    · intro h
      exact ⟨h 0 (by simp), fun j hj => h (j + 1) (by simpa using hj)⟩
theorem validE_seven {l : List Fl} (k : Nat) (hk : k < l.length) (h : fileE l[k] = 7) : validE l = 7 := by
  unfold validE
  rw [if_neg]
  rw [List.all_eq_true]
  intro h2
  have := h2 _ (List.getElem_mem hk)
  rw [(fileE_seven _).1 h] at this
  cases this
theorem validE_of {l : List Fl} (h : ∀ (k : Nat) (hk : k < l.length), fileE l[k] ≠ 7) : validE l = if stand l then 0 else 8 := by
  unfold validE
  rw [if_pos]
  rw [List.all_eq_true]
  intro f hf
  obtain ⟨k, hk, rfl⟩ := List.getElem_of_mem hf
  have := h k hk
  cases e : pathOk l[k].path
  · exact absurd ((fileE_seven _).2 e) this
  · rfl
theorem stand_of {l : List Fl} (h5 : l.length ≤ 512) (h : ∀ (k : Nat) (hk : k < l.length), fileE l[k] = 0) (hc : ∀ (j : Nat) (h : j + 1 < l.length), fol (l[j]'(by omega)).path (l[j + 1]'h).path = true) : stand l = true := by
  unfold stand
  rw [(chain_adj l).2 hc]
  simp only [Bool.and_true, Bool.and_eq_true, decide_eq_true_eq]
  refine ⟨h5, ?_⟩
  rw [List.all_eq_true]
  intro f hf
  obtain ⟨k, hk, rfl⟩ := List.getElem_of_mem hf
  rw [h k hk]; rfl
theorem stand_not {l : List Fl} {k : Nat} {hk : k < l.length} (h : fileE l[k] ≠ 0) : stand l = false := by
  cases e : stand l
  · rfl
  · exact absurd (stand_all e _ (List.getElem_mem hk)) h
theorem stand_not' {l : List Fl} {j : Nat} {h : j + 1 < l.length} (hc : fol (l[j]'(by omega)).path (l[j + 1]'h).path = false) : stand l = false := by
  cases e : stand l
  · rfl
  · unfold stand at e
    simp only [Bool.and_eq_true] at e
    rw [(chain_adj l).1 e.2 j h] at hc
    cases hc

set_option maxRecDepth 100000 in
set_option maxHeartbeats 4000000 in
theorem kvalid_any {w : World} {v : Value} {l : List Fl} (h : FS w v l) (sm : FSm l) : Calls Tryz.prog 12 #[v] w fun e w' => e = .returned (.int .i64 (validE l)) ∧ Below w.heap.size w w' := by
  obtain ⟨A, hA⟩ : ∃ A, validE l = A := ⟨_, rfl⟩
  rw [hA]
  have HA : Hid (validE l = A) := hA
  have H : Hid (FS w v l) := h
  have SM : Hid (FSm l) := sm
  have hlen : l.length ≤ 1000000000 := sm.len
  clear hA sm
  obtain ⟨a, c, rfl, _⟩ := h.form
  rename_i q1
  clear h q1
  obtain ⟨n, hn⟩ : ∃ n, l.length = n := ⟨_, rfl⟩
  have H' : Hid (FS w (.slice a l.length c) l) := H.out
  clear H
  rw [hn] at hlen ⊢
  have HN : Hid (l.length = n) := hn
  clear hn
  go_enter Tryz.func12, Tryz.ntmps12
  go_wp2_with fail
  go_loopw [3] (fun i wr => ∃ k : Nat, k ≤ n ∧ i = .int .i64 k ∧ Below w.heap.size w wr ∧ ∀ (j : Nat) (hj : j < l.length), j < k → fileE l[j] ≠ 7) (fun i _ => n - (intOf i).toNat)
  case atStart => exact ⟨0, by omega, rfl, Below.refl _ _, fun j _ hj => by omega⟩
  case round =>
    rename World => w1
    obtain ⟨k, hk, rfl, hb, hl⟩ := hrel
    have HB : Hid (Below w.heap.size w w1) := hb
    have HL : Hid (∀ (j : Nat) (hj : j < l.length), j < k → fileE l[j] ≠ 7) := hl
    clear hb hl
    by_cases hlt : k < n
    · have hkl : k < l.length := by have := HN.out; omega
      obtain ⟨b, off, ea, hbw, d0, d1, d2, d3⟩ := FS.at H'.out HB.out hkl
      subst ea
      have F : Hid (Fok l[k]) := SM.out.at hkl
      have HFk : Hid (∃ f, l[k] = f) := ⟨_, rfl⟩
      obtain ⟨f, hf⟩ := HFk.out
      rw [hf] at d0 d1 d2 d3 F
      have HF : Hid (l[k] = f) := hf
      clear hf HFk
      obtain ⟨p, t, bl, s⟩ := f
      simp only at d0 d1 d2 d3
      have k1 : (0 : Int) ≤ (k : Int) := by omega
      have k2 : (k : Int) < (n : Int) := by omega
      go_wp2_with fail
      refine (kfile_any ⟨p, t, bl, s⟩ _ F.out).mono ?_
      rintro e w2 ⟨rfl, hb2⟩
      have HB2 : Hid (Below w.heap.size w w2) := bstep HB.out hb2
      clear hb2 d0 d1 d2 d3
      by_cases h7 : fileE ⟨p, t, bl, s⟩ = 7
      · have HA7 : Hid (A = 7) := by rw [← HA.out]; exact validE_seven k hkl (by rw [HF.out]; exact h7)
        rw [h7]
        clear h7
        go_wp2_with fail
        go_ret
        exact ⟨by rw [HA7.out]; rfl, HB2.out⟩
      · have H7 : Hid (fileE l[k] ≠ 7) := by rw [HF.out]; exact h7
        have hd : (fileE ⟨p, t, bl, s⟩ == 7) = false := by simpa using h7
        generalize fileE ⟨p, t, bl, s⟩ = E at *
        go_wp2_with fail
        go_roundw
        case rel =>
          refine ⟨k + 1, by omega, by go_num, HB2.out, fun j hj hjk => ?_⟩
          by_cases e : j = k
          · subst e; exact H7.out
          · exact HL.out j hj (by omega)
        case measure => simp [intOf]; omega
    · obtain rfl : k = n := by omega
      have HA2 : Hid ((if stand l then 0 else 8) = A) := by
        rw [← HA.out]
        exact (validE_of (fun j hj => HL.out j hj (by have := HN.out; omega))).symm
      clear HA HL
      by_cases h5 : k ≤ 512
      · go_wp2_with fail
        go_loopw [4] (fun i wr => ∃ j : Nat, j ≤ k ∧ i = .int .i64 j ∧ Below w.heap.size w wr ∧ (∀ (i : Nat) (hi : i < l.length), i < j → fileE l[i] = 0) ∧ ∀ (i : Nat) (hi : i + 1 < l.length), i + 1 < j → cmpP (pcs (l[i]'(by omega)).path) (pcs (l[i + 1]'hi).path) < 0) (fun i _ => k - (intOf i).toNat)
        case atStart => exact ⟨0, by omega, rfl, HB.out, fun j _ hj => by omega, fun j _ hj => by omega⟩
        case round =>
          rename World => w2
          obtain ⟨j, hj, rfl, hb, hl1, hl2⟩ := hrel
          have HB2 : Hid (Below w.heap.size w w2) := hb
          have HL1 : Hid (∀ (i : Nat) (hi : i < l.length), i < j → fileE l[i] = 0) := hl1
          have HL2 : Hid (∀ (i : Nat) (hi : i + 1 < l.length), i + 1 < j → cmpP (pcs (l[i]'(by omega)).path) (pcs (l[i + 1]'hi).path) < 0) := hl2
          clear hb hl1 hl2
          by_cases hjk : j < k
          · have hjl : j < l.length := by have := HN.out; omega
            obtain ⟨b, off, ea, hbw, d0, d1, d2, d3⟩ := FS.at H'.out HB2.out hjl
            subst ea
            have F : Hid (Fok l[j]) := SM.out.at hjl
            have HFk : Hid (∃ f, l[j] = f) := ⟨_, rfl⟩
            obtain ⟨f, hf⟩ := HFk.out
            rw [hf] at d0 d1 d2 d3 F
            have HF : Hid (l[j] = f) := hf
            clear hf HFk
            obtain ⟨p, t, bl, s⟩ := f
            simp only at d0 d1 d2 d3
            have k1 : (0 : Int) ≤ (j : Int) := by omega
            have k2 : (j : Int) < (k : Int) := by omega
            go_wp2_with fail
            refine (kfile_any ⟨p, t, bl, s⟩ _ F.out).mono ?_
            rintro e w3 ⟨rfl, hb3⟩
            have HB3 : Hid (Below w.heap.size w w3) := bstep HB2.out hb3
            have hb2s := HB2.out.size
            have d0' : w3.cell? ⟨b, off + j * 4, none⟩ = some (.string (bs p)) := (hb3.cell (p := ⟨b, off + j * 4, none⟩) (Nat.lt_of_lt_of_le hbw hb2s)).trans d0
            have hbw3 : b < w3.heap.size := Nat.lt_of_lt_of_le hbw HB3.out.size
            clear hb3 d0 d1 d2 d3
            by_cases h0 : fileE ⟨p, t, bl, s⟩ = 0
            · have H0 : Hid (fileE l[j] = 0) := by rw [HF.out]; exact h0
              rw [h0]
              clear h0
              go_wp2_with fail
              rcases Nat.eq_zero_or_pos j with hj0 | hj0
              · subst hj0
                have yd : decide ((0 : Int) < ((0 : Nat) : Int)) = false := rfl
                have xne := gw_ne w3
                refine wp_region_grow (by kernel_rfl) (by kernel_rfl) ?_
                repeat (go_big_quiet_step (fail))
                refine wpQuiet_nil ?_
                rintro w4 ⟨⟨w4, bx⟩, rfl⟩
                have HB5 : Hid (Below w.heap.size w w4) := bstep HB3.out bx
                clear bx
                go_wp2_with fail
                go_roundw
                case rel =>
                  refine ⟨1, by omega, rfl, HB5.out, fun i hi h => ?_, fun i hi h => by omega⟩
                  obtain rfl : i = 0 := by omega
                  exact H0.out
                case measure => simp [intOf]; omega
              · obtain ⟨i, rfl⟩ : ∃ i, j = i + 1 := ⟨j - 1, by omega⟩
                have hil : i < l.length := by omega
                obtain ⟨b', off', ea', hbw', e0, e1, e2, e3⟩ := FS.at H'.out HB3.out hil
                injection ea' with ea'
                injection ea' with ea1 ea2
                subst ea1 ea2
                have F2 : Hid (Fok l[i]) := SM.out.at hil
                have hpl := F.out.path
                have hql := F2.out.path
                simp only at hpl
                obtain ⟨q, hq⟩ : ∃ q, l[i].path = q := ⟨_, rfl⟩
                rw [hq] at e0 hql
                have hcm : cmpP (pcs (l[i]'hil).path) (pcs (l[i + 1]'hjl).path) = cmpP (pcs q) (pcs p) := by rw [HF.out, hq]
                have HCm : Hid (cmpP (pcs (l[i]'hil).path) (pcs (l[i + 1]'hjl).path) = cmpP (pcs q) (pcs p)) := hcm
                clear hcm
                clear hq e1 e2 e3
                have C : ∀ X : GW w3, Calls Tryz.prog 33 #[.string (bs q), .string (bs p)] X.it fun e w' => e = .returned (.int .i64 (cmpP (pcs q) (pcs p))) ∧ ∃ Y : GW w3, w' = Y.it := fun X => gw_of (fun W => rcmp_any q p W (by omega) (by omega)) X
                have HC : Hid (∀ X : GW w3, Calls Tryz.prog 33 #[.string (bs q), .string (bs p)] X.it fun e w' => e = .returned (.int .i64 (cmpP (pcs q) (pcs p))) ∧ ∃ Y : GW w3, w' = Y.it) := C
                clear C
                generalize cmpP (pcs q) (pcs p) = Z at *
                have x0 : ∀ X : GW w3, X.it.cell? ⟨b, off + (i + 1) * 4, none⟩ = some (.string (bs p)) := fun X => X.cell hbw3 d0'
                have x1 : ∀ X : GW w3, X.it.cell? ⟨b, off + i * 4, none⟩ = some (.string (bs q)) := fun X => X.cell hbw3 e0
                have xne := gw_ne w3
                have y1 : (0 : Int) < ((i + 1 : Nat) : Int) := by omega
                have yd : decide ((0 : Int) < ((i + 1 : Nat) : Int)) = true := by simp
                have y2 : IntKind.i64.wrap (((i + 1 : Nat) : Int) - 1) = (i : Int) := by rw [IntKind.wrap_i64]; omega
                have y3 : (0 : Int) ≤ (i : Int) := by omega
                have y4 : (i : Int) < (k : Int) := by omega
                refine wp_region_grow (by kernel_rfl) (by kernel_rfl) ?_
                repeat (go_big_quiet_step (exact HC.out _))
                refine wpQuiet_nil ?_
                rintro w4 ⟨⟨w4, bx⟩, rfl⟩
                have HB5 : Hid (Below w.heap.size w w4) := bstep HB3.out bx
                clear bx x0 x1
                by_cases hZ : Z < 0
                · have hd : decide (0 ≤ Z) = false := by simp; omega
                  go_wp2_with fail
                  go_roundw
                  case rel =>
                    refine ⟨i + 1 + 1, by omega, by go_num, HB5.out, fun u hu h => ?_, fun u hu h => ?_⟩
                    · by_cases e : u = i + 1
                      · subst e; exact H0.out
                      · exact HL1.out u hu (by omega)
                    · by_cases e : u = i
                      · subst e; rw [HCm.out]; exact hZ
                      · exact HL2.out u hu (by omega)
                  case measure => simp [intOf]; omega
                · have hd : decide (0 ≤ Z) = true := by simp; omega
                  have HA8 : Hid (A = 8) := by
                    have h := HA2.out
                    rw [stand_not' (j := i) (h := hjl) (by unfold fol; rw [HCm.out]; simp; omega)] at h
                    exact h.symm
                  go_wp2_with fail
                  go_ret
                  exact ⟨by rw [HA8.out]; rfl, HB5.out⟩
            · have HA8 : Hid (A = 8) := by
                have h := HA2.out
                rw [stand_not (k := j) (hk := hjl) (by rw [HF.out]; exact h0)] at h
                exact h.symm
              have hd : (fileE ⟨p, t, bl, s⟩ == 0) = false := by simpa using h0
              generalize fileE ⟨p, t, bl, s⟩ = E at *
              go_wp2_with fail
              go_ret
              exact ⟨by rw [HA8.out]; rfl, HB3.out⟩
          · obtain rfl : j = k := by omega
            go_wp2_with fail
            go_loopw [5] (fun i wr => ∃ k : Nat, k ≤ j ∧ i = .int .i64 k ∧ Below w.heap.size w wr ∧ ∀ (i : Nat) (hi : i + 1 < l.length), i < k → abv (pcs (l[i]'(by omega)).path) (pcs (l[i + 1]'hi).path) = false) (fun i _ => j - (intOf i).toNat)
            case atStart => exact ⟨0, by omega, rfl, HB2.out, fun j _ hj => by omega⟩
            case round =>
              rename World => w3
              obtain ⟨k, hk, rfl, hb, hl⟩ := hrel
              have HB3 : Hid (Below w.heap.size w w3) := hb
              have HL3 : Hid (∀ (i : Nat) (hi : i + 1 < l.length), i < k → abv (pcs (l[i]'(by omega)).path) (pcs (l[i + 1]'hi).path) = false) := hl
              clear hb hl
              by_cases hk1 : k + 1 < j
              · have hkl : k + 1 < l.length := by have := HN.out; omega
                have hkl0 : k < l.length := by omega
                obtain ⟨b, off, ea, hbw, d0, _, _, _⟩ := FS.at H'.out HB3.out hkl0
                subst ea
                obtain ⟨b', off', ea', hbw', e0, _, _, _⟩ := FS.at H'.out HB3.out hkl
                injection ea' with ea'
                injection ea' with ea1 ea2
                subst ea1 ea2
                have F1 : Hid (Fok l[k]) := SM.out.at hkl0
                have F2 : Hid (Fok l[k + 1]) := SM.out.at hkl
                have hpl := F1.out.path
                have hql := F2.out.path
                obtain ⟨p, hp⟩ : ∃ p, l[k].path = p := ⟨_, rfl⟩
                obtain ⟨q, hq⟩ : ∃ q, l[k + 1].path = q := ⟨_, rfl⟩
                rw [hp] at d0 hpl
                rw [hq] at e0 hql
                have hcm : abv (pcs (l[k]'hkl0).path) (pcs (l[k + 1]'hkl).path) = abv (pcs p) (pcs q) := by rw [hp, hq]
                have HCm : Hid (abv (pcs (l[k]'hkl0).path) (pcs (l[k + 1]'hkl).path) = abv (pcs p) (pcs q)) := hcm
                have HAb : Hid (abvV (l[k]'hkl0).path (l[k + 1]'hkl).path = abv (pcs p) (pcs q)) := (abvV_eq _ _).trans hcm
                clear hcm
                clear hp hq
                have C : ∀ X : GW w3, Calls Tryz.prog 34 #[.string (bs p), .string (bs q)] X.it fun e w' => e = .returned (.bool (abv (pcs p) (pcs q))) ∧ ∃ Y : GW w3, w' = Y.it := fun X => gw_of (fun W => rabove_any p q W (by omega) (by omega)) X
                have HC : Hid (∀ X : GW w3, Calls Tryz.prog 34 #[.string (bs p), .string (bs q)] X.it fun e w' => e = .returned (.bool (abv (pcs p) (pcs q))) ∧ ∃ Y : GW w3, w' = Y.it) := C
                clear C
                generalize abv (pcs p) (pcs q) = Z at *
                have hbw3 : b < w3.heap.size := Nat.lt_of_lt_of_le hbw HB3.out.size
                have x0 : ∀ X : GW w3, X.it.cell? ⟨b, off + (k + 1) * 4, none⟩ = some (.string (bs q)) := fun X => X.cell hbw3 e0
                have x1 : ∀ X : GW w3, X.it.cell? ⟨b, off + k * 4, none⟩ = some (.string (bs p)) := fun X => X.cell hbw3 d0
                have xne := gw_ne w3
                have y2 : IntKind.i64.wrap ((k : Int) + 1) = ((k + 1 : Nat) : Int) := by rw [IntKind.wrap_i64]; omega
                have y3 : (0 : Int) ≤ (k : Int) := by omega
                have y4 : (k : Int) < (j : Int) := by omega
                have y5 : (0 : Int) ≤ ((k + 1 : Nat) : Int) := by omega
                have y6 : ((k + 1 : Nat) : Int) < (j : Int) := by omega
                clear d0 e0
                go_wp2_with fail
                refine wp_region_grow (by kernel_rfl) (by kernel_rfl) ?_
                repeat (go_big_quiet_step (exact HC.out _))
                refine wpQuiet_nil ?_
                rintro w4 ⟨⟨w4, bx⟩, rfl⟩
                have HB5 : Hid (Below w.heap.size w w4) := bstep HB3.out bx
                clear bx x0 x1
                cases Z
                · go_wp2_with fail
                  go_roundw
                  case rel =>
                    refine ⟨k + 1, by omega, by go_num, HB5.out, fun u hu h => ?_⟩
                    by_cases e : u = k
                    · subst e; exact HCm.out
                    · exact HL3.out u hu (by omega)
                  case measure => simp [intOf]; omega
                · have HA8 : Hid (A = 8) := by
                    have h := HA2.out
                    rw [stand_not' (j := k) (h := hkl) (by unfold fol; rw [HAb.out]; simp)] at h
                    exact h.symm
                  go_wp2_with fail
                  go_ret
                  exact ⟨by rw [HA8.out]; rfl, HB5.out⟩
              · have HA0 : Hid (A = 0) := by
                  have h := HA2.out
                  rw [stand_of (by have := HN.out; omega) (fun u hu => HL1.out u hu (by have := HN.out; omega)) (fun u hu => ?_)] at h
                  · exact h.symm
                  · unfold fol
                    rw [abvV_eq, HL3.out u hu (by have := HN.out; omega)]
                    have := HL2.out u hu (by have := HN.out; omega)
                    simpa using this
                have y2 : IntKind.i64.wrap ((k : Int) + 1) = ((k + 1 : Nat) : Int) := by rw [IntKind.wrap_i64]; omega
                have y6 : ¬ ((k + 1 : Nat) : Int) < (j : Int) := by omega
                go_wp2_with fail
                go_ret
                exact ⟨by rw [HA0.out]; rfl, HB3.out⟩
      · have HA8 : Hid (A = 8) := by
          have h := HA2.out
          have e : stand l = false := by
            cases e : stand l
            · rfl
            · have : l.length ≤ 512 := by unfold stand at e; simp only [Bool.and_eq_true, decide_eq_true_eq] at e; exact e.1.1
              have := HN.out
              omega
          rw [e] at h
          exact h.symm
        have h5' : (512 : Int) < (k : Int) := by omega
        go_wp2_with fail
        go_ret
        exact ⟨by rw [HA8.out]; rfl, HB.out⟩
end Go.Proofs.YtfdcfcalbongeaaGreat
