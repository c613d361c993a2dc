/-
  The document's step.
-/
import Derived.Test.YtbaheiimcnfaaaaGreatJNx
namespace Go.Proofs.YtbaheiimcnfaaaaGreat
open Go.RowKit Go.Maps
attribute [local go_sem] Oper.semAt_some

theorem wr_p (i n : Nat) (hn : n ≤ 1000000) (h : i + 1 < n) : IntKind.i64.wrap ((i : Int) + 1) = (i : Int) + 1 ∧ wrap64 ((i : Int) + 1) = (i : Int) + 1 := by
  rw [IntKind.wrap_i64]
  unfold wrap64
  omega
theorem bstF_snoc (l : List Fl) (k : List (List UInt8)) (p : List UInt8) : ∀ (r : List (List UInt8)) (q : List UInt8), bstF l k q (r ++ [p]) = if btr l k p (bstF l k q r) then p else bstF l k q r
  | [], q => rfl
  | x :: r, q => by
    show bstF l k _ (r ++ [p]) = _
    rw [bstF_snoc l k p r]
    rfl
/-- the best of the first i -/
def bqD (l : List Fl) (k D : List (List UInt8)) : Nat → List UInt8
  | 0 => []
  | i + 1 => bstF l k (D.headD []) (D.tail.take i)
def bqs (l : List Fl) (k : List (List UInt8)) (i : Nat) : List UInt8 := bqD l k (cds k) i
def bls (l : List Fl) (k : List (List UInt8)) (i : Nat) : Int := if i = 0 then 0 else cw l k (bqs l k i)
theorem bqD_next (l : List Fl) (k : List (List UInt8)) : ∀ (D : List (List UInt8)) (i : Nat) (h : i < D.length), bqD l k D (i + 1) = if i = 0 ∨ btr l k (D[i]'h) (bqD l k D i) = true then (D[i]'h) else bqD l k D i
  | [], i, h => by simp at h
  | c :: r, 0, h => by rw [if_pos (.inl rfl)]; rfl
  | c :: r, i + 1, h => by
    have hi : i < r.length := by simpa using h
    have e1 : r.take (i + 1) = r.take i ++ [r[i]] := List.take_succ_eq_append_getElem hi
    show bstF l k c (r.take (i + 1)) = if i + 1 = 0 ∨ btr l k r[i] (bstF l k c (r.take i)) = true then r[i] else bstF l k c (r.take i)
    rw [e1, bstF_snoc]
    by_cases hb : btr l k r[i] (bstF l k c (r.take i)) = true
    · rw [if_pos hb, if_pos (.inr hb)]
    · rw [if_neg hb, if_neg (fun hh => hb (hh.resolve_left (by omega)))]
theorem bqs_next (l : List Fl) (k : List (List UInt8)) (i : Nat) (h : i < (cds k).length) : bqs l k (i + 1) = if i = 0 ∨ btr l k (cds k)[i] (bqs l k i) = true then (cds k)[i] else bqs l k i := bqD_next l k (cds k) i h
theorem bqs_all {l : List Fl} {k : List (List UInt8)} (h2 : 2 ≤ k.length) {i : Nat} (hi : i + 1 = k.length) : bqs l k i ∈ cds k ∧ stp l k = wid (bqs l k i) false k := by
  have hl := cds_len k
  cases e : cds k with
  | nil => rw [e] at hl; simp at hl; omega
  | cons c r =>
    have hr : r.length + 1 = i := by rw [e] at hl; simp at hl; omega
    obtain ⟨j, rfl⟩ : ∃ j, i = j + 1 := ⟨i - 1, by omega⟩
    have eb : bqs l k (j + 1) = bstF l k c r := by
      unfold bqs
      rw [e]
      show bstF l k c (r.take j) = _
      rw [List.take_of_length_le (by omega)]
    rw [eb]
    refine ⟨bst_mem r c, ?_⟩
    unfold stp
    rw [e]
theorem bqs_ok {l : List Fl} {k : List (List UInt8)} (hk : coneE k = 0) (i : Nat) (hi : i ≤ (cds k).length) : okP (bqs l k i) = true := by
  induction i with
  | zero => exact okP_nil
  | succ i ih =>
    rw [bqs_next l k i (by omega)]
    split
    · obtain ⟨_, _, _, _, _, _, hok, _⟩ := cone_two hk (List.getElem_mem (show i < (cds k).length by omega))
      exact hok
    · exact ih (by omega)
set_option maxRecDepth 100000 in
set_option maxHeartbeats 8000000 in
theorem rstep_any {w : World} {v u : Value} {l : List Fl} {k : List (List UInt8)} (hf : FS w v l) (h : SS w u k) (ok : RefOk l) (hk : coneE k = 0) (sk : Sm k) (hkl : k.length ≤ 1000000) (h2 : 2 ≤ k.length) :
    Calls Tryz.prog 45 #[v, u] w fun e w' => ∃ v', e = .returned v' ∧ Own w.heap.size w' v' (stp l k) ∧ Below w.heap.size w w' := by
  have hcl := cds_len k
  have HCM : Hid (∀ a c W, a ∈ k → c ∈ k → Calls Tryz.prog 16 #[.string (bs a), .string (bs c)] W fun e w' => e = .returned (.string (bs (cmn a c))) ∧ Below W.heap.size W w') := fun a c W ha hc => rcommon_any a c W (sk.each a ha) (sk.each c hc)
  have HAT : Hid (∀ p W, okP p = true → Below w.heap.size w W → Calls Tryz.prog 19 #[u, .string (bs p)] W (TwoS W (wid p false k, 0))) := fun p W hp hW => by
    have q := rat_c (h.later hW) sk (p := p) (by have := (okP_len hp).1; omega) hkl
    unfold mat at q
    rwa [if_pos hk, if_pos hp] at q
  have HCO : Hid (∀ p W v', p ∈ cds k → Below w.heap.size w W → SS W v' (wid p false k) → Calls Tryz.prog 46 #[v, v'] W fun e w' => e = .returned (.int .i64 (cw l k p)) ∧ Below W.heap.size W w') := fun p W v' hp hW hs => by
    have q2 := wid_two hk hp
    exact rcost_c (hf.later hW) hs ok q2.1 (by omega)
  have HSP := hid_of (fun p W (hp : p.length ≤ 120) => rsplit_any p W (by omega))
  have HCP0 := hid_of (fun a c W (ha : a.length ≤ 120) (hc : c.length ≤ 120) => rcmp_any a c W (by omega) (by omega))
  have HX := hid_of (And.intro hk (And.intro sk h2))
  obtain ⟨ad, c, hv, ca⟩ := h.form
  have HA := hid_of ca
  obtain ⟨n, hn⟩ : ∃ n, k.length = n := ⟨_, rfl⟩
  rw [hn] at hv hkl h2 hcl
  obtain ⟨fa, fcp, hfv, -⟩ := hf.form
  generalize l.length = fn at hfv
  subst hv
  subst hfv
  have HN := hid_of hn
  clear hf h ok hk sk hn ca
  go_enter Tryz.func45, Tryz.ntmps45
  go_wp2_with fail
  go_loopw [5, 6, 7, 8, 9, 10, 11, 12, 13] (fun s5 s6 s7 s8 s9 s10 s11 s12 s13 wr => ∃ i : Nat, s7 = .int .i64 i ∧ i + 1 ≤ n ∧ s5 = .string (bs (bqs l k i)) ∧ s6 = .int .i64 (bls l k i) ∧ Below w.heap.size w wr) (fun _ _ s7 _ _ _ _ _ _ _ => n - (intOf s7).toNat)
  case atStart => exact ⟨0, rfl, by omega, rfl, rfl, Below.refl _ _⟩
  case round =>
    obtain ⟨i, rfl, hi, rfl, rfl, hb⟩ := hrel
    have HR := hid_of hb
    clear hb
    by_cases hlt : i + 1 < n
    · have i1 : (i : Int) + 1 < (n : Int) := by omega
      have i2 : (0 : Int) ≤ (i : Int) := by omega
      have i3 : (0 : Int) ≤ (i : Int) + 1 := by omega
      have i4 : (i : Int) < (n : Int) := by omega
      obtain ⟨i5, i6⟩ := wr_p i n hkl hlt
      have hil : i + 1 < k.length := by rw [HN.out]; exact hlt
      have hic : i < (cds k).length := by omega
      obtain ⟨g, off, e4, hg, hc1⟩ := HA.out (i + 1) hil
      subst e4
      obtain ⟨g', off', e4', hg', hc0⟩ := HA.out i (by omega)
      cases e4'
      have hget := cds_get k i hil
      rw [List.getElem?_eq_getElem hic] at hget
      injection hget with hget
      have HNX := hid_of (bqs_next l k i hic)
      have hpm : (cds k)[i] ∈ cds k := List.getElem_mem hic
      obtain ⟨_, _, _, _, _, _, hpok, _⟩ := cone_two HX.out.1 hpm
      have hqok := bqs_ok (l := l) HX.out.1 i (by omega)
      have HCI := hid_of (fun W => HCM.out _ _ W (List.getElem_mem (show i < k.length by omega)) (List.getElem_mem hil))
      rw [← hget] at HCI
      have HC01 : Hid (∀ W, Below w.heap.size w W → W.cell? ⟨g, off + i, none⟩ = some (.string (bs k[i])) ∧ W.cell? ⟨g, off + (i + 1), none⟩ = some (.string (bs k[i + 1]))) := fun W hW => ⟨(hW.cell (p := ⟨g, off + i, none⟩) hg).trans hc0, (hW.cell (p := ⟨g, off + (i + 1), none⟩) hg).trans hc1⟩
      clear hget hc0 hc1
      generalize k[i] = x at HCI HC01
      generalize k[i + 1] = y at HCI HC01
      have HPM := hid_of hpm
      clear hpm
      generalize (cds k)[i] = p at HCI HNX hpok HPM
      have HQI : Hid (bls l k i = if i = 0 then 0 else cw l k (bqs l k i)) := rfl
      have HQN : Hid (bls l k (i + 1) = cw l k (bqs l k (i + 1))) := by show _ = _; unfold bls; rw [if_neg (by omega)]
      generalize hqq : bqs l k i = q at HNX hqok HQI ⊢
      generalize hll : bls l k i = lx at HQI ⊢
      clear hqq hll
      have hpl := (okP_len hpok).1
      have hql := (okP_len hqok).1
      obtain ⟨cx, hcx⟩ : ∃ cx, cw l k p = cx := ⟨_, rfl⟩
      have HCW : Hid (cw l k p = cx ∧ (i ≠ 0 → cw l k q = lx)) := ⟨hcx, fun h0 => by have := HQI.out; rw [if_neg h0] at this; exact this.symm⟩
      have HT : Hid ((i = 0 ∨ btr l k p q = true → Value.string (bs p) = .string (bs (bqs l k (i + 1)))) ∧ (i = 0 ∨ btr l k p q = true → Value.int .i64 cx = .int .i64 (bls l k (i + 1)))) := ⟨fun hh => by rw [HNX.out, if_pos hh], fun hh => by rw [HQN.out, HNX.out, if_pos hh, hcx]⟩
      have HU : Hid ((¬ (i = 0 ∨ btr l k p q = true) → Value.string (bs q) = .string (bs (bqs l k (i + 1)))) ∧ (¬ (i = 0 ∨ btr l k p q = true) → Value.int .i64 lx = .int .i64 (bls l k (i + 1)))) := ⟨fun hh => by rw [HNX.out, if_neg hh], fun hh => by rw [HQN.out, HNX.out, if_neg hh, HCW.out.2 (fun e => hh (.inl e))]⟩
      obtain ⟨cv, hcv⟩ : ∃ cv, cf p q = cv := ⟨_, rfl⟩
      have HCV := hid_of hcv
      have HCP : Hid (∀ W, Calls Tryz.prog 26 #[.string (bs p), .string (bs q)] W fun e w' => e = .returned (.int .i64 cv) ∧ Below W.heap.size W w') := by rw [← hcv]; exact fun W => HCP0.out p q W hpl hql
      obtain ⟨dp, hdp⟩ : ∃ dp, dep p = dp := ⟨_, rfl⟩
      obtain ⟨dq, hdq⟩ : ∃ dq, dep q = dq := ⟨_, rfl⟩
      have HDP := hid_of (And.intro hdp hdq)
      have HATp := hid_of (fun W hW => HAT.out p W hpok hW)
      have HCOp := hid_of (fun W v' (hW : Below w.heap.size w W) (hs : SS W v' (wid p false k)) => HCO.out p W v' HPM.out hW hs)
      rw [hcx] at HCOp
      obtain ⟨c0, c1⟩ := HC01.out wr HR.out
      clear hcx hcv hdp hdq hpok hqok HAT HCO HNX HQI HQN
      go_wp2_with fail
      go_region_held3 (fun w' => w'.cell? ⟨g, off + i, none⟩ = some (.string (bs x)) ∧ w'.cell? ⟨g, off + (i + 1), none⟩ = some (.string (bs y))) (first | (with_reducible exact ⟨c0, c1⟩) | (with_reducible exact KA.out) | go_keep) (first | (go_at_call 16; refine (HCI.out _).mono ?_; rintro e w5 ⟨rfl, hb5⟩; have H5w : Hid (Below w.heap.size w w5) := bstep HR.out (bstep (Below.refl _ _).drew hb5); have KA : Hid (w5.cell? ⟨g, off + i, none⟩ = some (.string (bs x)) ∧ w5.cell? ⟨g, off + (i + 1), none⟩ = some (.string (bs y))) := HC01.out w5 H5w.out; clear hb5))
      clear c0 c1 KA
      go_wp2_with fail
      refine (HATp.out w5 H5w.out).mono ?_
      intro e w6 h6
      unfold TwoS at h6
      obtain ⟨v6, rfl, ho6, hb6⟩ := h6
      simp only at ho6 ⊢
      have H6 := hid_of (And.intro ho6 (bstep H5w.out hb6))
      clear ho6 hb6
      go_wp2_with fail
      refine (HCOp.out w6 v6 H6.out.2 H6.out.1.bs).mono ?_
      rintro e w7 ⟨rfl, hb7⟩
      have H7 := hid_of (bstep H6.out.2 hb7)
      clear hb7
      go_wp2_with fail
      refine (HSP.out p w7 hpl).mono ?_
      rintro e w8 ⟨v8, rfl, ho8, hb8⟩
      obtain ⟨a8, c8, hv8, -⟩ := ho8.bs.form
      rw [dep_eq, HDP.out.1] at hv8
      subst hv8
      have H8 := hid_of (bstep H7.out hb8)
      clear ho8 hb8
      go_wp2_with fail
      refine (HSP.out q w8 hql).mono ?_
      rintro e w9 ⟨v9, rfl, ho9, hb9⟩
      obtain ⟨a9, c9, hv9, -⟩ := ho9.bs.form
      rw [dep_eq, HDP.out.2] at hv9
      subst hv9
      have H9 : Hid (True ∧ True ∧ Below w.heap.size w w9) := ⟨trivial, trivial, bstep H8.out hb9⟩
      clear ho9 hb9
      by_cases h0 : i = 0
      · have h0' : (i : Int) = 0 := by omega
        have h0b : ((i : Int) == 0) = true := by rw [h0']; rfl
        go_wp2_with fail
        go_roundw
        case rel => exact ⟨i + 1, by go_num, by omega, HT.out.1 (.inl h0), HT.out.2 (.inl h0), H9.out.2.2⟩
        case measure => simp [intOf]; omega
      · have h0' : ¬ ((i : Int) = 0) := by omega
        have h0b : ((i : Int) == 0) = false := beq_false_of_ne h0'
        by_cases h1 : cx < lx
        · have H1 := hid_of h1
          go_wp2_with fail
          go_roundw
          case rel => exact ⟨i + 1, by go_num, by omega, HT.out.1 (.inr (btr_iff.2 (.inl (by rw [HCW.out.1, HCW.out.2 h0]; exact H1.out)))), HT.out.2 (.inr (btr_iff.2 (.inl (by rw [HCW.out.1, HCW.out.2 h0]; exact H1.out)))), H9.out.2.2⟩
          case measure => simp [intOf]; omega
        · by_cases h2 : cx = lx
          · have H2 := hid_of h2
            have h2b : (cx == lx) = true := by rw [h2]; simp
            by_cases h3 : dq < dp
            · have H3 := hid_of h3
              have h3i : (dq : Int) < (dp : Int) := by omega
              go_wp2_with fail
              go_roundw
              case rel => exact ⟨i + 1, by go_num, by omega, HT.out.1 (.inr (btr_iff.2 (.inr ⟨by rw [HCW.out.1, HCW.out.2 h0]; exact H2.out, .inl (by rw [← HDP.out.1, ← HDP.out.2] at H3; exact H3.out)⟩))), (by rw [← H2.out]; exact HT.out.2 (.inr (btr_iff.2 (.inr ⟨by rw [HCW.out.1, HCW.out.2 h0]; exact H2.out, .inl (by rw [← HDP.out.1, ← HDP.out.2] at H3; exact H3.out)⟩)))), H9.out.2.2⟩
              case measure => simp [intOf]; omega
            · by_cases h4 : dp = dq
              · have H4 := hid_of h4
                have h4b : ((dp : Int) == (dq : Int)) = true := by rw [h4]; simp
                have h3i : ¬ ((dq : Int) < (dp : Int)) := by omega
                go_wp2_with fail
                refine (HCP.out _).mono ?_
                rintro e w10 ⟨rfl, hb10⟩
                have H10 := hid_of (bstep H9.out.2.2 hb10)
                clear hb10
                by_cases h5 : cv < 0
                · have H5 := hid_of h5
                  go_wp2_with fail
                  go_roundw
                  case rel => exact ⟨i + 1, by go_num, by omega, HT.out.1 (.inr (btr_iff.2 (.inr ⟨by rw [HCW.out.1, HCW.out.2 h0]; exact H2.out, .inr ⟨by rw [HDP.out.1, HDP.out.2]; exact H4.out, by rw [HCV.out]; exact H5.out⟩⟩))), (by rw [← H2.out]; exact HT.out.2 (.inr (btr_iff.2 (.inr ⟨by rw [HCW.out.1, HCW.out.2 h0]; exact H2.out, .inr ⟨by rw [HDP.out.1, HDP.out.2]; exact H4.out, by rw [HCV.out]; exact H5.out⟩⟩)))), H10.out⟩
                  case measure => simp [intOf]; omega
                · have H5 := hid_of h5
                  go_wp2_with fail
                  go_roundw
                  case rel => exact ⟨i + 1, by go_num, by omega, HU.out.1 (fun hh => by have q := btr_iff.1 (hh.resolve_left h0); rw [HCW.out.1, HCW.out.2 h0, HDP.out.1, HDP.out.2, HCV.out] at q; have := H2.out; have := H4.out; have := H5.out; omega), HU.out.2 (fun hh => by have q := btr_iff.1 (hh.resolve_left h0); rw [HCW.out.1, HCW.out.2 h0, HDP.out.1, HDP.out.2, HCV.out] at q; have := H2.out; have := H4.out; have := H5.out; omega), H10.out⟩
                  case measure => simp [intOf]; omega
              · have H4 := hid_of h4
                have h4b : ((dp : Int) == (dq : Int)) = false := beq_false_of_ne (by omega)
                have h3i : ¬ ((dq : Int) < (dp : Int)) := by omega
                go_wp2_with fail
                go_roundw
                case rel => exact ⟨i + 1, by go_num, by omega, HU.out.1 (fun hh => by have q := btr_iff.1 (hh.resolve_left h0); rw [HCW.out.1, HCW.out.2 h0, HDP.out.1, HDP.out.2] at q; have := H2.out; have := H4.out; omega), HU.out.2 (fun hh => by have q := btr_iff.1 (hh.resolve_left h0); rw [HCW.out.1, HCW.out.2 h0, HDP.out.1, HDP.out.2] at q; have := H2.out; have := H4.out; omega), H9.out.2.2⟩
                case measure => simp [intOf]; omega
          · have H2 := hid_of h2
            have h2b : (cx == lx) = false := beq_false_of_ne h2
            go_wp2_with fail
            go_roundw
            case rel => exact ⟨i + 1, by go_num, by omega, HU.out.1 (fun hh => by have q := btr_iff.1 (hh.resolve_left h0); rw [HCW.out.1, HCW.out.2 h0] at q; have := H2.out; omega), HU.out.2 (fun hh => by have q := btr_iff.1 (hh.resolve_left h0); rw [HCW.out.1, HCW.out.2 h0] at q; have := H2.out; omega), H9.out.2.2⟩
            case measure => simp [intOf]; omega
    · have hbn' : ¬ ((i : Int) + 1 < (n : Int)) := by omega
      obtain ⟨hm, hst⟩ := bqs_all (l := l) HX.out.2.2 (i := i) (by have := HN.out; omega)
      obtain ⟨_, _, _, _, _, _, hpok, _⟩ := cone_two HX.out.1 hm
      have HATp := hid_of (HAT.out _ wr hpok HR.out)
      rw [← hst] at HATp
      generalize bqs l k i = q at HATp ⊢
      generalize bls l k i = lx
      clear hm hst hpok HAT HCO HCM HSP HCP0 HA
      go_wp2_with fail
      refine HATp.out.mono ?_
      intro e w6 h6
      unfold TwoS at h6
      obtain ⟨v6, rfl, ho6, hb6⟩ := h6
      simp only at ho6 ⊢
      have H6 := hid_of (And.intro (ho6.mono HR.out.size) (bstep HR.out hb6))
      clear ho6 hb6
      go_wp2_with fail
      go_ret
      exact ⟨_, rfl, H6.out.1, H6.out.2⟩
end Go.Proofs.YtbaheiimcnfaaaaGreat
