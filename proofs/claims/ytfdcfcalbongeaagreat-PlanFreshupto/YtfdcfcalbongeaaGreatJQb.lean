/-
  The law PlanMakes, from the contracts.
  The document's stands.
-/
import Derived.Test.YtfdcfcalbongeaaGreatPk
namespace Go.Proofs.YtfdcfcalbongeaaGreat
open Go.RowKit
attribute [local go_sem] Oper.semAt_some

theorem mkS_small {old now : List Fl} (h : mkE old now = 0) : (mkS old now).length ≤ 1000000 := by
  have h1 : validE old = 0 := by
    by_cases e : validE old = 0
    · exact e
    · unfold mkE at h; rw [if_neg e] at h; exact h
  have h2 : validE now = 0 := by unfold mkE at h; rw [if_pos h1] at h; exact h
  have L1 := (stand_iff.1 ((validE_zero old).1 h1)).1
  have L2 := (stand_iff.1 ((validE_zero now).1 h2)).1
  have P1 := nds_len L1 (fun f hf => (okP_len (fileE_path ((TOk.new h1).fe f hf)).2).1)
  have P2 := nds_len L2 (fun f hf => (okP_len (fileE_path ((TOk.new h2).fe f hf)).2).1)
  have a1 := List.length_filter_le (fun f : Fl => !hasF now f.path) old
  have a2 := List.length_filter_le (fun d => !decide (d ∈ nds now)) (nds old)
  have a3 := List.length_filter_le (fun d => !decide (d ∈ nds old)) (nds now)
  have a4 := List.length_filter_le (fun f : Fl => !hasE old f) now
  unfold mkS pD pR pM pW
  simp only [List.length_append, List.length_map, List.length_reverse]
  omega
end Go.Proofs.YtfdcfcalbongeaaGreat

namespace Go.Proofs.YtfdcfcalbongeaaGreat
open Go.RowKit
attribute [local go_sem] Oper.semAt_some

/-- a step in a block of its own -/
structure RS (w : World) (g : Nat) (s : Sp) : Prop where
  blk : w.heap[g]? = some (.cells #[.int .i64 s.kind, .string (bs s.p), .string (bs s.f.path), .string (bs s.f.text), .int .i64 s.f.blob, .int .i64 s.f.size] 42 (0, 0))
theorem stn_step (S : List Sp) (p : List UInt8) (k : Nat) (hk : k < S.length) : stn (S.drop k) p = (stn1 S[k] p || stn (S.drop (k + 1)) p) := by
  unfold stn
  rw [List.drop_eq_getElem_cons hk, List.any_cons]
set_option maxRecDepth 100000 in
set_option maxHeartbeats 16000000 in
theorem stands_any {w : World} {v : Value} {S : List Sp} (p : List UInt8) (h : PS w v S) (hl : S.length ≤ 1000000000) (hp : p.length ≤ 1000000000) (hS : ∀ s ∈ S, s.p.length ≤ 1000000000) :
    Calls Tryz.prog 17 #[v, .string (bs p)] w fun e w' => e = .returned (.bool (stn S p)) ∧ Below w.heap.size w w' := by
  obtain ⟨r, hr⟩ : ∃ r, stn S p = r := ⟨_, rfl⟩
  rw [hr]
  have HR : Hid (stn (S.drop 0) p = r) := hr
  have H : Hid (PS w v S) := h
  have HS : Hid (∀ s ∈ S, s.p.length ≤ 1000000000) := hS
  clear hr hS
  obtain ⟨a, c, rfl⟩ := h.form
  clear h
  have H' : Hid (PS w (.slice a S.length c) S) := H.out
  clear H
  obtain ⟨n, hn⟩ : ∃ n, S.length = n := ⟨_, rfl⟩
  rw [hn] at hl ⊢
  have HN : Hid (S.length = n) := hn
  clear hn
  have tp := bs_toList p
  go_enter Tryz.func17, Tryz.ntmps17
  go_wp2_with fail
  go_loopw [5] (fun i wr => ∃ k : Nat, k ≤ n ∧ i = .int .i64 k ∧ Below w.heap.size w wr ∧ stn (S.drop k) p = r) (fun i _ => n - (intOf i).toNat)
  case atStart => exact ⟨0, by omega, rfl, Below.refl _ _, HR.out⟩
  case round =>
    obtain ⟨k, hk, rfl, hb, hst⟩ := hrel
    have HB : Hid (Below w.heap.size w wr) := hb
    have HT : Hid (stn (S.drop k) p = r) := hst
    clear hb hst
    by_cases hlt : k < n
    · have hkl : k < S.length := by have := HN.out; omega
      obtain ⟨b, off, ea, hbw, d0, d1, d2, d3, d4, d5⟩ := PS.at H'.out HB.out hkl
      subst ea
      have hql := HS.out S[k] (List.getElem_mem _)
      have h2 := HT.out
      rw [stn_step S p k hkl] at h2
      generalize hf : S[k] = s at d0 d1 d2 d3 d4 d5 h2 hql
      obtain ⟨kd, q, ⟨fp, ft, fb, fs⟩⟩ := s
      simp only at d0 d1 d2 d3 d4 d5 hql
      have HT2 : Hid ((stn1 ⟨kd, q, ⟨fp, ft, fb, fs⟩⟩ p || stn (S.drop (k + 1)) p) = r) := h2
      clear hf h2
      have k1 : (0 : Int) ≤ (k : Int) := by omega
      have k2 : (k : Int) < (n : Int) := by omega
      have tq := bs_toList q
      obtain ⟨x1, hx1⟩ : ∃ x, abv (pcs p) (pcs q) = x := ⟨_, rfl⟩
      obtain ⟨x2, hx2⟩ : ∃ x, abv (pcs q) (pcs p) = x := ⟨_, rfl⟩
      have A1 : Hid (∀ W, Calls Tryz.prog 34 #[.string (bs p), .string (bs q)] W fun e w' => e = .returned (.bool x1) ∧ Below W.heap.size W w') := fun W => by rw [← hx1]; exact rabove_any p q W hp hql
      have A2 : Hid (∀ W, Calls Tryz.prog 34 #[.string (bs q), .string (bs p)] W fun e w' => e = .returned (.bool x2) ∧ Below W.heap.size W w') := fun W => by rw [← hx2]; exact rabove_any q p W hql hp
      have HX : Hid (abvV p q = x1 ∧ abvV q p = x2) := ⟨(abvV_eq p q).trans hx1, (abvV_eq q p).trans hx2⟩
      clear hx1 hx2
      obtain ⟨wa, hwa⟩ : ∃ x, wr.alloc (.cells #[.int .i64 kd, .string (bs q), .string (bs fp), .string (bs ft), .int .i64 fb, .int .i64 fs] 42) = x := ⟨_, rfl⟩
      obtain ⟨ga, hga⟩ : ∃ x, wr.heap.size = x := ⟨_, rfl⟩
      have hblk : wa.heap[ga]? = some (.cells #[.int .i64 kd, .string (bs q), .string (bs fp), .string (bs ft), .int .i64 fb, .int .i64 fs] 42 (0, 0)) := by rw [← hwa, ← hga]; exact heap_alloc_new _ _
      have BA : Hid (Below w.heap.size w wa ∧ ga < wa.heap.size) := ⟨bstep HB.out (hwa ▸ balloc _ _), (Array.getElem?_eq_some_iff.1 hblk).1⟩
      have CE : Hid (∀ W, Below wa.heap.size wa W → W.cell? ⟨ga, 0, none⟩ = some (.int .i64 kd) ∧ W.cell? ⟨ga, 1, none⟩ = some (.string (bs q))) := fun W h => by
        have e : W.heap[ga]? = wa.heap[ga]? := h.block ga BA.out.2
        rw [hblk] at e
        exact ⟨by simp [World.cell?, e], by simp [World.cell?, e]⟩
      obtain ⟨y0, y1⟩ := CE.out wa (Below.refl _ _)
      clear hblk
      by_cases h1 : kd = 1
      · subst h1
        by_cases hqp : q = p
        · have hdq : (q == p) = true := by simpa using hqp
          have HRT : Hid (true = r) := by
            have := HT2.out
            unfold stn1 at this
            show _ = _
            simpa [HX.out.1, HX.out.2, hqp] using this
          clear hqp
          go_wp2_with fail
          go_ret
          exact ⟨by rw [← HRT.out]; rfl, BA.out.1⟩
        · have hdq : (q == p) = false := by simpa using hqp
          cases x1 with
          | true =>
            have HRT : Hid (true = r) := by
              have := HT2.out
              unfold stn1 at this
              show _ = _
              simpa [HX.out.1, HX.out.2, hqp] using this
            clear hqp
            go_wp2_with fail
            refine (A1.out _).mono ?_
            rintro e w5 ⟨rfl, hbn⟩
            have Bw5 : Hid (Below wa.heap.size wa w5) := hbn
            clear hbn
            go_wp2_with fail
            go_ret
            exact ⟨by rw [← HRT.out]; rfl, bstep BA.out.1 Bw5.out⟩
          | false =>
            cases x2 with
            | true =>
              have HRT : Hid (true = r) := by
                have := HT2.out
                unfold stn1 at this
                show _ = _
                simpa [HX.out.1, HX.out.2, hqp] using this
              clear hqp
              go_wp2_with fail
              refine (A1.out _).mono ?_
              rintro e w5 ⟨rfl, hbn⟩
              have Bw5 : Hid (Below wa.heap.size wa w5) := hbn
              clear hbn
              obtain ⟨z0, z1⟩ := CE.out _ Bw5.out
              go_wp2_with fail
              refine (A2.out _).mono ?_
              rintro e w6 ⟨rfl, hbn⟩
              have Bw6 : Hid (Below wa.heap.size wa w6) := bstep Bw5.out hbn
              clear hbn
              go_wp2_with fail
              go_ret
              exact ⟨by rw [← HRT.out]; rfl, bstep BA.out.1 Bw6.out⟩
            | false =>
              have HNX : Hid (stn (S.drop (k + 1)) p = r) := by
                have := HT2.out
                unfold stn1 at this
                show _ = _
                simpa [HX.out.1, HX.out.2, hdq] using this
              clear hqp
              go_wp2_with fail
              refine (A1.out _).mono ?_
              rintro e w5 ⟨rfl, hbn⟩
              have Bw5 : Hid (Below wa.heap.size wa w5) := hbn
              clear hbn
              obtain ⟨z0, z1⟩ := CE.out _ Bw5.out
              go_wp2_with fail
              refine (A2.out _).mono ?_
              rintro e w6 ⟨rfl, hbn⟩
              have Bw6 : Hid (Below wa.heap.size wa w6) := bstep Bw5.out hbn
              clear hbn
              obtain ⟨u0, u1⟩ := CE.out _ Bw6.out
              go_wp2_with fail
              go_roundw
              case rel => exact ⟨k + 1, by omega, by go_num, bstep BA.out.1 Bw6.out, HNX.out⟩
              case measure => simp [intOf]; omega
      · by_cases h4 : kd = 4
        · subst h4
          by_cases hqp : q = p
          · have hdq : (q == p) = true := by simpa using hqp
            have HRT : Hid (true = r) := by
              have := HT2.out
              unfold stn1 at this
              show _ = _
              simpa [HX.out.1, HX.out.2, hqp] using this
            clear hqp
            go_wp2_with fail
            go_ret
            exact ⟨by rw [← HRT.out]; rfl, BA.out.1⟩
          · have hdq : (q == p) = false := by simpa using hqp
            cases x1 with
            | true =>
              have HRT : Hid (true = r) := by
                have := HT2.out
                unfold stn1 at this
                show _ = _
                simpa [HX.out.1, HX.out.2, hqp] using this
              clear hqp
              go_wp2_with fail
              refine (A1.out _).mono ?_
              rintro e w5 ⟨rfl, hbn⟩
              have Bw5 : Hid (Below wa.heap.size wa w5) := hbn
              clear hbn
              go_wp2_with fail
              go_ret
              exact ⟨by rw [← HRT.out]; rfl, bstep BA.out.1 Bw5.out⟩
            | false =>
              cases x2 with
              | true =>
                have HRT : Hid (true = r) := by
                  have := HT2.out
                  unfold stn1 at this
                  show _ = _
                  simpa [HX.out.1, HX.out.2, hqp] using this
                clear hqp
                go_wp2_with fail
                refine (A1.out _).mono ?_
                rintro e w5 ⟨rfl, hbn⟩
                have Bw5 : Hid (Below wa.heap.size wa w5) := hbn
                clear hbn
                obtain ⟨z0, z1⟩ := CE.out _ Bw5.out
                go_wp2_with fail
                refine (A2.out _).mono ?_
                rintro e w6 ⟨rfl, hbn⟩
                have Bw6 : Hid (Below wa.heap.size wa w6) := bstep Bw5.out hbn
                clear hbn
                go_wp2_with fail
                go_ret
                exact ⟨by rw [← HRT.out]; rfl, bstep BA.out.1 Bw6.out⟩
              | false =>
                have HNX : Hid (stn (S.drop (k + 1)) p = r) := by
                  have := HT2.out
                  unfold stn1 at this
                  show _ = _
                  simpa [HX.out.1, HX.out.2, hdq] using this
                clear hqp
                go_wp2_with fail
                refine (A1.out _).mono ?_
                rintro e w5 ⟨rfl, hbn⟩
                have Bw5 : Hid (Below wa.heap.size wa w5) := hbn
                clear hbn
                obtain ⟨z0, z1⟩ := CE.out _ Bw5.out
                go_wp2_with fail
                refine (A2.out _).mono ?_
                rintro e w6 ⟨rfl, hbn⟩
                have Bw6 : Hid (Below wa.heap.size wa w6) := bstep Bw5.out hbn
                clear hbn
                obtain ⟨u0, u1⟩ := CE.out _ Bw6.out
                go_wp2_with fail
                go_roundw
                case rel => exact ⟨k + 1, by omega, by go_num, bstep BA.out.1 Bw6.out, HNX.out⟩
                case measure => simp [intOf]; omega
        · have e1 : (kd == 1) = false := by simpa using h1
          have e4 : (kd == 4) = false := by simpa using h4
          by_cases h2 : kd = 2
          · subst h2
            by_cases hqp : q = p
            · have hdq : (q == p) = true := by simpa using hqp
              have HRT : Hid (true = r) := by
                have := HT2.out
                unfold stn1 at this
                show _ = _
                simpa [HX.out.1, HX.out.2, hqp] using this
              clear hqp
              go_wp2_with fail
              go_ret
              exact ⟨by rw [← HRT.out]; rfl, BA.out.1⟩
            · have hdq : (q == p) = false := by simpa using hqp
              cases x2 with
              | true =>
                have HRT : Hid (true = r) := by
                  have := HT2.out
                  unfold stn1 at this
                  show _ = _
                  simpa [HX.out.1, HX.out.2, hqp] using this
                clear hqp
                go_wp2_with fail
                refine (A2.out _).mono ?_
                rintro e w5 ⟨rfl, hbn⟩
                have Bw5 : Hid (Below wa.heap.size wa w5) := hbn
                clear hbn
                go_wp2_with fail
                go_ret
                exact ⟨by rw [← HRT.out]; rfl, bstep BA.out.1 Bw5.out⟩
              | false =>
                have HNX : Hid (stn (S.drop (k + 1)) p = r) := by
                  have := HT2.out
                  unfold stn1 at this
                  show _ = _
                  simpa [HX.out.1, HX.out.2, hdq] using this
                clear hqp
                go_wp2_with fail
                refine (A2.out _).mono ?_
                rintro e w5 ⟨rfl, hbn⟩
                have Bw5 : Hid (Below wa.heap.size wa w5) := hbn
                clear hbn
                go_wp2_with fail
                go_roundw
                case rel => exact ⟨k + 1, by omega, by go_num, bstep BA.out.1 Bw5.out, HNX.out⟩
                case measure => simp [intOf]; omega
          · have e2 : (kd == 2) = false := by simpa using h2
            have HNX : Hid (stn (S.drop (k + 1)) p = r) := by
              have := HT2.out
              unfold stn1 at this
              show _ = _
              simpa [HX.out.1, HX.out.2, e1, e4, e2] using this
            clear h1 h2 h4
            go_wp2_with fail
            go_roundw
            case rel => exact ⟨k + 1, by omega, by go_num, BA.out.1, HNX.out⟩
            case measure => simp [intOf]; omega
    · obtain rfl : k = n := by omega
      have HE : Hid (false = r) := by
        have := HT.out
        rw [List.drop_eq_nil_of_le (by have := HN.out; omega)] at this
        exact this
      go_wp2_with fail
      go_ret
      exact ⟨by rw [← HE.out]; rfl, HB.out⟩
end Go.Proofs.YtfdcfcalbongeaaGreat
