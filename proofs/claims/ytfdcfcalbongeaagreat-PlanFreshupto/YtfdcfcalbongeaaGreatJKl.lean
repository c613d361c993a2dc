/-
  The landed plan: what steps touch, and the tops of it.
  The landed plan: is a path in the way?
-/
import Derived.Test.YtfdcfcalbongeaaGreatJKe
import Derived.Test.YtfdcfcalbongeaaGreatJKb
namespace Go.Proofs.YtfdcfcalbongeaaGreat
open Go.RowKit

theorem tch_snoc (S : List Sp) (k : Nat) (hk : k < S.length) : tch (S.take (k + 1)) = tch (S.take k) ++ (if S[k].kind == 3 then [] else [S[k].p]) := by
  unfold tch
  rw [List.take_succ_eq_append_getElem hk, List.filter_append, List.map_append]
  congr 1
  cases h : S[k].kind == 3 <;> simp [h]
theorem tch_len (S : List Sp) : (tch S).length ≤ S.length := by
  unfold tch
  rw [List.length_map]
  exact List.length_filter_le _ _
set_option maxHeartbeats 4000000 in
set_option maxRecDepth 100000 in
theorem ltouched_any {w : World} {v : Value} {S : List Sp} (h : PS w v S) (hl : S.length ≤ 1000000) :
    Calls Tryz.prog 27 #[v] w fun e w' => ∃ v', e = .returned v' ∧ Own w.heap.size w' v' (tch S) ∧ Below w.heap.size w w' := by
  obtain ⟨a, c, hf⟩ := h.form
  subst hf
  obtain ⟨n, hn⟩ : ∃ n, S.length = n := ⟨_, rfl⟩
  have H' : Hid (PS w (.slice a S.length c) S) := h
  clear h
  rw [hn] at hl ⊢
  have HN : Hid (S.length = n) := hn
  clear hn
  obtain ⟨G, hG⟩ : ∃ G, w.heap.size = G := ⟨_, rfl⟩
  have HZ : Hid (w.heap.size = G) := hG
  rw [hG]
  clear hG
  go_enter Tryz.func27, Tryz.ntmps27
  go_wp2_with fail
  go_loopw [3, 8] (fun o i wr => ∃ k : Nat, k ≤ n ∧ i = .int .i64 k ∧ Own G wr o (tch (S.take k)) ∧ Below w.heap.size w wr) (fun _ i _ => n - (intOf i).toNat)
  case atStart => exact ⟨0, Nat.zero_le _, rfl, Own.nil _ _, Below.refl _ _⟩
  case round =>
    obtain ⟨k, hk, rfl, ho, hbw⟩ := hrel
    have HO : Hid (Own G wr u3 (tch (S.take k)) ∧ Below w.heap.size w wr) := ⟨ho, hbw⟩
    have hzo : G ≤ wr.heap.size := by have := hbw.size; have := HZ.out; omega
    clear ho hbw
    by_cases hlt : k < n
    · have hkl : k < S.length := by have := HN.out; omega
      obtain ⟨b, off, ea, hbw, d0, d1, d2, d3, d4, d5⟩ := PS.at H'.out HO.out.2 hkl
      subst ea
      have hts := tch_snoc S k hkl
      have hll : (tch (S.take k)).length + 1 ≤ 8796093022208 := by have := tch_len (S.take k); rw [List.length_take] at this; omega
      have k1 : (0 : Int) ≤ (k : Int) := by omega
      have k2 : (k : Int) < (n : Int) := by omega
      obtain ⟨s, hs⟩ : ∃ s, S[k] = s := ⟨_, rfl⟩
      rw [hs] at d0 d1 d2 d3 d4 d5 hts
      obtain ⟨sk, sp, fp, ft, fb, fs⟩ := s
      simp only at d0 d1 d2 d3 d4 d5 hts
      obtain ⟨X, hX⟩ : ∃ X, tch (S.take k) = X := ⟨_, rfl⟩
      rw [hX] at HO hts hll
      obtain ⟨q, hq⟩ : ∃ q, (sk == 3) = q := ⟨_, rfl⟩
      rw [hq] at hts
      have HT : Hid (tch (S.take (k + 1)) = X ++ (if q then [] else [sp]) ∧ X.length + 1 ≤ 8796093022208) := ⟨hts, hll⟩
      have HA : Hid (Own G (wr.alloc (.cells #[.int .i64 sk, .string (bs sp), .string (bs fp), .string (bs ft), .int .i64 fb, .int .i64 fs] 42)) u3 X ∧ Below w.heap.size w (wr.alloc (.cells #[.int .i64 sk, .string (bs sp), .string (bs fp), .string (bs ft), .int .i64 fb, .int .i64 fs] 42))) := ⟨HO.out.1.alloc _, bstep HO.out.2 (balloc _ _)⟩
      have HZa : Hid (G ≤ (wr.alloc (.cells #[.int .i64 sk, .string (bs sp), .string (bs fp), .string (bs ft), .int .i64 fb, .int .i64 fs] 42)).heap.size) := by show _ ≤ _; simp; omega
      clear hts hll hs hX hbw
      cases q with
      | true =>
        have HT2 : Hid (tch (S.take (k + 1)) = X) := by show _ = _; have := HT.out.1; simpa using this
        go_wp2_with fail
        go_roundw
        case rel => exact ⟨k + 1, by omega, by go_num, by rw [HT2.out]; exact HA.out.1, HA.out.2⟩
        case measure => simp [intOf]; omega
      | false =>
        have HT2 : Hid (tch (S.take (k + 1)) = X ++ [sp]) := by show _ = _; have := HT.out.1; simpa using this
        go_wp2_with (at_builtin; refine app_oneN (base := G) sp (by simp) HA.out.1 HT.out.2 HZa.out rfl (.tmp 15) (.tmp 18) rfl rfl rfl ?_; intro v5 w5 ho5 hb5 hbs5 _ _; have O5 : Hid (Own G w5 v5 (X ++ [sp]) ∧ Below w.heap.size w w5) := ⟨ho5, below_trans HA.out.2 (by rw [HZ.out]; exact hb5)⟩; clear ho5 hb5 hbs5)
        go_roundw
        case rel => exact ⟨k + 1, by omega, by go_num, by rw [HT2.out]; exact O5.out.1, O5.out.2⟩
        case measure => simp [intOf]; omega
    · obtain rfl : k = n := by omega
      have HE : Hid (Own G wr u3 (tch S) ∧ Below w.heap.size w wr) := by
        have := HO.out
        rw [List.take_of_length_le (by have := HN.out; omega)] at this
        exact this
      go_wp2_with fail
      go_ret
      exact ⟨_, rfl, HE.out.1, by rw [← HZ.out]; exact HE.out.2⟩
set_option maxHeartbeats 2000000 in
set_option maxRecDepth 100000 in
theorem ltops_any {w : World} {base : Nat} {v : Value} {L : List (List UInt8)} (h : Own base w v L) (sm : Sm L) (hbase : base ≤ w.heap.size) :
    Calls Tryz.prog 26 #[v] w fun e w' => ∃ v', e = .returned v' ∧ Own w.heap.size w' v' (hds (norm L)) ∧ Below base w w' := by
  have HS : Hid (Calls Tryz.prog 30 #[v, .func (.func 31) #[] #[]] w fun e w' => e = .returned (.tuple #[]) ∧ ∃ ts, ts.Perm L ∧ ts.Pairwise (fun a b => cf a b ≤ 0) ∧ Own base w' v ts ∧ Below base w w') := sort_any h (by have := sm.len; omega) (fun x hx => sm.each x hx) hbase
  obtain ⟨M, hM⟩ : ∃ M, norm L = M := ⟨_, rfl⟩
  rw [hM]
  have HM : Hid (norm L = M ∧ Up M ∧ Sm M) := ⟨hM, by rw [← hM]; exact up_norm _, by rw [← hM]; exact sm.norm⟩
  have HL : Hid (Sm L ∧ base ≤ w.heap.size) := ⟨sm, hbase⟩
  clear hM h sm hbase
  go_enter Tryz.func26, Tryz.ntmps26
  go_wp2_with fail
  refine HS.out.mono ?_
  rintro e w0 ⟨rfl, ts, hpm, hso, ho2, hb2⟩
  have h2z : base ≤ w0.heap.size := Nat.le_trans HL.out.2 hb2.size
  have HSt : Sm ts := ⟨by rw [hpm.length_eq]; exact HL.out.1.len, fun x hx => HL.out.1.each x (hpm.mem_iff.1 hx)⟩
  have hnn : norm ts = M := by rw [← HM.out.1]; exact norm_of (up_norm _) (fun x => (mem_norm x L).trans hpm.mem_iff.symm)
  have HC : Hid (Calls Tryz.prog 39 #[v] w0 fun e w' => ∃ v', e = .returned v' ∧ Own base w' v' M ∧ Below base w0 w') := by
    have := compact_any ho2 HSt hso h2z
    rw [hnn] at this
    exact this
  have H2 : Hid (Below base w w0 ∧ w.heap.size ≤ w0.heap.size) := ⟨hb2, hb2.size⟩
  clear hpm hso ho2 hb2 HSt hnn h2z
  go_wp2_with fail
  refine HC.out.mono ?_
  rintro e w1 ⟨v1, rfl, ho1, hb1⟩
  obtain ⟨a, c, n, hn, rfl, ca⟩ := ho1.bs.form'
  have CA : Hid (∀ k, (hk : k < M.length) → ∃ b off, a = some ⟨b, off, none⟩ ∧ b < w1.heap.size ∧ w1.cell? ⟨b, off + k, none⟩ = some (.string (bs M[k]))) := ca
  have HN : Hid (n = M.length) := hn
  have HB1 : Hid (Below base w w1) := below_trans H2.out.1 hb1
  have hz1 : w.heap.size ≤ w1.heap.size := Nat.le_trans H2.out.2 hb1.size
  have hnl : n ≤ 4000000 := by rw [hn]; exact HM.out.2.2.len
  clear ho1 hb1 ca hn
  obtain ⟨G1, hG1⟩ : ∃ G1, w1.heap.size = G1 := ⟨_, rfl⟩
  have HZ : Hid (w.heap.size ≤ G1 ∧ base ≤ G1) := ⟨by omega, by have := HL.out.2; omega⟩
  go_wp2_with fail
  go_loopw [3, 12] (fun o i wr => ∃ k : Nat, k ≤ n ∧ i = .int .i64 k ∧ Own G1 wr o (hds (M.take k)) ∧ Below G1 w1 wr) (fun _ i _ => n - (intOf i).toNat)
  case atStart => exact ⟨0, Nat.zero_le _, rfl, Own.nil _ _, Below.refl _ _⟩
  case round =>
    obtain ⟨k, hk, rfl, ho, hbw⟩ := hrel
    have HOK : Hid (Own G1 wr u3 (hds (M.take k))) := ho
    have HBW : Hid (Below G1 w1 wr) := hbw
    have hz4 : G1 ≤ wr.heap.size := by have := hbw.size; omega
    clear hbw
    by_cases hlt : k < n
    · have hlt2 : k < M.length := by have := HN.out; omega
      obtain ⟨g1, o1, rfl, hg1, c1⟩ := CA.out k hlt2
      have hsn := hds_take HM.out.2.1 k hlt2
      obtain ⟨p, hp⟩ : ∃ p, M[k]'hlt2 = p := ⟨_, rfl⟩
      have hpl : p.length ≤ 1000000000 := by rw [← hp]; exact HM.out.2.2.at hlt2
      rw [hp] at c1 hsn
      have c2 : wr.cell? ⟨g1, o1 + k, none⟩ = some (.string (bs p)) := by rw [HBW.out.cell (p := ⟨g1, o1 + k, none⟩) (by show g1 < G1; omega)]; exact c1
      have hlz : (hds (M.take k)).length ≤ 4000000 := (HM.out.2.2.take k).hds.len
      have hEach : ∀ x ∈ hds (M.take k), x.length ≤ 1000000000 := (HM.out.2.2.take k).hds.each
      obtain ⟨E, hE⟩ : ∃ E, hds (M.take k) = E := ⟨_, rfl⟩
      obtain ⟨F, hF⟩ : ∃ F, hds (M.take (k + 1)) = F := ⟨_, rfl⟩
      rw [hE] at HOK ho hsn hlz hEach
      rw [hF] at hsn
      have HF : Hid (hds (M.take (k + 1)) = F) := hF
      obtain ⟨a3, c3, m, hm, rfl, ca3⟩ := ho.bs.form'
      have hDl : E.length + 1 ≤ 8796093022208 := by omega
      have HDL : Hid (E.length + 1 ≤ 8796093022208) := hDl
      clear c1 hp hE hF ho hDl
      by_cases hm0 : m = 0
      · have hE0 : E = [] := List.eq_nil_of_length_eq_zero (by omega)
        have HFE : Hid (F = E ++ [p]) := by rw [hsn, hE0]; rfl
        subst hm0
        clear hm hsn hE0 ca3 hEach
        go_wp2_with (at_builtin; refine app_one (base := G1) p HOK.out HDL.out hz4 rfl (.tmp 30) (.tmp 32) rfl rfl rfl ?_; intro v' w' ho hbw hbs' hgr hat)
        have HO5 : Hid (Own G1 w' v' (hds (M.take (k + 1)))) := by rw [HF.out, HFE.out]; exact ho
        have HB5 : Hid (Below G1 w1 w') := below_trans HBW.out hbw
        clear ho hbw hgr hat
        go_wp2_with fail
        go_roundw
        case rel => exact ⟨k + 1, by omega, by go_num, HO5.out, HB5.out⟩
        case measure => simp [intOf]; omega
      · obtain ⟨m1, rfl⟩ : ∃ m1, m = m1 + 1 := ⟨m - 1, by omega⟩
        have hm1 : m1 < E.length := by omega
        obtain ⟨g3, o3, rfl, hg3, c4⟩ := ca3 m1 hm1
        obtain ⟨q, hq⟩ : ∃ q, E[m1]'hm1 = q := ⟨_, rfl⟩
        have hql : q.length ≤ 1000000000 := by rw [← hq]; exact hEach _ (List.getElem_mem _)
        have hgl : E.getLast? = some q := by rw [List.getLast?_eq_getElem?, ← hm, Nat.add_sub_cancel, List.getElem?_eq_getElem hm1, hq]
        rw [hgl] at hsn
        have hsn : F = if (!abvV q p) = true then E ++ [p] else E := hsn
        rw [hq] at c4
        have HM1 : Hid (m1 + 1 = E.length) := hm
        clear hm hgl hq ca3 hEach
        cases hqp : abvV q p with
        | true =>
          rw [hqp] at hsn
          have hfe : F = E := by simpa using hsn
          have HFE : Hid (F = E) := hfe
          clear hsn hfe
          go_wp2_with fail
          refine (above_any q p _ (by omega) (by omega)).mono ?_
          rintro e w2 ⟨rfl, hl2⟩
          rw [hqp]
          have HO5 : Hid (Own G1 w2 (.slice (some ⟨g3, o3, none⟩) (m1 + 1) c3) (hds (M.take (k + 1)))) := by rw [HF.out, HFE.out]; exact HOK.out.later hl2.below
          have HB5 : Hid (Below G1 w1 w2) := below_trans HBW.out (below_mono hl2.below hz4)
          clear hl2 c4 c2
          go_wp2_with fail
          go_roundw
          case rel => exact ⟨k + 1, by omega, by go_num, HO5.out, HB5.out⟩
          case measure => simp [intOf]; omega
        | false =>
          rw [hqp] at hsn
          have hfe : F = E ++ [p] := by simpa using hsn
          have HFE : Hid (F = E ++ [p]) := hfe
          clear hsn hfe
          go_wp2_with fail
          refine (above_any q p _ (by omega) (by omega)).mono ?_
          rintro e w2 ⟨rfl, hl2⟩
          rw [hqp]
          have HO4 : Hid (Own G1 w2 (.slice (some ⟨g3, o3, none⟩) (m1 + 1) c3) E) := HOK.out.later hl2.below
          have HB4 : Hid (Below G1 w1 w2) := below_trans HBW.out (below_mono hl2.below hz4)
          have hz5 : G1 ≤ w2.heap.size := by have := hl2.below.size; omega
          clear hl2 c4 c2
          go_wp2_with (at_builtin; refine app_one (base := G1) p HO4.out HDL.out hz5 rfl (.tmp 30) (.tmp 32) rfl rfl rfl ?_; intro v' w' ho hbw hbs' hgr hat)
          have HO5 : Hid (Own G1 w' v' (hds (M.take (k + 1)))) := by rw [HF.out, HFE.out]; exact ho
          have HB5 : Hid (Below G1 w1 w') := below_trans HB4.out hbw
          clear ho hbw hgr hat
          go_wp2_with fail
          go_roundw
          case rel => exact ⟨k + 1, by omega, by go_num, HO5.out, HB5.out⟩
          case measure => simp [intOf]; omega
    · obtain rfl : k = n := by omega
      have HOE : Hid (Own G1 wr u3 (hds M)) := by
        have := HOK.out
        rw [HN.out, List.take_length] at this; exact this
      clear ho
      go_wp2_with fail
      go_ret
      exact ⟨u3, rfl, HOE.out.mono HZ.out.1, below_trans HB1.out (below_mono HBW.out HZ.out.2)⟩
end Go.Proofs.YtfdcfcalbongeaaGreat

namespace Go.Proofs.YtfdcfcalbongeaaGreat
open Go.RowKit

set_option maxHeartbeats 8000000 in
set_option maxRecDepth 100000 in
theorem litw_any {w : World} {bb : Nat} {v : Value} {L : List (List UInt8)} (p : List UInt8) (h : Own bb w v L) (sm : Sm L) (up : Up L) (hp : p.length ≤ 1500000) :
    Calls Tryz.prog 29 #[.string (bs p), v] w fun e w' => e = .returned (.bool (itwB L p)) ∧ Below w.heap.size w w' := by
  obtain ⟨a, c, n, hn, rfl, ca⟩ := h.bs.form'
  have CA : Hid (∀ k, (hk : k < L.length) → ∃ b off, a = some ⟨b, off, none⟩ ∧ b < w.heap.size ∧ w.cell? ⟨b, off + k, none⟩ = some (.string (bs L[k]))) := ca
  have HN : Hid (n = L.length) := hn
  have HS : Hid (Sm L) := sm
  have hse := search_any p h sm up (by omega)
  have hle := bef_le L p
  obtain ⟨m, hm⟩ : ∃ m, bef L p = m := ⟨_, rfl⟩
  obtain ⟨q, hq⟩ : ∃ q, decide (p ∈ L) = q := ⟨_, rfl⟩
  have hm' : L.countP (fun x => decide (cf x p < 0)) = m := hm
  rw [hm', hq] at hse
  rw [hm] at hle
  have hmn' : m ≤ n := by omega
  have hnl : n ≤ 4000000 := by rw [hn]; exact sm.len
  have HQ : Hid (decide (p ∈ L) = q ∧ bef L p = m) := ⟨hq, hm⟩
  have HSe : Hid (Calls Tryz.prog 42 #[.slice a n c, .string (bs p), .func (.func 31) #[] #[]] w fun e w' => e = .returned (.tuple #[.int .i64 (m : Int), .bool q]) ∧ Below w.heap.size w w') := hse
  clear h sm up hse hle hm hm' hq ca hn
  go_enter Tryz.func29, Tryz.ntmps29
  go_wp2_with fail
  refine HSe.out.mono ?_
  rintro e w1 ⟨rfl, hb1⟩
  have HWB : Hid (Below w.heap.size w w1) := hb1
  clear hb1
  cases q with
  | true =>
    have HR2 : Hid (itwB L p = true) := by
      show _ = _
      unfold itwB
      rw [HQ.out.1]
      simp
    go_wp2_with fail
    go_ret
    exact ⟨by rw [HR2.out]; rfl, HWB.out⟩
  | false =>
    rcases Nat.eq_zero_or_pos m with hm0 | hm0
    · subst hm0
      have hf : (decide (0 < 0) && abvV (L.getD (0 - 1) []) p) = false := by simp
      have HF0 : Hid ((decide (0 < 0) && abvV (L.getD (0 - 1) []) p) = false) := hf
      clear hf
      by_cases hmn : 0 < n
      · have hml : 0 < L.length := by have := HN.out; omega
        obtain ⟨g2, o2, rfl, hg2, c2⟩ := CA.out 0 hml
        obtain ⟨t2, ht2⟩ : ∃ t, L[0]'hml = t := ⟨_, rfl⟩
        have hl2 := HS.out.each _ (List.getElem_mem hml)
        rw [ht2] at c2 hl2
        obtain ⟨r2, hr2⟩ : ∃ r, abvV p t2 = r := ⟨_, rfl⟩
        have HB2 : Hid (∀ W, Calls Tryz.prog 44 #[.string (bs p), .string (bs t2)] W fun e w' => e = .returned (.bool r2) ∧ Laid W w') := fun W => by rw [← hr2]; exact above_any p t2 W (by omega) (by omega)
        have HR2 : Hid (itwB L p = r2) := by
          show _ = _
          unfold itwB
          rw [HQ.out.1, HQ.out.2, HF0.out, List.getD_eq_getElem?_getD, List.getElem?_eq_getElem hml, Option.getD_some, ht2, hr2]
          have : decide (0 < L.length) = true := decide_eq_true hml
          rw [this]
          simp
        have c2 : w1.cell? ⟨g2, o2, none⟩ = some (.string (bs t2)) := (HWB.out.cell (p := ⟨g2, o2, none⟩) hg2).trans c2
        have m2 : ((0 : Nat) : Int) < (n : Int) := by omega
        clear hr2 ht2 hl2 hg2
        go_wp2_with fail
        refine (HB2.out _).mono ?_
        rintro e w3 ⟨rfl, hl3⟩
        have H3 : Hid (Below w.heap.size w w3) := bstep HWB.out hl3.below
        clear hl3 c2
        go_wp2_with fail
        go_ret
        exact ⟨by rw [HR2.out]; rfl, H3.out⟩
      · have HR2 : Hid (itwB L p = false) := by
          show _ = _
          unfold itwB
          rw [HQ.out.1, HQ.out.2, HF0.out]
          have : decide (0 < L.length) = false := decide_eq_false (by have := HN.out; omega)
          rw [this]
          simp
        have m2 : ¬ ((0 : Nat) : Int) < (n : Int) := by omega
        go_wp2_with fail
        go_ret
        exact ⟨by rw [HR2.out]; rfl, HWB.out⟩
    · obtain ⟨m1, rfl⟩ : ∃ m1, m = m1 + 1 := ⟨m - 1, by omega⟩
      have hm1 : m1 < L.length := by have := HN.out; omega
      obtain ⟨g, o, rfl, hg, c1⟩ := CA.out m1 hm1
      obtain ⟨t, ht⟩ : ∃ t, L[m1]'hm1 = t := ⟨_, rfl⟩
      have hl1 := HS.out.each _ (List.getElem_mem hm1)
      rw [ht] at c1 hl1
      obtain ⟨r1, hr1⟩ : ∃ r, abvV t p = r := ⟨_, rfl⟩
      have HB1 : Hid (∀ W, Calls Tryz.prog 44 #[.string (bs t), .string (bs p)] W fun e w' => e = .returned (.bool r1) ∧ Laid W w') := fun W => by rw [← hr1]; exact above_any t p W (by omega) (by omega)
      have c1 : w1.cell? ⟨g, o + m1, none⟩ = some (.string (bs t)) := (HWB.out.cell (p := ⟨g, o + m1, none⟩) hg).trans c1
      have hgd : L.getD (m1 + 1 - 1) [] = t := by rw [Nat.add_sub_cancel, List.getD_eq_getElem?_getD, List.getElem?_eq_getElem hm1, Option.getD_some, ht]
      have HF1 : Hid ((decide (0 < m1 + 1) && abvV (L.getD (m1 + 1 - 1) []) p) = r1) := by
        show _ = _
        rw [hgd, hr1]
        simp
      have k0 : (0 : Int) ≤ (m1 : Int) := by omega
      have k1 : (m1 : Int) < (n : Int) := by omega
      clear ht hl1 hr1 hg hgd
      go_wp2_with fail
      refine (HB1.out _).mono ?_
      rintro e w2 ⟨rfl, hl2⟩
      have HWB2 : Hid (Below w.heap.size w w2) := bstep HWB.out hl2.below
      clear hl2 c1 HWB HB1
      cases r1 with
      | true =>
        have HR2 : Hid (itwB L p = true) := by
          show _ = _
          unfold itwB
          rw [HQ.out.1, HQ.out.2, HF1.out]
          simp
        go_wp2_with fail
        go_ret
        exact ⟨by rw [HR2.out]; rfl, HWB2.out⟩
      | false =>
        by_cases hmn : (m1 + 1) < n
        · have hml : (m1 + 1) < L.length := by have := HN.out; omega
          obtain ⟨g2, o2, ge, hg2, c2⟩ := CA.out (m1 + 1) hml
          obtain ⟨rfl, rfl⟩ : g = g2 ∧ o = o2 := by injection ge with ge; injection ge with h1 h2 _; exact ⟨h1, h2⟩
          clear ge
          obtain ⟨t2, ht2⟩ : ∃ t, L[(m1 + 1)]'hml = t := ⟨_, rfl⟩
          have hl2 := HS.out.each _ (List.getElem_mem hml)
          rw [ht2] at c2 hl2
          obtain ⟨r2, hr2⟩ : ∃ r, abvV p t2 = r := ⟨_, rfl⟩
          have HB2 : Hid (∀ W, Calls Tryz.prog 44 #[.string (bs p), .string (bs t2)] W fun e w' => e = .returned (.bool r2) ∧ Laid W w') := fun W => by rw [← hr2]; exact above_any p t2 W (by omega) (by omega)
          have HR2 : Hid (itwB L p = r2) := by
            show _ = _
            unfold itwB
            rw [HQ.out.1, HQ.out.2, HF1.out, List.getD_eq_getElem?_getD, List.getElem?_eq_getElem hml, Option.getD_some, ht2, hr2]
            have : decide ((m1 + 1) < L.length) = true := decide_eq_true hml
            rw [this]
            simp
          have c2 : w2.cell? ⟨g, o + (m1 + 1), none⟩ = some (.string (bs t2)) := (HWB2.out.cell (p := ⟨g, o + (m1 + 1), none⟩) hg2).trans c2
          have m2 : (((m1 + 1) : Nat) : Int) < (n : Int) := by omega
          clear hr2 ht2 hl2 hg2
          go_wp2_with fail
          refine (HB2.out _).mono ?_
          rintro e w3 ⟨rfl, hl3⟩
          have H3 : Hid (Below w.heap.size w w3) := bstep HWB2.out hl3.below
          clear hl3 c2
          go_wp2_with fail
          go_ret
          exact ⟨by rw [HR2.out]; rfl, H3.out⟩
        · have HR2 : Hid (itwB L p = false) := by
            show _ = _
            unfold itwB
            rw [HQ.out.1, HQ.out.2, HF1.out]
            have : decide ((m1 + 1) < L.length) = false := decide_eq_false (by have := HN.out; omega)
            rw [this]
            simp
          have m2 : ¬ (((m1 + 1) : Nat) : Int) < (n : Int) := by omega
          go_wp2_with fail
          go_ret
          exact ⟨by rw [HR2.out]; rfl, HWB2.out⟩
end Go.Proofs.YtfdcfcalbongeaaGreat
