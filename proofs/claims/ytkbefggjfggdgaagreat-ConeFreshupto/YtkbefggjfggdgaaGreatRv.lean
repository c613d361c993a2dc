/-
  The document's cones: Valid, Shows, View, Cover; files in new memory with marks behind them.
-/
import Derived.Test.YtkbefggjfggdgaaGreatKn3
import Derived.Test.YtkbefggjfggdgaaGreatOp
import Derived.Test.YtkbefggjfggdgaaGreatRef4
import Derived.Test.YtkbefggjfggdgaaGreatZd
namespace Go.Proofs.YtkbefggjfggdgaaGreat
open Go.RowKit

/-- the first i may be cones -/
def Pre (k : List (List UInt8)) (i : Nat) : Prop := ∀ t (h : t < k.length), t < i → okP (k[t]'h) = true ∧ ∀ s (hs : s < k.length), s < t → fol (k[s]'hs) (k[t]'h) = true
theorem Pre.all {k : List (List UInt8)} (h : Pre k k.length) : coneE k = 0 := by
  rw [coneE_zero, coneB_iff]
  refine ⟨fun c hc => ?_, List.pairwise_iff_getElem.2 fun s t hs ht hst => (h t ht ht).2 s hs hst⟩
  obtain ⟨t, ht, rfl⟩ := List.mem_iff_getElem.1 hc
  exact (h t ht ht).1
theorem cone_bad {k : List (List UInt8)} {i : Nat} (hi : i < k.length) (h : okP (k[i]'hi) = false) : coneE k = 13 := by
  unfold coneE
  rw [if_neg]
  intro e
  have := (coneB_iff.1 e).1 _ (List.getElem_mem hi)
  rw [h] at this; cases this
theorem cone_bad2 {k : List (List UInt8)} {s t : Nat} (hs : s < k.length) (ht : t < k.length) (hst : s < t) (h : fol (k[s]'hs) (k[t]'ht) = false) : coneE k = 13 := by
  unfold coneE
  rw [if_neg]
  intro e
  have := List.pairwise_iff_getElem.1 (coneB_iff.1 e).2 s t hs ht hst
  rw [h] at this; cases this
theorem fol_parts (a b : List UInt8) : fol a b = (decide (cf a b < 0) && !abvV a b) := rfl
set_option maxRecDepth 100000 in
set_option maxHeartbeats 4000000 in
theorem rcvalid_any {w : World} {v : Value} {k : List (List UInt8)} (h : SS w v k) (sm : Sm k) :
    Calls Tryz.prog 12 #[v] w fun e w' => e = .returned (.int .i64 (coneE k)) ∧ Below w.heap.size w w' := by
  obtain ⟨a, c, n, hn, rfl, ca⟩ := h.form'
  have CA : Hid (∀ q, (hq : q < k.length) → ∃ b off, a = some ⟨b, off, none⟩ ∧ b < w.heap.size ∧ w.cell? ⟨b, off + q, none⟩ = some (.string (bs k[q]))) := ca
  have HN : Hid (n = k.length) := hn
  have HS : Hid (Sm k) := sm
  have hnl : n ≤ 4000000 := by rw [hn]; exact sm.len
  clear ca h hn sm
  go_enter Tryz.func12, Tryz.ntmps12
  go_wp2_with fail
  go_loopw [3] (fun i wr => ∃ t : Nat, t ≤ n ∧ i = .int .i64 t ∧ Pre k t ∧ Below w.heap.size w wr) (fun i _ => n - (intOf i).toNat)
  case atStart => exact ⟨0, Nat.zero_le _, rfl, fun _ _ h => absurd h (Nat.not_lt_zero _), Below.refl _ _⟩
  case round =>
    obtain ⟨t, ht, rfl, hpre, hb⟩ := hrel
    have HP : Hid (Pre k t) := hpre
    have HB : Hid (Below w.heap.size w wr) := hb
    clear hpre hb
    by_cases hlt : t < n
    · have hlt2 : t < k.length := by have := HN.out; omega
      obtain ⟨g1, o1, rfl, hg1, c1⟩ := CA.out t hlt2
      have hct : wr.cell? ⟨g1, o1 + t, none⟩ = some (.string (bs k[t])) := (HB.out.cell (p := ⟨g1, o1 + t, none⟩) hg1).trans c1
      have hpl : (k[t]'hlt2).length ≤ 1000000000 := HS.out.at hlt2
      obtain ⟨p, hp⟩ : ∃ p, k[t]'hlt2 = p := ⟨_, rfl⟩
      rw [hp] at hct hpl c1
      have HPt : Hid (k[t]'hlt2 = p ∧ p.length ≤ 1000000000) := ⟨hp, hpl⟩
      have HG1 : Hid (g1 < w.heap.size ∧ w.cell? ⟨g1, o1 + t, none⟩ = some (.string (bs p))) := ⟨hg1, c1⟩
      clear hp hpl c1 hg1
      have i1 : (0 : Int) ≤ (t : Int) := by omega
      have i2 : (t : Int) < (n : Int) := by omega
      go_wp2_with fail
      refine (rvalid_any p wr HPt.out.2).mono ?_
      rintro e w1 ⟨rfl, hb1⟩
      have HB1 : Hid (Below w.heap.size w w1) := bstep HB.out hb1
      clear hb1 hct
      cases hok : okP p with
      | false =>
        have HE : Hid (coneE k = 13) := cone_bad hlt2 (by rw [HPt.out.1]; exact hok)
        clear hok
        go_wp2_with fail
        go_ret
        exact ⟨by rw [HE.out]; rfl, HB1.out⟩
      | true =>
        have HOK : Hid (okP p = true) := hok
        clear hok
        go_wp2_with fail
        go_loopw [4] (fun j wr => ∃ s : Nat, s ≤ t ∧ j = .int .i64 s ∧ (∀ q (hq : q < k.length), q < s → fol (k[q]'hq) p = true) ∧ Below w.heap.size w wr) (fun j _ => t - (intOf j).toNat)
        case atStart => exact ⟨0, Nat.zero_le _, rfl, fun _ _ h => absurd h (Nat.not_lt_zero _), HB1.out⟩
        case round =>
          obtain ⟨s, hs, rfl, hall, hb⟩ := hrel
          have HA : Hid (∀ q (hq : q < k.length), q < s → fol (k[q]'hq) p = true) := hall
          have HB2 : Hid (Below w.heap.size w wr) := hb
          clear hall hb
          by_cases hst : s < t
          · have hs2 : s < k.length := by omega
            obtain ⟨g2, o2, ea, hg2, c2⟩ := CA.out s hs2
            injection ea with ea
            injection ea with ea1 ea2 _
            subst ea1; subst ea2
            have hql : (k[s]'hs2).length ≤ 1000000000 := HS.out.at hs2
            obtain ⟨q, hq⟩ : ∃ q, k[s]'hs2 = q := ⟨_, rfl⟩
            rw [hq] at c2 hql
            have hsz := HB2.out.size
            have y1 : ∀ X : GW wr, X.it.cell? ⟨g1, o1 + t, none⟩ = some (.string (bs p)) := fun X => X.cell (p := ⟨g1, o1 + t, none⟩) (by have := HG1.out.1; simp; omega) ((HB2.out.cell (p := ⟨g1, o1 + t, none⟩) HG1.out.1).trans HG1.out.2)
            have y2 : ∀ X : GW wr, X.it.cell? ⟨g1, o1 + s, none⟩ = some (.string (bs q)) := fun X => X.cell (p := ⟨g1, o1 + s, none⟩) (by simp; omega) ((HB2.out.cell (p := ⟨g1, o1 + s, none⟩) hg2).trans c2)
            have xne := gw_ne wr
            obtain ⟨o, ho⟩ : ∃ o, cf q p = o := ⟨_, rfl⟩
            obtain ⟨r, hr⟩ : ∃ r, abvV q p = r := ⟨_, rfl⟩
            have HC : Hid (∀ (X : GW wr), Calls Tryz.prog 32 #[.string (bs q), .string (bs p)] X.it fun e w' => e = .returned (.int .i64 o) ∧ ∃ Y : GW wr, w' = Y.it) := rcmp_grow hql HPt.out.2 ho
            have HV : Hid (∀ (X : GW wr), Calls Tryz.prog 33 #[.string (bs q), .string (bs p)] X.it fun e w' => e = .returned (.bool r) ∧ ∃ Y : GW wr, w' = Y.it) := rabove_grow hql HPt.out.2 hr
            have HF : Hid (fol q p = (decide (o < 0) && !r) ∧ k[s]'hs2 = q) := ⟨by rw [fol_parts, ho, hr], hq⟩
            have j1 : (0 : Int) ≤ (s : Int) := by omega
            have j2 : (s : Int) < (n : Int) := by omega
            have j3 : (s : Int) < (t : Int) := by omega
            clear c2 hql hq ho hr hg2
            by_cases hoo : 0 ≤ o
            · have HE : Hid (coneE k = 13) := cone_bad2 hs2 hlt2 hst (by rw [HPt.out.1, HF.out.2, HF.out.1, decide_eq_false (by omega), Bool.false_and])
              have o1' : decide (0 ≤ o) = true := by simpa using hoo
              go_wp2_with fail
              refine wp_region_grow (by kernel_rfl) (by kernel_rfl) ?_
              repeat (go_big_quiet_step (first | (with_reducible exact HC.out _) | (with_reducible exact HV.out _)))
              refine wpQuiet_nil ?_
              rintro w2 ⟨⟨w2, bx⟩, rfl⟩
              have HB5 : Hid (Below w.heap.size w w2) := bstep HB2.out bx
              clear bx y1 y2
              go_wp2_with fail
              go_ret
              exact ⟨by rw [HE.out]; rfl, HB5.out⟩
            · have hneg : o < 0 := by omega
              have o1' : decide (0 ≤ o) = false := by simpa using hoo
              cases r
              · have HFT : Hid (fol q p = true) := by show fol q p = true; rw [HF.out.1]; simp [hneg]
                go_wp2_with fail
                refine wp_region_grow (by kernel_rfl) (by kernel_rfl) ?_
                repeat (go_big_quiet_step (first | (with_reducible exact HC.out _) | (with_reducible exact HV.out _)))
                refine wpQuiet_nil ?_
                rintro w2 ⟨⟨w2, bx⟩, rfl⟩
                have HB5 : Hid (Below w.heap.size w w2) := bstep HB2.out bx
                clear bx y1 y2
                go_wp2_with fail
                go_roundw
                case rel =>
                  refine ⟨s + 1, by omega, by go_num, fun z hz hzs => ?_, HB5.out⟩
                  by_cases e : z = s
                  · subst e; rw [HF.out.2]; exact HFT.out
                  · exact HA.out z hz (by omega)
                case measure => simp [intOf]; omega
              · have HE : Hid (coneE k = 13) := cone_bad2 hs2 hlt2 hst (by rw [HPt.out.1, HF.out.2, HF.out.1]; simp)
                go_wp2_with fail
                refine wp_region_grow (by kernel_rfl) (by kernel_rfl) ?_
                repeat (go_big_quiet_step (first | (with_reducible exact HC.out _) | (with_reducible exact HV.out _)))
                refine wpQuiet_nil ?_
                rintro w2 ⟨⟨w2, bx⟩, rfl⟩
                have HB5 : Hid (Below w.heap.size w w2) := bstep HB2.out bx
                clear bx y1 y2
                go_wp2_with fail
                go_ret
                exact ⟨by rw [HE.out]; rfl, HB5.out⟩
          · have hst2 : ¬ (s : Int) < (t : Int) := by omega
            have HPn : Hid (Pre k (t + 1)) := by
              intro x hx hxt
              by_cases e : x = t
              · subst e
                refine ⟨by rw [HPt.out.1]; exact HOK.out, fun y hy hyx => ?_⟩
                rw [HPt.out.1]; exact HA.out y hy (by omega)
              · exact HP.out x hx (by omega)
            go_wp2_with fail
            go_roundw
            case rel => exact ⟨t + 1, by omega, by go_num, HPn.out, HB2.out⟩
            case measure => simp [intOf]; omega
    · have hlt2 : ¬ (t : Int) < (n : Int) := by omega
      have HE : Hid (coneE k = 0) := Pre.all (by have h1 := HP.out; have h2 := HN.out; rw [show k.length = t by omega]; exact h1)
      go_wp2_with fail
      go_ret
      exact ⟨by rw [HE.out]; rfl, HB.out⟩
end Go.Proofs.YtkbefggjfggdgaaGreat
