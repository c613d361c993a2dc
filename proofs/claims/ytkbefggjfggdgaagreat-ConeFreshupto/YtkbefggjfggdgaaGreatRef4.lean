import Derived.Test.YtkbefggjfggdgaaGreatRef3
namespace Go.Proofs.YtkbefggjfggdgaaGreat
open Go.RowKit

theorem filter_take (f : List UInt8 → Bool) (L : List (List UInt8)) (k : Nat) (h : k < L.length) : (L.take (k + 1)).filter f = (L.take k).filter f ++ (if f (L[k]'h) then [L[k]'h] else []) := by
  rw [take_snoc L k h, List.filter_append]
  congr 1
  cases hf : f (L[k]'h) <;> simp [hf]
theorem Sm.filter {l : List (List UInt8)} (h : Sm l) (f : List UInt8 → Bool) : Sm (l.filter f) := ⟨Nat.le_trans (List.length_filter_le _ _) h.len, fun x hx => h.each x (List.mem_filter.1 hx).1⟩

set_option maxHeartbeats 2000000 in
set_option maxRecDepth 100000 in
theorem some_any {w : World} {va vb : Value} {A B : List (List UInt8)} (i : Bool) (h1 : SS w va A) (h2 : SS w vb B) (sa : Sm A) (sb : Sm B) :
    Calls Tryz.prog 66 #[va, vb, .bool i] w fun e w' => ∃ v', e = .returned v' ∧ Own w.heap.size w' v' (som A B i) ∧ Below w.heap.size w w' := by
  obtain ⟨a, c, n, hn, rfl, ca⟩ := h1.form'
  have CA : Hid (∀ k, (hk : k < A.length) → ∃ b off, a = some ⟨b, off, none⟩ ∧ b < w.heap.size ∧ w.cell? ⟨b, off + k, none⟩ = some (.string (bs A[k]))) := ca
  have HB : Hid (SS w vb B ∧ Sm B) := ⟨h2, sb⟩
  have HS : Hid (Sm A) := sa
  have HN : Hid (n = A.length) := hn
  have hnl : n ≤ 4000000 := by rw [hn]; exact sa.len
  obtain ⟨G, hG⟩ : ∃ G, w.heap.size = G := ⟨_, rfl⟩
  have hga : w.heap.size ≤ G := by omega
  clear h1 h2 sa sb hn ca
  go_enter Tryz.func66, Tryz.ntmps66
  go_wp2_with fail
  go_loopw [7, 8] (fun o j wr => ∃ k : Nat, k ≤ n ∧ j = .int .i64 k ∧ Own G wr o ((A.take k).filter fun x => decide (x ∈ B) == i) ∧ Below G w wr) (fun _ j _ => n - (intOf j).toNat)
  case atStart => exact ⟨0, Nat.zero_le _, rfl, Own.nil _ _, Below.refl _ _⟩
  case round =>
    obtain ⟨k, hk, rfl, ho, hbw⟩ := hrel
    have HO : Hid (Own G wr u7 ((A.take k).filter fun x => decide (x ∈ B) == i)) := ho
    have HW : Hid (Below G w wr) := hbw
    have hz : G ≤ wr.heap.size := by have := hbw.size; omega
    clear ho hbw
    by_cases hlt : k < n
    · have hlt2 : k < A.length := by have := HN.out; omega
      obtain ⟨g1, o1, rfl, hg1, c1⟩ := CA.out k hlt2
      have hft := filter_take (fun x => decide (x ∈ B) == i) A k hlt2
      have hDl : ((A.take k).filter fun x => decide (x ∈ B) == i).length + 1 ≤ 8796093022208 := by have := ((HS.out.take k).filter fun x => decide (x ∈ B) == i).len; omega
      obtain ⟨p, hp⟩ : ∃ p, A[k]'hlt2 = p := ⟨_, rfl⟩
      rw [hp] at c1 hft
      have d1 : wr.cell? ⟨g1, o1 + k, none⟩ = some (.string (bs p)) := by rw [HW.out.cell (p := ⟨g1, o1 + k, none⟩) (by show g1 < G; omega)]; exact c1
      have HDL : Hid (((A.take k).filter fun x => decide (x ∈ B) == i).length + 1 ≤ 8796093022208) := hDl
      obtain ⟨r, hr⟩ : ∃ r, decide (p ∈ B) = r := ⟨_, rfl⟩
      simp only [hr] at hft
      have HR : Hid (decide (p ∈ B) = r) := hr
      have HF : Hid ((A.take (k + 1)).filter (fun x => decide (x ∈ B) == i) = (A.take k).filter (fun x => decide (x ∈ B) == i) ++ (if (r == i) = true then [p] else [])) := hft
      clear c1 hp hft hDl hr
      by_cases hri : (r == i) = true
      · go_wp2_with fail
        refine (rhas_any p (HB.out.1.kept hga HW.out) (by have := HB.out.2.len; omega)).mono ?_
        rintro e w1 ⟨rfl, rfl⟩
        rw [HR.out]
        go_wp2_with (at_builtin; refine app_one (base := G) p HO.out HDL.out hz rfl (.tmp 23) (.tmp 28) rfl rfl rfl ?_; intro v' w' ho hbw hbs' hgr hat)
        have HO5 : Hid (Own G w' v' ((A.take (k + 1)).filter fun x => decide (x ∈ B) == i)) := by rw [HF.out, if_pos hri]; exact ho
        have HB5 : Hid (Below G w w') := below_trans HW.out hbw
        clear ho hbw hgr hat
        go_wp2_with fail
        go_roundw
        case rel => exact ⟨k + 1, by omega, by go_num, HO5.out, HB5.out⟩
        case measure => simp [intOf]; omega
      · have hri2 : (r == i) = false := by simpa using hri
        go_wp2_with fail
        refine (rhas_any p (HB.out.1.kept hga HW.out) (by have := HB.out.2.len; omega)).mono ?_
        rintro e w1 ⟨rfl, rfl⟩
        rw [HR.out]
        go_wp2_with fail
        go_roundw
        case rel => exact ⟨k + 1, by omega, by go_num, by rw [HF.out, if_neg hri, List.append_nil]; exact HO.out, HW.out⟩
        case measure => simp [intOf]; omega
    · obtain rfl : k = n := by omega
      have HOE : Hid (Own G wr u7 (A.filter fun x => decide (x ∈ B) == i)) := by
        have := HO.out
        rw [HN.out, List.take_length] at this; exact this
      go_wp2_with fail
      refine (rnorm_any HOE.out.bs (HS.out.filter _)).mono ?_
      rintro e w2 ⟨v2, rfl, o2, b2⟩
      have HO2 : Hid (Own G w2 v2 (som A B i)) := o2.mono hz
      have HB2 : Hid (Below G w w2) := below_trans HW.out (below_mono b2 hz)
      clear o2 b2
      go_wp2_with fail
      go_ret
      exact ⟨v2, rfl, by rw [hG]; exact HO2.out, by rw [hG]; exact HB2.out⟩

set_option maxRecDepth 100000 in
set_option maxHeartbeats 1000000 in
theorem rminus_any {w : World} {va vb : Value} {A B : List (List UInt8)} (h1 : SS w va A) (h2 : SS w vb B) (sa : Sm A) (sb : Sm B) :
    Calls Tryz.prog 37 #[va, vb] w fun e w' => ∃ v', e = .returned v' ∧ Own w.heap.size w' v' (som A B false) ∧ Below w.heap.size w w' := by
  have H : Hid (SS w va A ∧ SS w vb B ∧ Sm A ∧ Sm B) := ⟨h1, h2, sa, sb⟩
  clear h1 h2 sa sb
  go_enter Tryz.func37, Tryz.ntmps37
  go_wp2_with fail
  refine (some_any false H.out.1 H.out.2.1 H.out.2.2.1 H.out.2.2.2).mono ?_
  rintro e w1 ⟨v1, rfl, ho, hb⟩
  have HO : Hid (Own w.heap.size w1 v1 (som A B false) ∧ Below w.heap.size w w1) := ⟨ho, hb⟩
  clear ho hb
  go_wp2_with fail
  go_ret
  exact ⟨v1, rfl, HO.out⟩

set_option maxHeartbeats 2000000 in
set_option maxRecDepth 100000 in
theorem rdirs_any {w : World} {v : Value} {L : List (List UInt8)} (h : SS w v L) (sm : Sm L) :
    Calls Tryz.prog 38 #[v] w fun e w' => ∃ v', e = .returned v' ∧ Own w.heap.size w' v' (drs L) ∧ Below w.heap.size w w' := by
  obtain ⟨a, c, n, hn, rfl, ca⟩ := h.form'
  have CA : Hid (∀ k, (hk : k < L.length) → ∃ b off, a = some ⟨b, off, none⟩ ∧ b < w.heap.size ∧ w.cell? ⟨b, off + k, none⟩ = some (.string (bs L[k]))) := ca
  have HS : Hid (Sm L) := sm
  have HN : Hid (n = L.length) := hn
  have hnl : n ≤ 4000000 := by rw [hn]; exact sm.len
  obtain ⟨G, hG⟩ : ∃ G, w.heap.size = G := ⟨_, rfl⟩
  clear h sm ca hn
  go_enter Tryz.func38, Tryz.ntmps38
  go_wp2_with fail
  go_loopw [3, 4] (fun o i wr => ∃ k : Nat, k ≤ n ∧ i = .int .i64 k ∧ Own G wr o ((L.take k).map dir) ∧ Below G w wr) (fun _ i _ => n - (intOf i).toNat)
  case atStart => exact ⟨0, Nat.zero_le _, rfl, Own.nil _ _, Below.refl _ _⟩
  case round =>
    obtain ⟨k, hk, rfl, ho, hbw⟩ := hrel
    have HOK : Hid (Own G wr u3 ((L.take k).map dir)) := ho
    have HBW : Hid (Below G w wr) := hbw
    have hz4 : G ≤ wr.heap.size := by have := hbw.size; omega
    clear ho hbw
    by_cases hlt : k < n
    · have hlt2 : k < L.length := by have := HN.out; omega
      obtain ⟨g1, o1, rfl, hg1, c1⟩ := CA.out k hlt2
      obtain ⟨p, hp⟩ : ∃ p, L[k]'hlt2 = p := ⟨_, rfl⟩
      have hpl : p.length ≤ 1000000000 := by rw [← hp]; exact HS.out.at hlt2
      rw [hp] at c1
      have c2 : wr.cell? ⟨g1, o1 + k, none⟩ = some (.string (bs p)) := by rw [HBW.out.cell (p := ⟨g1, o1 + k, none⟩) (by show g1 < G; omega)]; exact c1
      have HPE : Hid ((L.take (k + 1)).map dir = (L.take k).map dir ++ [dir p]) := by rw [← hp]; exact take_map_succ L k hlt2
      have hDl : ((L.take k).map dir).length + 1 ≤ 8796093022208 := by simp; omega
      have HDL : Hid (((L.take k).map dir).length + 1 ≤ 8796093022208) := hDl
      clear c1 hp hDl
      go_wp2_with fail
      refine (rdir_any p _ (by omega)).mono ?_
      rintro e w2 ⟨rfl, rfl⟩
      go_wp2_with (at_builtin; refine app_one (base := G) (dir p) HOK.out HDL.out hz4 rfl (.tmp 11) (.tmp 17) rfl rfl rfl ?_; intro v' w' ho hbw hbs' hgr hat)
      have HO5 : Hid (Own G w' v' ((L.take (k + 1)).map dir)) := by rw [HPE.out]; exact ho
      have HB5 : Hid (Below G w w') := below_trans HBW.out hbw
      clear ho hbw hgr hat
      go_wp2_with fail
      go_roundw
      case rel => exact ⟨k + 1, by omega, by go_num, HO5.out, HB5.out⟩
      case measure => simp [intOf]; omega
    · obtain rfl : k = n := by omega
      have HOE : Hid (Own G wr u3 (L.map dir)) := by
        have := HOK.out
        rw [HN.out, List.take_length] at this; exact this
      go_wp2_with fail
      refine (rnorm_any HOE.out.bs HS.out.dirs).mono ?_
      rintro e w2 ⟨v2, rfl, ho2, hb2⟩
      have HO2 : Hid (Own G w2 v2 (drs L)) := ho2.mono hz4
      have HB2 : Hid (Below G w w2) := below_trans HBW.out (below_mono hb2 hz4)
      clear ho2 hb2
      go_wp2_with fail
      go_ret
      exact ⟨v2, rfl, by rw [hG]; exact HO2.out, by rw [hG]; exact HB2.out⟩

set_option maxHeartbeats 4000000 in
set_option maxRecDepth 100000 in
theorem rheads_any {w : World} {v : Value} {L : List (List UInt8)} (h : SS w v L) (sm : Sm L) :
    Calls Tryz.prog 36 #[v] w fun e w' => ∃ v', e = .returned v' ∧ Own w.heap.size w' v' (hds (norm L)) ∧ Below w.heap.size w w' := by
  rw [← hds_norm]
  obtain ⟨a, c, n, hn, rfl, ca⟩ := h.form'
  have CA : Hid (∀ k, (hk : k < L.length) → ∃ b off, a = some ⟨b, off, none⟩ ∧ b < w.heap.size ∧ w.cell? ⟨b, off + k, none⟩ = some (.string (bs L[k]))) := ca
  have HS : Hid (Sm L) := sm
  have HN : Hid (n = L.length) := hn
  have hnl : n ≤ 4000000 := by rw [hn]; exact sm.len
  obtain ⟨G, hG⟩ : ∃ G, w.heap.size = G := ⟨_, rfl⟩
  clear h sm ca hn
  go_enter Tryz.func36, Tryz.ntmps36
  go_wp2_with fail
  go_loopw [3, 4] (fun o i wr => ∃ k : Nat, k ≤ n ∧ i = .int .i64 k ∧ Own G wr o ((L.take k).filter fun x => !L.any fun y => abvV y x) ∧ Below G w wr) (fun _ i _ => n - (intOf i).toNat)
  case atStart => exact ⟨0, Nat.zero_le _, rfl, Own.nil _ _, Below.refl _ _⟩
  case round =>
    obtain ⟨k, hk, rfl, ho, hbw⟩ := hrel
    obtain ⟨wo, hwo⟩ : ∃ wo, wo = wr := ⟨_, rfl⟩
    subst hwo
    have HOK : Hid (Own G wo u3 ((L.take k).filter fun x => !L.any fun y => abvV y x)) := ho
    have HBW : Hid (Below G w wo) := hbw
    have hz4 : G ≤ wo.heap.size := by have := hbw.size; omega
    clear ho hbw
    by_cases hlt : k < n
    · have hlt2 : k < L.length := by have := HN.out; omega
      obtain ⟨g1, o1, rfl, hg1, c1⟩ := CA.out k hlt2
      have hft := filter_take (fun x => !L.any fun y => abvV y x) L k hlt2
      have hDl : ((L.take k).filter fun x => !L.any fun y => abvV y x).length + 1 ≤ 8796093022208 := by have := ((HS.out.take k).filter fun x => !L.any fun y => abvV y x).len; omega
      obtain ⟨p, hp⟩ : ∃ p, L[k]'hlt2 = p := ⟨_, rfl⟩
      have hpl : p.length ≤ 1000000000 := by rw [← hp]; exact HS.out.at hlt2
      rw [hp] at c1 hft
      have d1 : wo.cell? ⟨g1, o1 + k, none⟩ = some (.string (bs p)) := by rw [HBW.out.cell (p := ⟨g1, o1 + k, none⟩) (by show g1 < G; omega)]; exact c1
      have HDL : Hid (((L.take k).filter fun x => !L.any fun y => abvV y x).length + 1 ≤ 8796093022208) := hDl
      obtain ⟨R, hR⟩ : ∃ R, (L.any fun y => abvV y p) = R := ⟨_, rfl⟩
      have HR : Hid ((L.any fun y => abvV y p) = R) := hR
      simp only [hR] at hft
      have HF : Hid ((L.take (k + 1)).filter (fun x => !L.any fun y => abvV y x) = (L.take k).filter (fun x => !L.any fun y => abvV y x) ++ (if (!R) = true then [p] else [])) := hft
      clear c1 hp hft hDl hR
      go_wp2_with fail
      obtain ⟨G2, hG2⟩ : ∃ G2, wo.heap.size = G2 := ⟨_, rfl⟩
      go_loopw [5, 6] (fun hd i wr => ∃ (r : Bool) (j : Nat), j ≤ n ∧ i = .int .i64 j ∧ hd = .bool r ∧ Below G2 wo wr ∧ r = !((L.take j).any fun y => abvV y p)) (fun _ i _ => n - (intOf i).toNat)
      case atStart => exact ⟨true, 0, Nat.zero_le _, rfl, rfl, Below.refl _ _, rfl⟩
      case round =>
        obtain ⟨r, j, hj, rfl, rfl, hbx, hr⟩ := hrel
        have HBX : Hid (Below G2 wo wr) := hbx
        have HRR : Hid (r = !((L.take j).any fun y => abvV y p)) := hr
        have hz2 : G2 ≤ wr.heap.size := by have := hbx.size; omega
        have d2 : wr.cell? ⟨g1, o1 + k, none⟩ = some (.string (bs p)) := by rw [hbx.cell (p := ⟨g1, o1 + k, none⟩) (by show g1 < G2; omega)]; exact d1
        clear hbx hr
        by_cases hlt3 : j < n
        · have hj2 : j < L.length := by have := HN.out; omega
          obtain ⟨g2, o2, e2, hg2, c2⟩ := CA.out j hj2
          cases e2
          have htk := take_snoc L j hj2
          have hqm : L[j]'hj2 ∈ L := List.getElem_mem _
          obtain ⟨q, hq⟩ : ∃ q, L[j]'hj2 = q := ⟨_, rfl⟩
          rw [hq] at c2 htk hqm
          have hql : q.length ≤ 1000000000 := HS.out.each q hqm
          have d3 : wr.cell? ⟨g1, o1 + j, none⟩ = some (.string (bs q)) := by rw [HBX.out.cell (p := ⟨g1, o1 + j, none⟩) (by show g1 < G2; omega), HBW.out.cell (p := ⟨g1, o1 + j, none⟩) (by show g1 < G; omega)]; exact c2
          have x2 : ∀ Y : GW wr, Y.it.cell? ⟨g1, o1 + k, none⟩ = some (.string (bs p)) := fun Y => Y.cell (by show g1 < wr.heap.size; omega) d2
          have x3 : ∀ Y : GW wr, Y.it.cell? ⟨g1, o1 + j, none⟩ = some (.string (bs q)) := fun Y => Y.cell (by show g1 < wr.heap.size; omega) d3
          have xne := gw_ne wr
          have k1 : (0 : Int) ≤ (j : Int) := by omega
          have k2 : (j : Int) < (n : Int) := by omega
          have k3 : (0 : Int) ≤ (k : Int) := by omega
          have k4 : (k : Int) < (n : Int) := by omega
          obtain ⟨z, hz⟩ : ∃ z, abvV q p = z := ⟨_, rfl⟩
          have HZ : Hid (abvV q p = z) := hz
          have hnx : (!((L.take (j + 1)).any fun y => abvV y p)) = (r && !z) := by
            rw [htk, List.any_append, HRR.out, ← hz]
            simp
          have HNX : Hid ((!((L.take (j + 1)).any fun y => abvV y p)) = (r && !z)) := hnx
          clear hnx
          clear c2 hq hqm htk hz
          cases r with
          | true =>
            go_wp2_with fail
            refine wp_region_grow (by kernel_rfl) (by kernel_rfl) ?_
            repeat (go_big_quiet_step (exact rabove_grow hql hpl HZ.out _))
            refine wpQuiet_nil ?_
            rintro w2 ⟨⟨w2, bx⟩, rfl⟩
            have HB5 : Hid (Below G2 wo w2) := below_trans HBX.out (below_mono bx hz2)
            clear bx
            go_wp2_with fail
            go_roundw
            case rel => exact ⟨!z, j + 1, by omega, by go_num, rfl, HB5.out, by rw [HNX.out]; simp⟩
            case measure => simp [intOf]; omega
          | false =>
            go_wp2_with fail
            refine wp_region_grow (by kernel_rfl) (by kernel_rfl) ?_
            repeat (go_big_quiet_step (fail))
            refine wpQuiet_nil ?_
            rintro w2 ⟨⟨w2, bx⟩, rfl⟩
            have HB5 : Hid (Below G2 wo w2) := below_trans HBX.out (below_mono bx hz2)
            clear bx
            go_wp2_with fail
            go_roundw
            case rel => exact ⟨false, j + 1, by omega, by go_num, rfl, HB5.out, by rw [HNX.out]; simp⟩
            case measure => simp [intOf]; omega
        · have hr : r = !R := by
            rw [HRR.out, ← HR.out, List.take_of_length_le (by have := HN.out; omega)]
          have HB3 : Hid (Below G w wr) := below_trans HBW.out (below_mono HBX.out (by omega))
          have HO3 : Hid (Own G wr u3 ((L.take k).filter fun x => !L.any fun y => abvV y x)) := HOK.out.later (by rw [hG2]; exact HBX.out)
          have hz5 : G ≤ wr.heap.size := by omega
          cases R with
          | true =>
            subst hr
            go_wp2_with fail
            go_roundw
            case rel => exact ⟨k + 1, by omega, by go_num, by rw [HF.out]; simpa using HO3.out, HB3.out⟩
            case measure => simp [intOf]; omega
          | false =>
            subst hr
            go_wp2_with (at_builtin; refine app_one (base := G) p HO3.out HDL.out hz5 rfl (.tmp 33) (.tmp 38) rfl rfl rfl ?_; intro v' w' ho hbw hbs' hgr hat)
            have HO5 : Hid (Own G w' v' ((L.take (k + 1)).filter fun x => !L.any fun y => abvV y x)) := by rw [HF.out]; exact ho
            have HB5 : Hid (Below G w w') := below_trans HB3.out hbw
            clear ho hbw hgr hat
            go_wp2_with fail
            go_roundw
            case rel => exact ⟨k + 1, by omega, by go_num, HO5.out, HB5.out⟩
            case measure => simp [intOf]; omega
    · obtain rfl : k = n := by omega
      have HOE : Hid (Own G wo u3 (hds L)) := by
        have := HOK.out
        rw [HN.out, List.take_length] at this; exact this
      go_wp2_with fail
      refine (rnorm_any HOE.out.bs HS.out.hds).mono ?_
      rintro e w2 ⟨v2, rfl, ho2, hb2⟩
      have HO2 : Hid (Own G w2 v2 (norm (hds L))) := ho2.mono hz4
      have HB2 : Hid (Below G w w2) := below_trans HBW.out (below_mono hb2 hz4)
      clear ho2 hb2
      go_wp2_with fail
      go_ret
      exact ⟨v2, rfl, by rw [hG]; exact HO2.out, by rw [hG]; exact HB2.out⟩
end Go.Proofs.YtkbefggjfggdgaaGreat
