import Derived.Test.YtlkkmcibjhoneaaGreatDoorJCuts
namespace Go.Proofs.YtlkkmcibjhoneaaGreatDoor
open Go.RowKit

set_option maxHeartbeats 1000000 in
set_option maxRecDepth 100000 in
theorem rhas_any {w : World} {v : Value} {L : List (List UInt8)} (p : List UInt8) (h : SS w v L) (hL : L.length ≤ 8000000) :
    Calls Tryz.prog 95 #[v, .string (bs p)] w fun e w' => e = .returned (.bool (decide (p ∈ L))) ∧ w' = w := by
  obtain ⟨a, c, n, hn, rfl, ca⟩ := h.form'
  have CA : Hid (∀ k, (hk : k < L.length) → ∃ b off, a = some ⟨b, off, none⟩ ∧ b < w.heap.size ∧ w.cell? ⟨b, off + k, none⟩ = some (.string (bs L[k]))) := ca
  obtain ⟨r, hr⟩ : ∃ r, decide (p ∈ L) = r := ⟨_, rfl⟩
  rw [hr]
  have HR : Hid (decide (p ∈ L) = r) := hr
  have HN : Hid (n = L.length) := hn
  have hnl : n ≤ 8000000 := by omega
  clear ca h hr hn hL
  go_enter Tryz.func95, Tryz.ntmps95
  go_wp2_with fail
  go_loop [5] (fun i => ∃ k : Nat, k ≤ n ∧ i = .int .i64 k ∧ ∀ j, (hj : j < L.length) → j < k → L[j] ≠ p) (fun i => n - (intOf i).toNat)
  case atStart => exact ⟨0, Nat.zero_le _, rfl, fun j _ hj => absurd hj (Nat.not_lt_zero _)⟩
  case round =>
    obtain ⟨k, hk, rfl, hno⟩ := hrel
    have HNO : Hid (∀ j, (hj : j < L.length) → j < k → L[j] ≠ p) := hno
    clear hno
    by_cases hlt : k < n
    · have hlt2 : k < L.length := by have := HN.out; omega
      obtain ⟨g1, o1, rfl, hg1, c1⟩ := CA.out k hlt2
      by_cases heq : L[k]'hlt2 = p
      · have t1 : (bs p).toList = p := bs_toList _
        have t2 : (bs (L[k]'hlt2)).toList = p := by rw [bs_toList, heq]
        have HE : Hid (L[k]'hlt2 = p) := heq
        clear heq
        go_wp2_with fail
        go_ret
        have : p ∈ L := by rw [← HE.out]; exact List.getElem_mem _
        exact ⟨by rw [← HR.out, decide_eq_true this]; rfl, rfl⟩
      · have t1 : (bs p).toList = p := bs_toList _
        have t2 : (bs (L[k]'hlt2)).toList = L[k]'hlt2 := bs_toList _
        have t3 : ((L[k]'hlt2) == p) = false := by rw [beq_eq_false_iff_ne]; exact heq
        have HE : Hid (L[k]'hlt2 ≠ p) := heq
        clear heq
        go_wp2_with fail
        go_round
        case rel =>
          refine ⟨k + 1, by omega, by go_num, fun j hj hjk => ?_⟩
          by_cases e : j = k
          · subst e; exact HE.out
          · exact HNO.out j hj (by omega)
        case measure => simp [intOf]; omega
    · go_wp2_with fail
      go_ret
      have : p ∉ L := fun hp => by
        obtain ⟨j, hj, e⟩ := List.getElem_of_mem hp
        exact HNO.out j hj (by have := HN.out; omega) e
      exact ⟨by rw [← HR.out, decide_eq_false this]; rfl, rfl⟩

theorem rcmp_grow {w : World} {p q : List UInt8} {o : Int} (hp : p.length ≤ 1000000000) (hq : q.length ≤ 1000000000) (ho : cf p q = o) (X : GW w) :
    Calls Tryz.prog 96 #[.string (bs p), .string (bs q)] X.it fun e w' => e = .returned (.int .i64 o) ∧ ∃ Y : GW w, w' = Y.it :=
  (rcmp_any p q X.it (by omega) (by omega)).mono fun _ w' ⟨he, hb⟩ => ⟨by rw [← ho]; exact he, ⟨w', bstep X.below hb⟩, rfl⟩
theorem ins_len (x : List UInt8) (m : List (List UInt8)) : (ins x m).length ≤ m.length + 1 := by
  induction m with
  | nil => simp [ins]
  | cons y m ih =>
    unfold ins
    split
    · simp
    · split
      · simp
      · simp; omega

set_option maxHeartbeats 4000000 in
set_option maxRecDepth 100000 in
theorem rnorm_any {w : World} {v : Value} {L : List (List UInt8)} (h : SS w v L) (sm : Sm L) :
    Calls Tryz.prog 66 #[v] w fun e w' => ∃ v', e = .returned v' ∧ Own w.heap.size w' v' (norm L) ∧ Below w.heap.size w w' := by
  obtain ⟨a, c, n, hn, rfl, ca⟩ := h.form'
  have CA : Hid (∀ k, (hk : k < L.length) → ∃ b off, a = some ⟨b, off, none⟩ ∧ b < w.heap.size ∧ w.cell? ⟨b, off + k, none⟩ = some (.string (bs L[k]))) := ca
  have HN : Hid (n = L.length) := hn
  have HS : Hid (Sm L) := sm
  have hnl : n ≤ 4000000 := by rw [hn]; exact sm.len
  obtain ⟨G, hG⟩ : ∃ G, w.heap.size = G := ⟨_, rfl⟩
  clear ca h hn sm
  go_enter Tryz.func66, Tryz.ntmps66
  go_wp2_with fail
  go_loopw [3, 4] (fun o i wr => ∃ k : Nat, k ≤ n ∧ i = .int .i64 k ∧ Own G wr o (norm (L.take k)) ∧ Below G w wr) (fun _ i _ => n - (intOf i).toNat)
  case atStart => exact ⟨0, Nat.zero_le _, rfl, Own.nil _ _, Below.refl _ _⟩
  case round =>
    obtain ⟨k, hk, rfl, ho, hbw⟩ := hrel
    obtain ⟨wo, hwo⟩ : ∃ wo, wo = wr := ⟨_, rfl⟩
    subst hwo
    have HB : Hid (Below G w wo) := hbw
    have hzo : G ≤ wo.heap.size := by have := hbw.size; omega
    clear hbw
    by_cases hlt : k < n
    · have hlt2 : k < L.length := by have := HN.out; omega
      obtain ⟨g1, o1, rfl, hg1, c1⟩ := CA.out k hlt2
      have hsn : norm (L.take (k + 1)) = ins (L[k]'hlt2) (norm (L.take k)) := by rw [take_snoc L k hlt2, norm_snoc]
      obtain ⟨p, hp⟩ : ∃ p, L[k]'hlt2 = p := ⟨_, rfl⟩
      have hpl : p.length ≤ 1000000000 := by rw [← hp]; exact HS.out.at hlt2
      rw [hp] at c1 hsn
      have smE : Sm (norm (L.take k)) := (HS.out.take k).norm
      have upE : Up (norm (L.take k)) := up_norm _
      obtain ⟨E, hE⟩ : ∃ E, norm (L.take k) = E := ⟨_, rfl⟩
      rw [hE] at ho hsn smE upE
      have HO : Hid (Own G wo u3 E) := ho
      have HSN : Hid (norm (L.take (k + 1)) = ins p E) := hsn
      have HSE : Hid (Sm E ∧ Up E) := ⟨smE, upE⟩
      have hEl : E.length ≤ 4000000 := smE.len
      have d1 : wo.cell? ⟨g1, o1 + k, none⟩ = some (.string (bs p)) := by rw [HB.out.cell (p := ⟨g1, o1 + k, none⟩) (by show g1 < G; omega)]; exact c1
      obtain ⟨ae, ce, m, hm, rfl, cae⟩ := ho.bs.form'
      have CE : Hid (∀ k, (hk : k < E.length) → ∃ b off, ae = some ⟨b, off, none⟩ ∧ b < wo.heap.size ∧ wo.cell? ⟨b, off + k, none⟩ = some (.string (bs E[k]))) := cae
      have HM : Hid (m = E.length) := hm
      have hml : m ≤ 4000000 := by omega
      clear c1 hp hsn smE upE hE ho hm cae hEl
      by_cases hpE : p ∈ E
      · have HD : Hid (decide (p ∈ E) = true) := decide_eq_true hpE
        have HX : Hid (norm (L.take (k + 1)) = E) := by rw [HSN.out]; exact ins_mem HSE.out.2 hpE
        clear hpE
        go_wp2_with fail
        refine (rhas_any p HO.out.bs (by have := HSE.out.1.len; omega)).mono ?_
        rintro e w1 ⟨rfl, rfl⟩
        rw [HD.out]
        go_wp2_with fail
        go_roundw
        case rel => exact ⟨k + 1, by omega, by go_num, by rw [HX.out]; exact HO.out, HB.out⟩
        case measure => simp [intOf]; omega
      · have HD : Hid (decide (p ∈ E) = false) := decide_eq_false hpE
        have HPE : Hid (p ∉ E) := hpE
        clear hpE
        go_wp2_with fail
        refine (rhas_any p HO.out.bs (by have := HSE.out.1.len; omega)).mono ?_
        rintro e w1 ⟨rfl, rfl⟩
        rw [HD.out]
        go_wp2_with fail
        obtain ⟨G2, hG2⟩ : ∃ G2, w1.heap.size = G2 := ⟨_, rfl⟩
        go_loopw [5, 6, 7] (fun nx ld i wr => ∃ (r : Bool) (j : Nat) (X : List (List UInt8)), j ≤ m ∧ i = .int .i64 j ∧ ld = .bool r ∧ Own G2 wr nx X ∧ Below G2 w1 wr ∧ X ++ (if r then E.drop j else ins p (E.drop j)) = ins p E ∧ X.length ≤ j + r.toNat) (fun _ _ i _ => m - (intOf i).toNat)
        case atStart => exact ⟨false, 0, [], Nat.zero_le _, rfl, rfl, Own.nil _ _, Below.refl _ _, by simp, by simp⟩
        case round =>
          obtain ⟨r, j, X, hj, rfl, rfl, hox, hbx, hX, hXl⟩ := hrel
          have HOX : Hid (Own G2 wr u5 X) := hox
          have HBX : Hid (Below G2 w1 wr) := hbx
          have HX : Hid (X ++ (if r then E.drop j else ins p (E.drop j)) = ins p E) := hX
          have hz2 : G2 ≤ wr.heap.size := by have := hbx.size; omega
          have HXL : Hid (X.length + 1 ≤ 8796093022208) := by have := Bool.toNat_le r; show _ ≤ _; omega
          have HXL2 : Hid (X.length ≤ j + r.toNat) := hXl
          have d2 : wr.cell? ⟨g1, o1 + k, none⟩ = some (.string (bs p)) := by rw [hbx.cell (p := ⟨g1, o1 + k, none⟩) (by show g1 < G2; omega)]; exact d1
          clear hox hbx hX hXl
          by_cases hlt3 : j < m
          · have hj2 : j < E.length := by have := HM.out; omega
            obtain ⟨g2, o2, rfl, hg2, c2⟩ := CE.out j hj2
            have hdr := List.drop_eq_getElem_cons hj2
            have hqE : E[j]'hj2 ∈ E := List.getElem_mem _
            obtain ⟨q, hq⟩ : ∃ q, E[j]'hj2 = q := ⟨_, rfl⟩
            rw [hq] at c2 hdr hqE
            have hql : q.length ≤ 1000000000 := HSE.out.1.each q hqE
            have d3 : wr.cell? ⟨g2, o2 + j, none⟩ = some (.string (bs q)) := by rw [HBX.out.cell (p := ⟨g2, o2 + j, none⟩) (by show g2 < G2; omega)]; exact c2
            have x2 : ∀ Y : GW wr, Y.it.cell? ⟨g1, o1 + k, none⟩ = some (.string (bs p)) := fun Y => Y.cell (by show g1 < wr.heap.size; omega) d2
            have x3 : ∀ Y : GW wr, Y.it.cell? ⟨g2, o2 + j, none⟩ = some (.string (bs q)) := fun Y => Y.cell (by show g2 < wr.heap.size; omega) d3
            have xne := gw_ne wr
            have k1 : (0 : Int) ≤ (j : Int) := by omega
            have k2 : (j : Int) < (m : Int) := by omega
            have k3 : (0 : Int) ≤ (k : Int) := by omega
            have k4 : (k : Int) < (n : Int) := by omega
            have HQE : Hid (q ∈ E) := hqE
            clear c2 hq hqE
            cases r with
            | true =>
              have hx := HX.out
              rw [hdr] at hx
              have hx5 : (X ++ [q]) ++ (if true then E.drop (j + 1) else ins p (E.drop (j + 1))) = ins p E := by rw [← hx]; simp
              have HX5 : Hid ((X ++ [q]) ++ (if true then E.drop (j + 1) else ins p (E.drop (j + 1))) = ins p E) := hx5
              clear hx5
              clear hx hdr
              go_wp2_with fail
              refine wp_region_grow (by kernel_rfl) (by kernel_rfl) ?_
              repeat (go_big_quiet_step (fail))
              refine wpQuiet_nil ?_
              rintro w2 ⟨⟨w2, bx⟩, rfl⟩
              have HO2 : Hid (Own G2 w2 u5 X) := HOX.out.later bx
              have HB2 : Hid (Below G2 w1 w2) := below_trans HBX.out (below_mono bx hz2)
              have hz3 : G2 ≤ w2.heap.size := by have := bx.size; omega
              have e2 : w2.cell? ⟨g2, o2 + j, none⟩ = some (.string (bs q)) := by rw [bx.cell (p := ⟨g2, o2 + j, none⟩) (by show g2 < wr.heap.size; omega)]; exact d3
              clear bx x2 x3 xne
              go_wp2_with (at_builtin; refine app_one (base := G2) q HO2.out HXL.out hz3 rfl (.tmp 47) (.tmp 52) rfl rfl rfl ?_; intro v' w' ho hbw hbs' hgr hat)
              have HO5 : Hid (Own G2 w' v' (X ++ [q])) := ho
              have HB5 : Hid (Below G2 w1 w') := below_trans HB2.out hbw
              clear ho hbw hgr hat
              go_wp2_with fail
              go_roundw
              case rel => exact ⟨true, j + 1, X ++ [q], by omega, by go_num, rfl, HO5.out, HB5.out, HX5.out, by have := HXL2.out; simp at this ⊢; omega⟩
              case measure => simp [intOf]; omega
            | false =>
              obtain ⟨o, hoo⟩ : ∃ o, cf p q = o := ⟨_, rfl⟩
              have HOO : Hid (cf p q = o) := hoo
              have hne0 : o ≠ 0 := fun e => HPE.out (by rw [cf_zero.1 (hoo.trans e)]; exact HQE.out)
              by_cases hlo : o < 0
              · have hx := HX.out
                rw [hdr] at hx
                have hx5 : (X ++ [p] ++ [q]) ++ (if true then E.drop (j + 1) else ins p (E.drop (j + 1))) = ins p E := by
                  rw [← hx]
                  simp only [Bool.false_eq_true, if_false, if_true, ins]
                  rw [if_pos (by rw [hoo]; exact hlo)]
                  simp
                have HX5 : Hid ((X ++ [p] ++ [q]) ++ (if true then E.drop (j + 1) else ins p (E.drop (j + 1))) = ins p E) := hx5
                clear hx5
                clear hx hdr hoo
                go_wp2_with fail
                refine wp_region_grow (by kernel_rfl) (by kernel_rfl) ?_
                repeat (go_big_quiet_step (exact rcmp_grow hpl hql HOO.out _))
                refine wpQuiet_nil ?_
                rintro w2 ⟨⟨w2, bx⟩, rfl⟩
                have HO2 : Hid (Own G2 w2 u5 X) := HOX.out.later bx
                have HB2 : Hid (Below G2 w1 w2) := below_trans HBX.out (below_mono bx hz2)
                have hz3 : G2 ≤ w2.heap.size := by have := bx.size; omega
                have e1 : w2.cell? ⟨g1, o1 + k, none⟩ = some (.string (bs p)) := by rw [bx.cell (p := ⟨g1, o1 + k, none⟩) (by show g1 < wr.heap.size; omega)]; exact d2
                have e2 : w2.cell? ⟨g2, o2 + j, none⟩ = some (.string (bs q)) := by rw [bx.cell (p := ⟨g2, o2 + j, none⟩) (by show g2 < wr.heap.size; omega)]; exact d3
                clear bx x2 x3 xne
                have HXL3 : Hid ((X ++ [p]).length + 1 ≤ 8796093022208) := by
                  have := HXL2.out
                  show (X ++ [p]).length + 1 ≤ 8796093022208
                  simp at this ⊢; omega
                have g2l : g2 < G2 := by omega
                go_wp2_with (first | (at_builtin; refine app_one (base := G2) p HO2.out HXL.out hz3 rfl (.tmp 40) (.tmp 45) rfl rfl rfl ?_; intro v3 w3 ho3 hbw3 hbs3 hgr3 hat3; have HO3 : Hid (Own G2 w3 v3 (X ++ [p])) := ho3; have HB3 : Hid (Below G2 w1 w3) := below_trans HB2.out hbw3; have hz4 : G2 ≤ w3.heap.size := hbs3; have e3 : w3.cell? ⟨g2, o2 + j, none⟩ = some (.string (bs q)) := (by rw [hbw3.cell (p := ⟨g2, o2 + j, none⟩) g2l]; exact e2); clear ho3 hbw3 hbs3 hgr3 hat3) | (at_builtin; refine app_one (base := G2) q HO3.out HXL3.out hz4 rfl (.tmp 47) (.tmp 52) rfl rfl rfl ?_; intro v' w' ho hbw hbs' hgr hat))
                have HO5 : Hid (Own G2 w' v' (X ++ [p] ++ [q])) := ho
                have HB5 : Hid (Below G2 w1 w') := below_trans HB3.out hbw
                clear ho hbw hgr hat
                go_wp2_with fail
                go_roundw
                case rel => exact ⟨true, j + 1, X ++ [p] ++ [q], by omega, by go_num, rfl, HO5.out, HB5.out, HX5.out, by have := HXL2.out; simp at this ⊢; omega⟩
                case measure => simp [intOf]; omega
              · have hx := HX.out
                rw [hdr] at hx
                have hx5 : (X ++ [q]) ++ (if false then E.drop (j + 1) else ins p (E.drop (j + 1))) = ins p E := by
                  rw [← hx]
                  simp only [Bool.false_eq_true, if_false, ins]
                  rw [if_neg (by rw [hoo]; exact hlo), if_neg (by rw [hoo]; exact hne0)]
                  simp
                have HX5 : Hid ((X ++ [q]) ++ (if false then E.drop (j + 1) else ins p (E.drop (j + 1))) = ins p E) := hx5
                clear hx5
                clear hx hdr hoo
                go_wp2_with fail
                refine wp_region_grow (by kernel_rfl) (by kernel_rfl) ?_
                repeat (go_big_quiet_step (exact rcmp_grow hpl hql HOO.out _))
                refine wpQuiet_nil ?_
                rintro w2 ⟨⟨w2, bx⟩, rfl⟩
                have HO2 : Hid (Own G2 w2 u5 X) := HOX.out.later bx
                have HB2 : Hid (Below G2 w1 w2) := below_trans HBX.out (below_mono bx hz2)
                have hz3 : G2 ≤ w2.heap.size := by have := bx.size; omega
                have e2 : w2.cell? ⟨g2, o2 + j, none⟩ = some (.string (bs q)) := by rw [bx.cell (p := ⟨g2, o2 + j, none⟩) (by show g2 < wr.heap.size; omega)]; exact d3
                clear bx x2 x3 xne
                go_wp2_with (at_builtin; refine app_one (base := G2) q HO2.out HXL.out hz3 rfl (.tmp 47) (.tmp 52) rfl rfl rfl ?_; intro v' w' ho hbw hbs' hgr hat)
                have HO5 : Hid (Own G2 w' v' (X ++ [q])) := ho
                have HB5 : Hid (Below G2 w1 w') := below_trans HB2.out hbw
                clear ho hbw hgr hat
                go_wp2_with fail
                go_roundw
                case rel => exact ⟨false, j + 1, X ++ [q], by omega, by go_num, rfl, HO5.out, HB5.out, HX5.out, by have := HXL2.out; simp at this ⊢; omega⟩
                case measure => simp [intOf]; omega
          · have hdr : E.drop j = [] := List.drop_eq_nil_of_le (by have := HM.out; omega)
            have hx := HX.out
            rw [hdr] at hx
            cases r with
            | true =>
              have hx5 : X = ins p E := by rw [← hx]; simp
              have HX5 : Hid (X = ins p E) := hx5
              clear hx5
              clear hx hdr
              go_wp2_with fail
              go_roundw
              case rel => exact ⟨k + 1, by omega, by go_num, by rw [HSN.out, ← HX5.out]; exact HOX.out.mono (by omega), below_trans HB.out (below_mono HBX.out (by omega))⟩
              case measure => simp [intOf]; omega
            | false =>
              have hx5 : X ++ [p] = ins p E := by rw [← hx]; simp [ins]
              have HX5 : Hid (X ++ [p] = ins p E) := hx5
              clear hx5
              clear hx hdr
              go_wp2_with (at_builtin; refine app_one (base := G2) p HOX.out HXL.out hz2 rfl (.tmp 56) (.tmp 61) rfl rfl rfl ?_; intro v' w' ho hbw hbs' hgr hat)
              have HO5 : Hid (Own G2 w' v' (X ++ [p])) := ho
              have HB5 : Hid (Below G2 w1 w') := below_trans HBX.out hbw
              clear ho hbw hgr hat
              go_wp2_with fail
              go_roundw
              case rel => exact ⟨k + 1, by omega, by go_num, by rw [HSN.out, ← HX5.out]; exact HO5.out.mono (by omega), below_trans HB.out (below_mono HB5.out (by omega))⟩
              case measure => simp [intOf]; omega
    · obtain rfl : k = n := by omega
      have HOE : Hid (Own G wo u3 (norm L)) := by
        rw [HN.out, List.take_length] at ho; exact ho
      clear ho
      go_wp2_with fail
      go_ret
      exact ⟨u3, rfl, by rw [hG]; exact HOE.out, by rw [hG]; exact HB.out⟩
end Go.Proofs.YtlkkmcibjhoneaaGreatDoor
