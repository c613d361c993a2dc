/-
  The document's Norm.
-/
import Derived.Test.YtfdcfcalbongeaaGreatJLent
namespace Go.Proofs.YtfdcfcalbongeaaGreat
open Go.RowKit

theorem ins_split (p : List UInt8) : ∀ (E : List (List UInt8)) (j : Nat), (∀ y ∈ E.take j, cf y p < 0) → ins p E = E.take j ++ ins p (E.drop j)
  | E, 0, _ => by simp
  | [], j + 1, _ => by simp
  | y :: E, j + 1, h => by
    have hy := h y (by simp)
    have h1 : ¬ cf p y < 0 := by rw [cf_neg]; omega
    have h2 : ¬ cf p y = 0 := by rw [cf_neg]; omega
    rw [ins, if_neg h1, if_neg h2, List.take_succ_cons, List.drop_succ_cons, List.cons_append, ins_split p E j (fun z hz => h z (by simp [hz]))]
theorem ins_here {p : List UInt8} {E : List (List UInt8)} {j : Nat} (h : ∀ y ∈ E.take j, cf y p < 0) (hj : j < E.length) (e : E[j] = p) : ins p E = E := by
  rw [ins_split p E j h, List.drop_eq_getElem_cons hj, e, ins, if_neg (by rw [cf_self]; omega), if_pos (cf_self p)]
  have := List.take_append_drop j E
  rw [List.drop_eq_getElem_cons hj, e] at this
  exact this
theorem ins_new' {p : List UInt8} {E : List (List UInt8)} {j : Nat} (h : ∀ y ∈ E.take j, cf y p < 0) (hj : ∀ hj : j < E.length, ¬ cf E[j] p < 0 ∧ E[j] ≠ p) : ins p E = E.take j ++ [p] ++ E.drop j := by
  rw [ins_split p E j h, List.append_assoc]
  congr 1
  by_cases hl : j < E.length
  · obtain ⟨h1, h2⟩ := hj hl
    have h3 : cf E[j] p ≠ 0 := fun e => h2 (cf_zero.1 e)
    rw [List.drop_eq_getElem_cons hl, ins, if_pos (by rw [cf_neg]; omega)]
    rfl
  · rw [List.drop_eq_nil_of_le (by omega)]
    rfl
theorem SS.tail2 {w : World} {b off c n : Nat} {A : List (List UInt8)} (h : SS w (.slice (some ⟨b, off, none⟩) n c) A) (hn : n = A.length) (j : Nat) (hj : j ≤ n) : SS w (.slice (some ⟨b, off + j, none⟩) (n - j) (c - j)) (A.drop j) := by
  rcases h with ⟨⟨a, c', e⟩, rfl⟩ | ⟨b', off', cap, e, hc, hlt, hcell⟩
  · simp at hn
    subst hn
    obtain rfl : j = 0 := by omega
    exact .inl ⟨⟨_, _, rfl⟩, rfl⟩
  · injection e with e1 e2 e3
    injection e1 with e1
    injection e1 with e1 e4 _
    subst e1
    subst e3
    subst e4
    have hl : (A.drop j).length = n - j := by rw [List.length_drop]; omega
    refine .inr ⟨b, off + j, c - j, by rw [hl], by omega, hlt, fun i u hu => ?_⟩
    rw [Nat.add_assoc]
    refine hcell (j + i) u ?_
    rw [sc_get, List.getElem?_drop] at hu
    rw [sc_get]; exact hu
theorem Own.form2 {base : Nat} {w : World} {v : Value} {l : List (List UInt8)} (h : Own base w v l) : (v = .slice none 0 0 ∧ l = []) ∨ ∃ g c, v = .slice (some ⟨g, 0, none⟩) l.length c ∧ l.length ≤ c ∧ base ≤ g ∧ g < w.heap.size := by
  rcases h.2 with ⟨rfl, h0⟩ | ⟨g, cap, cur, rfl, hb, hg, hn, _⟩
  · exact .inl ⟨rfl, List.eq_nil_of_length_eq_zero h0⟩
  · exact .inr ⟨g, cap, rfl, hn, hb, (Array.getElem?_eq_some_iff.1 hg).1⟩
theorem SS.cut3 {w : World} {a : Option Addr} {c n : Nat} {A : List (List UInt8)} (h : SS w (.slice a n c) A) (hn : A.length = n) (k : Nat) (hk : k ≤ n) : SS w (.slice a k c) (A.take k) := by
  subst hn
  exact SS.cut h k hk rfl
theorem SS.none {w : World} {a : Option Addr} {c : Nat} {A : List (List UInt8)} (h : A = []) : SS w (.slice a 0 c) A := .inl ⟨⟨_, _, rfl⟩, h⟩
set_option maxHeartbeats 8000000 in
set_option maxRecDepth 100000 in
theorem r22norm_any {w : World} {v : Value} {L : List (List UInt8)} (h : SS w v L) (sm : Sm L) :
    Calls Tryz.prog 16 #[v] w fun e w' => ∃ v', e = .returned v' ∧ Own w.heap.size w' v' (norm L) ∧ Below w.heap.size w w' := by
  obtain ⟨a, c, n, hn, rfl, ca⟩ := h.form'
  have CA : Hid (∀ k, (hk : k < L.length) → ∃ b off, a = some ⟨b, off, none⟩ ∧ b < w.heap.size ∧ w.cell? ⟨b, off + k, none⟩ = some (.string (bs L[k]))) := ca
  have HN : Hid (n = L.length) := hn
  have HS : Hid (Sm L) := sm
  have hnl : n ≤ 4000000 := by rw [hn]; exact sm.len
  obtain ⟨G, hG⟩ : ∃ G, w.heap.size = G := ⟨_, rfl⟩
  clear ca h hn sm
  go_enter Tryz.func16, Tryz.ntmps16
  go_wp2_with fail
  go_loopw [3, 4] (fun o i wr => ∃ k : Nat, k ≤ n ∧ i = .int .i64 k ∧ Own G wr o (norm (L.take k)) ∧ Below G w wr) (fun _ i _ => n - (intOf i).toNat)
  case atStart => exact ⟨0, Nat.zero_le _, rfl, Own.nil _ _, Below.refl _ _⟩
  case round =>
    obtain ⟨k, hk, rfl, ho, hbw⟩ := hrel
    obtain ⟨wo, hwo⟩ : ∃ wo, wo = wr := ⟨_, rfl⟩
    subst hwo
    have HB : Hid (Below G w wo) := hbw
    have hzo : G ≤ wo.heap.size := by have := hbw.size; omega
    clear hbw
    by_cases hlt : k < n
    · have hlt2 : k < L.length := by have := HN.out; omega
      obtain ⟨g1, o1, rfl, hg1, c1⟩ := CA.out k hlt2
      have hsn : norm (L.take (k + 1)) = ins (L[k]'hlt2) (norm (L.take k)) := by rw [take_snoc L k hlt2, norm_snoc]
      obtain ⟨p, hp⟩ : ∃ p, L[k]'hlt2 = p := ⟨_, rfl⟩
      have hpl : p.length ≤ 1000000000 := by rw [← hp]; exact HS.out.at hlt2
      rw [hp] at c1 hsn
      have smE : Sm (norm (L.take k)) := (HS.out.take k).norm
      obtain ⟨E, hE⟩ : ∃ E, norm (L.take k) = E := ⟨_, rfl⟩
      rw [hE] at ho hsn smE
      have HSN : Hid (norm (L.take (k + 1)) = ins p E) := hsn
      have HSE : Hid (Sm E) := smE
      have hEl : E.length ≤ 4000000 := smE.len
      have d1 : wo.cell? ⟨g1, o1 + k, none⟩ = some (.string (bs p)) := by rw [HB.out.cell (p := ⟨g1, o1 + k, none⟩) (by show g1 < G; omega)]; exact c1
      have k3 : (0 : Int) ≤ (k : Int) := by omega
      have k4 : (k : Int) < (n : Int) := by omega
      obtain ⟨m, hm⟩ : ∃ m, E.length = m := ⟨_, rfl⟩
      have HM : Hid (E.length = m) := hm
      have hml : m ≤ 4000000 := by omega
      clear c1 hp hsn smE hE
      rcases ho.form2 with ⟨rfl, hE0⟩ | ⟨g2, ce, hv3, hle, _, hg2⟩
      · obtain rfl : m = 0 := by rw [← hm, hE0]; rfl
        have HE0 : Hid (E = []) := hE0
        clear hm hEl hE0
        have HO : Hid (Own G wo (.slice none 0 0) E) := ho
        clear ho
        go_wp2_with fail
        go_loopw [5] (fun i wr => ∃ j : Nat, j ≤ 0 ∧ i = .int .i64 j ∧ Below wo.heap.size wo wr ∧ ∀ y ∈ E.take j, cf y p < 0) (fun i _ => 0 - (intOf i).toNat)
        case atStart => exact ⟨0, by omega, rfl, Below.refl _ _, by simp⟩
        case round =>
          obtain ⟨j, hj, rfl, hbx, hall⟩ := hrel
          have HBX : Hid (Below wo.heap.size wo wr) := hbx
          have HAL : Hid (∀ y ∈ E.take j, cf y p < 0) := hall
          have hzr := hbx.size
          have d2 : wr.cell? ⟨g1, o1 + k, none⟩ = some (.string (bs p)) := by rw [hbx.cell (p := ⟨g1, o1 + k, none⟩) (by show g1 < wo.heap.size; omega)]; exact d1
          have x2 : ∀ Y : GW wr, Y.it.cell? ⟨g1, o1 + k, none⟩ = some (.string (bs p)) := fun Y => Y.cell (by show g1 < wr.heap.size; omega) d2
          have xne := gw_ne wr
          clear hbx hall
          obtain rfl : j = 0 := by omega
          go_wp2_with fail
          refine wp_region_grow (by kernel_rfl) (by kernel_rfl) ?_
          repeat (go_big_quiet_step (fail))
          refine wpQuiet_nil ?_
          rintro w2 ⟨⟨w2, bx⟩, rfl⟩
          have e2 : w2.cell? ⟨g1, o1 + k, none⟩ = some (.string (bs p)) := x2 ⟨w2, bx⟩
          have BW : Hid (Below wo.heap.size wo w2) := bstep HBX.out bx
          have z2 := BW.out.size
          clear bx x2 xne d2
          have y2 : ∀ Y : GW w2, Y.it.cell? ⟨g1, o1 + k, none⟩ = some (.string (bs p)) := fun Y => Y.cell (by show g1 < w2.heap.size; omega) e2
          have yne := gw_ne w2
          go_wp2_with fail
          refine wp_region_grow (by kernel_rfl) (by kernel_rfl) ?_
          repeat (go_big_quiet_step (fail))
          refine wpQuiet_nil ?_
          rintro w3 ⟨⟨w3, bx⟩, rfl⟩
          have f2 : w3.cell? ⟨g1, o1 + k, none⟩ = some (.string (bs p)) := y2 ⟨w3, bx⟩
          have BW3 : Hid (Below wo.heap.size wo w3) := bstep BW.out bx
          have z3 := BW3.out.size
          clear bx y2 yne e2
          have HINS : Hid (norm (L.take (k + 1)) = E.take 0 ++ [p] ++ E.drop 0) := by
            show _ = _
            rw [HSN.out]
            exact ins_new' (by simp) (fun hj => absurd hj (by rw [HE0.out]; simp))
          have HT : Hid (SS w3 (.slice none 0 0) (E.take 0)) := SS.none (by rw [HE0.out]; rfl)
          have LT : Hid ((E.take 0).length ≤ 4000000) := by show _ ≤ _; rw [List.length_take]; have := HSE.out.len; omega
          have LD : Hid ((E.take 0 ++ [p]).length + (E.drop 0).length ≤ 8796093022208) := by
            show _ ≤ _
            rw [List.length_append, List.length_take, List.length_drop]
            have := HSE.out.len
            simp only [List.length_cons, List.length_nil]
            omega
          have HZ : Hid (G ≤ w3.heap.size ∧ g1 < w3.heap.size) := ⟨by omega, by omega⟩
          have HT2 : Hid (∀ W, Below wo.heap.size wo W → SS W (.slice none 0 0) (E.drop 0)) := fun W _ => SS.none (by rw [HE0.out]; rfl)
          go_wp2_with (first
            | (at_builtin; refine app_strs (base := w3.heap.size) (l := []) (k := E.take 0) (Own.nil _ _) (HT.out.src und50) (by have := LT.out; simp only [List.length_nil]; omega) (Nat.le_refl _) rfl (.tmp 46) (.tmp 49) rfl rfl rfl ?_; intro v4 w4 ho4 hg4 _; rw [List.nil_append] at ho4; have b4 : Below w3.heap.size w3 w4 := (Below.refl _ _).grown hg4 (Nat.le_refl _) (fun j hj => by cases hj); have O4 : Hid (Own w3.heap.size w4 v4 (E.take 0) ∧ Below w3.heap.size w3 w4) := ⟨ho4, b4⟩; have f4 : w4.cell? ⟨g1, o1 + k, none⟩ = some (.string (bs p)) := (b4.cell (p := ⟨g1, o1 + k, none⟩) HZ.out.2).trans f2; have z4 := b4.size; clear ho4 hg4 b4)
            | (at_builtin; refine app_one (base := w3.heap.size) p O4.out.1 (by have := LT.out; omega) z4 rfl (.tmp 51) (.tmp 56) rfl rfl rfl ?_; intro v5 w5 ho5 hb5 hbs5 _ _; have O5 : Hid (Own w3.heap.size w5 v5 (E.take 0 ++ [p]) ∧ Below w3.heap.size w3 w5) := ⟨ho5, below_trans O4.out.2 hb5⟩; have z5 := O5.out.2.size; clear ho5 hb5 hbs5)
            | (at_builtin; refine app_strs (base := w3.heap.size) (l := E.take 0 ++ [p]) (k := E.drop 0) O5.out.1 ((HT2.out _ (bstep BW3.out O5.out.2)).src und50) LD.out z5 rfl (.tmp 58) (.tmp 61) rfl rfl rfl ?_; intro v6 w6 ho6 hg6 _; have O6 : Hid (Own G w6 v6 (norm (L.take (k + 1))) ∧ Below G w w6) := ⟨by rw [HINS.out]; exact ho6.mono HZ.out.1, below_trans HB.out (below_mono (bstep BW3.out (below_trans O5.out.2 ((Below.refl _ _).grown hg6 z5 (fun j hj => (O5.out.1.lt hj).1)))) hzo)⟩; clear ho6 hg6))
          go_roundw
          case rel => exact ⟨k + 1, by omega, by go_num, O6.out.1, O6.out.2⟩
          case measure => simp [intOf]; omega
      · rw [hm] at hv3 hle
        subst hv3
        have HO : Hid (Own G wo (.slice (some ⟨g2, 0, none⟩) m ce) E) := ho
        clear ho hEl hm
        go_wp2_with fail
        go_loopw [5] (fun i wr => ∃ j : Nat, j ≤ m ∧ i = .int .i64 j ∧ Below wo.heap.size wo wr ∧ ∀ y ∈ E.take j, cf y p < 0) (fun i _ => m - (intOf i).toNat)
        case atStart => exact ⟨0, by omega, rfl, Below.refl _ _, by simp⟩
        case round =>
          obtain ⟨j, hj, rfl, hbx, hall⟩ := hrel
          have HBX : Hid (Below wo.heap.size wo wr) := hbx
          have HAL : Hid (∀ y ∈ E.take j, cf y p < 0) := hall
          have hzr := hbx.size
          have d2 : wr.cell? ⟨g1, o1 + k, none⟩ = some (.string (bs p)) := by rw [hbx.cell (p := ⟨g1, o1 + k, none⟩) (by show g1 < wo.heap.size; omega)]; exact d1
          have x2 : ∀ Y : GW wr, Y.it.cell? ⟨g1, o1 + k, none⟩ = some (.string (bs p)) := fun Y => Y.cell (by show g1 < wr.heap.size; omega) d2
          have xne := gw_ne wr
          clear hbx hall
          by_cases hlt3 : j < m
          · have hj2 : j < E.length := by have := HM.out; omega
            have d3 : wr.cell? ⟨g2, j, none⟩ = some (.string (bs E[j])) := by rw [HBX.out.cell (p := ⟨g2, j, none⟩) (by show g2 < wo.heap.size; omega)]; exact (own_cell HO.out j hj2).1
            have hqE : E[j] ∈ E := List.getElem_mem _
            obtain ⟨q, hq⟩ : ∃ q, E[j] = q := ⟨_, rfl⟩
            rw [hq] at d3 hqE
            have HQ : Hid (E[j] = q) := hq
            have hql : q.length ≤ 1000000000 := HSE.out.each q hqE
            have x3 : ∀ Y : GW wr, Y.it.cell? ⟨g2, j, none⟩ = some (.string (bs q)) := fun Y => Y.cell (by show g2 < wr.heap.size; omega) d3
            have k1 : (0 : Int) ≤ (j : Int) := by omega
            have k2 : (j : Int) < (m : Int) := by omega
            clear hq hqE
            obtain ⟨o, hoo⟩ : ∃ o, cf q p = o := ⟨_, rfl⟩
            have HOO : Hid (cf q p = o) := hoo
            have HCM : Hid (∀ X : GW wr, Calls Tryz.prog 33 #[.string (bs q), .string (bs p)] X.it fun e w' => e = .returned (.int .i64 o) ∧ ∃ Y : GW wr, w' = Y.it) := fun X => rcmp_grow hql hpl hoo X
            by_cases hlo : o < 0
            · clear hoo
              go_wp2_with fail
              refine wp_region_grow (by kernel_rfl) (by kernel_rfl) ?_
              repeat (go_big_quiet_step (exact HCM.out _))
              refine wpQuiet_nil ?_
              rintro w2 ⟨⟨w2, bx⟩, rfl⟩
              have HB5 : Hid (Below wo.heap.size wo w2 ∧ ∀ y ∈ E.take (j + 1), cf y p < 0) := by
                refine ⟨bstep HBX.out bx, fun y hy => ?_⟩
                rw [take_snoc E j hj2] at hy
                rcases List.mem_append.1 hy with hy | hy
                · exact HAL.out y hy
                · rw [List.mem_singleton.1 hy, HQ.out, HOO.out]; exact hlo
              clear bx x2 x3 xne d2 d3
              go_wp2_with fail
              go_roundw
              case rel => exact ⟨j + 1, by omega, by go_num, HB5.out.1, HB5.out.2⟩
              case measure => simp [intOf]; omega
            · by_cases hqp : q = p
              · have hdq : (q == p) = true := by simpa using hqp
                have HX : Hid (norm (L.take (k + 1)) = E) := by
                  show _ = _
                  rw [HSN.out]
                  exact ins_here HAL.out hj2 (HQ.out.trans hqp)
                clear hoo hqp
                go_wp2_with fail
                refine wp_region_grow (by kernel_rfl) (by kernel_rfl) ?_
                repeat (go_big_quiet_step (exact HCM.out _))
                refine wpQuiet_nil ?_
                rintro w2 ⟨⟨w2, bx⟩, rfl⟩
                have e2 : w2.cell? ⟨g1, o1 + k, none⟩ = some (.string (bs p)) := x2 ⟨w2, bx⟩
                have BW : Hid (Below wo.heap.size wo w2) := bstep HBX.out bx
                have z2 := BW.out.size
                have e3 : w2.cell? ⟨g2, j, none⟩ = some (.string (bs q)) := x3 ⟨w2, bx⟩
                clear bx x2 x3 d3 xne d2
                have t1 := bs_toList q
                have t2 := bs_toList p
                have y2 : ∀ Y : GW w2, Y.it.cell? ⟨g1, o1 + k, none⟩ = some (.string (bs p)) := fun Y => Y.cell (by show g1 < w2.heap.size; omega) e2
                have y3 : ∀ Y : GW w2, Y.it.cell? ⟨g2, j, none⟩ = some (.string (bs q)) := fun Y => Y.cell (by show g2 < w2.heap.size; omega) e3
                have yne := gw_ne w2
                go_wp2_with fail
                refine wp_region_grow (by kernel_rfl) (by kernel_rfl) ?_
                repeat (go_big_quiet_step (fail))
                refine wpQuiet_nil ?_
                rintro w3 ⟨⟨w3, bx⟩, rfl⟩
                have f2 : w3.cell? ⟨g1, o1 + k, none⟩ = some (.string (bs p)) := y2 ⟨w3, bx⟩
                have BW3 : Hid (Below wo.heap.size wo w3) := bstep BW.out bx
                have z3 := BW3.out.size
                clear bx y2 y3 e3 yne e2
                have HB5 : Hid (Below G w w3 ∧ Own G w3 (.slice (some ⟨g2, 0, none⟩) m ce) E) := ⟨below_trans HB.out (below_mono BW3.out hzo), HO.out.later BW3.out⟩
                go_wp2_with fail
                go_roundw
                case rel => exact ⟨k + 1, by omega, by go_num, by rw [HX.out]; exact HB5.out.2, HB5.out.1⟩
                case measure => simp [intOf]; omega
              · have hdq : (q == p) = false := by simpa using hqp
                have HINS : Hid (norm (L.take (k + 1)) = E.take j ++ [p] ++ E.drop j) := by
                  show _ = _
                  rw [HSN.out]
                  exact ins_new' HAL.out (fun h => ⟨by rw [HQ.out, HOO.out]; exact hlo, by rw [HQ.out]; exact hqp⟩)
                clear hoo hqp
                go_wp2_with fail
                refine wp_region_grow (by kernel_rfl) (by kernel_rfl) ?_
                repeat (go_big_quiet_step (exact HCM.out _))
                refine wpQuiet_nil ?_
                rintro w2 ⟨⟨w2, bx⟩, rfl⟩
                have e2 : w2.cell? ⟨g1, o1 + k, none⟩ = some (.string (bs p)) := x2 ⟨w2, bx⟩
                have BW : Hid (Below wo.heap.size wo w2) := bstep HBX.out bx
                have z2 := BW.out.size
                have e3 : w2.cell? ⟨g2, j, none⟩ = some (.string (bs q)) := x3 ⟨w2, bx⟩
                clear bx x2 x3 d3 xne d2
                have t1 := bs_toList q
                have t2 := bs_toList p
                have y2 : ∀ Y : GW w2, Y.it.cell? ⟨g1, o1 + k, none⟩ = some (.string (bs p)) := fun Y => Y.cell (by show g1 < w2.heap.size; omega) e2
                have y3 : ∀ Y : GW w2, Y.it.cell? ⟨g2, j, none⟩ = some (.string (bs q)) := fun Y => Y.cell (by show g2 < w2.heap.size; omega) e3
                have yne := gw_ne w2
                go_wp2_with fail
                refine wp_region_grow (by kernel_rfl) (by kernel_rfl) ?_
                repeat (go_big_quiet_step (fail))
                refine wpQuiet_nil ?_
                rintro w3 ⟨⟨w3, bx⟩, rfl⟩
                have f2 : w3.cell? ⟨g1, o1 + k, none⟩ = some (.string (bs p)) := y2 ⟨w3, bx⟩
                have BW3 : Hid (Below wo.heap.size wo w3) := bstep BW.out bx
                have z3 := BW3.out.size
                clear bx y2 y3 e3 yne e2
                have HT : Hid (SS w3 (.slice (some ⟨g2, 0, none⟩) j ce) (E.take j)) := (HO.out.later BW3.out).bs.cut3 HM.out j (by omega)
                have LT : Hid ((E.take j).length ≤ 4000000) := by show _ ≤ _; rw [List.length_take]; have := HSE.out.len; omega
                have LD : Hid ((E.take j ++ [p]).length + (E.drop j).length ≤ 8796093022208) := by
                  show _ ≤ _
                  rw [List.length_append, List.length_take, List.length_drop]
                  have := HSE.out.len
                  simp only [List.length_cons, List.length_nil]
                  omega
                have HZ : Hid (G ≤ w3.heap.size ∧ g1 < w3.heap.size) := ⟨by omega, by omega⟩
                have hcj : ¬ ce = j := by omega
                have HT2 : Hid (∀ W, Below wo.heap.size wo W → SS W (.slice (some ⟨g2, j, none⟩) (m - j) (ce - j)) (E.drop j)) := fun W hb => by
                  have := SS.tail2 ((HO.out.bs).later hb) HM.out.symm j (by omega)
                  rw [Nat.zero_add] at this
                  exact this
                go_wp2_with (first
                  | (at_builtin; refine app_strs (base := w3.heap.size) (l := []) (k := E.take j) (Own.nil _ _) (HT.out.src und50) (by have := LT.out; simp only [List.length_nil]; omega) (Nat.le_refl _) rfl (.tmp 46) (.tmp 49) rfl rfl rfl ?_; intro v4 w4 ho4 hg4 _; rw [List.nil_append] at ho4; have b4 : Below w3.heap.size w3 w4 := (Below.refl _ _).grown hg4 (Nat.le_refl _) (fun j hj => by cases hj); have O4 : Hid (Own w3.heap.size w4 v4 (E.take j) ∧ Below w3.heap.size w3 w4) := ⟨ho4, b4⟩; have f4 : w4.cell? ⟨g1, o1 + k, none⟩ = some (.string (bs p)) := (b4.cell (p := ⟨g1, o1 + k, none⟩) HZ.out.2).trans f2; have z4 := b4.size; clear ho4 hg4 b4)
                  | (at_builtin; refine app_one (base := w3.heap.size) p O4.out.1 (by have := LT.out; omega) z4 rfl (.tmp 51) (.tmp 56) rfl rfl rfl ?_; intro v5 w5 ho5 hb5 hbs5 _ _; have O5 : Hid (Own w3.heap.size w5 v5 (E.take j ++ [p]) ∧ Below w3.heap.size w3 w5) := ⟨ho5, below_trans O4.out.2 hb5⟩; have z5 := O5.out.2.size; clear ho5 hb5 hbs5)
                  | (at_builtin; refine app_strs (base := w3.heap.size) (l := E.take j ++ [p]) (k := E.drop j) O5.out.1 ((HT2.out _ (bstep BW3.out O5.out.2)).src und50) LD.out z5 rfl (.tmp 58) (.tmp 61) rfl rfl rfl ?_; intro v6 w6 ho6 hg6 _; have O6 : Hid (Own G w6 v6 (norm (L.take (k + 1))) ∧ Below G w w6) := ⟨by rw [HINS.out]; exact ho6.mono HZ.out.1, below_trans HB.out (below_mono (bstep BW3.out (below_trans O5.out.2 ((Below.refl _ _).grown hg6 z5 (fun j hj => (O5.out.1.lt hj).1)))) hzo)⟩; clear ho6 hg6))
                go_roundw
                case rel => exact ⟨k + 1, by omega, by go_num, O6.out.1, O6.out.2⟩
                case measure => simp [intOf]; omega
          · obtain rfl : j = m := by omega
            have HINS : Hid (norm (L.take (k + 1)) = E.take j ++ [p] ++ E.drop j) := by
              show _ = _
              rw [HSN.out]
              exact ins_new' HAL.out (fun h => absurd h (by have := HM.out; omega))
            go_wp2_with fail
            refine wp_region_grow (by kernel_rfl) (by kernel_rfl) ?_
            repeat (go_big_quiet_step (fail))
            refine wpQuiet_nil ?_
            rintro w2 ⟨⟨w2, bx⟩, rfl⟩
            have e2 : w2.cell? ⟨g1, o1 + k, none⟩ = some (.string (bs p)) := x2 ⟨w2, bx⟩
            have BW : Hid (Below wo.heap.size wo w2) := bstep HBX.out bx
            have z2 := BW.out.size
            clear bx x2 xne d2
            have y2 : ∀ Y : GW w2, Y.it.cell? ⟨g1, o1 + k, none⟩ = some (.string (bs p)) := fun Y => Y.cell (by show g1 < w2.heap.size; omega) e2
            have yne := gw_ne w2
            go_wp2_with fail
            refine wp_region_grow (by kernel_rfl) (by kernel_rfl) ?_
            repeat (go_big_quiet_step (fail))
            refine wpQuiet_nil ?_
            rintro w3 ⟨⟨w3, bx⟩, rfl⟩
            have f2 : w3.cell? ⟨g1, o1 + k, none⟩ = some (.string (bs p)) := y2 ⟨w3, bx⟩
            have BW3 : Hid (Below wo.heap.size wo w3) := bstep BW.out bx
            have z3 := BW3.out.size
            clear bx y2 yne e2
            have HT : Hid (SS w3 (.slice (some ⟨g2, 0, none⟩) j ce) (E.take j)) := (HO.out.later BW3.out).bs.cut3 HM.out j (by omega)
            have LT : Hid ((E.take j).length ≤ 4000000) := by show _ ≤ _; rw [List.length_take]; have := HSE.out.len; omega
            have LD : Hid ((E.take j ++ [p]).length + (E.drop j).length ≤ 8796093022208) := by
              show _ ≤ _
              rw [List.length_append, List.length_take, List.length_drop]
              have := HSE.out.len
              simp only [List.length_cons, List.length_nil]
              omega
            have HZ : Hid (G ≤ w3.heap.size ∧ g1 < w3.heap.size) := ⟨by omega, by omega⟩
            have HD0 : Hid (E.drop j = []) := List.drop_eq_nil_of_le (by have := HM.out; omega)
            by_cases hcj : ce = j
            · subst hcj
              have HT2 : Hid (∀ W, Below wo.heap.size wo W → SS W (.slice (some ⟨g2, 0, none⟩) 0 0) (E.drop ce)) := fun W _ => SS.none HD0.out
              go_wp2_with (first
                | (at_builtin; refine app_strs (base := w3.heap.size) (l := []) (k := E.take ce) (Own.nil _ _) (HT.out.src und50) (by have := LT.out; simp only [List.length_nil]; omega) (Nat.le_refl _) rfl (.tmp 46) (.tmp 49) rfl rfl rfl ?_; intro v4 w4 ho4 hg4 _; rw [List.nil_append] at ho4; have b4 : Below w3.heap.size w3 w4 := (Below.refl _ _).grown hg4 (Nat.le_refl _) (fun j hj => by cases hj); have O4 : Hid (Own w3.heap.size w4 v4 (E.take ce) ∧ Below w3.heap.size w3 w4) := ⟨ho4, b4⟩; have f4 : w4.cell? ⟨g1, o1 + k, none⟩ = some (.string (bs p)) := (b4.cell (p := ⟨g1, o1 + k, none⟩) HZ.out.2).trans f2; have z4 := b4.size; clear ho4 hg4 b4)
                | (at_builtin; refine app_one (base := w3.heap.size) p O4.out.1 (by have := LT.out; omega) z4 rfl (.tmp 51) (.tmp 56) rfl rfl rfl ?_; intro v5 w5 ho5 hb5 hbs5 _ _; have O5 : Hid (Own w3.heap.size w5 v5 (E.take ce ++ [p]) ∧ Below w3.heap.size w3 w5) := ⟨ho5, below_trans O4.out.2 hb5⟩; have z5 := O5.out.2.size; clear ho5 hb5 hbs5)
                | (at_builtin; refine app_strs (base := w3.heap.size) (l := E.take ce ++ [p]) (k := E.drop ce) O5.out.1 ((HT2.out _ (bstep BW3.out O5.out.2)).src und50) LD.out z5 rfl (.tmp 58) (.tmp 61) rfl rfl rfl ?_; intro v6 w6 ho6 hg6 _; have O6 : Hid (Own G w6 v6 (norm (L.take (k + 1))) ∧ Below G w w6) := ⟨by rw [HINS.out]; exact ho6.mono HZ.out.1, below_trans HB.out (below_mono (bstep BW3.out (below_trans O5.out.2 ((Below.refl _ _).grown hg6 z5 (fun j hj => (O5.out.1.lt hj).1)))) hzo)⟩; clear ho6 hg6))
              go_roundw
              case rel => exact ⟨k + 1, by omega, by go_num, O6.out.1, O6.out.2⟩
              case measure => simp [intOf]; omega
            · have HT2 : Hid (∀ W, Below wo.heap.size wo W → SS W (.slice (some ⟨g2, j, none⟩) 0 (ce - j)) (E.drop j)) := fun W _ => SS.none HD0.out
              go_wp2_with (first
                | (at_builtin; refine app_strs (base := w3.heap.size) (l := []) (k := E.take j) (Own.nil _ _) (HT.out.src und50) (by have := LT.out; simp only [List.length_nil]; omega) (Nat.le_refl _) rfl (.tmp 46) (.tmp 49) rfl rfl rfl ?_; intro v4 w4 ho4 hg4 _; rw [List.nil_append] at ho4; have b4 : Below w3.heap.size w3 w4 := (Below.refl _ _).grown hg4 (Nat.le_refl _) (fun j hj => by cases hj); have O4 : Hid (Own w3.heap.size w4 v4 (E.take j) ∧ Below w3.heap.size w3 w4) := ⟨ho4, b4⟩; have f4 : w4.cell? ⟨g1, o1 + k, none⟩ = some (.string (bs p)) := (b4.cell (p := ⟨g1, o1 + k, none⟩) HZ.out.2).trans f2; have z4 := b4.size; clear ho4 hg4 b4)
                | (at_builtin; refine app_one (base := w3.heap.size) p O4.out.1 (by have := LT.out; omega) z4 rfl (.tmp 51) (.tmp 56) rfl rfl rfl ?_; intro v5 w5 ho5 hb5 hbs5 _ _; have O5 : Hid (Own w3.heap.size w5 v5 (E.take j ++ [p]) ∧ Below w3.heap.size w3 w5) := ⟨ho5, below_trans O4.out.2 hb5⟩; have z5 := O5.out.2.size; clear ho5 hb5 hbs5)
                | (at_builtin; refine app_strs (base := w3.heap.size) (l := E.take j ++ [p]) (k := E.drop j) O5.out.1 ((HT2.out _ (bstep BW3.out O5.out.2)).src und50) LD.out z5 rfl (.tmp 58) (.tmp 61) rfl rfl rfl ?_; intro v6 w6 ho6 hg6 _; have O6 : Hid (Own G w6 v6 (norm (L.take (k + 1))) ∧ Below G w w6) := ⟨by rw [HINS.out]; exact ho6.mono HZ.out.1, below_trans HB.out (below_mono (bstep BW3.out (below_trans O5.out.2 ((Below.refl _ _).grown hg6 z5 (fun j hj => (O5.out.1.lt hj).1)))) hzo)⟩; clear ho6 hg6))
              go_roundw
              case rel => exact ⟨k + 1, by omega, by go_num, O6.out.1, O6.out.2⟩
              case measure => simp [intOf]; omega
    · obtain rfl : k = n := by omega
      have HE : Hid (Own G wo u3 (norm L) ∧ Below G w wo) := by
        refine ⟨?_, HB.out⟩
        rw [List.take_of_length_le (by have := HN.out; omega)] at ho
        exact ho
      clear ho
      go_wp2_with fail
      go_ret
      rw [hG]
      exact ⟨_, rfl, HE.out.1, HE.out.2⟩
end Go.Proofs.YtfdcfcalbongeaaGreat
