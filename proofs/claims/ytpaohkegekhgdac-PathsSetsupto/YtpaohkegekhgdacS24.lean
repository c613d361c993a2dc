import Derived.Test.YtpaohkegekhgdacCuts
namespace Go.Proofs.Ytpaohkegekhgdac
open Go.RowKit

set_option maxHeartbeats 4000000 in
set_option maxRecDepth 100000 in
theorem t24 {lv2 lv3 lv4 lv5 lv6 lv7 lv8 lv9 lv10 lv13 lv14 lv15 lv16 lv17 lv18 lv19 lv20 lv21 lv22 lv23 lv24 lv25 lv26 lv27 lv28 lv29 lv30 lv31 lv32 lv33 lv34 lv35 lv36 lv37 lv38 lv39 lv40 lv41 lv42 lv43 lv44 lv45 lv46 lv47 lv48 lv49 lv50 lv51 lv52 lv53 lv54 lv55 lv56 lv57 lv58 lv59 lv60 lv61 lv62 lv63 lv64 lv65 lv66 lv67 lv68 lv69 lv70 lv71 lv72 lv73 lv74 lv75 lv76 lv77 lv78 lv79 lv80 lv81 lv82 lv83 lv84 lv85 lv86 lv87 lv88 lv89 lv90 lv91 lv92 lv93 lv94 lv95 lv96 lv97 lv98 lv99 lv100 lv101 lv102 lv103 lv104 lv105 lv106 lv107 lv108 lv109 lv110 lv111 lv112 lv113 lv114 lv115 lv116 lv117 lv118 lv119 lv120 lv121 lv122 lv123 lv124 lv125 lv126 lv127 lv128 lv129 lv130 lv131 lv132 lv133 lv134 lv135 lv136 lv137 lv138 lv139 lv140 lv141 lv142 lv143 lv144 lv145 lv146 lv147 lv148 lv149 lv150 lv151 lv152 lv153 lv154 lv155 lv156 lv157 lv158 lv159 lv160 lv161 lv162 lv163 lv164 lv165 lv166 lv167 lv168 lv169 lv170 lv171 lv172 lv173 lv174 lv175 lv176 lv177 lv178 lv179 lv180 lv181 lv182 lv183 lv184 lv185 lv186 lv187 lv188 lv189 lv190 lv191 lv192 lv193 lv194 lv195 lv196 lv197 lv198 lv199 lv200 lv201 lv202 lv203 lv204 lv205 lv206 lv207 lv208 lv209 lv210 lv211 lv212 lv213 lv214 lv215 lv216 lv217 lv218 lv219 lv220 lv221 lv222 lv223 lv224 lv225 lv226 lv227 lv228 lv229 lv230 lv231 lv232 lv233 lv234 lv235 lv236 : Value} {w wc : World} {va vb : Value} {A B : List (List UInt8)} (ST : Hid (St w wc va vb A B)) {vh vr : Value} (SH : Hid (SS wc vh (hds (norm A)))) (SR : Hid (SS wc vr (drs A))) :
    Code.wp Try.prog (suff 24 (Try.f3.body.getD .skip)) (bodyPost Try.prog Try.f3 (Good w)) ⟨(va :: vb :: lv2 :: lv3 :: lv4 :: lv5 :: lv6 :: lv7 :: lv8 :: lv9 :: lv10 :: vh :: vr :: lv13 :: lv14 :: lv15 :: lv16 :: lv17 :: lv18 :: lv19 :: lv20 :: lv21 :: lv22 :: lv23 :: lv24 :: lv25 :: lv26 :: lv27 :: lv28 :: lv29 :: lv30 :: lv31 :: lv32 :: lv33 :: lv34 :: lv35 :: lv36 :: lv37 :: lv38 :: lv39 :: lv40 :: lv41 :: lv42 :: lv43 :: lv44 :: lv45 :: lv46 :: lv47 :: lv48 :: lv49 :: lv50 :: lv51 :: lv52 :: lv53 :: lv54 :: lv55 :: lv56 :: lv57 :: lv58 :: lv59 :: lv60 :: lv61 :: lv62 :: lv63 :: lv64 :: lv65 :: lv66 :: lv67 :: lv68 :: lv69 :: lv70 :: lv71 :: lv72 :: lv73 :: lv74 :: lv75 :: lv76 :: lv77 :: lv78 :: lv79 :: lv80 :: lv81 :: lv82 :: lv83 :: lv84 :: lv85 :: lv86 :: lv87 :: lv88 :: lv89 :: lv90 :: lv91 :: lv92 :: lv93 :: lv94 :: lv95 :: lv96 :: lv97 :: lv98 :: lv99 :: lv100 :: lv101 :: lv102 :: lv103 :: lv104 :: lv105 :: lv106 :: lv107 :: lv108 :: lv109 :: lv110 :: lv111 :: lv112 :: lv113 :: lv114 :: lv115 :: lv116 :: lv117 :: lv118 :: lv119 :: lv120 :: lv121 :: lv122 :: lv123 :: lv124 :: lv125 :: lv126 :: lv127 :: lv128 :: lv129 :: lv130 :: lv131 :: lv132 :: lv133 :: lv134 :: lv135 :: lv136 :: lv137 :: lv138 :: lv139 :: lv140 :: lv141 :: lv142 :: lv143 :: lv144 :: lv145 :: lv146 :: lv147 :: lv148 :: lv149 :: lv150 :: lv151 :: lv152 :: lv153 :: lv154 :: lv155 :: lv156 :: lv157 :: lv158 :: lv159 :: lv160 :: lv161 :: lv162 :: lv163 :: lv164 :: lv165 :: lv166 :: lv167 :: lv168 :: lv169 :: lv170 :: lv171 :: lv172 :: lv173 :: lv174 :: lv175 :: lv176 :: lv177 :: lv178 :: lv179 :: lv180 :: lv181 :: lv182 :: lv183 :: lv184 :: lv185 :: lv186 :: lv187 :: lv188 :: lv189 :: lv190 :: lv191 :: lv192 :: lv193 :: lv194 :: lv195 :: lv196 :: lv197 :: lv198 :: lv199 :: lv200 :: lv201 :: lv202 :: lv203 :: lv204 :: lv205 :: lv206 :: lv207 :: lv208 :: lv209 :: lv210 :: lv211 :: lv212 :: lv213 :: lv214 :: lv215 :: lv216 :: lv217 :: lv218 :: lv219 :: lv220 :: lv221 :: lv222 :: lv223 :: lv224 :: lv225 :: lv226 :: lv227 :: lv228 :: lv229 :: lv230 :: lv231 :: lv232 :: lv233 :: lv234 :: lv235 :: lv236 :: []).toArray, []⟩ wc := by
  conv => arg 2; whnf
  obtain ⟨a, ca, na, hna, rfl, fa⟩ := ST.out.a.form'
  have HNA : Hid (na = A.length) := hna
  have CA : Hid (∀ k, (hk : k < A.length) → ∃ b off, a = some ⟨b, off, none⟩ ∧ b < wc.heap.size ∧ wc.cell? ⟨b, off + k, none⟩ = some (.string (bs A[k]))) := fa
  have hnal : na ≤ 4000000 := by rw [hna]; exact ST.out.sa.len
  clear hna fa
  obtain ⟨ah, ch, nh, hnh, rfl, fh⟩ := SH.out.form'
  have HNH : Hid (nh = (hds (norm A)).length) := hnh
  have CH : Hid (∀ k, (hk : k < (hds (norm A)).length) → ∃ b off, ah = some ⟨b, off, none⟩ ∧ b < wc.heap.size ∧ wc.cell? ⟨b, off + k, none⟩ = some (.string (bs (hds (norm A))[k]))) := fh
  have hnhl : nh ≤ 4000000 := by rw [hnh]; exact ST.out.sa.norm.hds.len
  clear hnh fh
  go_wp2_with fail
  go_loopw [14] (fun i wr => ∃ k : Nat, k ≤ na ∧ i = .int .i64 k ∧ Below wc.heap.size wc wr) (fun i _ => na - (intOf i).toNat)
  case atStart => exact ⟨0, Nat.zero_le _, rfl, Below.refl _ _⟩
  case round =>
    obtain ⟨k, hk, rfl, hbw⟩ := hrel
    obtain ⟨wo, hwo⟩ : ∃ wo, wo = wr := ⟨_, rfl⟩
    subst hwo
    have BW : Hid (Below wc.heap.size wc wo) := hbw
    have hzo := hbw.size
    clear hbw
    by_cases hlt : k < na
    · have hk2 : k < A.length := by have := HNA.out; omega
      obtain ⟨g1, o1, rfl, hg1, c1⟩ := CA.out k hk2
      have hmem : A[k]'hk2 ∈ A := List.getElem_mem _
      obtain ⟨p, hp⟩ : ∃ p, A[k]'hk2 = p := ⟨_, rfl⟩
      rw [hp] at c1 hmem
      have hpl : p.length ≤ 1048576 := ST.out.sa.each p hmem
      have HCOV : Hid (∃ j, ∃ h : j < (hds (norm A)).length, (hds (norm A))[j] = p ∨ abvV (hds (norm A))[j] p = true) := by
        obtain ⟨h, hh, hz⟩ := hds_cover (norm A) _ p (Nat.le_refl _) ((mem_norm p A).2 hmem)
        obtain ⟨j, hj, e⟩ := List.getElem_of_mem hh
        exact ⟨j, hj, by rw [e]; exact hz⟩
      have HDR : Hid (decide (dir p ∈ drs A) = true) := by
        have : dir p ∈ drs A := mem_drs.2 ⟨p, hmem, rfl⟩
        exact decide_eq_true this
      have d1 : wo.cell? ⟨g1, o1 + k, none⟩ = some (.string (bs p)) := by rw [BW.out.cell (p := ⟨g1, o1 + k, none⟩) hg1]; exact c1
      clear c1 hp hmem
      go_wp2_with fail
      go_loopw [15, 16] (fun u i wr => ∃ (r : Bool) (j : Nat), j ≤ nh ∧ i = .int .i64 j ∧ u = .bool r ∧ Below wo.heap.size wo wr ∧ (∀ t, (ht : t < (hds (norm A)).length) → t < j → ((hds (norm A))[t] = p ∨ abvV (hds (norm A))[t] p = true) → r = true)) (fun _ i _ => nh - (intOf i).toNat)
      case atStart => exact ⟨false, 0, Nat.zero_le _, rfl, rfl, Below.refl _ _, fun t _ ht => absurd ht (Nat.not_lt_zero _)⟩
      case round =>
        obtain ⟨r, j, hj, rfl, rfl, hbw, hall⟩ := hrel
        have B2 : Hid (Below wo.heap.size wo wr) := hbw
        have HALL : Hid (∀ t, (ht : t < (hds (norm A)).length) → t < j → ((hds (norm A))[t] = p ∨ abvV (hds (norm A))[t] p = true) → r = true) := hall
        have hz2 := hbw.size
        clear hbw hall
        by_cases hlt2 : j < nh
        · have hj2 : j < (hds (norm A)).length := by have := HNH.out; omega
          obtain ⟨g2, o2, rfl, hg2, c2⟩ := CH.out j hj2
          have hmq : (hds (norm A))[j]'hj2 ∈ A := (mem_norm _ A).1 (mem_hds.1 (List.getElem_mem _)).1
          obtain ⟨q, hq⟩ : ∃ q, (hds (norm A))[j]'hj2 = q := ⟨_, rfl⟩
          rw [hq] at c2 hmq
          have HQ : Hid ((hds (norm A))[j]'hj2 = q) := hq
          have hql : q.length ≤ 1048576 := ST.out.sa.each q hmq
          have d2 : wr.cell? ⟨g2, o2 + j, none⟩ = some (.string (bs q)) := by rw [B2.out.cell (p := ⟨g2, o2 + j, none⟩) (by show g2 < wo.heap.size; omega), BW.out.cell (p := ⟨g2, o2 + j, none⟩) hg2]; exact c2
          have d3 : wr.cell? ⟨g1, o1 + k, none⟩ = some (.string (bs p)) := by rw [B2.out.cell (p := ⟨g1, o1 + k, none⟩) (by show g1 < wo.heap.size; omega)]; exact d1
          have x2 : ∀ X : GW wr, X.it.cell? ⟨g2, o2 + j, none⟩ = some (.string (bs q)) := fun X => X.cell (by show g2 < wr.heap.size; omega) d2
          have x3 : ∀ X : GW wr, X.it.cell? ⟨g1, o1 + k, none⟩ = some (.string (bs p)) := fun X => X.cell (by show g1 < wr.heap.size; omega) d3
          have xne := gw_ne wr
          have k1 : (0 : Int) ≤ (j : Int) := by omega
          have k2 : (j : Int) < (nh : Int) := by omega
          have k3 : (0 : Int) ≤ (k : Int) := by omega
          have k4 : (k : Int) < (na : Int) := by omega
          have t1 : (bs q).toList = q := bs_toList _
          have t2 : (bs p).toList = p := bs_toList _
          clear c2 hq hmq
          cases r with
          | true =>
            go_wp2_with fail
            refine wp_region_grow (by kernel_rfl) (by kernel_rfl) ?_
            repeat (go_big_quiet_step (fail))
            refine wpQuiet_nil ?_
            rintro w' ⟨⟨w', bx⟩, rfl⟩
            go_wp2_with fail
            go_roundw
            case rel => exact ⟨true, j + 1, by omega, by go_num, rfl, bstep B2.out bx, fun _ _ _ _ => rfl⟩
            case measure => simp [intOf]; omega
          | false =>
            by_cases hqp : q = p
            · have t3 : (q == p) = true := by rw [hqp]; simp
              clear hqp
              go_wp2_with fail
              refine wp_region_grow (by kernel_rfl) (by kernel_rfl) ?_
              repeat (go_big_quiet_step (fail))
              refine wpQuiet_nil ?_
              rintro w' ⟨⟨w', bx⟩, rfl⟩
              go_wp2_with fail
              go_roundw
              case rel => exact ⟨true, j + 1, by omega, by go_num, rfl, bstep B2.out bx, fun _ _ _ _ => rfl⟩
              case measure => simp [intOf]; omega
            · have t3 : (q == p) = false := by rw [beq_eq_false_iff_ne]; exact hqp
              have HQP : Hid (q ≠ p) := hqp
              clear hqp
              obtain ⟨z, hz⟩ : ∃ z, abvV q p = z := ⟨_, rfl⟩
              have HZ : Hid (abvV q p = z) := hz
              clear hz
              go_wp2_with fail
              refine wp_region_grow (by kernel_rfl) (by kernel_rfl) ?_
              repeat (go_big_quiet_step (exact above_grow hql hpl HZ.out _))
              refine wpQuiet_nil ?_
              rintro w' ⟨⟨w', bx⟩, rfl⟩
              go_wp2_with fail
              go_roundw
              case rel =>
                refine ⟨z, j + 1, by omega, by go_num, rfl, bstep B2.out bx, fun t ht htj hh => ?_⟩
                by_cases e : t = j
                · subst e
                  rw [HQ.out] at hh
                  rcases hh with hh | hh
                  · exact absurd hh HQP.out
                  · rw [← HZ.out]; exact hh
                · have := HALL.out t ht (by omega) hh
                  cases this
              case measure => simp [intOf]; omega
        · have hr : r = true := by
            obtain ⟨t, ht, hh⟩ := HCOV.out
            exact HALL.out t ht (by have := HNH.out; omega) hh
          subst hr
          have d3 : wr.cell? ⟨g1, o1 + k, none⟩ = some (.string (bs p)) := by rw [B2.out.cell (p := ⟨g1, o1 + k, none⟩) (by show g1 < wo.heap.size; omega)]; exact d1
          have B3 : Hid (Below wc.heap.size wc wr) := bstep BW.out B2.out
          go_wp2_with fail
          refine (dir_any p _ (by omega)).mono ?_
          rintro e w2 ⟨rfl, rfl⟩
          go_wp2_with fail
          refine (has_any (dir p) (SR.out.later B3.out) (by have := (drs_sm ST.out.sa).len; omega)).mono ?_
          rintro e w3 ⟨rfl, rfl⟩
          rw [HDR.out]
          go_wp2_with fail
          go_roundw
          case rel => exact ⟨k + 1, by omega, by go_num, B3.out⟩
          case measure => simp [intOf]; omega
    · obtain rfl : k = na := by omega
      go_wp2_with fail
      go_ret
      exact ⟨rfl, bstep ST.out.below BW.out⟩

end Go.Proofs.Ytpaohkegekhgdac
