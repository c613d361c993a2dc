import Derived.Test.YtpaohkegekhgdacS24
namespace Go.Proofs.Ytpaohkegekhgdac
open Go.RowKit

set_option maxHeartbeats 4000000 in
set_option maxRecDepth 100000 in
theorem t19 {lv2 lv3 lv4 lv5 lv6 lv7 lv8 lv9 lv10 lv13 lv14 lv15 lv16 lv17 lv18 lv19 lv20 lv21 lv22 lv23 lv24 lv25 lv26 lv27 lv28 lv29 lv30 lv31 lv32 lv33 lv34 lv35 lv36 lv37 lv38 lv39 lv40 lv41 lv42 lv43 lv44 lv45 lv46 lv47 lv48 lv49 lv50 lv51 lv52 lv53 lv54 lv55 lv56 lv57 lv58 lv59 lv60 lv61 lv62 lv63 lv64 lv65 lv66 lv67 lv68 lv69 lv70 lv71 lv72 lv73 lv74 lv75 lv76 lv77 lv78 lv79 lv80 lv81 lv82 lv83 lv84 lv85 lv86 lv87 lv88 lv89 lv90 lv91 lv92 lv93 lv94 lv95 lv96 lv97 lv98 lv99 lv100 lv101 lv102 lv103 lv104 lv105 lv106 lv107 lv108 lv109 lv110 lv111 lv112 lv113 lv114 lv115 lv116 lv117 lv118 lv119 lv120 lv121 lv122 lv123 lv124 lv125 lv126 lv127 lv128 lv129 lv130 lv131 lv132 lv133 lv134 lv135 lv136 lv137 lv138 lv139 lv140 lv141 lv142 lv143 lv144 lv145 lv146 lv147 lv148 lv149 lv150 lv151 lv152 lv153 lv154 lv155 lv156 lv157 lv158 lv159 lv160 lv161 lv162 lv163 lv164 lv165 lv166 lv167 lv168 lv169 lv170 lv171 lv172 lv173 lv174 lv175 lv176 lv177 lv178 lv179 lv180 lv181 lv182 lv183 lv184 lv185 lv186 lv187 lv188 lv189 lv190 lv191 lv192 lv193 lv194 lv195 lv196 lv197 lv198 lv199 lv200 lv201 lv202 lv203 lv204 lv205 lv206 lv207 lv208 lv209 lv210 lv211 lv212 lv213 lv214 lv215 lv216 lv217 lv218 lv219 lv220 lv221 lv222 lv223 lv224 lv225 lv226 lv227 lv228 lv229 lv230 lv231 lv232 lv233 lv234 lv235 lv236 : Value} {w wc : World} {va vb : Value} {A B : List (List UInt8)} (ST : Hid (St w wc va vb A B)) {vh vr : Value} (SH : Hid (SS wc vh (hds (norm A)))) (SR : Hid (SS wc vr (drs A))) :
    Code.wp Try.prog (suff 19 (Try.f3.body.getD .skip)) (bodyPost Try.prog Try.f3 (Good w)) ⟨(va :: vb :: lv2 :: lv3 :: lv4 :: lv5 :: lv6 :: lv7 :: lv8 :: lv9 :: lv10 :: vh :: vr :: lv13 :: lv14 :: lv15 :: lv16 :: lv17 :: lv18 :: lv19 :: lv20 :: lv21 :: lv22 :: lv23 :: lv24 :: lv25 :: lv26 :: lv27 :: lv28 :: lv29 :: lv30 :: lv31 :: lv32 :: lv33 :: lv34 :: lv35 :: lv36 :: lv37 :: lv38 :: lv39 :: lv40 :: lv41 :: lv42 :: lv43 :: lv44 :: lv45 :: lv46 :: lv47 :: lv48 :: lv49 :: lv50 :: lv51 :: lv52 :: lv53 :: lv54 :: lv55 :: lv56 :: lv57 :: lv58 :: lv59 :: lv60 :: lv61 :: lv62 :: lv63 :: lv64 :: lv65 :: lv66 :: lv67 :: lv68 :: lv69 :: lv70 :: lv71 :: lv72 :: lv73 :: lv74 :: lv75 :: lv76 :: lv77 :: lv78 :: lv79 :: lv80 :: lv81 :: lv82 :: lv83 :: lv84 :: lv85 :: lv86 :: lv87 :: lv88 :: lv89 :: lv90 :: lv91 :: lv92 :: lv93 :: lv94 :: lv95 :: lv96 :: lv97 :: lv98 :: lv99 :: lv100 :: lv101 :: lv102 :: lv103 :: lv104 :: lv105 :: lv106 :: lv107 :: lv108 :: lv109 :: lv110 :: lv111 :: lv112 :: lv113 :: lv114 :: lv115 :: lv116 :: lv117 :: lv118 :: lv119 :: lv120 :: lv121 :: lv122 :: lv123 :: lv124 :: lv125 :: lv126 :: lv127 :: lv128 :: lv129 :: lv130 :: lv131 :: lv132 :: lv133 :: lv134 :: lv135 :: lv136 :: lv137 :: lv138 :: lv139 :: lv140 :: lv141 :: lv142 :: lv143 :: lv144 :: lv145 :: lv146 :: lv147 :: lv148 :: lv149 :: lv150 :: lv151 :: lv152 :: lv153 :: lv154 :: lv155 :: lv156 :: lv157 :: lv158 :: lv159 :: lv160 :: lv161 :: lv162 :: lv163 :: lv164 :: lv165 :: lv166 :: lv167 :: lv168 :: lv169 :: lv170 :: lv171 :: lv172 :: lv173 :: lv174 :: lv175 :: lv176 :: lv177 :: lv178 :: lv179 :: lv180 :: lv181 :: lv182 :: lv183 :: lv184 :: lv185 :: lv186 :: lv187 :: lv188 :: lv189 :: lv190 :: lv191 :: lv192 :: lv193 :: lv194 :: lv195 :: lv196 :: lv197 :: lv198 :: lv199 :: lv200 :: lv201 :: lv202 :: lv203 :: lv204 :: lv205 :: lv206 :: lv207 :: lv208 :: lv209 :: lv210 :: lv211 :: lv212 :: lv213 :: lv214 :: lv215 :: lv216 :: lv217 :: lv218 :: lv219 :: lv220 :: lv221 :: lv222 :: lv223 :: lv224 :: lv225 :: lv226 :: lv227 :: lv228 :: lv229 :: lv230 :: lv231 :: lv232 :: lv233 :: lv234 :: lv235 :: lv236 :: []).toArray, []⟩ wc := by
  conv => arg 2; whnf
  obtain ⟨a, ca, na, hna, rfl, fa⟩ := ST.out.a.form'
  have HNA : Hid (na = A.length) := hna
  have CA : Hid (∀ k, (hk : k < A.length) → ∃ b off, a = some ⟨b, off, none⟩ ∧ b < wc.heap.size ∧ wc.cell? ⟨b, off + k, none⟩ = some (.string (bs A[k]))) := fa
  have hnal : na ≤ 4000000 := by rw [hna]; exact ST.out.sa.len
  clear hna fa
  obtain ⟨ah, ch, nh, hnh, rfl, fh⟩ := SH.out.form'
  have HNH : Hid (nh = (hds (norm A)).length) := hnh
  have CH : Hid (∀ k, (hk : k < (hds (norm A)).length) → ∃ b off, ah = some ⟨b, off, none⟩ ∧ b < wc.heap.size ∧ wc.cell? ⟨b, off + k, none⟩ = some (.string (bs (hds (norm A))[k]))) := fh
  have hnhl : nh ≤ 4000000 := by rw [hnh]; exact ST.out.sa.norm.hds.len
  clear hnh fh
  refine wp_seq_k fun K hK => ?_
  have HK : Hid _ := hK
  clear hK
  go_wp2_with fail
  go_loopw [13] (fun i wr => ∃ k : Nat, k ≤ nh ∧ i = .int .i64 k ∧ Below wc.heap.size wc wr) (fun i _ => nh - (intOf i).toNat)
  case atStart => exact ⟨0, Nat.zero_le _, rfl, Below.refl _ _⟩
  case round =>
    obtain ⟨k, hk, rfl, hbw⟩ := hrel
    have BW : Hid (Below wc.heap.size wc wr) := hbw
    have hzo := hbw.size
    clear hbw
    by_cases hlt : k < nh
    · have hk2 : k < (hds (norm A)).length := by have := HNH.out; omega
      obtain ⟨g1, o1, rfl, hg1, c1⟩ := CH.out k hk2
      have hmem : (hds (norm A))[k]'hk2 ∈ hds (norm A) := List.getElem_mem _
      have hmA : (hds (norm A))[k]'hk2 ∈ A := (mem_norm _ A).1 (mem_hds.1 hmem).1
      have SA2 : Hid (SS wr (.slice a na ca) A) := ST.out.a.later BW.out
      by_cases hk0 : k = 0
      · subst hk0
        obtain ⟨p, hp⟩ : ∃ p, (hds (norm A))[0]'hk2 = p := ⟨_, rfl⟩
        rw [hp] at c1 hmA
        have HIN : Hid (decide (p ∈ A) = true) := decide_eq_true hmA
        have d1 : wr.cell? ⟨g1, o1, none⟩ = some (.string (bs p)) := by rw [BW.out.cell (p := ⟨g1, o1, none⟩) hg1]; exact c1
        have x1 : ∀ X : GW wr, X.it.cell? ⟨g1, o1, none⟩ = some (.string (bs p)) := fun X => X.cell (by show g1 < wr.heap.size; omega) d1
        have xne := gw_ne wr
        have k2 : (0 : Int) < (nh : Int) := by omega
        clear c1 hp hmem hmA
        go_wp2_with fail
        refine wp_region_grow (by kernel_rfl) (by kernel_rfl) ?_
        repeat (go_big_quiet_step (exact has_grow SA2.out (by have := ST.out.sa.len; omega) HIN.out _))
        refine wpQuiet_nil ?_
        rintro w' ⟨⟨w', bx⟩, rfl⟩
        go_wp2_with fail
        go_roundw
        case rel => exact ⟨1, by omega, by go_num, bstep BW.out bx⟩
        case measure => simp [intOf]; omega
      · obtain ⟨m, hm⟩ : ∃ m, k = m + 1 := ⟨k - 1, by omega⟩
        have hm2 : m < (hds (norm A)).length := by omega
        obtain ⟨g2, o2, e2, hg2, c2⟩ := CH.out m hm2
        cases e2
        have hnab : abvV ((hds (norm A))[m]'hm2) ((hds (norm A))[k]'hk2) = false := (mem_hds.1 hmem).2 _ (mem_hds.1 (List.getElem_mem hm2)).1
        have hmB : (hds (norm A))[m]'hm2 ∈ A := (mem_norm _ A).1 (mem_hds.1 (List.getElem_mem hm2)).1
        obtain ⟨p, hp⟩ : ∃ p, (hds (norm A))[k]'hk2 = p := ⟨_, rfl⟩
        obtain ⟨q, hq⟩ : ∃ q, (hds (norm A))[m]'hm2 = q := ⟨_, rfl⟩
        rw [hp] at c1 hmA hnab
        rw [hq] at c2 hnab hmB
        have hpl : p.length ≤ 1048576 := ST.out.sa.each p hmA
        have hql : q.length ≤ 1048576 := ST.out.sa.each q hmB
        have HIN : Hid (decide (p ∈ A) = true) := decide_eq_true hmA
        have HAB : Hid (abvV q p = false) := hnab
        have d1 : wr.cell? ⟨g1, o1 + k, none⟩ = some (.string (bs p)) := by rw [BW.out.cell (p := ⟨g1, o1 + k, none⟩) hg1]; exact c1
        have d2 : wr.cell? ⟨g1, o1 + m, none⟩ = some (.string (bs q)) := by rw [BW.out.cell (p := ⟨g1, o1 + m, none⟩) hg1]; exact c2
        have x1 : ∀ X : GW wr, X.it.cell? ⟨g1, o1 + k, none⟩ = some (.string (bs p)) := fun X => X.cell (by show g1 < wr.heap.size; omega) d1
        have x2 : ∀ X : GW wr, X.it.cell? ⟨g1, o1 + m, none⟩ = some (.string (bs q)) := fun X => X.cell (by show g1 < wr.heap.size; omega) d2
        have xne := gw_ne wr
        have k1 : (0 : Int) < (k : Int) := by omega
        have k7 : decide ((0 : Int) < (k : Int)) = true := decide_eq_true k1
        have k8 : 0 < k := by omega
        have k2 : (k : Int) < (nh : Int) := by omega
        have k3 : (0 : Int) ≤ (m : Int) := by omega
        have k4 : (m : Int) < (nh : Int) := by omega
        have k6 : (0 : Int) ≤ (k : Int) := by omega
        have k5 : IntKind.i64.wrap ((k : Int) - 1) = (m : Int) := by
          have e : (k : Int) - 1 = (m : Int) := by omega
          rw [e]; exact wrap_small m (by omega)
        clear c1 c2 hp hq hmem hmA hmB hnab hm hk0
        go_wp2_with fail
        refine wp_region_grow (by kernel_rfl) (by kernel_rfl) ?_
        repeat (go_big_quiet_step (first | exact has_grow SA2.out (by have := ST.out.sa.len; omega) HIN.out _ | exact above_grow hql hpl HAB.out _))
        refine wpQuiet_nil ?_
        rintro w' ⟨⟨w', bx⟩, rfl⟩
        clear k5
        go_wp2_with fail
        go_roundw
        case rel => exact ⟨k + 1, by omega, by go_num, bstep BW.out bx⟩
        case measure => simp [intOf]; omega
    · obtain rfl : k = nh := by omega
      go_wp2_with fail
      refine HK.out _ _ ?_
      exact t24 (ST.out.later BW.out) (SH.out.later BW.out) (SR.out.later BW.out)

end Go.Proofs.Ytpaohkegekhgdac
