import Derived.Test.YtpaohkegekhgdacS15
namespace Go.Proofs.Ytpaohkegekhgdac
open Go.RowKit

set_option maxHeartbeats 4000000 in
set_option maxRecDepth 100000 in
theorem t10 {lv2 lv3 lv4 lv10 lv11 lv12 lv13 lv14 lv15 lv16 lv17 lv18 lv19 lv20 lv21 lv22 lv23 lv24 lv25 lv26 lv27 lv28 lv29 lv30 lv31 lv32 lv33 lv34 lv35 lv36 lv37 lv38 lv39 lv40 lv41 lv42 lv43 lv44 lv45 lv46 lv47 lv48 lv49 lv50 lv51 lv52 lv53 lv54 lv55 lv56 lv57 lv58 lv59 lv60 lv61 lv62 lv63 lv64 lv65 lv66 lv67 lv68 lv69 lv70 lv71 lv72 lv73 lv74 lv75 lv76 lv77 lv78 lv79 lv80 lv81 lv82 lv83 lv84 lv85 lv86 lv87 lv88 lv89 lv90 lv91 lv92 lv93 lv94 lv95 lv96 lv97 lv98 lv99 lv100 lv101 lv102 lv103 lv104 lv105 lv106 lv107 lv108 lv109 lv110 lv111 lv112 lv113 lv114 lv115 lv116 lv117 lv118 lv119 lv120 lv121 lv122 lv123 lv124 lv125 lv126 lv127 lv128 lv129 lv130 lv131 lv132 lv133 lv134 lv135 lv136 lv137 lv138 lv139 lv140 lv141 lv142 lv143 lv144 lv145 lv146 lv147 lv148 lv149 lv150 lv151 lv152 lv153 lv154 lv155 lv156 lv157 lv158 lv159 lv160 lv161 lv162 lv163 lv164 lv165 lv166 lv167 lv168 lv169 lv170 lv171 lv172 lv173 lv174 lv175 lv176 lv177 lv178 lv179 lv180 lv181 lv182 lv183 lv184 lv185 lv186 lv187 lv188 lv189 lv190 lv191 lv192 lv193 lv194 lv195 lv196 lv197 lv198 lv199 lv200 lv201 lv202 lv203 lv204 lv205 lv206 lv207 lv208 lv209 lv210 lv211 lv212 lv213 lv214 lv215 lv216 lv217 lv218 lv219 lv220 lv221 lv222 lv223 lv224 lv225 lv226 lv227 lv228 lv229 lv230 lv231 lv232 lv233 lv234 lv235 lv236 : Value} {w wc : World} {va vb : Value} {A B : List (List UInt8)} (ST : Hid (St w wc va vb A B)) {vn vm vu vi vd : Value} (F5 : Hid (S5 wc A B vn vm vu vi vd)) :
    Code.wp Try.prog (suff 10 (Try.f3.body.getD .skip)) (bodyPost Try.prog Try.f3 (Good w)) ⟨(va :: vb :: lv2 :: lv3 :: lv4 :: vn :: vm :: vu :: vi :: vd :: lv10 :: lv11 :: lv12 :: lv13 :: lv14 :: lv15 :: lv16 :: lv17 :: lv18 :: lv19 :: lv20 :: lv21 :: lv22 :: lv23 :: lv24 :: lv25 :: lv26 :: lv27 :: lv28 :: lv29 :: lv30 :: lv31 :: lv32 :: lv33 :: lv34 :: lv35 :: lv36 :: lv37 :: lv38 :: lv39 :: lv40 :: lv41 :: lv42 :: lv43 :: lv44 :: lv45 :: lv46 :: lv47 :: lv48 :: lv49 :: lv50 :: lv51 :: lv52 :: lv53 :: lv54 :: lv55 :: lv56 :: lv57 :: lv58 :: lv59 :: lv60 :: lv61 :: lv62 :: lv63 :: lv64 :: lv65 :: lv66 :: lv67 :: lv68 :: lv69 :: lv70 :: lv71 :: lv72 :: lv73 :: lv74 :: lv75 :: lv76 :: lv77 :: lv78 :: lv79 :: lv80 :: lv81 :: lv82 :: lv83 :: lv84 :: lv85 :: lv86 :: lv87 :: lv88 :: lv89 :: lv90 :: lv91 :: lv92 :: lv93 :: lv94 :: lv95 :: lv96 :: lv97 :: lv98 :: lv99 :: lv100 :: lv101 :: lv102 :: lv103 :: lv104 :: lv105 :: lv106 :: lv107 :: lv108 :: lv109 :: lv110 :: lv111 :: lv112 :: lv113 :: lv114 :: lv115 :: lv116 :: lv117 :: lv118 :: lv119 :: lv120 :: lv121 :: lv122 :: lv123 :: lv124 :: lv125 :: lv126 :: lv127 :: lv128 :: lv129 :: lv130 :: lv131 :: lv132 :: lv133 :: lv134 :: lv135 :: lv136 :: lv137 :: lv138 :: lv139 :: lv140 :: lv141 :: lv142 :: lv143 :: lv144 :: lv145 :: lv146 :: lv147 :: lv148 :: lv149 :: lv150 :: lv151 :: lv152 :: lv153 :: lv154 :: lv155 :: lv156 :: lv157 :: lv158 :: lv159 :: lv160 :: lv161 :: lv162 :: lv163 :: lv164 :: lv165 :: lv166 :: lv167 :: lv168 :: lv169 :: lv170 :: lv171 :: lv172 :: lv173 :: lv174 :: lv175 :: lv176 :: lv177 :: lv178 :: lv179 :: lv180 :: lv181 :: lv182 :: lv183 :: lv184 :: lv185 :: lv186 :: lv187 :: lv188 :: lv189 :: lv190 :: lv191 :: lv192 :: lv193 :: lv194 :: lv195 :: lv196 :: lv197 :: lv198 :: lv199 :: lv200 :: lv201 :: lv202 :: lv203 :: lv204 :: lv205 :: lv206 :: lv207 :: lv208 :: lv209 :: lv210 :: lv211 :: lv212 :: lv213 :: lv214 :: lv215 :: lv216 :: lv217 :: lv218 :: lv219 :: lv220 :: lv221 :: lv222 :: lv223 :: lv224 :: lv225 :: lv226 :: lv227 :: lv228 :: lv229 :: lv230 :: lv231 :: lv232 :: lv233 :: lv234 :: lv235 :: lv236 :: []).toArray, []⟩ wc := by
  conv => arg 2; whnf
  obtain ⟨a, ca, na, hna, rfl, fa⟩ := ST.out.a.form'
  have HNA : Hid (na = A.length) := hna
  have CA : Hid (∀ k, (hk : k < A.length) → ∃ b off, a = some ⟨b, off, none⟩ ∧ b < wc.heap.size ∧ wc.cell? ⟨b, off + k, none⟩ = some (.string (bs A[k]))) := fa
  have hnal : na ≤ 4000000 := by rw [hna]; exact ST.out.sa.len
  clear hna fa
  refine wp_seq_k fun K hK => ?_
  have HK : Hid _ := hK
  clear hK
  go_wp2_with fail
  go_loopw [10] (fun i wr => ∃ k : Nat, k ≤ na ∧ i = .int .i64 k ∧ Below wc.heap.size wc wr) (fun i _ => na - (intOf i).toNat)
  case atStart => exact ⟨0, Nat.zero_le _, rfl, Below.refl _ _⟩
  case round =>
    obtain ⟨k, hk, rfl, hbw⟩ := hrel
    have BW : Hid (Below wc.heap.size wc wr) := hbw
    have hzo := hbw.size
    clear hbw
    by_cases hlt : k < na
    · have hk2 : k < A.length := by have := HNA.out; omega
      obtain ⟨g1, o1, rfl, hg1, c1⟩ := CA.out k hk2
      have hmem : A[k]'hk2 ∈ A := List.getElem_mem _
      obtain ⟨p, hp⟩ : ∃ p, A[k]'hk2 = p := ⟨_, rfl⟩
      rw [hp] at c1 hmem
      have F2 : Hid (S5 wr A B vn vm vu vi vd) := F5.out.later BW.out
      have SB2 : Hid (SS wr vb B) := ST.out.b.later BW.out
      have HU : Hid (decide (p ∈ uni A B) = true) := decide_eq_true (mem_uni.2 (Or.inl hmem))
      have d1 : wr.cell? ⟨g1, o1 + k, none⟩ = some (.string (bs p)) := by rw [BW.out.cell (p := ⟨g1, o1 + k, none⟩) hg1]; exact c1
      have x1 : ∀ X : GW wr, X.it.cell? ⟨g1, o1 + k, none⟩ = some (.string (bs p)) := fun X => X.cell (by show g1 < wr.heap.size; omega) d1
      have xne := gw_ne wr
      have k3 : (0 : Int) ≤ (k : Int) := by omega
      have k4 : (k : Int) < (na : Int) := by omega
      have lU : Hid ((uni A B).length ≤ 8000000) := uni_len A B ST.out.sa ST.out.sb
      have lB : Hid (B.length ≤ 8000000) := Nat.le_trans ST.out.sb.len (by decide)
      have lI : Hid ((som A B true).length ≤ 8000000) := Nat.le_trans (ST.out.sa.som true).len (by decide)
      have lD : Hid ((som A B false).length ≤ 8000000) := Nat.le_trans (ST.out.sa.som false).len (by decide)
      clear c1 hp
      by_cases hpb : p ∈ B
      · have HB : Hid (decide (p ∈ B) = true) := decide_eq_true hpb
        have HI : Hid (decide (p ∈ som A B true) = true) := decide_eq_true (mem_met.2 ⟨hmem, hpb⟩)
        have HD : Hid (decide (p ∈ som A B false) = false) := decide_eq_false (fun h => (mem_mns.1 h).2 hpb)
        clear hpb hmem
        go_wp2_with fail
        refine wp_region_grow (by kernel_rfl) (by kernel_rfl) ?_
        repeat (go_big_quiet_step (first | exact has_grow F2.out.u lU.out HU.out _ | exact has_grow SB2.out lB.out HB.out _ | exact has_grow F2.out.i lI.out HI.out _ | exact has_grow F2.out.d lD.out HD.out _))
        refine wpQuiet_nil ?_
        rintro w' ⟨⟨w', bx⟩, rfl⟩
        go_wp2_with fail
        go_roundw
        case rel => exact ⟨k + 1, by omega, by go_num, bstep BW.out bx⟩
        case measure => simp [intOf]; omega
      · have HB : Hid (decide (p ∈ B) = false) := decide_eq_false hpb
        have HI : Hid (decide (p ∈ som A B true) = false) := decide_eq_false (fun h => hpb (mem_met.1 h).2)
        have HD : Hid (decide (p ∈ som A B false) = true) := decide_eq_true (mem_mns.2 ⟨hmem, hpb⟩)
        clear hpb hmem
        go_wp2_with fail
        refine wp_region_grow (by kernel_rfl) (by kernel_rfl) ?_
        repeat (go_big_quiet_step (first | exact has_grow F2.out.u lU.out HU.out _ | exact has_grow SB2.out lB.out HB.out _ | exact has_grow F2.out.i lI.out HI.out _ | exact has_grow F2.out.d lD.out HD.out _))
        refine wpQuiet_nil ?_
        rintro w' ⟨⟨w', bx⟩, rfl⟩
        go_wp2_with fail
        go_roundw
        case rel => exact ⟨k + 1, by omega, by go_num, bstep BW.out bx⟩
        case measure => simp [intOf]; omega
    · obtain rfl : k = na := by omega
      go_wp2_with fail
      refine HK.out _ _ ?_
      exact t15 (ST.out.later BW.out)

end Go.Proofs.Ytpaohkegekhgdac
