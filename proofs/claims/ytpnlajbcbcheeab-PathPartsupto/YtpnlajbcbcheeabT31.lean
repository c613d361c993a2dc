import Derived.Test.YtpnlajbcbcheeabT33
namespace Go.Proofs.Ytpnlajbcbcheeab
open Go.RowKit

theorem bd (w : World) (n : Nat) : Below w.heap.size w (w.drewN n) := ⟨rfl, rfl, rfl, Nat.le_refl _, fun _ _ => rfl⟩
set_option maxHeartbeats 4000000 in
set_option maxRecDepth 100000 in
theorem t31 {lv2 lv3 lv4 lv6 lv7 lv8 lv9 lv10 lv11 lv12 lv13 lv16 lv17 lv18 lv19 lv20 lv21 lv22 lv23 lv24 lv25 lv26 lv27 lv28 lv29 lv30 lv31 lv32 lv33 lv34 lv35 lv36 lv37 lv38 lv39 lv40 lv41 lv42 lv43 lv44 lv45 lv46 lv47 lv48 lv49 lv50 lv51 lv52 lv53 lv54 lv55 lv56 lv57 lv58 lv59 lv60 lv61 lv62 lv63 lv64 lv65 lv66 lv67 lv68 lv69 lv70 lv71 lv72 lv73 lv74 lv75 lv76 lv77 lv78 lv79 lv80 lv81 lv82 lv83 lv84 lv85 lv86 lv87 lv88 lv89 lv90 lv91 lv92 lv93 lv94 lv95 lv96 lv97 lv98 lv99 lv100 lv101 lv102 lv103 lv104 lv105 lv106 lv107 lv108 lv109 lv110 lv111 lv112 lv113 lv114 lv115 lv116 lv117 lv118 lv119 lv120 lv121 lv122 lv123 lv124 lv125 lv126 lv127 lv128 lv129 lv130 lv131 lv132 lv133 lv134 lv135 lv136 lv137 lv138 lv139 lv140 lv141 lv142 lv143 lv144 lv145 lv146 lv147 lv148 lv149 lv150 lv151 lv152 lv153 lv154 lv155 lv156 lv157 lv158 lv159 lv160 lv161 lv162 lv163 lv164 lv165 lv166 lv167 lv168 lv169 lv170 lv171 lv172 lv173 lv174 lv175 lv176 lv177 lv178 lv179 lv180 lv181 lv182 lv183 lv184 lv185 lv186 lv187 lv188 lv189 lv190 lv191 lv192 lv193 lv194 lv195 lv196 lv197 lv198 lv199 lv200 lv201 lv202 lv203 lv204 lv205 lv206 lv207 lv208 lv209 lv210 lv211 lv212 lv213 lv214 lv215 lv216 lv217 lv218 lv219 lv220 lv221 lv222 lv223 lv224 lv225 lv226 lv227 lv228 lv229 lv230 lv231 lv232 lv233 lv234 lv235 lv236 lv237 lv238 lv239 lv240 lv241 lv242 lv243 lv244 lv245 lv246 lv247 lv248 lv249 lv250 lv251 lv252 lv253 lv254 lv255 lv256 lv257 lv258 lv259 lv260 lv261 lv262 lv263 lv264 lv265 lv266 lv267 lv268 lv269 lv270 lv271 lv272 lv273 lv274 lv275 lv276 lv277 lv278 lv279 lv280 lv281 : Value} {a b : List UInt8} {w wc : World} {L : List (List UInt8)} {x : Option Addr} {c : Nat} (ha : a.length ≤ 2000000) (hb : b.length ≤ 2000000) {M : List (List UInt8)} {y : Option Addr} {d : Nat} (S : Hid (SS wc (.slice y M.length d) M)) (B : Hid (Below w.heap.size w wc)) (O : Hid (Own w.heap.size wc (.slice x L.length c) L)) (HVA : Hid (okP a = true)) (HVB : Hid (okP b = true)) (HL : Hid (pcs a = L)) (HMP : Hid (pcs b = M)) {n : Nat} (HCO : Hid (∀ (h1 : n < L.length) (h2 : n < M.length), L[n] ≠ M[n])) :
    Code.wp Try.prog (suff 31 (Try.f4.body.getD .skip)) (bodyPost Try.prog Try.f4 (Good w)) ⟨(.string (bs a) :: .string (bs b) :: lv2 :: lv3 :: lv4 :: .slice x L.length c :: lv6 :: lv7 :: lv8 :: lv9 :: lv10 :: lv11 :: lv12 :: lv13 :: .slice y M.length d :: .int .i64 ((n : Nat) : Int) :: lv16 :: lv17 :: lv18 :: lv19 :: lv20 :: lv21 :: lv22 :: lv23 :: lv24 :: lv25 :: lv26 :: lv27 :: lv28 :: lv29 :: lv30 :: lv31 :: lv32 :: lv33 :: lv34 :: lv35 :: lv36 :: lv37 :: lv38 :: lv39 :: lv40 :: lv41 :: lv42 :: lv43 :: lv44 :: lv45 :: lv46 :: lv47 :: lv48 :: lv49 :: lv50 :: lv51 :: lv52 :: lv53 :: lv54 :: lv55 :: lv56 :: lv57 :: lv58 :: lv59 :: lv60 :: lv61 :: lv62 :: lv63 :: lv64 :: lv65 :: lv66 :: lv67 :: lv68 :: lv69 :: lv70 :: lv71 :: lv72 :: lv73 :: lv74 :: lv75 :: lv76 :: lv77 :: lv78 :: lv79 :: lv80 :: lv81 :: lv82 :: lv83 :: lv84 :: lv85 :: lv86 :: lv87 :: lv88 :: lv89 :: lv90 :: lv91 :: lv92 :: lv93 :: lv94 :: lv95 :: lv96 :: lv97 :: lv98 :: lv99 :: lv100 :: lv101 :: lv102 :: lv103 :: lv104 :: lv105 :: lv106 :: lv107 :: lv108 :: lv109 :: lv110 :: lv111 :: lv112 :: lv113 :: lv114 :: lv115 :: lv116 :: lv117 :: lv118 :: lv119 :: lv120 :: lv121 :: lv122 :: lv123 :: lv124 :: lv125 :: lv126 :: lv127 :: lv128 :: lv129 :: lv130 :: lv131 :: lv132 :: lv133 :: lv134 :: lv135 :: lv136 :: lv137 :: lv138 :: lv139 :: lv140 :: lv141 :: lv142 :: lv143 :: lv144 :: lv145 :: lv146 :: lv147 :: lv148 :: lv149 :: lv150 :: lv151 :: lv152 :: lv153 :: lv154 :: lv155 :: lv156 :: lv157 :: lv158 :: lv159 :: lv160 :: lv161 :: lv162 :: lv163 :: lv164 :: lv165 :: lv166 :: lv167 :: lv168 :: lv169 :: lv170 :: lv171 :: lv172 :: lv173 :: lv174 :: lv175 :: lv176 :: lv177 :: lv178 :: lv179 :: lv180 :: lv181 :: lv182 :: lv183 :: lv184 :: lv185 :: lv186 :: lv187 :: lv188 :: lv189 :: lv190 :: lv191 :: lv192 :: lv193 :: lv194 :: lv195 :: lv196 :: lv197 :: lv198 :: lv199 :: lv200 :: lv201 :: lv202 :: lv203 :: lv204 :: lv205 :: lv206 :: lv207 :: lv208 :: lv209 :: lv210 :: lv211 :: lv212 :: lv213 :: lv214 :: lv215 :: lv216 :: lv217 :: lv218 :: lv219 :: lv220 :: lv221 :: lv222 :: lv223 :: lv224 :: lv225 :: lv226 :: lv227 :: lv228 :: lv229 :: lv230 :: lv231 :: lv232 :: lv233 :: lv234 :: lv235 :: lv236 :: lv237 :: lv238 :: lv239 :: lv240 :: lv241 :: lv242 :: lv243 :: lv244 :: lv245 :: lv246 :: lv247 :: lv248 :: lv249 :: lv250 :: lv251 :: lv252 :: lv253 :: lv254 :: lv255 :: lv256 :: lv257 :: lv258 :: lv259 :: lv260 :: lv261 :: lv262 :: lv263 :: lv264 :: lv265 :: lv266 :: lv267 :: lv268 :: lv269 :: lv270 :: lv271 :: lv272 :: lv273 :: lv274 :: lv275 :: lv276 :: lv277 :: lv278 :: lv279 :: lv280 :: lv281 :: []).toArray, []⟩ wc := by
  conv => arg 2; whnf
  have lA := pcs_len a (by omega)
  have lB := pcs_len b (by omega)
  rw [HL.out] at lA
  rw [HMP.out] at lB
  refine wp_seq_k fun K hK => ?_
  have HK : Hid _ := hK
  clear hK
  by_cases h1 : n < L.length
  · by_cases h2 : n < M.length
    · obtain ⟨a1, c1, e1, f1⟩ := O.out.bs.form
      obtain ⟨g1, o1, ea, hg1, c1⟩ := f1 n h1
      injection e1 with e1 e1b e1c
      clear e1b e1c
      rw [ea] at e1
      subst e1
      obtain ⟨a2, c2, e2, f2⟩ := S.out.form
      obtain ⟨g2, o2, eb, hg2, c2⟩ := f2 n h2
      injection e2 with e2 e2b e2c
      clear e2b e2c
      rw [eb] at e2
      subst e2
      have hne := HCO.out h1 h2
      have t1 : (bs (L[n]'h1)).toList = L[n]'h1 := bs_toList _
      have t2 : (bs (M[n]'h2)).toList = M[n]'h2 := bs_toList _
      have t3 : ((L[n]'h1) == (M[n]'h2)) = false := by rw [beq_eq_false_iff_ne]; exact hne
      clear hne f1 f2
      go_wp2_with fail
      go_region
      go_wp2_with fail
      refine HK.out _ _ ?_
      exact t33 ha hb (S.out.later (bd _ _)) (bdrewN B.out) (O.out.later (bd _ _)) HVA HVB HL HMP
    · have d2 : decide ((n : Int) < (M.length : Int)) = false := by simp; omega
      go_wp2_with fail
      go_region
      go_wp2_with fail
      refine HK.out _ _ ?_
      exact t33 ha hb (S.out.later (bd _ _)) (bdrewN B.out) (O.out.later (bd _ _)) HVA HVB HL HMP
  · have d2 : decide ((n : Int) < (L.length : Int)) = false := by simp; omega
    go_wp2_with fail
    go_region
    go_wp2_with fail
    refine HK.out _ _ ?_
    exact t33 ha hb (S.out.later (bd _ _)) (bdrewN B.out) (O.out.later (bd _ _)) HVA HVB HL HMP

end Go.Proofs.Ytpnlajbcbcheeab
