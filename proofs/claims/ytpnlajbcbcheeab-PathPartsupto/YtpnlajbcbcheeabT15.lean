import Derived.Test.YtpnlajbcbcheeabT19
namespace Go.Proofs.Ytpnlajbcbcheeab
open Go.RowKit

set_option maxHeartbeats 4000000 in
set_option maxRecDepth 100000 in
theorem t15 {lv2 lv3 lv4 lv6 lv7 lv8 lv10 lv11 lv12 lv13 lv14 lv15 lv16 lv17 lv18 lv19 lv20 lv21 lv22 lv23 lv24 lv25 lv26 lv27 lv28 lv29 lv30 lv31 lv32 lv33 lv34 lv35 lv36 lv37 lv38 lv39 lv40 lv41 lv42 lv43 lv44 lv45 lv46 lv47 lv48 lv49 lv50 lv51 lv52 lv53 lv54 lv55 lv56 lv57 lv58 lv59 lv60 lv61 lv62 lv63 lv64 lv65 lv66 lv67 lv68 lv69 lv70 lv71 lv72 lv73 lv74 lv75 lv76 lv77 lv78 lv79 lv80 lv81 lv82 lv83 lv84 lv85 lv86 lv87 lv88 lv89 lv90 lv91 lv92 lv93 lv94 lv95 lv96 lv97 lv98 lv99 lv100 lv101 lv102 lv103 lv104 lv105 lv106 lv107 lv108 lv109 lv110 lv111 lv112 lv113 lv114 lv115 lv116 lv117 lv118 lv119 lv120 lv121 lv122 lv123 lv124 lv125 lv126 lv127 lv128 lv129 lv130 lv131 lv132 lv133 lv134 lv135 lv136 lv137 lv138 lv139 lv140 lv141 lv142 lv143 lv144 lv145 lv146 lv147 lv148 lv149 lv150 lv151 lv152 lv153 lv154 lv155 lv156 lv157 lv158 lv159 lv160 lv161 lv162 lv163 lv164 lv165 lv166 lv167 lv168 lv169 lv170 lv171 lv172 lv173 lv174 lv175 lv176 lv177 lv178 lv179 lv180 lv181 lv182 lv183 lv184 lv185 lv186 lv187 lv188 lv189 lv190 lv191 lv192 lv193 lv194 lv195 lv196 lv197 lv198 lv199 lv200 lv201 lv202 lv203 lv204 lv205 lv206 lv207 lv208 lv209 lv210 lv211 lv212 lv213 lv214 lv215 lv216 lv217 lv218 lv219 lv220 lv221 lv222 lv223 lv224 lv225 lv226 lv227 lv228 lv229 lv230 lv231 lv232 lv233 lv234 lv235 lv236 lv237 lv238 lv239 lv240 lv241 lv242 lv243 lv244 lv245 lv246 lv247 lv248 lv249 lv250 lv251 lv252 lv253 lv254 lv255 lv256 lv257 lv258 lv259 lv260 lv261 lv262 lv263 lv264 lv265 lv266 lv267 lv268 lv269 lv270 lv271 lv272 lv273 lv274 lv275 lv276 lv277 lv278 lv279 lv280 lv281 : Value} {a b : List UInt8} {w wc : World} {L : List (List UInt8)} {x : Option Addr} {c : Nat} (ha : a.length ≤ 2000000) (hb : b.length ≤ 2000000) (B : Hid (Below w.heap.size w wc)) (O : Hid (Own w.heap.size wc (.slice x L.length c) L)) (HL : Hid (pcs a = L)) {R0 : Bool} (HR0 : Hid ((decide (a.length ≤ 120) && decide (L.length ≤ 12)) = R0)) :
    Code.wp Try.prog (suff 15 (Try.f4.body.getD .skip)) (bodyPost Try.prog Try.f4 (Good w)) ⟨(.string (bs a) :: .string (bs b) :: lv2 :: lv3 :: lv4 :: .slice x L.length c :: lv6 :: lv7 :: lv8 :: .bool R0 :: lv10 :: lv11 :: lv12 :: lv13 :: lv14 :: lv15 :: lv16 :: lv17 :: lv18 :: lv19 :: lv20 :: lv21 :: lv22 :: lv23 :: lv24 :: lv25 :: lv26 :: lv27 :: lv28 :: lv29 :: lv30 :: lv31 :: lv32 :: lv33 :: lv34 :: lv35 :: lv36 :: lv37 :: lv38 :: lv39 :: lv40 :: lv41 :: lv42 :: lv43 :: lv44 :: lv45 :: lv46 :: lv47 :: lv48 :: lv49 :: lv50 :: lv51 :: lv52 :: lv53 :: lv54 :: lv55 :: lv56 :: lv57 :: lv58 :: lv59 :: lv60 :: lv61 :: lv62 :: lv63 :: lv64 :: lv65 :: lv66 :: lv67 :: lv68 :: lv69 :: lv70 :: lv71 :: lv72 :: lv73 :: lv74 :: lv75 :: lv76 :: lv77 :: lv78 :: lv79 :: lv80 :: lv81 :: lv82 :: lv83 :: lv84 :: lv85 :: lv86 :: lv87 :: lv88 :: lv89 :: lv90 :: lv91 :: lv92 :: lv93 :: lv94 :: lv95 :: lv96 :: lv97 :: lv98 :: lv99 :: lv100 :: lv101 :: lv102 :: lv103 :: lv104 :: lv105 :: lv106 :: lv107 :: lv108 :: lv109 :: lv110 :: lv111 :: lv112 :: lv113 :: lv114 :: lv115 :: lv116 :: lv117 :: lv118 :: lv119 :: lv120 :: lv121 :: lv122 :: lv123 :: lv124 :: lv125 :: lv126 :: lv127 :: lv128 :: lv129 :: lv130 :: lv131 :: lv132 :: lv133 :: lv134 :: lv135 :: lv136 :: lv137 :: lv138 :: lv139 :: lv140 :: lv141 :: lv142 :: lv143 :: lv144 :: lv145 :: lv146 :: lv147 :: lv148 :: lv149 :: lv150 :: lv151 :: lv152 :: lv153 :: lv154 :: lv155 :: lv156 :: lv157 :: lv158 :: lv159 :: lv160 :: lv161 :: lv162 :: lv163 :: lv164 :: lv165 :: lv166 :: lv167 :: lv168 :: lv169 :: lv170 :: lv171 :: lv172 :: lv173 :: lv174 :: lv175 :: lv176 :: lv177 :: lv178 :: lv179 :: lv180 :: lv181 :: lv182 :: lv183 :: lv184 :: lv185 :: lv186 :: lv187 :: lv188 :: lv189 :: lv190 :: lv191 :: lv192 :: lv193 :: lv194 :: lv195 :: lv196 :: lv197 :: lv198 :: lv199 :: lv200 :: lv201 :: lv202 :: lv203 :: lv204 :: lv205 :: lv206 :: lv207 :: lv208 :: lv209 :: lv210 :: lv211 :: lv212 :: lv213 :: lv214 :: lv215 :: lv216 :: lv217 :: lv218 :: lv219 :: lv220 :: lv221 :: lv222 :: lv223 :: lv224 :: lv225 :: lv226 :: lv227 :: lv228 :: lv229 :: lv230 :: lv231 :: lv232 :: lv233 :: lv234 :: lv235 :: lv236 :: lv237 :: lv238 :: lv239 :: lv240 :: lv241 :: lv242 :: lv243 :: lv244 :: lv245 :: lv246 :: lv247 :: lv248 :: lv249 :: lv250 :: lv251 :: lv252 :: lv253 :: lv254 :: lv255 :: lv256 :: lv257 :: lv258 :: lv259 :: lv260 :: lv261 :: lv262 :: lv263 :: lv264 :: lv265 :: lv266 :: lv267 :: lv268 :: lv269 :: lv270 :: lv271 :: lv272 :: lv273 :: lv274 :: lv275 :: lv276 :: lv277 :: lv278 :: lv279 :: lv280 :: lv281 :: []).toArray, []⟩ wc := by
  conv => arg 2; whnf
  have lA := pcs_len a (by omega)
  have HML : Hid (∀ p ∈ pcs a, p.length ≤ a.length) := pcs_mem_le a
  have HOK : Hid (okP a = (decide (a.length ≤ 120) && decide ((pcs a).length ≤ 12) && (pcs a).all okC)) := by rw [dep_eq]; rfl
  rw [HL.out] at lA HML HOK
  obtain ⟨a1, c1, e1, f1⟩ := O.out.bs.form
  injection e1 with e1 e1b e1c
  subst e1
  have CA : Hid (∀ k, (hk : k < L.length) → ∃ b off, x = some ⟨b, off, none⟩ ∧ b < wc.heap.size ∧ wc.cell? ⟨b, off + k, none⟩ = some (.string (bs L[k]))) := f1
  clear f1 e1b e1c c1
  refine wp_seq_k fun K hK => ?_
  have HK : Hid _ := hK
  clear hK
  go_wp2_with fail
  go_loop [9, 10] (fun r i => ∃ k : Nat, k ≤ L.length ∧ i = .int .i64 k ∧ r = .bool (R0 && (L.take k).all okC)) (fun _ i => L.length - (intOf i).toNat)
  case atStart => exact ⟨0, Nat.zero_le _, rfl, by simp⟩
  case round =>
    obtain ⟨k, hk, rfl, rfl⟩ := hrel
    by_cases hlt : k < L.length
    · obtain ⟨g1, o1, rfl, hg1, c1⟩ := CA.out k hlt
      have hs := all_take_snoc L k hlt
      have hp := HML.out (L[k]'hlt) (List.getElem_mem _)
      cases hv : (R0 && (L.take k).all okC)
      · have HV : Hid ((R0 && (L.take (k + 1)).all okC) = false) := by
          show _ = _
          rw [hs, ← Bool.and_assoc, hv]; rfl
        clear hs
        go_wp2_with fail
        go_round
        case rel => exact ⟨k + 1, by omega, by go_num, by rw [HV.out]⟩
        case measure => simp [intOf]; omega
      · have HV : Hid ((R0 && (L.take (k + 1)).all okC) = okC (L[k]'hlt)) := by
          show _ = _
          rw [hs, ← Bool.and_assoc, hv, Bool.true_and]
        clear hs
        go_wp2_with fail
        refine (component_any (L[k]'hlt) _ (by omega)).mono ?_
        rintro e w5 ⟨rfl, rfl⟩
        go_wp2_with fail
        go_round
        case rel => exact ⟨k + 1, by omega, by go_num, by rw [HV.out]⟩
        case measure => simp [intOf]; omega
    · obtain rfl : k = L.length := by omega
      have hv : (R0 && (L.take L.length).all okC) = okP a := by rw [List.take_length, HOK.out, ← HR0.out]
      rw [hv]
      clear hv
      go_wp2_with fail
      refine HK.out _ _ ?_
      exact t19 ha hb B O HL

end Go.Proofs.Ytpnlajbcbcheeab
