/-
  The look at fresh memory: each lengthened by one.
-/
import Derived.Test.YtgibjnfaagnbfadGreatDoorF34
import Derived.Test.YtgibjnfaagnbfadGreatDoorFreshA
namespace Go.Proofs.YtgibjnfaagnbfadGreatDoor
open Go.RowKit

set_option maxRecDepth 100000 in
set_option maxHeartbeats 8000000 in
theorem f30 {lv2 lv3 lv4 lv9 lv10 lv11 lv12 lv14 lv15 lv18 lv19 lv20 lv21 lv22 lv23 lv24 lv25 lv26 lv27 lv28 lv29 lv30 lv31 lv32 lv33 lv34 lv35 lv36 lv37 lv38 lv39 lv40 lv41 lv42 lv43 lv44 lv45 lv46 lv47 lv48 lv49 lv50 lv51 lv52 lv53 lv54 lv55 lv56 lv57 lv58 lv59 lv60 lv61 lv62 lv63 lv64 lv65 lv66 lv67 lv68 lv69 lv70 lv71 lv72 lv73 lv74 lv75 lv76 lv77 lv78 lv79 lv80 lv81 lv82 lv83 lv84 lv85 lv86 lv87 lv88 lv89 lv90 lv91 lv92 lv93 lv94 lv95 lv96 lv97 lv98 lv99 lv100 lv101 lv102 lv103 lv104 lv105 lv106 lv107 lv108 lv109 lv110 lv111 lv112 lv113 lv114 lv115 lv116 lv117 lv118 lv119 lv120 lv121 lv122 lv123 lv124 lv125 lv126 lv127 lv128 lv129 lv130 lv131 lv132 lv133 lv134 lv135 lv136 lv137 lv138 lv139 lv140 lv141 lv142 lv143 lv144 lv145 lv146 lv147 lv148 lv149 lv150 lv151 lv152 lv153 lv154 lv155 lv156 lv157 lv158 lv159 lv160 lv161 lv162 lv163 lv164 lv165 lv166 lv167 lv168 lv169 lv170 lv171 lv172 lv173 lv174 lv175 lv176 lv177 lv178 lv179 lv180 lv181 lv182 lv183 lv184 lv185 lv186 lv187 lv188 lv189 lv190 lv191 lv192 lv193 lv194 lv195 lv196 lv197 lv198 lv199 lv200 lv201 lv202 lv203 lv204 lv205 lv206 lv207 lv208 lv209 lv210 lv211 lv212 lv213 lv214 lv215 lv216 lv217 lv218 lv219 lv220 lv221 lv222 lv223 lv224 lv225 lv226 lv227 lv228 lv229 lv230 lv231 lv232 lv233 lv234 lv235 lv236 lv237 lv238 lv239 lv240 lv241 lv242 lv243 lv244 lv245 lv246 lv247 lv248 lv249 lv250 lv251 lv252 lv253 lv254 lv255 lv256 lv257 lv258 lv259 lv260 lv261 lv262 lv263 lv264 lv265 lv266 lv267 lv268 lv269 lv270 lv271 lv272 lv273 lv274 : Value} {w wc : World} {B gm cm gn cn n m : Nat} {al ap ak : Option Addr} {cl cp ck nk : Nat} {L : List Fl} {PS : List (List UInt8)} {ga ca : Nat} {V : Nat → Value} {nn : Nat → Nat} (X : Hid (FW B w wc (.slice al n cl) (.slice ap m cp) (.slice ak nk ck) gm cm gn cn n m L PS)) (SM : Hid (FSm L ∧ Sm PS)) (hnl : n ≤ 4194304) (hml : m ≤ 4194304) (NN : Hid (∀ i, i < 4 → nn i ≤ 4194304)) (Q : Hid (Quad wc ga V)) (OV : Hid (∀ i, i < 4 → OwnF B wc (V i) (List.replicate (nn i) (mkF i)))) :
    Code.wp Tryz.prog (suff 30 (Tryz.f3.body.getD .skip)) (bodyPost Tryz.prog Tryz.f3 (Good w)) ⟨(.slice al n cl :: .slice ap m cp :: lv2 :: lv3 :: lv4 :: .slice (some ⟨gm, 0, none⟩) (n + 2) cm :: .slice (some ⟨gn, 0, none⟩) (m + 2) cn :: .slice (some ⟨gm, 0, none⟩) n cm :: .slice (some ⟨gn, 0, none⟩) m cn :: lv9 :: lv10 :: lv11 :: lv12 :: .slice ak nk ck :: lv14 :: lv15 :: .slice (some ⟨ga, 0, none⟩) 4 ca :: .slice none 0 0 :: lv18 :: lv19 :: lv20 :: lv21 :: lv22 :: lv23 :: lv24 :: lv25 :: lv26 :: lv27 :: lv28 :: lv29 :: lv30 :: lv31 :: lv32 :: lv33 :: lv34 :: lv35 :: lv36 :: lv37 :: lv38 :: lv39 :: lv40 :: lv41 :: lv42 :: lv43 :: lv44 :: lv45 :: lv46 :: lv47 :: lv48 :: lv49 :: lv50 :: lv51 :: lv52 :: lv53 :: lv54 :: lv55 :: lv56 :: lv57 :: lv58 :: lv59 :: lv60 :: lv61 :: lv62 :: lv63 :: lv64 :: lv65 :: lv66 :: lv67 :: lv68 :: lv69 :: lv70 :: lv71 :: lv72 :: lv73 :: lv74 :: lv75 :: lv76 :: lv77 :: lv78 :: lv79 :: lv80 :: lv81 :: lv82 :: lv83 :: lv84 :: lv85 :: lv86 :: lv87 :: lv88 :: lv89 :: lv90 :: lv91 :: lv92 :: lv93 :: lv94 :: lv95 :: lv96 :: lv97 :: lv98 :: lv99 :: lv100 :: lv101 :: lv102 :: lv103 :: lv104 :: lv105 :: lv106 :: lv107 :: lv108 :: lv109 :: lv110 :: lv111 :: lv112 :: lv113 :: lv114 :: lv115 :: lv116 :: lv117 :: lv118 :: lv119 :: lv120 :: lv121 :: lv122 :: lv123 :: lv124 :: lv125 :: lv126 :: lv127 :: lv128 :: lv129 :: lv130 :: lv131 :: lv132 :: lv133 :: lv134 :: lv135 :: lv136 :: lv137 :: lv138 :: lv139 :: lv140 :: lv141 :: lv142 :: lv143 :: lv144 :: lv145 :: lv146 :: lv147 :: lv148 :: lv149 :: lv150 :: lv151 :: lv152 :: lv153 :: lv154 :: lv155 :: lv156 :: lv157 :: lv158 :: lv159 :: lv160 :: lv161 :: lv162 :: lv163 :: lv164 :: lv165 :: lv166 :: lv167 :: lv168 :: lv169 :: lv170 :: lv171 :: lv172 :: lv173 :: lv174 :: lv175 :: lv176 :: lv177 :: lv178 :: lv179 :: lv180 :: lv181 :: lv182 :: lv183 :: lv184 :: lv185 :: lv186 :: lv187 :: lv188 :: lv189 :: lv190 :: lv191 :: lv192 :: lv193 :: lv194 :: lv195 :: lv196 :: lv197 :: lv198 :: lv199 :: lv200 :: lv201 :: lv202 :: lv203 :: lv204 :: lv205 :: lv206 :: lv207 :: lv208 :: lv209 :: lv210 :: lv211 :: lv212 :: lv213 :: lv214 :: lv215 :: lv216 :: lv217 :: lv218 :: lv219 :: lv220 :: lv221 :: lv222 :: lv223 :: lv224 :: lv225 :: lv226 :: lv227 :: lv228 :: lv229 :: lv230 :: lv231 :: lv232 :: lv233 :: lv234 :: lv235 :: lv236 :: lv237 :: lv238 :: lv239 :: lv240 :: lv241 :: lv242 :: lv243 :: lv244 :: lv245 :: lv246 :: lv247 :: lv248 :: lv249 :: lv250 :: lv251 :: lv252 :: lv253 :: lv254 :: lv255 :: lv256 :: lv257 :: lv258 :: lv259 :: lv260 :: lv261 :: lv262 :: lv263 :: lv264 :: lv265 :: lv266 :: lv267 :: lv268 :: lv269 :: lv270 :: lv271 :: lv272 :: lv273 :: lv274 :: []).toArray, []⟩ wc := by
  conv => arg 2; whnf
  refine wp_seq_k fun K hK => ?_
  have HK : Hid _ := hK
  clear hK
  go_wp2_with fail
  go_loopw [17, 23] (fun mv i wr => ∃ (k : Nat) (U : Nat → Value), k ≤ 4 ∧ i = .int .i64 k ∧ P4 B wc wr ga V nn k mv U) (fun _ i _ => 4 - (intOf i).toNat)
  case atStart => exact ⟨0, fun _ => .slice none 0 0, by omega, rfl, ⟨Q.out, Below.refl _ _, fun i hi => (OV.out i hi).fs, fun i hi _ => OV.out i hi, World.ownsRow_nil _ _ _ _, fun i hi => by omega, by simp [Value.ownBlock], fun i hi g hg => by simp [Value.ownBlock] at hg, fun i hi => by omega, fun i hi => by omega, fun i hi _ j hj => by omega⟩⟩
  case round =>
    rename World => wo
    obtain ⟨k, U, hk, rfl, hp⟩ := hrel
    have P : Hid (P4 B wc wo ga V nn k u17 U) := hp
    clear hp
    have hBo : B ≤ wo.heap.size := by have := P.out.below.size; have := X.out.big; omega
    by_cases hlt : k < 4
    · have c1 := P.out.quad.cell k hlt
      have ho := P.out.own k hlt (Nat.le_refl _)
      obtain ⟨v, hv⟩ : ∃ v, V k = v := ⟨_, rfl⟩
      rw [hv] at c1 ho
      have HV : Hid (OwnF B wo v (List.replicate (nn k) (mkF k))) := ho
      have HVE : Hid (V k = v) := hv
      have HL : Hid ((List.replicate (nn k) (mkF k)).length + 1 ≤ 100000000) := by
        show _ ≤ _
        have := NN.out k hlt
        simp; omega
      clear ho hv
      have k1 : (0 : Int) ≤ (k : Int) := by omega
      have k2 : (k : Int) < 4 := by omega
      go_wp2_with (first | (at_builtin; refine app_putF (base := B) (mkF k) HV.out HL.out hBo rfl (.tmp 162) (.tmp 165) rfl rfl rfl ?_; intro wr0 v3 w3 hb0 ho3 hc3; have I4 : Hid (In4 B wo w3 (V k) v3 (nn k) k) := (by rw [HVE.out]; exact in4_step HV.out hb0 ho3 hc3); obtain ⟨ag, cg, e3⟩ := ho3.form; obtain ⟨ng, hng⟩ : ∃ ng, (List.replicate (nn k) (mkF k) ++ [mkF k]).length = ng := ⟨_, rfl⟩; rw [hng] at e3; subst e3; have HMO : Hid (w3.ownsRow B 22 1 u17 k ((List.range k).map U)) := row_only P.out.more I4.out.only (fun g hg e => P.out.mV k hlt g hg (mem_bl.1 e)); have hB3 : B ≤ w3.heap.size := (by have := I4.out.only.size; omega); clear hb0 ho3 hc3 hng) | (at_builtin; refine app_vals (base := B) (k := k) (xs := (List.range k).map U) [.slice ag ng cg] (fun u hu => by obtain rfl := List.mem_singleton.1 hu; rfl) HMO.out (by simp; omega) hB3 rfl (.tmp 158) (.tmp 167) rfl rfl rfl ?_; intro m5 w5 hm5 hg5 hw5))
      have P5 : Hid (P4 B wc w5 ga V nn (k + 1) m5 (fun i => if i = k then .slice ag ng cg else U i)) := p4_next P.out hlt I4.out hBo hm5 hg5 (hw5.elim .inl (fun e => .inr ⟨_, e, by omega⟩))
      clear hm5 hg5 hw5
      go_wp2_with fail
      go_roundw
      case rel => exact ⟨k + 1, _, by omega, by go_num, P5.out⟩
      case measure => simp [intOf]; omega
    · obtain rfl : k = 4 := by omega
      have hm := P.out.more
      rcases hm.2 with ⟨_, h0⟩ | ⟨gu, cu, cur, rfl, hbg, hgu, hnc, _, _, _⟩
      · exact absurd h0 (by omega)
      · have CU : Hid (∀ i, i < 4 → wo.cell? ⟨gu, i, none⟩ = some (U i)) := fun i hi => by
          have := World.ownsRow.cells hm (g := gu) rfl i (U i) (by simp [hi])
          rw [add_lit, Nat.zero_add] at this
          exact this
        have hgl : gu < wo.heap.size := (Array.getElem?_eq_some_iff.1 hgu).1
        clear hm hgu
        go_wp2_with fail
        refine HK.out _ _ ?_
        exact f34 (X.out.later P.out.below) SM hnl hml NN P.out.quad P.out.ss hgl CU P.out.su

set_option maxRecDepth 100000 in
set_option maxHeartbeats 8000000 in
theorem f23 {lv2 lv3 lv4 lv9 lv10 lv11 lv12 lv14 lv15 lv18 lv19 lv20 lv21 lv22 lv23 lv24 lv25 lv26 lv27 lv28 lv29 lv30 lv31 lv32 lv33 lv34 lv35 lv36 lv37 lv38 lv39 lv40 lv41 lv42 lv43 lv44 lv45 lv46 lv47 lv48 lv49 lv50 lv51 lv52 lv53 lv54 lv55 lv56 lv57 lv58 lv59 lv60 lv61 lv62 lv63 lv64 lv65 lv66 lv67 lv68 lv69 lv70 lv71 lv72 lv73 lv74 lv75 lv76 lv77 lv78 lv79 lv80 lv81 lv82 lv83 lv84 lv85 lv86 lv87 lv88 lv89 lv90 lv91 lv92 lv93 lv94 lv95 lv96 lv97 lv98 lv99 lv100 lv101 lv102 lv103 lv104 lv105 lv106 lv107 lv108 lv109 lv110 lv111 lv112 lv113 lv114 lv115 lv116 lv117 lv118 lv119 lv120 lv121 lv122 lv123 lv124 lv125 lv126 lv127 lv128 lv129 lv130 lv131 lv132 lv133 lv134 lv135 lv136 lv137 lv138 lv139 lv140 lv141 lv142 lv143 lv144 lv145 lv146 lv147 lv148 lv149 lv150 lv151 lv152 lv153 lv154 lv155 lv156 lv157 lv158 lv159 lv160 lv161 lv162 lv163 lv164 lv165 lv166 lv167 lv168 lv169 lv170 lv171 lv172 lv173 lv174 lv175 lv176 lv177 lv178 lv179 lv180 lv181 lv182 lv183 lv184 lv185 lv186 lv187 lv188 lv189 lv190 lv191 lv192 lv193 lv194 lv195 lv196 lv197 lv198 lv199 lv200 lv201 lv202 lv203 lv204 lv205 lv206 lv207 lv208 lv209 lv210 lv211 lv212 lv213 lv214 lv215 lv216 lv217 lv218 lv219 lv220 lv221 lv222 lv223 lv224 lv225 lv226 lv227 lv228 lv229 lv230 lv231 lv232 lv233 lv234 lv235 lv236 lv237 lv238 lv239 lv240 lv241 lv242 lv243 lv244 lv245 lv246 lv247 lv248 lv249 lv250 lv251 lv252 lv253 lv254 lv255 lv256 lv257 lv258 lv259 lv260 lv261 lv262 lv263 lv264 lv265 lv266 lv267 lv268 lv269 lv270 lv271 lv272 lv273 lv274 : Value} {w wc : World} {B gm cm gn cn n m : Nat} {al ap ak : Option Addr} {cl cp ck nk : Nat} {L : List Fl} {PS : List (List UInt8)} {ga ca : Nat} {V : Nat → Value} {nn : Nat → Nat} {LL : Nat → List Fl} (X : Hid (FW B w wc (.slice al n cl) (.slice ap m cp) (.slice ak nk ck) gm cm gn cn n m L PS)) (SM : Hid (FSm L ∧ Sm PS)) (hnl : n ≤ 4194304) (hml : m ≤ 4194304) (NN : Hid (∀ i, i < 4 → nn i ≤ 4194304)) (HN : Hid (∀ i, i < 4 → (LL i).length = nn i)) (Q : Hid (Quad wc ga V)) (OV : Hid (∀ i, i < 4 → OwnF B wc (V i) (LL i))) :
    Code.wp Tryz.prog (suff 23 (Tryz.f3.body.getD .skip)) (bodyPost Tryz.prog Tryz.f3 (Good w)) ⟨(.slice al n cl :: .slice ap m cp :: lv2 :: lv3 :: lv4 :: .slice (some ⟨gm, 0, none⟩) (n + 2) cm :: .slice (some ⟨gn, 0, none⟩) (m + 2) cn :: .slice (some ⟨gm, 0, none⟩) n cm :: .slice (some ⟨gn, 0, none⟩) m cn :: lv9 :: lv10 :: lv11 :: lv12 :: .slice ak nk ck :: lv14 :: lv15 :: .slice (some ⟨ga, 0, none⟩) 4 ca :: .slice none 0 0 :: lv18 :: lv19 :: lv20 :: lv21 :: lv22 :: lv23 :: lv24 :: lv25 :: lv26 :: lv27 :: lv28 :: lv29 :: lv30 :: lv31 :: lv32 :: lv33 :: lv34 :: lv35 :: lv36 :: lv37 :: lv38 :: lv39 :: lv40 :: lv41 :: lv42 :: lv43 :: lv44 :: lv45 :: lv46 :: lv47 :: lv48 :: lv49 :: lv50 :: lv51 :: lv52 :: lv53 :: lv54 :: lv55 :: lv56 :: lv57 :: lv58 :: lv59 :: lv60 :: lv61 :: lv62 :: lv63 :: lv64 :: lv65 :: lv66 :: lv67 :: lv68 :: lv69 :: lv70 :: lv71 :: lv72 :: lv73 :: lv74 :: lv75 :: lv76 :: lv77 :: lv78 :: lv79 :: lv80 :: lv81 :: lv82 :: lv83 :: lv84 :: lv85 :: lv86 :: lv87 :: lv88 :: lv89 :: lv90 :: lv91 :: lv92 :: lv93 :: lv94 :: lv95 :: lv96 :: lv97 :: lv98 :: lv99 :: lv100 :: lv101 :: lv102 :: lv103 :: lv104 :: lv105 :: lv106 :: lv107 :: lv108 :: lv109 :: lv110 :: lv111 :: lv112 :: lv113 :: lv114 :: lv115 :: lv116 :: lv117 :: lv118 :: lv119 :: lv120 :: lv121 :: lv122 :: lv123 :: lv124 :: lv125 :: lv126 :: lv127 :: lv128 :: lv129 :: lv130 :: lv131 :: lv132 :: lv133 :: lv134 :: lv135 :: lv136 :: lv137 :: lv138 :: lv139 :: lv140 :: lv141 :: lv142 :: lv143 :: lv144 :: lv145 :: lv146 :: lv147 :: lv148 :: lv149 :: lv150 :: lv151 :: lv152 :: lv153 :: lv154 :: lv155 :: lv156 :: lv157 :: lv158 :: lv159 :: lv160 :: lv161 :: lv162 :: lv163 :: lv164 :: lv165 :: lv166 :: lv167 :: lv168 :: lv169 :: lv170 :: lv171 :: lv172 :: lv173 :: lv174 :: lv175 :: lv176 :: lv177 :: lv178 :: lv179 :: lv180 :: lv181 :: lv182 :: lv183 :: lv184 :: lv185 :: lv186 :: lv187 :: lv188 :: lv189 :: lv190 :: lv191 :: lv192 :: lv193 :: lv194 :: lv195 :: lv196 :: lv197 :: lv198 :: lv199 :: lv200 :: lv201 :: lv202 :: lv203 :: lv204 :: lv205 :: lv206 :: lv207 :: lv208 :: lv209 :: lv210 :: lv211 :: lv212 :: lv213 :: lv214 :: lv215 :: lv216 :: lv217 :: lv218 :: lv219 :: lv220 :: lv221 :: lv222 :: lv223 :: lv224 :: lv225 :: lv226 :: lv227 :: lv228 :: lv229 :: lv230 :: lv231 :: lv232 :: lv233 :: lv234 :: lv235 :: lv236 :: lv237 :: lv238 :: lv239 :: lv240 :: lv241 :: lv242 :: lv243 :: lv244 :: lv245 :: lv246 :: lv247 :: lv248 :: lv249 :: lv250 :: lv251 :: lv252 :: lv253 :: lv254 :: lv255 :: lv256 :: lv257 :: lv258 :: lv259 :: lv260 :: lv261 :: lv262 :: lv263 :: lv264 :: lv265 :: lv266 :: lv267 :: lv268 :: lv269 :: lv270 :: lv271 :: lv272 :: lv273 :: lv274 :: []).toArray, []⟩ wc := by
  conv => arg 2; whnf
  refine wp_seq_k fun K hK => ?_
  have HK : Hid _ := hK
  clear hK
  go_wp2_with fail
  go_loopw [21] (fun i wr => ∃ k : Nat, k ≤ 4 ∧ i = .int .i64 k ∧ Quad wr ga V ∧ Below B wc wr ∧ ∀ i, i < 4 → OwnF B wr (V i) (if i < k then List.replicate (nn i) (mkF i) else LL i)) (fun i _ => 4 - (intOf i).toNat)
  case atStart => exact ⟨0, by omega, rfl, Q.out, Below.refl _ _, fun i hi => by simpa using OV.out i hi⟩
  case round =>
    rename World => wo
    obtain ⟨k, hk, rfl, hq, hbw, hov⟩ := hrel
    have QO : Hid (Quad wo ga V) := hq
    have BO : Hid (Below B wc wo) := hbw
    have OO : Hid (∀ i, i < 4 → OwnF B wo (V i) (if i < k then List.replicate (nn i) (mkF i) else LL i)) := hov
    have hBo : B ≤ wo.heap.size := by have := hbw.size; have := X.out.big; omega
    clear hq hbw hov
    by_cases hlt : k < 4
    · have ho : OwnF B wo (V k) (LL k) := by have := OO.out k hlt; simpa using this
      have HVB : Hid (∀ x, x ∈ bl (V k) → B ≤ x) := fun x hx => (ho.lt (mem_bl.1 hx)).1
      have hgan : ga ∉ bl (V k) := fun e => QO.out.ne k hlt (mem_bl.1 e)
      obtain ⟨a, c, hv⟩ := ho.form
      obtain ⟨nv, hnv⟩ : ∃ nv, nn k = nv := ⟨_, rfl⟩
      have hlk : (LL k).length = nv := by rw [← hnv]; exact HN.out k hlt
      rw [hlk] at hv
      have HLK : Hid ((LL k).length = nv ∧ nn k = nv) := ⟨hlk, hnv⟩
      have HO : Hid (OwnF B wo (V k) (LL k)) := ho
      have HV : Hid (V k = .slice a nv c) := hv
      have hnvl : nv ≤ 4194304 := by rw [← hnv]; exact NN.out k hlt
      have k1 : (0 : Int) ≤ (k : Int) := by omega
      have k2 : (k : Int) < 4 := by omega
      clear ho hlk hnv hv
      go_wp2_with fail
      go_loopw [22] (fun i wr => ∃ j : Nat, j ≤ nv ∧ i = .int .i64 j ∧ Only (bl (V k)) wo wr ∧ OwnF B wr (V k) (List.replicate j (mkF k) ++ (LL k).drop j)) (fun i _ => nv - (intOf i).toNat)
      case atStart => exact ⟨0, by omega, rfl, Only.refl _ _, by simpa using HO.out⟩
      case round =>
        rename World => w2
        obtain ⟨j, hj, rfl, hon, how⟩ := hrel
        have HON : Hid (Only (bl (V k)) wo w2) := hon
        have HOW : Hid (OwnF B w2 (V k) (List.replicate j (mkF k) ++ (LL k).drop j)) := how
        have c1 : w2.cell? ⟨ga, k, none⟩ = some (.slice a nv c) := by rw [← HV.out]; exact (QO.out.only hon hgan).cell k hlt
        have hgal := (QO.out.only hon hgan).galt
        have hz := hon.size
        clear hon how
        by_cases hltj : j < nv
        · rcases HO.out.form' with ⟨_, h0⟩ | ⟨g, c', e, hle, hbg, hgl⟩
          · have := HLK.out.1; rw [h0] at this; simp at this; omega
          · rw [HV.out] at e
            injection e with e1 e2 e3
            subst e1
            subst e3
            clear e2
            have how := HOW.out
            rw [HV.out] at how
            have hlen : (List.replicate j (mkF k) ++ (LL k).drop j).length = nv := by have := HLK.out.1; simp; omega
            obtain ⟨⟨z0, z1, z2, z3⟩, ⟨y0, y1, y2, y3⟩, _, hgl2⟩ := own_cellF how j (by omega)
            have HGV : Hid (bl (V k) = [g]) := by rw [HV.out]; rfl
            obtain ⟨p, hp⟩ : ∃ p, (List.replicate j (mkF k) ++ (LL k).drop j)[j]'(by omega) = p := ⟨_, rfl⟩
            rw [hp] at z0 z1 z2 z3
            have HSET : Hid ((List.replicate j (mkF k) ++ (LL k).drop j).set j (mkF k) = List.replicate (j + 1) (mkF k) ++ (LL k).drop (j + 1)) := by
              have hjR : j < (LL k).length := by have := HLK.out.1; omega
              show _ = _
              rw [List.drop_eq_getElem_cons hjR, List.set_append_right _ _ (by simp), List.length_replicate, Nat.sub_self, List.set_cons_zero, List.replicate_succ', List.append_assoc]
              rfl
            have H5 : Hid (Only (bl (V k)) wo ((((w2.setCell ⟨g, j * 4, none⟩ (.string ⟨#[109, 97, 114, 107]⟩)).setCell ⟨g, j * 4 + 1, none⟩ (.string ⟨#[]⟩)).setCell ⟨g, j * 4 + 2, none⟩ (.int .i64 0)).setCell ⟨g, j * 4 + 3, none⟩ (.int .i64 (k : Int))) ∧ OwnF B ((((w2.setCell ⟨g, j * 4, none⟩ (.string ⟨#[109, 97, 114, 107]⟩)).setCell ⟨g, j * 4 + 1, none⟩ (.string ⟨#[]⟩)).setCell ⟨g, j * 4 + 2, none⟩ (.int .i64 0)).setCell ⟨g, j * 4 + 3, none⟩ (.int .i64 (k : Int))) (V k) (List.replicate (j + 1) (mkF k) ++ (LL k).drop (j + 1))) := by
              refine ⟨?_, ?_⟩
              · rw [HGV.out]
                have h0 := HON.out
                rw [HGV.out] at h0
                exact (((h0.trans (Only.set _ _ _ _)).trans (Only.set _ _ _ _)).trans (Only.set _ _ _ _)).trans (Only.set _ _ _ _)
              · rw [HV.out, ← HSET.out]
                exact own_setF how j (mkF k)
            have j1 : (0 : Int) ≤ (j : Int) := by omega
            have j2 : (j : Int) < (nv : Int) := by omega
            clear how hlen hp
            go_wp2_with fail
            go_roundw
            case rel => exact ⟨j + 1, by omega, by go_num, H5.out.1, H5.out.2⟩
            case measure => simp [intOf]; omega
        · obtain rfl : j = nv := by omega
          have hRd : (LL k).drop j = [] := List.drop_eq_nil_of_le (by have := HLK.out.1; omega)
          have hE : OwnF B w2 (V k) (List.replicate j (mkF k)) := by
            have := HOW.out
            rw [hRd, List.append_nil] at this
            exact this
          have R5 : Hid (Quad w2 ga V ∧ Below B wc w2 ∧ ∀ i, i < 4 → OwnF B w2 (V i) (if i < k + 1 then List.replicate (nn i) (mkF i) else LL i)) := by
            refine ⟨QO.out.only HON.out hgan, below_trans BO.out (HON.out.below hBo HVB.out), fun i hi => ?_⟩
            by_cases hik : i = k
            · subst hik
              rw [if_pos (by omega), HLK.out.2]; exact hE
            · have := (OO.out i hi).only HON.out (fun b hb e => QO.out.apart i k hi hlt hik b hb (mem_bl.1 e))
              by_cases hik2 : i < k
              · rw [if_pos hik2] at this
                rw [if_pos (by omega)]; exact this
              · rw [if_neg hik2] at this
                rw [if_neg (by omega)]; exact this
          have hjl2 : ¬ (j : Int) < (j : Int) := by omega
          clear hE hRd
          go_wp2_with fail
          go_roundw
          case rel => exact ⟨k + 1, by omega, by go_num, R5.out.1, R5.out.2.1, R5.out.2.2⟩
          case measure => simp [intOf]; omega
    · obtain rfl : k = 4 := by omega
      go_wp2_with fail
      refine HK.out _ _ ?_
      exact f30 (X.out.later BO.out) SM hnl hml NN QO (fun i hi => by have := OO.out i hi; rw [if_pos hi] at this; exact this)
end Go.Proofs.YtgibjnfaagnbfadGreatDoor
