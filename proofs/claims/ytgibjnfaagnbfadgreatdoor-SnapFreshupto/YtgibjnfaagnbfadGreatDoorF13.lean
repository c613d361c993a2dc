/-
  The look at fresh memory: the answers are the right ones.
-/
import Derived.Test.YtgibjnfaagnbfadGreatDoorF23
import Derived.Test.YtgibjnfaagnbfadGreatDoorFreshA
namespace Go.Proofs.YtgibjnfaagnbfadGreatDoor
open Go.RowKit

/-- what the answers are, in their order -/
def LLf (L : List Fl) (PS : List (List UInt8)) (R : List Fl) (i : Nat) : List Fl := if i % 2 = 0 then keep L PS else R
theorem LLf_even (L : List Fl) (PS : List (List UInt8)) (R : List Fl) (t : Nat) : LLf L PS R (2 * t) = keep L PS := by unfold LLf; rw [if_pos (by omega)]
theorem LLf_odd (L : List Fl) (PS : List (List UInt8)) (R : List Fl) (t : Nat) : LLf L PS R (2 * t + 1) = R := by unfold LLf; rw [if_neg (by omega)]
set_option maxRecDepth 100000 in
set_option maxHeartbeats 8000000 in
theorem f21 {lv2 lv3 lv4 lv9 lv10 lv11 lv12 lv15 lv18 lv19 lv20 lv21 lv22 lv23 lv24 lv25 lv26 lv27 lv28 lv29 lv30 lv31 lv32 lv33 lv34 lv35 lv36 lv37 lv38 lv39 lv40 lv41 lv42 lv43 lv44 lv45 lv46 lv47 lv48 lv49 lv50 lv51 lv52 lv53 lv54 lv55 lv56 lv57 lv58 lv59 lv60 lv61 lv62 lv63 lv64 lv65 lv66 lv67 lv68 lv69 lv70 lv71 lv72 lv73 lv74 lv75 lv76 lv77 lv78 lv79 lv80 lv81 lv82 lv83 lv84 lv85 lv86 lv87 lv88 lv89 lv90 lv91 lv92 lv93 lv94 lv95 lv96 lv97 lv98 lv99 lv100 lv101 lv102 lv103 lv104 lv105 lv106 lv107 lv108 lv109 lv110 lv111 lv112 lv113 lv114 lv115 lv116 lv117 lv118 lv119 lv120 lv121 lv122 lv123 lv124 lv125 lv126 lv127 lv128 lv129 lv130 lv131 lv132 lv133 lv134 lv135 lv136 lv137 lv138 lv139 lv140 lv141 lv142 lv143 lv144 lv145 lv146 lv147 lv148 lv149 lv150 lv151 lv152 lv153 lv154 lv155 lv156 lv157 lv158 lv159 lv160 lv161 lv162 lv163 lv164 lv165 lv166 lv167 lv168 lv169 lv170 lv171 lv172 lv173 lv174 lv175 lv176 lv177 lv178 lv179 lv180 lv181 lv182 lv183 lv184 lv185 lv186 lv187 lv188 lv189 lv190 lv191 lv192 lv193 lv194 lv195 lv196 lv197 lv198 lv199 lv200 lv201 lv202 lv203 lv204 lv205 lv206 lv207 lv208 lv209 lv210 lv211 lv212 lv213 lv214 lv215 lv216 lv217 lv218 lv219 lv220 lv221 lv222 lv223 lv224 lv225 lv226 lv227 lv228 lv229 lv230 lv231 lv232 lv233 lv234 lv235 lv236 lv237 lv238 lv239 lv240 lv241 lv242 lv243 lv244 lv245 lv246 lv247 lv248 lv249 lv250 lv251 lv252 lv253 lv254 lv255 lv256 lv257 lv258 lv259 lv260 lv261 lv262 lv263 lv264 lv265 lv266 lv267 lv268 lv269 lv270 lv271 lv272 lv273 lv274 : Value} {w wc : World} {B gm cm gn cn n m : Nat} {al ap ak : Option Addr} {cl cp ck nk : Nat} {L : List Fl} {PS : List (List UInt8)} {ga ca : Nat} {V : Nat → Value} {w0 : World} {R : List Fl} {ar : Option Addr} {nr cr : Nat} (X : Hid (FW B w wc (.slice al n cl) (.slice ap m cp) (.slice ak nk ck) gm cm gn cn n m L PS)) (SM : Hid (FSm L ∧ Sm PS)) (hnl : n ≤ 4194304) (hml : m ≤ 4194304) (A : Hid (A2 B w0 wc (.slice (some ⟨ga, 0, none⟩) 4 ca) 2 V (LLf L PS R))) (RR : Hid (FS wc (.slice ar nr cr) R ∧ FSm R)) :
    Code.wp Tryz.prog (suff 21 (Tryz.f3.body.getD .skip)) (bodyPost Tryz.prog Tryz.f3 (Good w)) ⟨(.slice al n cl :: .slice ap m cp :: lv2 :: lv3 :: lv4 :: .slice (some ⟨gm, 0, none⟩) (n + 2) cm :: .slice (some ⟨gn, 0, none⟩) (m + 2) cn :: .slice (some ⟨gm, 0, none⟩) n cm :: .slice (some ⟨gn, 0, none⟩) m cn :: lv9 :: lv10 :: lv11 :: lv12 :: .slice ak nk ck :: .slice ar nr cr :: lv15 :: .slice (some ⟨ga, 0, none⟩) 4 ca :: .slice none 0 0 :: lv18 :: lv19 :: lv20 :: lv21 :: lv22 :: lv23 :: lv24 :: lv25 :: lv26 :: lv27 :: lv28 :: lv29 :: lv30 :: lv31 :: lv32 :: lv33 :: lv34 :: lv35 :: lv36 :: lv37 :: lv38 :: lv39 :: lv40 :: lv41 :: lv42 :: lv43 :: lv44 :: lv45 :: lv46 :: lv47 :: lv48 :: lv49 :: lv50 :: lv51 :: lv52 :: lv53 :: lv54 :: lv55 :: lv56 :: lv57 :: lv58 :: lv59 :: lv60 :: lv61 :: lv62 :: lv63 :: lv64 :: lv65 :: lv66 :: lv67 :: lv68 :: lv69 :: lv70 :: lv71 :: lv72 :: lv73 :: lv74 :: lv75 :: lv76 :: lv77 :: lv78 :: lv79 :: lv80 :: lv81 :: lv82 :: lv83 :: lv84 :: lv85 :: lv86 :: lv87 :: lv88 :: lv89 :: lv90 :: lv91 :: lv92 :: lv93 :: lv94 :: lv95 :: lv96 :: lv97 :: lv98 :: lv99 :: lv100 :: lv101 :: lv102 :: lv103 :: lv104 :: lv105 :: lv106 :: lv107 :: lv108 :: lv109 :: lv110 :: lv111 :: lv112 :: lv113 :: lv114 :: lv115 :: lv116 :: lv117 :: lv118 :: lv119 :: lv120 :: lv121 :: lv122 :: lv123 :: lv124 :: lv125 :: lv126 :: lv127 :: lv128 :: lv129 :: lv130 :: lv131 :: lv132 :: lv133 :: lv134 :: lv135 :: lv136 :: lv137 :: lv138 :: lv139 :: lv140 :: lv141 :: lv142 :: lv143 :: lv144 :: lv145 :: lv146 :: lv147 :: lv148 :: lv149 :: lv150 :: lv151 :: lv152 :: lv153 :: lv154 :: lv155 :: lv156 :: lv157 :: lv158 :: lv159 :: lv160 :: lv161 :: lv162 :: lv163 :: lv164 :: lv165 :: lv166 :: lv167 :: lv168 :: lv169 :: lv170 :: lv171 :: lv172 :: lv173 :: lv174 :: lv175 :: lv176 :: lv177 :: lv178 :: lv179 :: lv180 :: lv181 :: lv182 :: lv183 :: lv184 :: lv185 :: lv186 :: lv187 :: lv188 :: lv189 :: lv190 :: lv191 :: lv192 :: lv193 :: lv194 :: lv195 :: lv196 :: lv197 :: lv198 :: lv199 :: lv200 :: lv201 :: lv202 :: lv203 :: lv204 :: lv205 :: lv206 :: lv207 :: lv208 :: lv209 :: lv210 :: lv211 :: lv212 :: lv213 :: lv214 :: lv215 :: lv216 :: lv217 :: lv218 :: lv219 :: lv220 :: lv221 :: lv222 :: lv223 :: lv224 :: lv225 :: lv226 :: lv227 :: lv228 :: lv229 :: lv230 :: lv231 :: lv232 :: lv233 :: lv234 :: lv235 :: lv236 :: lv237 :: lv238 :: lv239 :: lv240 :: lv241 :: lv242 :: lv243 :: lv244 :: lv245 :: lv246 :: lv247 :: lv248 :: lv249 :: lv250 :: lv251 :: lv252 :: lv253 :: lv254 :: lv255 :: lv256 :: lv257 :: lv258 :: lv259 :: lv260 :: lv261 :: lv262 :: lv263 :: lv264 :: lv265 :: lv266 :: lv267 :: lv268 :: lv269 :: lv270 :: lv271 :: lv272 :: lv273 :: lv274 :: []).toArray, []⟩ wc := by
  conv => arg 2; whnf
  refine wp_seq_k fun K hK => ?_
  have HK : Hid _ := hK
  clear hK
  have HB0 : Hid (Below wc.heap.size wc wc) := Below.refl _ _

  have c0 := (A.out.quad.later HB0.out).cell 0 (by omega)
  go_wp2_with fail
  refine (ksame_any (((A.out.own 0 (by omega)).fs).later HB0.out) (X.out.kept.later HB0.out) (SM.out.1.keep PS)).mono ?_
  rintro e w1 ⟨rfl, hb⟩
  rw [show LLf L PS R 0 = keep L PS from rfl, leq_self]
  have HB1 : Hid (Below wc.heap.size wc w1) := bstep HB0.out hb
  clear hb c0

  have c2 := (A.out.quad.later HB1.out).cell 2 (by omega)
  go_wp2_with fail
  refine (ksame_any (((A.out.own 2 (by omega)).fs).later HB1.out) (X.out.kept.later HB1.out) (SM.out.1.keep PS)).mono ?_
  rintro e w2 ⟨rfl, hb⟩
  rw [show LLf L PS R 2 = keep L PS from rfl, leq_self]
  have HB2 : Hid (Below wc.heap.size wc w2) := bstep HB1.out hb
  clear hb c2

  have c1 := (A.out.quad.later HB2.out).cell 1 (by omega)
  go_wp2_with fail
  refine (ksame_any (((A.out.own 1 (by omega)).fs).later HB2.out) (RR.out.1.later HB2.out) RR.out.2).mono ?_
  rintro e w3 ⟨rfl, hb⟩
  rw [show LLf L PS R 1 = R from rfl, leq_self]
  have HB3 : Hid (Below wc.heap.size wc w3) := bstep HB2.out hb
  clear hb c1

  have c3 := (A.out.quad.later HB3.out).cell 3 (by omega)
  go_wp2_with fail
  refine (ksame_any (((A.out.own 3 (by omega)).fs).later HB3.out) (RR.out.1.later HB3.out) RR.out.2).mono ?_
  rintro e w4 ⟨rfl, hb⟩
  rw [show LLf L PS R 3 = R from rfl, leq_self]
  have HB4 : Hid (Below wc.heap.size wc w4) := bstep HB3.out hb
  clear hb c3

  go_wp2_with fail
  refine HK.out _ _ ?_
  exact f23 (nn := fun i => (LLf L PS R i).length) (LL := LLf L PS R) (X.out.later (below_mono HB4.out X.out.big)) SM hnl hml (fun i hi => by
    show (LLf L PS R i).length ≤ _
    unfold LLf
    split
    · exact (SM.out.1.keep PS).len
    · exact RR.out.2.len) (fun i hi => rfl) (A.out.quad.later HB4.out) (fun i hi => (A.out.own i (by omega)).later HB4.out)

set_option maxRecDepth 100000 in
set_option maxHeartbeats 8000000 in
theorem f13 {lv2 lv3 lv4 lv10 lv11 lv12 lv15 lv18 lv19 lv20 lv21 lv22 lv23 lv24 lv25 lv26 lv27 lv28 lv29 lv30 lv31 lv32 lv33 lv34 lv35 lv36 lv37 lv38 lv39 lv40 lv41 lv42 lv43 lv44 lv45 lv46 lv47 lv48 lv49 lv50 lv51 lv52 lv53 lv54 lv55 lv56 lv57 lv58 lv59 lv60 lv61 lv62 lv63 lv64 lv65 lv66 lv67 lv68 lv69 lv70 lv71 lv72 lv73 lv74 lv75 lv76 lv77 lv78 lv79 lv80 lv81 lv82 lv83 lv84 lv85 lv86 lv87 lv88 lv89 lv90 lv91 lv92 lv93 lv94 lv95 lv96 lv97 lv98 lv99 lv100 lv101 lv102 lv103 lv104 lv105 lv106 lv107 lv108 lv109 lv110 lv111 lv112 lv113 lv114 lv115 lv116 lv117 lv118 lv119 lv120 lv121 lv122 lv123 lv124 lv125 lv126 lv127 lv128 lv129 lv130 lv131 lv132 lv133 lv134 lv135 lv136 lv137 lv138 lv139 lv140 lv141 lv142 lv143 lv144 lv145 lv146 lv147 lv148 lv149 lv150 lv151 lv152 lv153 lv154 lv155 lv156 lv157 lv158 lv159 lv160 lv161 lv162 lv163 lv164 lv165 lv166 lv167 lv168 lv169 lv170 lv171 lv172 lv173 lv174 lv175 lv176 lv177 lv178 lv179 lv180 lv181 lv182 lv183 lv184 lv185 lv186 lv187 lv188 lv189 lv190 lv191 lv192 lv193 lv194 lv195 lv196 lv197 lv198 lv199 lv200 lv201 lv202 lv203 lv204 lv205 lv206 lv207 lv208 lv209 lv210 lv211 lv212 lv213 lv214 lv215 lv216 lv217 lv218 lv219 lv220 lv221 lv222 lv223 lv224 lv225 lv226 lv227 lv228 lv229 lv230 lv231 lv232 lv233 lv234 lv235 lv236 lv237 lv238 lv239 lv240 lv241 lv242 lv243 lv244 lv245 lv246 lv247 lv248 lv249 lv250 lv251 lv252 lv253 lv254 lv255 lv256 lv257 lv258 lv259 lv260 lv261 lv262 lv263 lv264 lv265 lv266 lv267 lv268 lv269 lv270 lv271 lv272 lv273 lv274 : Value} {w wc : World} {B gm cm gn cn n m : Nat} {al ap ak : Option Addr} {cl cp ck nk : Nat} {L : List Fl} {PS : List (List UInt8)} {s : List UInt8} {R : List Fl} {C : Int} {ar : Option Addr} {nr cr : Nat} (X : Hid (FW B w wc (.slice al n cl) (.slice ap m cp) (.slice ak nk ck) gm cm gn cn n m L PS)) (SM : Hid (FSm L ∧ Sm PS)) (hnl : n ≤ 4194304) (hml : m ≤ 4194304) (hBe : wc.heap.size = B) (E : Hid (Env w)) (KR : Hid (∀ W : World, Env W → Calls Tryz.prog 12 #[.string (bs s)] W fun e w' => ∃ v, e = .returned (.tuple #[v, .int .i64 C]) ∧ OwnF W.heap.size w' v R ∧ Below W.heap.size W w')) (RR : Hid (FS wc (.slice ar nr cr) R ∧ FSm R)) :
    Code.wp Tryz.prog (suff 13 (Tryz.f3.body.getD .skip)) (bodyPost Tryz.prog Tryz.f3 (Good w)) ⟨(.slice al n cl :: .slice ap m cp :: lv2 :: lv3 :: lv4 :: .slice (some ⟨gm, 0, none⟩) (n + 2) cm :: .slice (some ⟨gn, 0, none⟩) (m + 2) cn :: .slice (some ⟨gm, 0, none⟩) n cm :: .slice (some ⟨gn, 0, none⟩) m cn :: .string (bs s) :: lv10 :: lv11 :: lv12 :: .slice ak nk ck :: .slice ar nr cr :: lv15 :: .slice none 0 0 :: .slice none 0 0 :: lv18 :: lv19 :: lv20 :: lv21 :: lv22 :: lv23 :: lv24 :: lv25 :: lv26 :: lv27 :: lv28 :: lv29 :: lv30 :: lv31 :: lv32 :: lv33 :: lv34 :: lv35 :: lv36 :: lv37 :: lv38 :: lv39 :: lv40 :: lv41 :: lv42 :: lv43 :: lv44 :: lv45 :: lv46 :: lv47 :: lv48 :: lv49 :: lv50 :: lv51 :: lv52 :: lv53 :: lv54 :: lv55 :: lv56 :: lv57 :: lv58 :: lv59 :: lv60 :: lv61 :: lv62 :: lv63 :: lv64 :: lv65 :: lv66 :: lv67 :: lv68 :: lv69 :: lv70 :: lv71 :: lv72 :: lv73 :: lv74 :: lv75 :: lv76 :: lv77 :: lv78 :: lv79 :: lv80 :: lv81 :: lv82 :: lv83 :: lv84 :: lv85 :: lv86 :: lv87 :: lv88 :: lv89 :: lv90 :: lv91 :: lv92 :: lv93 :: lv94 :: lv95 :: lv96 :: lv97 :: lv98 :: lv99 :: lv100 :: lv101 :: lv102 :: lv103 :: lv104 :: lv105 :: lv106 :: lv107 :: lv108 :: lv109 :: lv110 :: lv111 :: lv112 :: lv113 :: lv114 :: lv115 :: lv116 :: lv117 :: lv118 :: lv119 :: lv120 :: lv121 :: lv122 :: lv123 :: lv124 :: lv125 :: lv126 :: lv127 :: lv128 :: lv129 :: lv130 :: lv131 :: lv132 :: lv133 :: lv134 :: lv135 :: lv136 :: lv137 :: lv138 :: lv139 :: lv140 :: lv141 :: lv142 :: lv143 :: lv144 :: lv145 :: lv146 :: lv147 :: lv148 :: lv149 :: lv150 :: lv151 :: lv152 :: lv153 :: lv154 :: lv155 :: lv156 :: lv157 :: lv158 :: lv159 :: lv160 :: lv161 :: lv162 :: lv163 :: lv164 :: lv165 :: lv166 :: lv167 :: lv168 :: lv169 :: lv170 :: lv171 :: lv172 :: lv173 :: lv174 :: lv175 :: lv176 :: lv177 :: lv178 :: lv179 :: lv180 :: lv181 :: lv182 :: lv183 :: lv184 :: lv185 :: lv186 :: lv187 :: lv188 :: lv189 :: lv190 :: lv191 :: lv192 :: lv193 :: lv194 :: lv195 :: lv196 :: lv197 :: lv198 :: lv199 :: lv200 :: lv201 :: lv202 :: lv203 :: lv204 :: lv205 :: lv206 :: lv207 :: lv208 :: lv209 :: lv210 :: lv211 :: lv212 :: lv213 :: lv214 :: lv215 :: lv216 :: lv217 :: lv218 :: lv219 :: lv220 :: lv221 :: lv222 :: lv223 :: lv224 :: lv225 :: lv226 :: lv227 :: lv228 :: lv229 :: lv230 :: lv231 :: lv232 :: lv233 :: lv234 :: lv235 :: lv236 :: lv237 :: lv238 :: lv239 :: lv240 :: lv241 :: lv242 :: lv243 :: lv244 :: lv245 :: lv246 :: lv247 :: lv248 :: lv249 :: lv250 :: lv251 :: lv252 :: lv253 :: lv254 :: lv255 :: lv256 :: lv257 :: lv258 :: lv259 :: lv260 :: lv261 :: lv262 :: lv263 :: lv264 :: lv265 :: lv266 :: lv267 :: lv268 :: lv269 :: lv270 :: lv271 :: lv272 :: lv273 :: lv274 :: []).toArray, []⟩ wc := by
  conv => arg 2; whnf
  refine wp_seq_k fun K hK => ?_
  have HK : Hid _ := hK
  clear hK
  go_wp2_with fail
  go_loopw [16, 18] (fun v i wr => ∃ (t : Nat) (V : Nat → Value), t ≤ 2 ∧ i = .int .i64 t ∧ A2 B wc wr v t V (LLf L PS R)) (fun _ i _ => 2 - (intOf i).toNat)
  case atStart => exact ⟨0, fun _ => .slice none 0 0, by omega, rfl, ⟨World.ownsRow_nil _ _ _ _, fun i hi => by omega, fun i j hi => by omega, fun i hi => by omega, Below.refl _ _, X.out.big⟩⟩
  case round =>
    rename World => wo
    obtain ⟨t, V, ht, rfl, ha⟩ := hrel
    have A : Hid (A2 B wc wo u16 t V (LLf L PS R)) := ha
    have XO : Hid (FW B w wo (.slice al n cl) (.slice ap m cp) (.slice ak nk ck) gm cm gn cn n m L PS) := X.out.later ha.below
    clear ha
    by_cases hlt : t < 2
    · have t2 : (t : Int) < 2 := by omega
      have hBo : B ≤ wo.heap.size := A.out.big
      go_wp2_with fail
      refine (valid2_any XO.out.a SM.out.1).mono ?_
      rintro e w1 ⟨rfl, hb⟩
      have B1 : Hid (Below wo.heap.size wo w1) := hb
      clear hb
      go_wp2_with fail
      refine (find_any [97] (XO.out.a.later B1.out) SM.out.1).mono ?_
      rintro e w2 ⟨rfl, hb⟩
      have B2 : Hid (Below wo.heap.size wo w2) := bstep B1.out hb
      clear hb B1
      generalize (fopt (fnd L [97])).val = fv
      generalize (fnd L [97]).isSome = fk
      go_wp2_with fail
      refine (same_any (XO.out.a.later B2.out) (XO.out.fl.later B2.out) SM.out.1).mono ?_
      rintro e w3 ⟨rfl, hb⟩
      rw [leq_self]
      have B3 : Hid (Below wo.heap.size wo w3) := bstep B2.out hb
      clear hb B2
      go_wp2_with fail
      refine (KR.out w3 (E.out.later (bstep XO.out.below B3.out))).mono ?_
      rintro e w4 ⟨r, rfl, hor, hb⟩
      obtain ⟨a4, c4, e4⟩ := hor.form
      obtain ⟨n4, hn4⟩ : ∃ n4, R.length = n4 := ⟨_, rfl⟩
      rw [hn4] at e4
      subst e4
      have B4 : Hid (Below wo.heap.size wo w4 ∧ OwnF w3.heap.size w4 (.slice a4 n4 c4) R ∧ wo.heap.size ≤ w3.heap.size ∧ Below w3.heap.size w3 w4) := ⟨bstep B3.out hb, hor, B3.out.size, hb⟩
      clear hb B3 hor hn4
      go_wp2_with fail
      refine (keep_any (XO.out.a.later B4.out.1) (XO.out.b.later B4.out.1) SM.out.1 SM.out.2).mono ?_
      rintro e w5 ⟨kp, rfl, hok, hb⟩
      obtain ⟨a5, c5, e5⟩ := hok.form
      obtain ⟨n5, hn5⟩ : ∃ n5, (keep L PS).length = n5 := ⟨_, rfl⟩
      rw [hn5] at e5
      subst e5
      have hz5 : wo.heap.size ≤ w5.heap.size := by have := B4.out.1.size; have := hb.size; omega
      have B5 : Hid (Below wo.heap.size wo w5 ∧ OwnF wo.heap.size w5 (.slice a5 n5 c5) (LLf L PS R (2 * t)) ∧ OwnF wo.heap.size w5 (.slice a4 n4 c4) (LLf L PS R (2 * t + 1)) ∧ (∀ g, (Value.slice a5 n5 c5).ownBlock = some g → (Value.slice a4 n4 c4).ownBlock ≠ some g)) := by
        rw [LLf_even, LLf_odd]
        refine ⟨bstep B4.out.1 hb, hok.mono B4.out.1.size, (B4.out.2.1.later hb).mono B4.out.2.2.1, fun g hg e => ?_⟩
        have := (hok.lt hg).1
        have := (B4.out.2.1.lt e).2
        omega
      have HR5 : Hid (w5.ownsRow B 22 1 u16 (2 * t) ((List.range (2 * t)).map V)) := row_only (S := []) A.out.row (Only.of_below B5.out.1 []) (by simp)
      have HOC : Hid (∀ u ∈ [Value.slice a5 n5 c5, Value.slice a4 n4 c4], u.oneCell' = true) := fun u hu => by
        rcases List.mem_cons.1 hu with rfl | hu
        · rfl
        · rw [List.mem_singleton.1 hu]; rfl
      clear hb hok hn5
      go_wp2_with (at_builtin; refine app_vals (base := B) (k := 2 * t) (xs := (List.range (2 * t)).map V) [.slice a5 n5 c5, .slice a4 n4 c4] HOC.out HR5.out (by simp; omega) (by omega) rfl (.tmp 92) (.tmp 97) rfl rfl rfl ?_; intro v7 w7 hr7 hg7 hw7)
      have A7 : Hid (A2 B wc w7 v7 (t + 1) (fun i => if i = 2 * t then .slice a5 n5 c5 else if i = 2 * t + 1 then .slice a4 n4 c4 else V i) (LLf L PS R)) := a2_next A.out B5.out.1 B5.out.2.1 B5.out.2.2.1 B5.out.2.2.2 hr7 hg7 hw7
      clear hr7 hg7 hw7
      go_wp2_with fail
      go_roundw
      case rel => exact ⟨t + 1, _, by omega, by go_num, A7.out⟩
      case measure => simp [intOf]; omega
    · obtain rfl : t = 2 := by omega
      have hm := A.out.row
      rcases hm.2 with ⟨_, h0⟩ | ⟨ga, ca, cur, e, _⟩
      · exact absurd h0 (by omega)
      · rw [show 2 * 2 = 4 from rfl] at e
        subst e
        clear hm
        go_wp2_with fail
        refine HK.out _ _ ?_
        exact f21 XO SM hnl hml A ⟨RR.out.1.later (below_mono A.out.below (by omega)), RR.out.2⟩
end Go.Proofs.YtgibjnfaagnbfadGreatDoor
