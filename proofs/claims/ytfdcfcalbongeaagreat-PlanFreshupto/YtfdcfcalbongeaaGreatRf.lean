/-
  The look at fresh memory (plan): what is marked, looked at.
-/
import Derived.Test.YtfdcfcalbongeaaGreatRe
namespace Go.Proofs.YtfdcfcalbongeaaGreat
open Go.RowKit
attribute [local go_sem] Oper.semAt_some

def mkO : List UInt8 := [109, 97, 114, 107, 32, 111, 110, 101]
def mkT : List UInt8 := [109, 97, 114, 107, 32, 116, 119, 111]
/-- n elements of sz cells, each with u ahead -/
def SeeR (W : World) (v : Value) (n sz : Nat) (u : Value) : Prop := ∃ a c, v = .slice a n c ∧ ∀ j, j < n → ∃ g off, a = some ⟨g, off, none⟩ ∧ g < W.heap.size ∧ W.cell? ⟨g, off + j * sz, none⟩ = some u
theorem OwR.see {e : TypeId} {k base n : Nat} {w : World} {v u : Value} {c : List Value} (h : OwR e k base w v n (rep n c)) (hc : c.length = k) (hk : 0 < k) (hu : c[0]? = some u) : SeeR w v n k u := by
  rcases h.2 with ⟨rfl, rfl⟩ | ⟨g, off, cap, cur, rfl, h2, h3, h4, h5, h6, h7⟩
  · exact ⟨_, _, rfl, fun j hj => by omega⟩
  · refine ⟨_, _, rfl, fun j hj => ⟨g, off, rfl, (Array.getElem?_eq_some_iff.1 h3).1, ?_⟩⟩
    rw [cell_blkR h3]
    have := rep_at hc hj hk
    rw [Nat.add_zero, hu] at this
    exact h7 _ u this
theorem SeeR.later {W W' : World} {v u : Value} {n sz : Nat} (h : SeeR W v n sz u) (hb : Below W.heap.size W W') : SeeR W' v n sz u := by
  obtain ⟨a, c, e, hc⟩ := h
  refine ⟨a, c, e, fun j hj => ?_⟩
  obtain ⟨g, off, e1, e2, e3⟩ := hc j hj
  exact ⟨g, off, e1, Nat.lt_of_lt_of_le e2 hb.size, (hb.cell (p := ⟨g, off + j * sz, none⟩) e2).trans e3⟩
theorem SeeR.at {W W' : World} {a : Option Addr} {n c sz j : Nat} {u : Value} (h : SeeR W (.slice a n c) n sz u) (hb : Below W.heap.size W W') (hj : j < n) : ∃ g off, a = some ⟨g, off, none⟩ ∧ W'.cell? ⟨g, off + j * sz, none⟩ = some u := by
  obtain ⟨a', c', e, hc⟩ := h
  injection e with e1 _ _
  subst e1
  obtain ⟨g, off, e1, e2, e3⟩ := hc j hj
  exact ⟨g, off, e1, (hb.cell (p := ⟨g, off + j * sz, none⟩) e2).trans e3⟩
set_option maxRecDepth 100000 in
set_option maxHeartbeats 16000000 in
theorem pf53 {lv2 lv3 lv4 lv7 lv8 lv11 lv12 lv13 lv14 lv15 lv16 lv18 lv20 lv21 lv22 lv23 lv24 lv25 lv26 lv29 lv30 lv31 lv32 lv33 lv34 lv35 lv36 lv37 lv38 lv39 lv40 lv41 lv42 lv43 lv44 lv45 lv46 lv47 lv48 lv49 lv50 lv51 lv52 lv53 lv54 lv55 lv56 lv57 lv58 lv59 lv60 lv61 lv62 lv63 lv64 lv65 lv66 lv67 lv68 lv69 lv70 lv71 lv72 lv73 lv74 lv75 lv76 lv77 lv78 lv79 lv80 lv81 lv82 lv83 lv84 lv85 lv86 lv87 lv88 lv89 lv90 lv91 lv92 lv93 lv94 lv95 lv96 lv97 lv98 lv99 lv100 lv101 lv102 lv103 lv104 lv105 lv106 lv107 lv108 lv109 lv110 lv111 lv112 lv113 lv114 lv115 lv116 lv117 lv118 lv119 lv120 lv121 lv122 lv123 lv124 lv125 lv126 lv127 lv128 lv129 lv130 lv131 lv132 lv133 lv134 lv135 lv136 lv137 lv138 lv139 lv140 lv141 lv142 lv143 lv144 lv145 lv146 lv147 lv148 lv149 lv150 lv151 lv152 lv153 lv154 lv155 lv156 lv157 lv158 lv159 lv160 lv161 lv162 lv163 lv164 lv165 lv166 lv167 lv168 lv169 lv170 lv171 lv172 lv173 lv174 lv175 lv176 lv177 lv178 lv179 lv180 lv181 lv182 lv183 lv184 lv185 lv186 lv187 lv188 lv189 lv190 lv191 lv192 lv193 lv194 lv195 lv196 lv197 lv198 lv199 lv200 lv201 lv202 lv203 lv204 lv205 lv206 lv207 lv208 lv209 lv210 lv211 lv212 lv213 lv214 lv215 lv216 lv217 lv218 lv219 lv220 lv221 lv222 lv223 lv224 lv225 lv226 lv227 lv228 lv229 lv230 lv231 lv232 lv233 lv234 lv235 lv236 lv237 lv238 lv239 lv240 lv241 lv242 lv243 lv244 lv245 lv246 lv247 lv248 lv249 lv250 lv251 lv252 lv253 lv254 lv255 lv256 lv257 lv258 lv259 lv260 lv261 lv262 lv263 lv264 lv265 lv266 lv267 lv268 lv269 lv270 lv271 lv272 lv273 lv274 lv275 lv276 lv277 lv278 lv279 lv280 lv281 lv282 lv283 lv284 lv285 lv286 lv287 lv288 lv289 lv290 lv291 lv292 lv293 lv294 lv295 lv296 lv297 lv298 lv299 lv300 lv301 lv302 lv303 lv304 lv305 lv306 lv307 lv308 lv309 lv310 lv311 lv312 lv313 lv314 lv315 lv316 lv317 lv318 lv319 lv320 lv321 lv322 lv323 lv324 lv325 lv326 lv327 lv328 lv329 lv330 lv331 lv332 lv333 lv334 lv335 lv336 lv337 lv338 lv339 lv340 lv341 lv342 lv343 lv344 lv345 lv346 lv347 lv348 lv349 lv350 lv351 lv352 lv353 lv354 lv355 lv356 lv357 lv358 lv359 lv360 lv361 lv362 lv363 lv364 lv365 lv366 lv367 lv368 lv369 lv370 lv371 lv372 lv373 lv374 lv375 lv376 lv377 lv378 lv379 lv380 lv381 lv382 lv383 lv384 lv385 lv386 lv387 lv388 lv389 lv390 lv391 lv392 lv393 lv394 lv395 lv396 lv397 lv398 lv399 lv400 lv401 lv402 lv403 lv404 lv405 lv406 lv407 lv408 lv409 lv410 lv411 lv412 lv413 lv414 lv415 lv416 lv417 lv418 lv419 lv420 lv421 lv422 lv423 lv424 lv425 lv426 lv427 lv428 lv429 lv430 lv431 lv432 lv433 lv434 lv435 lv436 lv437 lv438 lv439 lv440 lv441 lv442 lv443 lv444 lv445 lv446 lv447 lv448 lv449 lv450 lv451 lv452 lv453 lv454 lv455 lv456 lv457 lv458 lv459 : Value} (C : PcP) {w W : World} {oa na : Option Addr} {no oc nn nc go oq gn nq : Nat} {vw : Value} {m : Int} {old now : List Fl} (HE : Hid (FE w W oa na no oc nn nc go oq gn nq old now now)) (HW : Hid (OwS w.heap.size W vw (mkA old now))) (Hm : Hid (mkE old now = m)) (HZ : Hid (Fsz old ∧ Fsz now)) (hno : no ≤ 1500000) (hnn : nn ≤ 1500000) {pa qa ra sa : Option Addr} {pn pc qc rc sc : Nat} (HP : Hid (SeeR W (.slice pa pn pc) pn 1 (.string (bs mkO)) ∧ SeeR W (.slice qa pn qc) pn 1 (.string (bs mkT)) ∧ SeeR W (.slice ra (pn + 16) rc) (pn + 16) 1 (.string (bs mkO)) ∧ SeeR W (.slice sa (pn + 16) sc) (pn + 16) 1 (.string (bs mkT)))) (hpn : pn ≤ 4000000) :
    Code.wp Tryz.prog (suff 53 (Tryz.f3.body.getD .skip)) (bodyPost Tryz.prog Tryz.f3 (Good w)) ⟨#[.slice oa no oc, .slice na nn nc, lv2, lv3, lv4, vw, .int .i64 m, lv7, lv8, .slice (some ⟨go, 0, none⟩) (no + 2) oq, .slice (some ⟨gn, 0, none⟩) (nn + 2) nq, lv11, lv12, lv13, lv14, lv15, lv16, .slice pa pn pc, lv18, .slice qa pn qc, lv20, lv21, lv22, lv23, lv24, lv25, lv26, .slice ra (pn + 16) rc, .slice sa (pn + 16) sc, lv29, lv30, lv31, lv32, lv33, lv34, lv35, lv36, lv37, lv38, lv39, lv40, lv41, lv42, lv43, lv44, lv45, lv46, lv47, lv48, lv49, lv50, lv51, lv52, lv53, lv54, lv55, lv56, lv57, lv58, lv59, lv60, lv61, lv62, lv63, lv64, lv65, lv66, lv67, lv68, lv69, lv70, lv71, lv72, lv73, lv74, lv75, lv76, lv77, lv78, lv79, lv80, lv81, lv82, lv83, lv84, lv85, lv86, lv87, lv88, lv89, lv90, lv91, lv92, lv93, lv94, lv95, lv96, lv97, lv98, lv99, lv100, lv101, lv102, lv103, lv104, lv105, lv106, lv107, lv108, lv109, lv110, lv111, lv112, lv113, lv114, lv115, lv116, lv117, lv118, lv119, lv120, lv121, lv122, lv123, lv124, lv125, lv126, lv127, lv128, lv129, lv130, lv131, lv132, lv133, lv134, lv135, lv136, lv137, lv138, lv139, lv140, lv141, lv142, lv143, lv144, lv145, lv146, lv147, lv148, lv149, lv150, lv151, lv152, lv153, lv154, lv155, lv156, lv157, lv158, lv159, lv160, lv161, lv162, lv163, lv164, lv165, lv166, lv167, lv168, lv169, lv170, lv171, lv172, lv173, lv174, lv175, lv176, lv177, lv178, lv179, lv180, lv181, lv182, lv183, lv184, lv185, lv186, lv187, lv188, lv189, lv190, lv191, lv192, lv193, lv194, lv195, lv196, lv197, lv198, lv199, lv200, lv201, lv202, lv203, lv204, lv205, lv206, lv207, lv208, lv209, lv210, lv211, lv212, lv213, lv214, lv215, lv216, lv217, lv218, lv219, lv220, lv221, lv222, lv223, lv224, lv225, lv226, lv227, lv228, lv229, lv230, lv231, lv232, lv233, lv234, lv235, lv236, lv237, lv238, lv239, lv240, lv241, lv242, lv243, lv244, lv245, lv246, lv247, lv248, lv249, lv250, lv251, lv252, lv253, lv254, lv255, lv256, lv257, lv258, lv259, lv260, lv261, lv262, lv263, lv264, lv265, lv266, lv267, lv268, lv269, lv270, lv271, lv272, lv273, lv274, lv275, lv276, lv277, lv278, lv279, lv280, lv281, lv282, lv283, lv284, lv285, lv286, lv287, lv288, lv289, lv290, lv291, lv292, lv293, lv294, lv295, lv296, lv297, lv298, lv299, lv300, lv301, lv302, lv303, lv304, lv305, lv306, lv307, lv308, lv309, lv310, lv311, lv312, lv313, lv314, lv315, lv316, lv317, lv318, lv319, lv320, lv321, lv322, lv323, lv324, lv325, lv326, lv327, lv328, lv329, lv330, lv331, lv332, lv333, lv334, lv335, lv336, lv337, lv338, lv339, lv340, lv341, lv342, lv343, lv344, lv345, lv346, lv347, lv348, lv349, lv350, lv351, lv352, lv353, lv354, lv355, lv356, lv357, lv358, lv359, lv360, lv361, lv362, lv363, lv364, lv365, lv366, lv367, lv368, lv369, lv370, lv371, lv372, lv373, lv374, lv375, lv376, lv377, lv378, lv379, lv380, lv381, lv382, lv383, lv384, lv385, lv386, lv387, lv388, lv389, lv390, lv391, lv392, lv393, lv394, lv395, lv396, lv397, lv398, lv399, lv400, lv401, lv402, lv403, lv404, lv405, lv406, lv407, lv408, lv409, lv410, lv411, lv412, lv413, lv414, lv415, lv416, lv417, lv418, lv419, lv420, lv421, lv422, lv423, lv424, lv425, lv426, lv427, lv428, lv429, lv430, lv431, lv432, lv433, lv434, lv435, lv436, lv437, lv438, lv439, lv440, lv441, lv442, lv443, lv444, lv445, lv446, lv447, lv448, lv449, lv450, lv451, lv452, lv453, lv454, lv455, lv456, lv457, lv458, lv459], []⟩ W := by
  conv => arg 2; whnf
  refine wp_seq_k fun KK hKK => ?_
  have HK_ : Hid _ := hKK
  clear hKK
  go_wp2_with fail
  go_loopw [34] (fun i wr => ∃ j : Nat, j ≤ pn + 16 ∧ i = .int .i64 j ∧ Below W.heap.size W wr) (fun i _ => pn + 16 - (intOf i).toNat)
  case atStart => exact ⟨0, by omega, rfl, Below.refl _ _⟩
  case round =>
    obtain ⟨j, hj, rfl, hbw⟩ := hrel
    have OW : Hid (Below W.heap.size W wr) := hbw
    clear hbw
    by_cases hlt : j < pn + 16
    · have j0 : (0 : Int) ≤ (j : Int) := by omega
      have j1 : (j : Int) < (pn : Int) + 16 := by omega
      obtain ⟨g3, o3, e3, d3⟩ := HP.out.2.2.1.at OW.out hlt
      obtain ⟨g4, o4, e4, d4⟩ := HP.out.2.2.2.at OW.out hlt
      subst e3
      subst e4
      rw [Nat.mul_one] at d3 d4
      have cO : (⟨#[109, 97, 114, 107, 32, 111, 110, 101]⟩ : ByteArray) = bs mkO := rfl
      have cT : (⟨#[109, 97, 114, 107, 32, 116, 119, 111]⟩ : ByteArray) = bs mkT := rfl
      have tO : ((bs mkO).toList == (bs mkO).toList) = true := by simp
      have tT : ((bs mkT).toList == (bs mkT).toList) = true := by simp
      by_cases hl2 : j < pn
      · have j2 : (j : Int) < (pn : Int) := by omega
        obtain ⟨g1, o1, e1, d1⟩ := HP.out.1.at OW.out hl2
        obtain ⟨g2, o2, e2, d2⟩ := HP.out.2.1.at OW.out hl2
        subst e1
        subst e2
        rw [Nat.mul_one] at d1 d2
        go_wp2_with fail
        go_roundw
        case rel => exact ⟨j + 1, by omega, by go_num, OW.out⟩
        case measure => simp [intOf]; omega
      · have j2 : ¬ (j : Int) < (pn : Int) := by omega
        go_wp2_with fail
        go_roundw
        case rel => exact ⟨j + 1, by omega, by go_num, OW.out⟩
        case measure => simp [intOf]; omega
    · obtain rfl : j = pn + 16 := by omega
      go_wp2_with fail
      refine HK_.out _ _ ?_
      clear HK_
      exact pf58 C (HE.out.later OW.out) (HW.out.later OW.out) Hm HZ hno hnn
set_option maxRecDepth 100000 in
set_option maxHeartbeats 16000000 in
theorem pf45 {lv2 lv3 lv4 lv7 lv8 lv11 lv12 lv13 lv14 lv15 lv16 lv18 lv20 lv22 lv23 lv24 lv25 lv29 lv30 lv31 lv32 lv33 lv34 lv35 lv36 lv37 lv38 lv39 lv40 lv41 lv42 lv43 lv44 lv45 lv46 lv47 lv48 lv49 lv50 lv51 lv52 lv53 lv54 lv55 lv56 lv57 lv58 lv59 lv60 lv61 lv62 lv63 lv64 lv65 lv66 lv67 lv68 lv69 lv70 lv71 lv72 lv73 lv74 lv75 lv76 lv77 lv78 lv79 lv80 lv81 lv82 lv83 lv84 lv85 lv86 lv87 lv88 lv89 lv90 lv91 lv92 lv93 lv94 lv95 lv96 lv97 lv98 lv99 lv100 lv101 lv102 lv103 lv104 lv105 lv106 lv107 lv108 lv109 lv110 lv111 lv112 lv113 lv114 lv115 lv116 lv117 lv118 lv119 lv120 lv121 lv122 lv123 lv124 lv125 lv126 lv127 lv128 lv129 lv130 lv131 lv132 lv133 lv134 lv135 lv136 lv137 lv138 lv139 lv140 lv141 lv142 lv143 lv144 lv145 lv146 lv147 lv148 lv149 lv150 lv151 lv152 lv153 lv154 lv155 lv156 lv157 lv158 lv159 lv160 lv161 lv162 lv163 lv164 lv165 lv166 lv167 lv168 lv169 lv170 lv171 lv172 lv173 lv174 lv175 lv176 lv177 lv178 lv179 lv180 lv181 lv182 lv183 lv184 lv185 lv186 lv187 lv188 lv189 lv190 lv191 lv192 lv193 lv194 lv195 lv196 lv197 lv198 lv199 lv200 lv201 lv202 lv203 lv204 lv205 lv206 lv207 lv208 lv209 lv210 lv211 lv212 lv213 lv214 lv215 lv216 lv217 lv218 lv219 lv220 lv221 lv222 lv223 lv224 lv225 lv226 lv227 lv228 lv229 lv230 lv231 lv232 lv233 lv234 lv235 lv236 lv237 lv238 lv239 lv240 lv241 lv242 lv243 lv244 lv245 lv246 lv247 lv248 lv249 lv250 lv251 lv252 lv253 lv254 lv255 lv256 lv257 lv258 lv259 lv260 lv261 lv262 lv263 lv264 lv265 lv266 lv267 lv268 lv269 lv270 lv271 lv272 lv273 lv274 lv275 lv276 lv277 lv278 lv279 lv280 lv281 lv282 lv283 lv284 lv285 lv286 lv287 lv288 lv289 lv290 lv291 lv292 lv293 lv294 lv295 lv296 lv297 lv298 lv299 lv300 lv301 lv302 lv303 lv304 lv305 lv306 lv307 lv308 lv309 lv310 lv311 lv312 lv313 lv314 lv315 lv316 lv317 lv318 lv319 lv320 lv321 lv322 lv323 lv324 lv325 lv326 lv327 lv328 lv329 lv330 lv331 lv332 lv333 lv334 lv335 lv336 lv337 lv338 lv339 lv340 lv341 lv342 lv343 lv344 lv345 lv346 lv347 lv348 lv349 lv350 lv351 lv352 lv353 lv354 lv355 lv356 lv357 lv358 lv359 lv360 lv361 lv362 lv363 lv364 lv365 lv366 lv367 lv368 lv369 lv370 lv371 lv372 lv373 lv374 lv375 lv376 lv377 lv378 lv379 lv380 lv381 lv382 lv383 lv384 lv385 lv386 lv387 lv388 lv389 lv390 lv391 lv392 lv393 lv394 lv395 lv396 lv397 lv398 lv399 lv400 lv401 lv402 lv403 lv404 lv405 lv406 lv407 lv408 lv409 lv410 lv411 lv412 lv413 lv414 lv415 lv416 lv417 lv418 lv419 lv420 lv421 lv422 lv423 lv424 lv425 lv426 lv427 lv428 lv429 lv430 lv431 lv432 lv433 lv434 lv435 lv436 lv437 lv438 lv439 lv440 lv441 lv442 lv443 lv444 lv445 lv446 lv447 lv448 lv449 lv450 lv451 lv452 lv453 lv454 lv455 lv456 lv457 lv458 lv459 : Value} (C : PcP) {w W : World} {oa na : Option Addr} {no oc nn nc go oq gn nq : Nat} {vw : Value} {m : Int} {old now : List Fl} (HE : Hid (FE w W oa na no oc nn nc go oq gn nq old now now)) (HW : Hid (OwS w.heap.size W vw (mkA old now))) (Hm : Hid (mkE old now = m)) (HZ : Hid (Fsz old ∧ Fsz now)) (hno : no ≤ 1500000) (hnn : nn ≤ 1500000) {pa qa ra sa : Option Addr} {pn pc qc rc sc : Nat} (HP : Hid (SeeR W (.slice pa pn pc) pn 1 (.string (bs mkO)) ∧ SeeR W (.slice qa pn qc) pn 1 (.string (bs mkT)) ∧ SeeR W (.slice ra (pn + 16) rc) (pn + 16) 1 (.string (bs mkO)) ∧ SeeR W (.slice sa (pn + 16) sc) (pn + 16) 1 (.string (bs mkT)))) (hpn : pn ≤ 4000000) {ga gl : Nat} {V U : Nat → Value} {n : Nat → Nat} (HV : Hid (∀ k, k < 3 → SeeR W (V k) (n k) 6 (.int .i64 (-1 - (k : Int))) ∧ W.cell? ⟨ga, k, none⟩ = some (V k))) (HU : Hid (∀ k, k < 3 → SeeR W (U k) (n k + 16) 6 (.int .i64 (-1 - (k : Int))) ∧ W.cell? ⟨gl, k, none⟩ = some (U k))) (HG : Hid (ga < W.heap.size ∧ gl < W.heap.size)) (hnk : ∀ k, k < 3 → n k ≤ 1000000) :
    Code.wp Tryz.prog (suff 45 (Tryz.f3.body.getD .skip)) (bodyPost Tryz.prog Tryz.f3 (Good w)) ⟨#[.slice oa no oc, .slice na nn nc, lv2, lv3, lv4, vw, .int .i64 m, lv7, lv8, .slice (some ⟨go, 0, none⟩) (no + 2) oq, .slice (some ⟨gn, 0, none⟩) (nn + 2) nq, lv11, lv12, lv13, lv14, lv15, lv16, .slice pa pn pc, lv18, .slice qa pn qc, lv20, .slice (some ⟨ga, 0, none⟩) 3 3, lv22, lv23, lv24, lv25, .slice (some ⟨gl, 0, none⟩) 3 3, .slice ra (pn + 16) rc, .slice sa (pn + 16) sc, lv29, lv30, lv31, lv32, lv33, lv34, lv35, lv36, lv37, lv38, lv39, lv40, lv41, lv42, lv43, lv44, lv45, lv46, lv47, lv48, lv49, lv50, lv51, lv52, lv53, lv54, lv55, lv56, lv57, lv58, lv59, lv60, lv61, lv62, lv63, lv64, lv65, lv66, lv67, lv68, lv69, lv70, lv71, lv72, lv73, lv74, lv75, lv76, lv77, lv78, lv79, lv80, lv81, lv82, lv83, lv84, lv85, lv86, lv87, lv88, lv89, lv90, lv91, lv92, lv93, lv94, lv95, lv96, lv97, lv98, lv99, lv100, lv101, lv102, lv103, lv104, lv105, lv106, lv107, lv108, lv109, lv110, lv111, lv112, lv113, lv114, lv115, lv116, lv117, lv118, lv119, lv120, lv121, lv122, lv123, lv124, lv125, lv126, lv127, lv128, lv129, lv130, lv131, lv132, lv133, lv134, lv135, lv136, lv137, lv138, lv139, lv140, lv141, lv142, lv143, lv144, lv145, lv146, lv147, lv148, lv149, lv150, lv151, lv152, lv153, lv154, lv155, lv156, lv157, lv158, lv159, lv160, lv161, lv162, lv163, lv164, lv165, lv166, lv167, lv168, lv169, lv170, lv171, lv172, lv173, lv174, lv175, lv176, lv177, lv178, lv179, lv180, lv181, lv182, lv183, lv184, lv185, lv186, lv187, lv188, lv189, lv190, lv191, lv192, lv193, lv194, lv195, lv196, lv197, lv198, lv199, lv200, lv201, lv202, lv203, lv204, lv205, lv206, lv207, lv208, lv209, lv210, lv211, lv212, lv213, lv214, lv215, lv216, lv217, lv218, lv219, lv220, lv221, lv222, lv223, lv224, lv225, lv226, lv227, lv228, lv229, lv230, lv231, lv232, lv233, lv234, lv235, lv236, lv237, lv238, lv239, lv240, lv241, lv242, lv243, lv244, lv245, lv246, lv247, lv248, lv249, lv250, lv251, lv252, lv253, lv254, lv255, lv256, lv257, lv258, lv259, lv260, lv261, lv262, lv263, lv264, lv265, lv266, lv267, lv268, lv269, lv270, lv271, lv272, lv273, lv274, lv275, lv276, lv277, lv278, lv279, lv280, lv281, lv282, lv283, lv284, lv285, lv286, lv287, lv288, lv289, lv290, lv291, lv292, lv293, lv294, lv295, lv296, lv297, lv298, lv299, lv300, lv301, lv302, lv303, lv304, lv305, lv306, lv307, lv308, lv309, lv310, lv311, lv312, lv313, lv314, lv315, lv316, lv317, lv318, lv319, lv320, lv321, lv322, lv323, lv324, lv325, lv326, lv327, lv328, lv329, lv330, lv331, lv332, lv333, lv334, lv335, lv336, lv337, lv338, lv339, lv340, lv341, lv342, lv343, lv344, lv345, lv346, lv347, lv348, lv349, lv350, lv351, lv352, lv353, lv354, lv355, lv356, lv357, lv358, lv359, lv360, lv361, lv362, lv363, lv364, lv365, lv366, lv367, lv368, lv369, lv370, lv371, lv372, lv373, lv374, lv375, lv376, lv377, lv378, lv379, lv380, lv381, lv382, lv383, lv384, lv385, lv386, lv387, lv388, lv389, lv390, lv391, lv392, lv393, lv394, lv395, lv396, lv397, lv398, lv399, lv400, lv401, lv402, lv403, lv404, lv405, lv406, lv407, lv408, lv409, lv410, lv411, lv412, lv413, lv414, lv415, lv416, lv417, lv418, lv419, lv420, lv421, lv422, lv423, lv424, lv425, lv426, lv427, lv428, lv429, lv430, lv431, lv432, lv433, lv434, lv435, lv436, lv437, lv438, lv439, lv440, lv441, lv442, lv443, lv444, lv445, lv446, lv447, lv448, lv449, lv450, lv451, lv452, lv453, lv454, lv455, lv456, lv457, lv458, lv459], []⟩ W := by
  conv => arg 2; whnf
  refine wp_seq_k fun KK hKK => ?_
  have HK_ : Hid _ := hKK
  clear hKK
  go_wp2_with fail
  go_loopw [32] (fun i wr => ∃ k : Nat, k ≤ 3 ∧ i = .int .i64 k ∧ Below W.heap.size W wr) (fun i _ => 3 - (intOf i).toNat)
  case atStart => exact ⟨0, by omega, rfl, Below.refl _ _⟩
  case round =>
    obtain ⟨k, hk, rfl, hbw⟩ := hrel
    have OW : Hid (Below W.heap.size W wr) := hbw
    clear hbw
    by_cases hlt : k < 3
    · have k0 : (0 : Int) ≤ (k : Int) := by omega
      have k1 : (k : Int) < 3 := by omega
      obtain ⟨sv, hcv⟩ := HV.out k hlt
      obtain ⟨su, hcu⟩ := HU.out k hlt
      obtain ⟨nk, hnk'⟩ : ∃ x, n k = x := ⟨_, rfl⟩
      have hnl := hnk k hlt
      rw [hnk'] at sv su hnl
      obtain ⟨va, vc, hv⟩ : ∃ a c, V k = .slice a nk c := by obtain ⟨a, c, e, _⟩ := sv; exact ⟨a, c, e⟩
      obtain ⟨ua, uc, hu⟩ : ∃ a c, U k = .slice a (nk + 16) c := by obtain ⟨a, c, e, _⟩ := su; exact ⟨a, c, e⟩
      rw [hv] at sv hcv
      rw [hu] at su hcu
      have SV : Hid (SeeR W (.slice va nk vc) nk 6 (.int .i64 (-1 - (k : Int)))) := sv
      have SU : Hid (SeeR W (.slice ua (nk + 16) uc) (nk + 16) 6 (.int .i64 (-1 - (k : Int)))) := su
      have CE : Hid (∀ X, Below W.heap.size W X → X.cell? ⟨ga, k, none⟩ = some (.slice va nk vc) ∧ X.cell? ⟨gl, k, none⟩ = some (.slice ua (nk + 16) uc)) := fun X h => ⟨(h.cell (p := ⟨ga, k, none⟩) HG.out.1).trans hcv, (h.cell (p := ⟨gl, k, none⟩) HG.out.2).trans hcu⟩
      have hwz : IntKind.i64.wrap (-1 - (k : Int)) = -1 - (k : Int) := by rw [IntKind.wrap_i64]; omega
      clear sv su hcv hcu hv hu hnk'
      go_wp2_with fail
      go_loopw [33] (fun i wr => ∃ j : Nat, j ≤ nk + 16 ∧ i = .int .i64 j ∧ Below W.heap.size W wr) (fun i _ => nk + 16 - (intOf i).toNat)
      case atStart => exact ⟨0, by omega, rfl, OW.out⟩
      case round =>
        rename World => wq
        obtain ⟨j, hj, rfl, hbw⟩ := hrel
        have OJ : Hid (Below W.heap.size W wq) := hbw
        clear hbw
        obtain ⟨c1, c2⟩ := CE.out wq OJ.out
        by_cases hjl : j < nk + 16
        · have j0 : (0 : Int) ≤ (j : Int) := by omega
          have j1 : (j : Int) < (nk : Int) + 16 := by omega
          obtain ⟨g2, o2, e2, d2⟩ := SU.out.at OJ.out hjl
          subst e2
          by_cases hl2 : j < nk
          · have j2 : (j : Int) < (nk : Int) := by omega
            obtain ⟨g1, o1, e1, d1⟩ := SV.out.at OJ.out hl2
            subst e1
            go_wp2_with fail
            go_roundw
            case rel => exact ⟨j + 1, by omega, by go_num, OJ.out⟩
            case measure => simp [intOf]; omega
          · have j2 : ¬ (j : Int) < (nk : Int) := by omega
            go_wp2_with fail
            go_roundw
            case rel => exact ⟨j + 1, by omega, by go_num, OJ.out⟩
            case measure => simp [intOf]; omega
        · obtain rfl : j = nk + 16 := by omega
          go_wp2_with fail
          go_roundw
          case rel => exact ⟨k + 1, by omega, by go_num, OJ.out⟩
          case measure => simp [intOf]; omega
    · obtain rfl : k = 3 := by omega
      go_wp2_with fail
      refine HK_.out _ _ ?_
      clear HK_
      exact pf53 C (HE.out.later OW.out) (HW.out.later OW.out) Hm HZ hno hnn ⟨HP.out.1.later OW.out, HP.out.2.1.later OW.out, HP.out.2.2.1.later OW.out, HP.out.2.2.2.later OW.out⟩ hpn
end Go.Proofs.YtfdcfcalbongeaaGreat
