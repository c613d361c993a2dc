/-
  The look at fresh memory (plan): the lists marked.
-/
import Derived.Test.YtfdcfcalbongeaaGreatRh
namespace Go.Proofs.YtfdcfcalbongeaaGreat
open Go.RowKit
attribute [local go_sem] Oper.semAt_some

/-- list k opened, where it has an element j -/
theorem QX.at {B : Nat} {w wr : World} {T : Nat} {F : Nat → Knd} {V : Nat → Value} {n : Nat → Nat} {C : Nat → List Value} {D : Nat → Nat → Prop} (h : QX B w wr T F V n C D) {k : Nat} (hk : k < T) {a : Option Addr} {c nk : Nat} (hv : V k = .slice a nk c) (hn : n k = nk) (h0 : 0 < nk) :
    ∃ g off, a = some ⟨g, off, none⟩ ∧ g < wr.heap.size ∧ ∀ y, y < nk * (F k).sz → (∃ u, wr.cell? ⟨g, off + y, none⟩ = some u) ∧ wr.frozen? ⟨g, off + y, none⟩ = false := by
  have ho := h.own k hk
  rw [hv, hn] at ho
  rcases ho.form with ⟨e, e2⟩ | ⟨g, off, c', e, h1, h2, h3⟩
  · omega
  · injection e with e1 _ e3
    subst e1
    subst e3
    refine ⟨g, off, rfl, h3, fun y hy => ?_⟩
    have hl : y < (C k).length := by rw [ho.1]; exact hy
    obtain ⟨h4, h5⟩ := ho.cell (List.getElem?_eq_getElem hl)
    exact ⟨⟨_, h4⟩, h5⟩
set_option maxRecDepth 100000 in
set_option maxHeartbeats 16000000 in
theorem pf22 {lv2 lv3 lv4 lv7 lv8 lv12 lv14 lv16 lv18 lv20 lv22 lv23 lv24 lv25 lv26 lv27 lv28 lv29 lv30 lv31 lv32 lv33 lv34 lv35 lv36 lv37 lv38 lv39 lv40 lv41 lv42 lv43 lv44 lv45 lv46 lv47 lv48 lv49 lv50 lv51 lv52 lv53 lv54 lv55 lv56 lv57 lv58 lv59 lv60 lv61 lv62 lv63 lv64 lv65 lv66 lv67 lv68 lv69 lv70 lv71 lv72 lv73 lv74 lv75 lv76 lv77 lv78 lv79 lv80 lv81 lv82 lv83 lv84 lv85 lv86 lv87 lv88 lv89 lv90 lv91 lv92 lv93 lv94 lv95 lv96 lv97 lv98 lv99 lv100 lv101 lv102 lv103 lv104 lv105 lv106 lv107 lv108 lv109 lv110 lv111 lv112 lv113 lv114 lv115 lv116 lv117 lv118 lv119 lv120 lv121 lv122 lv123 lv124 lv125 lv126 lv127 lv128 lv129 lv130 lv131 lv132 lv133 lv134 lv135 lv136 lv137 lv138 lv139 lv140 lv141 lv142 lv143 lv144 lv145 lv146 lv147 lv148 lv149 lv150 lv151 lv152 lv153 lv154 lv155 lv156 lv157 lv158 lv159 lv160 lv161 lv162 lv163 lv164 lv165 lv166 lv167 lv168 lv169 lv170 lv171 lv172 lv173 lv174 lv175 lv176 lv177 lv178 lv179 lv180 lv181 lv182 lv183 lv184 lv185 lv186 lv187 lv188 lv189 lv190 lv191 lv192 lv193 lv194 lv195 lv196 lv197 lv198 lv199 lv200 lv201 lv202 lv203 lv204 lv205 lv206 lv207 lv208 lv209 lv210 lv211 lv212 lv213 lv214 lv215 lv216 lv217 lv218 lv219 lv220 lv221 lv222 lv223 lv224 lv225 lv226 lv227 lv228 lv229 lv230 lv231 lv232 lv233 lv234 lv235 lv236 lv237 lv238 lv239 lv240 lv241 lv242 lv243 lv244 lv245 lv246 lv247 lv248 lv249 lv250 lv251 lv252 lv253 lv254 lv255 lv256 lv257 lv258 lv259 lv260 lv261 lv262 lv263 lv264 lv265 lv266 lv267 lv268 lv269 lv270 lv271 lv272 lv273 lv274 lv275 lv276 lv277 lv278 lv279 lv280 lv281 lv282 lv283 lv284 lv285 lv286 lv287 lv288 lv289 lv290 lv291 lv292 lv293 lv294 lv295 lv296 lv297 lv298 lv299 lv300 lv301 lv302 lv303 lv304 lv305 lv306 lv307 lv308 lv309 lv310 lv311 lv312 lv313 lv314 lv315 lv316 lv317 lv318 lv319 lv320 lv321 lv322 lv323 lv324 lv325 lv326 lv327 lv328 lv329 lv330 lv331 lv332 lv333 lv334 lv335 lv336 lv337 lv338 lv339 lv340 lv341 lv342 lv343 lv344 lv345 lv346 lv347 lv348 lv349 lv350 lv351 lv352 lv353 lv354 lv355 lv356 lv357 lv358 lv359 lv360 lv361 lv362 lv363 lv364 lv365 lv366 lv367 lv368 lv369 lv370 lv371 lv372 lv373 lv374 lv375 lv376 lv377 lv378 lv379 lv380 lv381 lv382 lv383 lv384 lv385 lv386 lv387 lv388 lv389 lv390 lv391 lv392 lv393 lv394 lv395 lv396 lv397 lv398 lv399 lv400 lv401 lv402 lv403 lv404 lv405 lv406 lv407 lv408 lv409 lv410 lv411 lv412 lv413 lv414 lv415 lv416 lv417 lv418 lv419 lv420 lv421 lv422 lv423 lv424 lv425 lv426 lv427 lv428 lv429 lv430 lv431 lv432 lv433 lv434 lv435 lv436 lv437 lv438 lv439 lv440 lv441 lv442 lv443 lv444 lv445 lv446 lv447 lv448 lv449 lv450 lv451 lv452 lv453 lv454 lv455 lv456 lv457 lv458 lv459 : Value} (C : PcP) {w W w0 : World} {oa na : Option Addr} {no oc nn nc go oq gn nq : Nat} {vw : Value} {m : Int} {old now : List Fl} (HE : Hid (FE w w0 oa na no oc nn nc go oq gn nq old now now)) (HW : Hid (OwS w.heap.size w0 vw (mkA old now))) (Hm : Hid (mkE old now = m)) (HZ : Hid (Fsz old ∧ Fsz now)) (hno : no ≤ 1500000) (hnn : nn ≤ 1500000) {pa qa a0 a1 a2 : Option Addr} {pn pc qc ga B n0 c0 n1 c1 n2 c2 : Nat} {V : Nat → Value} {n : Nat → Nat} {D : Nat → Nat → Prop} {C0 : Nat → List Value} (HQ : Hid (QX B w0 W 5 kP V n (CM kP C0 n 3 0) D)) (HC : Hid (∀ j, j < 5 → (C0 j).length = n j * (kP j).sz)) (HV : Hid (V 0 = .slice a0 n0 c0 ∧ V 1 = .slice a1 n1 c1 ∧ V 2 = .slice a2 n2 c2 ∧ V 3 = .slice pa pn pc ∧ V 4 = .slice qa pn qc ∧ n 3 = pn ∧ n 4 = pn)) (HT : Hid (ga < w0.heap.size ∧ (∀ i, ¬ D i ga) ∧ ∀ i, i < 3 → w0.cell? ⟨ga, i, none⟩ = some (V i))) (HL : Hid (w.heap.size ≤ B ∧ go < B ∧ gn < B ∧ (∀ k, vw.ownBlock = some k → k < B))) (hpn : pn ≤ 4000000) (hnk : ∀ k, k < 3 → n k ≤ 1000000) :
    Code.wp Tryz.prog (suff 22 (Tryz.f3.body.getD .skip)) (bodyPost Tryz.prog Tryz.f3 (Good w)) ⟨#[.slice oa no oc, .slice na nn nc, lv2, lv3, lv4, vw, .int .i64 m, lv7, lv8, .slice (some ⟨go, 0, none⟩) (no + 2) oq, .slice (some ⟨gn, 0, none⟩) (nn + 2) nq, .slice a0 n0 c0, lv12, .slice a1 n1 c1, lv14, .slice a2 n2 c2, lv16, .slice pa pn pc, lv18, .slice qa pn qc, lv20, .slice (some ⟨ga, 0, none⟩) 3 3, lv22, lv23, lv24, lv25, lv26, lv27, lv28, lv29, lv30, lv31, lv32, lv33, lv34, lv35, lv36, lv37, lv38, lv39, lv40, lv41, lv42, lv43, lv44, lv45, lv46, lv47, lv48, lv49, lv50, lv51, lv52, lv53, lv54, lv55, lv56, lv57, lv58, lv59, lv60, lv61, lv62, lv63, lv64, lv65, lv66, lv67, lv68, lv69, lv70, lv71, lv72, lv73, lv74, lv75, lv76, lv77, lv78, lv79, lv80, lv81, lv82, lv83, lv84, lv85, lv86, lv87, lv88, lv89, lv90, lv91, lv92, lv93, lv94, lv95, lv96, lv97, lv98, lv99, lv100, lv101, lv102, lv103, lv104, lv105, lv106, lv107, lv108, lv109, lv110, lv111, lv112, lv113, lv114, lv115, lv116, lv117, lv118, lv119, lv120, lv121, lv122, lv123, lv124, lv125, lv126, lv127, lv128, lv129, lv130, lv131, lv132, lv133, lv134, lv135, lv136, lv137, lv138, lv139, lv140, lv141, lv142, lv143, lv144, lv145, lv146, lv147, lv148, lv149, lv150, lv151, lv152, lv153, lv154, lv155, lv156, lv157, lv158, lv159, lv160, lv161, lv162, lv163, lv164, lv165, lv166, lv167, lv168, lv169, lv170, lv171, lv172, lv173, lv174, lv175, lv176, lv177, lv178, lv179, lv180, lv181, lv182, lv183, lv184, lv185, lv186, lv187, lv188, lv189, lv190, lv191, lv192, lv193, lv194, lv195, lv196, lv197, lv198, lv199, lv200, lv201, lv202, lv203, lv204, lv205, lv206, lv207, lv208, lv209, lv210, lv211, lv212, lv213, lv214, lv215, lv216, lv217, lv218, lv219, lv220, lv221, lv222, lv223, lv224, lv225, lv226, lv227, lv228, lv229, lv230, lv231, lv232, lv233, lv234, lv235, lv236, lv237, lv238, lv239, lv240, lv241, lv242, lv243, lv244, lv245, lv246, lv247, lv248, lv249, lv250, lv251, lv252, lv253, lv254, lv255, lv256, lv257, lv258, lv259, lv260, lv261, lv262, lv263, lv264, lv265, lv266, lv267, lv268, lv269, lv270, lv271, lv272, lv273, lv274, lv275, lv276, lv277, lv278, lv279, lv280, lv281, lv282, lv283, lv284, lv285, lv286, lv287, lv288, lv289, lv290, lv291, lv292, lv293, lv294, lv295, lv296, lv297, lv298, lv299, lv300, lv301, lv302, lv303, lv304, lv305, lv306, lv307, lv308, lv309, lv310, lv311, lv312, lv313, lv314, lv315, lv316, lv317, lv318, lv319, lv320, lv321, lv322, lv323, lv324, lv325, lv326, lv327, lv328, lv329, lv330, lv331, lv332, lv333, lv334, lv335, lv336, lv337, lv338, lv339, lv340, lv341, lv342, lv343, lv344, lv345, lv346, lv347, lv348, lv349, lv350, lv351, lv352, lv353, lv354, lv355, lv356, lv357, lv358, lv359, lv360, lv361, lv362, lv363, lv364, lv365, lv366, lv367, lv368, lv369, lv370, lv371, lv372, lv373, lv374, lv375, lv376, lv377, lv378, lv379, lv380, lv381, lv382, lv383, lv384, lv385, lv386, lv387, lv388, lv389, lv390, lv391, lv392, lv393, lv394, lv395, lv396, lv397, lv398, lv399, lv400, lv401, lv402, lv403, lv404, lv405, lv406, lv407, lv408, lv409, lv410, lv411, lv412, lv413, lv414, lv415, lv416, lv417, lv418, lv419, lv420, lv421, lv422, lv423, lv424, lv425, lv426, lv427, lv428, lv429, lv430, lv431, lv432, lv433, lv434, lv435, lv436, lv437, lv438, lv439, lv440, lv441, lv442, lv443, lv444, lv445, lv446, lv447, lv448, lv449, lv450, lv451, lv452, lv453, lv454, lv455, lv456, lv457, lv458, lv459], []⟩ W := by
  conv => arg 2; whnf
  refine wp_seq_k fun KK hKK => ?_
  have HK_ : Hid _ := hKK
  clear hKK
  go_wp2_with fail
  go_loopw [24] (fun i wr => ∃ j : Nat, j ≤ pn ∧ i = .int .i64 j ∧ QX B w0 wr 5 kP V n (CM kP C0 n 3 j) D) (fun i _ => pn - (intOf i).toNat)
  case atStart => exact ⟨0, by omega, rfl, HQ.out⟩
  case round =>
    obtain ⟨j, hj, rfl, hq⟩ := hrel
    have OQ : Hid (QX B w0 wr 5 kP V n (CM kP C0 n 3 j) D) := hq
    clear hq
    by_cases hlt : j < pn
    · have j0 : (0 : Int) ≤ (j : Int) := by omega
      have j1 : (j : Int) < (pn : Int) := by omega
      obtain ⟨g, off, ea, hg, hcf⟩ := OQ.out.at (k := 3) (by omega) HV.out.2.2.2.1 HV.out.2.2.2.2.2.1 (by omega)
      obtain ⟨⟨u, cs⟩, cf⟩ := hcf j (by rw [kP_3]; show _ < pn * 1; omega)
      have OP : Hid (QX B w0 (wr.setCell ⟨g, off + j, none⟩ (.string ⟨#[109, 97, 114, 107, 32, 111, 110, 101]⟩)) 5 kP V n (CM kP C0 n 3 (j + 1)) D) := by
        have h1 := OQ.out.put (k := 3) (g := g) (off := off) (by omega) (by rw [HV.out.2.2.2.1, HV.out.2.2.2.2.2.1, ea]) (j * 1) (kP 3).c
        have h2 := h1.congr fun i hi => CM_put (fun j => (kP_ok j).len) HC.out (by omega) (by rw [HV.out.2.2.2.2.2.1]; exact hlt) i hi
        rw [Nat.mul_one] at h2
        exact h2
      subst ea
      clear hcf
      go_wp2_with fail
      go_roundw
      case rel => exact ⟨j + 1, by omega, by go_num, OP.out⟩
      case measure => simp [intOf]; omega
    · obtain rfl : pn = j := by omega
      go_wp2_with fail
      refine HK_.out _ _ ?_
      clear HK_
      have HQ : Hid (QX B w0 wr 5 kP V n (CM kP C0 n 4 0) D) := OQ.out.congr fun i hi => by
        have := CM_next HC.out (i := 3) (by omega) i hi
        rw [HV.out.2.2.2.2.2.1] at this
        exact this
      clear OQ
      refine wp_seq_k fun KK hKK => ?_
      have HK_ : Hid _ := hKK
      clear hKK
      go_wp2_with fail
      go_loopw [25] (fun i wr => ∃ j : Nat, j ≤ pn ∧ i = .int .i64 j ∧ QX B w0 wr 5 kP V n (CM kP C0 n 4 j) D) (fun i _ => pn - (intOf i).toNat)
      case atStart => exact ⟨0, by omega, rfl, HQ.out⟩
      case round =>
        obtain ⟨j, hj, rfl, hq⟩ := hrel
        have OQ : Hid (QX B w0 wr 5 kP V n (CM kP C0 n 4 j) D) := hq
        clear hq
        by_cases hlt : j < pn
        · have j0 : (0 : Int) ≤ (j : Int) := by omega
          have j1 : (j : Int) < (pn : Int) := by omega
          obtain ⟨g, off, ea, hg, hcf⟩ := OQ.out.at (k := 4) (by omega) HV.out.2.2.2.2.1 HV.out.2.2.2.2.2.2 (by omega)
          obtain ⟨⟨u, cs⟩, cf⟩ := hcf j (by rw [kP_4]; show _ < pn * 1; omega)
          have OP : Hid (QX B w0 (wr.setCell ⟨g, off + j, none⟩ (.string ⟨#[109, 97, 114, 107, 32, 116, 119, 111]⟩)) 5 kP V n (CM kP C0 n 4 (j + 1)) D) := by
            have h1 := OQ.out.put (k := 4) (g := g) (off := off) (by omega) (by rw [HV.out.2.2.2.2.1, HV.out.2.2.2.2.2.2, ea]) (j * 1) (kP 4).c
            have h2 := h1.congr fun i hi => CM_put (fun j => (kP_ok j).len) HC.out (by omega) (by rw [HV.out.2.2.2.2.2.2]; exact hlt) i hi
            rw [Nat.mul_one] at h2
            exact h2
          subst ea
          clear hcf
          go_wp2_with fail
          go_roundw
          case rel => exact ⟨j + 1, by omega, by go_num, OP.out⟩
          case measure => simp [intOf]; omega
        · obtain rfl : pn = j := by omega
          go_wp2_with fail
          refine HK_.out _ _ ?_
          clear HK_
          have HQ : Hid (QX B w0 wr 5 kP V n (CM kP C0 n 5 0) D) := OQ.out.congr fun i hi => by
            have := CM_next HC.out (i := 4) (by omega) i hi
            rw [HV.out.2.2.2.2.2.2] at this
            exact this
          clear OQ
          refine wp_seq_k fun KK hKK => ?_
          have HK_ : Hid _ := hKK
          clear hKK
          go_wp2_with fail
          refine HK_.out _ _ ?_
          clear HK_
          refine wp_seq_k fun KK hKK => ?_
          have HK_ : Hid _ := hKK
          clear hKK
          go_wp2_with fail
          refine HK_.out _ _ ?_
          clear HK_
          refine wp_seq_k fun KK hKK => ?_
          have HK_ : Hid _ := hKK
          clear hKK
          go_wp2_with fail
          refine HK_.out _ _ ?_
          clear HK_
          have X : GX B w0 (wr.alloc (.cells #[.slice a0 n0 c0, .slice a1 n1 c1, .slice a2 n2 c2] 23)) ga wr.heap.size V V V n n D D := by
            have h1 := (HQ.out.congr fun i hi => CM_end i hi).later (balloc wr (.cells #[.slice a0 n0 c0, .slice a1 n1 c1, .slice a2 n2 c2] 23))
            refine ⟨h1.mx, HT.out, ⟨HQ.out.size, fun i hd => ?_⟩, ?_⟩
            · have := (HQ.out.dlt i _ hd).2
              have := HQ.out.size
              omega
            · rw [heap_alloc_new, HV.out.1, HV.out.2.1, HV.out.2.2.1]
          exact pf33 C HE HW Hm HZ hno hnn X ⟨fun _ _ => rfl, fun _ _ => rfl, HV.out.2.2.2.1, HV.out.2.2.2.2.1, HV.out.2.2.2.2.2.1, HV.out.2.2.2.2.2.2, rfl, rfl⟩ HL hpn hnk
set_option maxRecDepth 100000 in
set_option maxHeartbeats 16000000 in
theorem pf15 {lv2 lv3 lv4 lv7 lv8 lv12 lv14 lv16 lv18 lv20 lv22 lv23 lv24 lv25 lv26 lv27 lv28 lv29 lv30 lv31 lv32 lv33 lv34 lv35 lv36 lv37 lv38 lv39 lv40 lv41 lv42 lv43 lv44 lv45 lv46 lv47 lv48 lv49 lv50 lv51 lv52 lv53 lv54 lv55 lv56 lv57 lv58 lv59 lv60 lv61 lv62 lv63 lv64 lv65 lv66 lv67 lv68 lv69 lv70 lv71 lv72 lv73 lv74 lv75 lv76 lv77 lv78 lv79 lv80 lv81 lv82 lv83 lv84 lv85 lv86 lv87 lv88 lv89 lv90 lv91 lv92 lv93 lv94 lv95 lv96 lv97 lv98 lv99 lv100 lv101 lv102 lv103 lv104 lv105 lv106 lv107 lv108 lv109 lv110 lv111 lv112 lv113 lv114 lv115 lv116 lv117 lv118 lv119 lv120 lv121 lv122 lv123 lv124 lv125 lv126 lv127 lv128 lv129 lv130 lv131 lv132 lv133 lv134 lv135 lv136 lv137 lv138 lv139 lv140 lv141 lv142 lv143 lv144 lv145 lv146 lv147 lv148 lv149 lv150 lv151 lv152 lv153 lv154 lv155 lv156 lv157 lv158 lv159 lv160 lv161 lv162 lv163 lv164 lv165 lv166 lv167 lv168 lv169 lv170 lv171 lv172 lv173 lv174 lv175 lv176 lv177 lv178 lv179 lv180 lv181 lv182 lv183 lv184 lv185 lv186 lv187 lv188 lv189 lv190 lv191 lv192 lv193 lv194 lv195 lv196 lv197 lv198 lv199 lv200 lv201 lv202 lv203 lv204 lv205 lv206 lv207 lv208 lv209 lv210 lv211 lv212 lv213 lv214 lv215 lv216 lv217 lv218 lv219 lv220 lv221 lv222 lv223 lv224 lv225 lv226 lv227 lv228 lv229 lv230 lv231 lv232 lv233 lv234 lv235 lv236 lv237 lv238 lv239 lv240 lv241 lv242 lv243 lv244 lv245 lv246 lv247 lv248 lv249 lv250 lv251 lv252 lv253 lv254 lv255 lv256 lv257 lv258 lv259 lv260 lv261 lv262 lv263 lv264 lv265 lv266 lv267 lv268 lv269 lv270 lv271 lv272 lv273 lv274 lv275 lv276 lv277 lv278 lv279 lv280 lv281 lv282 lv283 lv284 lv285 lv286 lv287 lv288 lv289 lv290 lv291 lv292 lv293 lv294 lv295 lv296 lv297 lv298 lv299 lv300 lv301 lv302 lv303 lv304 lv305 lv306 lv307 lv308 lv309 lv310 lv311 lv312 lv313 lv314 lv315 lv316 lv317 lv318 lv319 lv320 lv321 lv322 lv323 lv324 lv325 lv326 lv327 lv328 lv329 lv330 lv331 lv332 lv333 lv334 lv335 lv336 lv337 lv338 lv339 lv340 lv341 lv342 lv343 lv344 lv345 lv346 lv347 lv348 lv349 lv350 lv351 lv352 lv353 lv354 lv355 lv356 lv357 lv358 lv359 lv360 lv361 lv362 lv363 lv364 lv365 lv366 lv367 lv368 lv369 lv370 lv371 lv372 lv373 lv374 lv375 lv376 lv377 lv378 lv379 lv380 lv381 lv382 lv383 lv384 lv385 lv386 lv387 lv388 lv389 lv390 lv391 lv392 lv393 lv394 lv395 lv396 lv397 lv398 lv399 lv400 lv401 lv402 lv403 lv404 lv405 lv406 lv407 lv408 lv409 lv410 lv411 lv412 lv413 lv414 lv415 lv416 lv417 lv418 lv419 lv420 lv421 lv422 lv423 lv424 lv425 lv426 lv427 lv428 lv429 lv430 lv431 lv432 lv433 lv434 lv435 lv436 lv437 lv438 lv439 lv440 lv441 lv442 lv443 lv444 lv445 lv446 lv447 lv448 lv449 lv450 lv451 lv452 lv453 lv454 lv455 lv456 lv457 lv458 lv459 : Value} (C : PcP) {w W w0 : World} {oa na : Option Addr} {no oc nn nc go oq gn nq : Nat} {vw : Value} {m : Int} {old now : List Fl} (HE : Hid (FE w w0 oa na no oc nn nc go oq gn nq old now now)) (HW : Hid (OwS w.heap.size w0 vw (mkA old now))) (Hm : Hid (mkE old now = m)) (HZ : Hid (Fsz old ∧ Fsz now)) (hno : no ≤ 1500000) (hnn : nn ≤ 1500000) {pa qa a0 a1 a2 : Option Addr} {pn pc qc ga B n0 c0 n1 c1 n2 c2 : Nat} {V : Nat → Value} {n : Nat → Nat} {D : Nat → Nat → Prop} {C0 : Nat → List Value} (HQ : Hid (QX B w0 W 5 kP V n (CM kP C0 n 0 0) D)) (HC : Hid (∀ j, j < 5 → (C0 j).length = n j * (kP j).sz)) (HV : Hid (V 0 = .slice a0 n0 c0 ∧ V 1 = .slice a1 n1 c1 ∧ V 2 = .slice a2 n2 c2 ∧ V 3 = .slice pa pn pc ∧ V 4 = .slice qa pn qc ∧ n 3 = pn ∧ n 4 = pn)) (HT : Hid (ga < w0.heap.size ∧ (∀ i, ¬ D i ga) ∧ ∀ i, i < 3 → w0.cell? ⟨ga, i, none⟩ = some (V i))) (HL : Hid (w.heap.size ≤ B ∧ go < B ∧ gn < B ∧ (∀ k, vw.ownBlock = some k → k < B))) (hpn : pn ≤ 4000000) (hnk : ∀ k, k < 3 → n k ≤ 1000000) :
    Code.wp Tryz.prog (suff 15 (Tryz.f3.body.getD .skip)) (bodyPost Tryz.prog Tryz.f3 (Good w)) ⟨#[.slice oa no oc, .slice na nn nc, lv2, lv3, lv4, vw, .int .i64 m, lv7, lv8, .slice (some ⟨go, 0, none⟩) (no + 2) oq, .slice (some ⟨gn, 0, none⟩) (nn + 2) nq, .slice a0 n0 c0, lv12, .slice a1 n1 c1, lv14, .slice a2 n2 c2, lv16, .slice pa pn pc, lv18, .slice qa pn qc, lv20, .slice (some ⟨ga, 0, none⟩) 3 3, lv22, lv23, lv24, lv25, lv26, lv27, lv28, lv29, lv30, lv31, lv32, lv33, lv34, lv35, lv36, lv37, lv38, lv39, lv40, lv41, lv42, lv43, lv44, lv45, lv46, lv47, lv48, lv49, lv50, lv51, lv52, lv53, lv54, lv55, lv56, lv57, lv58, lv59, lv60, lv61, lv62, lv63, lv64, lv65, lv66, lv67, lv68, lv69, lv70, lv71, lv72, lv73, lv74, lv75, lv76, lv77, lv78, lv79, lv80, lv81, lv82, lv83, lv84, lv85, lv86, lv87, lv88, lv89, lv90, lv91, lv92, lv93, lv94, lv95, lv96, lv97, lv98, lv99, lv100, lv101, lv102, lv103, lv104, lv105, lv106, lv107, lv108, lv109, lv110, lv111, lv112, lv113, lv114, lv115, lv116, lv117, lv118, lv119, lv120, lv121, lv122, lv123, lv124, lv125, lv126, lv127, lv128, lv129, lv130, lv131, lv132, lv133, lv134, lv135, lv136, lv137, lv138, lv139, lv140, lv141, lv142, lv143, lv144, lv145, lv146, lv147, lv148, lv149, lv150, lv151, lv152, lv153, lv154, lv155, lv156, lv157, lv158, lv159, lv160, lv161, lv162, lv163, lv164, lv165, lv166, lv167, lv168, lv169, lv170, lv171, lv172, lv173, lv174, lv175, lv176, lv177, lv178, lv179, lv180, lv181, lv182, lv183, lv184, lv185, lv186, lv187, lv188, lv189, lv190, lv191, lv192, lv193, lv194, lv195, lv196, lv197, lv198, lv199, lv200, lv201, lv202, lv203, lv204, lv205, lv206, lv207, lv208, lv209, lv210, lv211, lv212, lv213, lv214, lv215, lv216, lv217, lv218, lv219, lv220, lv221, lv222, lv223, lv224, lv225, lv226, lv227, lv228, lv229, lv230, lv231, lv232, lv233, lv234, lv235, lv236, lv237, lv238, lv239, lv240, lv241, lv242, lv243, lv244, lv245, lv246, lv247, lv248, lv249, lv250, lv251, lv252, lv253, lv254, lv255, lv256, lv257, lv258, lv259, lv260, lv261, lv262, lv263, lv264, lv265, lv266, lv267, lv268, lv269, lv270, lv271, lv272, lv273, lv274, lv275, lv276, lv277, lv278, lv279, lv280, lv281, lv282, lv283, lv284, lv285, lv286, lv287, lv288, lv289, lv290, lv291, lv292, lv293, lv294, lv295, lv296, lv297, lv298, lv299, lv300, lv301, lv302, lv303, lv304, lv305, lv306, lv307, lv308, lv309, lv310, lv311, lv312, lv313, lv314, lv315, lv316, lv317, lv318, lv319, lv320, lv321, lv322, lv323, lv324, lv325, lv326, lv327, lv328, lv329, lv330, lv331, lv332, lv333, lv334, lv335, lv336, lv337, lv338, lv339, lv340, lv341, lv342, lv343, lv344, lv345, lv346, lv347, lv348, lv349, lv350, lv351, lv352, lv353, lv354, lv355, lv356, lv357, lv358, lv359, lv360, lv361, lv362, lv363, lv364, lv365, lv366, lv367, lv368, lv369, lv370, lv371, lv372, lv373, lv374, lv375, lv376, lv377, lv378, lv379, lv380, lv381, lv382, lv383, lv384, lv385, lv386, lv387, lv388, lv389, lv390, lv391, lv392, lv393, lv394, lv395, lv396, lv397, lv398, lv399, lv400, lv401, lv402, lv403, lv404, lv405, lv406, lv407, lv408, lv409, lv410, lv411, lv412, lv413, lv414, lv415, lv416, lv417, lv418, lv419, lv420, lv421, lv422, lv423, lv424, lv425, lv426, lv427, lv428, lv429, lv430, lv431, lv432, lv433, lv434, lv435, lv436, lv437, lv438, lv439, lv440, lv441, lv442, lv443, lv444, lv445, lv446, lv447, lv448, lv449, lv450, lv451, lv452, lv453, lv454, lv455, lv456, lv457, lv458, lv459], []⟩ W := by
  conv => arg 2; whnf
  have HVK : Hid (∀ k, k < 3 → ∃ a c, V k = .slice a (n k) c) := fun k hk => (HQ.out.own k (by omega)).len
  refine wp_seq_k fun KK hKK => ?_
  have HK_ : Hid _ := hKK
  clear hKK
  go_wp2_with fail
  go_loopw [22] (fun i wr => ∃ k : Nat, k ≤ 3 ∧ i = .int .i64 k ∧ QX B w0 wr 5 kP V n (CM kP C0 n k 0) D) (fun i _ => 3 - (intOf i).toNat)
  case atStart => exact ⟨0, by omega, rfl, HQ.out⟩
  case round =>
    obtain ⟨k, hk, rfl, hq⟩ := hrel
    have OK : Hid (QX B w0 wr 5 kP V n (CM kP C0 n k 0) D) := hq
    clear hq
    by_cases hlt : k < 3
    · have k0 : (0 : Int) ≤ (k : Int) := by omega
      have k1 : (k : Int) < 3 := by omega
      have hnl := hnk k hlt
      obtain ⟨va, vc, hv⟩ := HVK.out k hlt
      obtain ⟨nk, hnk'⟩ : ∃ x, n k = x := ⟨_, rfl⟩
      rw [hnk'] at hv hnl
      have HU : Hid (V k = .slice va nk vc ∧ n k = nk) := ⟨hv, hnk'⟩
      have CG : Hid (∀ X j, QX B w0 X 5 kP V n (CM kP C0 n k j) D → X.cell? ⟨ga, k, none⟩ = some (.slice va nk vc)) := fun X j h => by
        rw [← HU.out.1]; exact h.cell (HT.out.2.2 k hlt) HT.out.2.1
      have hwz : IntKind.i64.wrap (-1 - (k : Int)) = -1 - (k : Int) := by rw [IntKind.wrap_i64]; omega
      clear hv hnk'
      go_wp2_with fail
      go_loopw [23] (fun i wr => ∃ j : Nat, j ≤ nk ∧ i = .int .i64 j ∧ QX B w0 wr 5 kP V n (CM kP C0 n k j) D) (fun i _ => nk - (intOf i).toNat)
      case atStart => exact ⟨0, by omega, rfl, OK.out⟩
      case round =>
        rename World => wq
        obtain ⟨j, hj, rfl, hq⟩ := hrel
        have OQ : Hid (QX B w0 wq 5 kP V n (CM kP C0 n k j) D) := hq
        clear hq OK
        have c1 := CG.out wq j OQ.out
        by_cases hjl : j < nk
        · have j0 : (0 : Int) ≤ (j : Int) := by omega
          have j1 : (j : Int) < (nk : Int) := by omega
          obtain ⟨g, off, ea, hg, hcf⟩ := OQ.out.at (k := k) (by omega) HU.out.1 HU.out.2 (by omega)
          have hc := fun t (ht : t < 6) => hcf (j * 6 + t) (by rw [kP_lt hlt]; show _ < nk * 6; omega)
          obtain ⟨⟨u0, s0⟩, z0⟩ := hc 0 (by omega)
          obtain ⟨⟨u1, s1⟩, z1⟩ := hc 1 (by omega)
          obtain ⟨⟨u2, s2⟩, z2⟩ := hc 2 (by omega)
          obtain ⟨⟨u3, s3⟩, z3⟩ := hc 3 (by omega)
          obtain ⟨⟨u4, s4⟩, z4⟩ := hc 4 (by omega)
          obtain ⟨⟨u5, s5⟩, z5⟩ := hc 5 (by omega)
          have OP : Hid (QX B w0 ((((((wq.setCell ⟨g, off + j * 6, none⟩ (.int .i64 (-1 - (k : Int)))).setCell ⟨g, off + j * 6 + 1, none⟩ (.string ⟨#[]⟩)).setCell ⟨g, off + j * 6 + 2, none⟩ (.string ⟨#[]⟩)).setCell ⟨g, off + j * 6 + 3, none⟩ (.string ⟨#[]⟩)).setCell ⟨g, off + j * 6 + 4, none⟩ (.int .i64 0)).setCell ⟨g, off + j * 6 + 5, none⟩ (.int .i64 0)) 5 kP V n (CM kP C0 n k (j + 1)) D) := by
            have h1 := OQ.out.put (k := k) (g := g) (off := off) (by omega) (by rw [HU.out.1, HU.out.2, ea]) (j * (kP k).sz) (kP k).c
            have h2 := h1.congr fun i hi => CM_put (fun j => (kP_ok j).len) HC.out (by omega) (by rw [HU.out.2]; exact hjl) i hi
            rw [kP_lt hlt] at h2
            exact h2
          subst ea
          clear hcf hc
          simp only [Nat.add_zero, ← Nat.add_assoc] at s0 s1 s2 s3 s4 s5 z0 z1 z2 z3 z4 z5
          go_wp2_with fail
          go_roundw
          case rel => exact ⟨j + 1, by omega, by go_num, OP.out⟩
          case measure => simp [intOf]; omega
        · obtain rfl : j = nk := by omega
          go_wp2_with fail
          go_roundw
          case rel =>
            refine ⟨k + 1, by omega, by go_num, OQ.out.congr fun i hi => ?_⟩
            have := CM_next HC.out (i := k) (by omega) i hi
            rw [HU.out.2] at this
            exact this
          case measure => simp [intOf]; omega
    · obtain rfl : k = 3 := by omega
      go_wp2_with fail
      refine HK_.out _ _ ?_
      clear HK_
      exact pf22 C HE HW Hm HZ hno hnn OK.out HC HV HT HL hpn hnk
end Go.Proofs.YtfdcfcalbongeaaGreat
