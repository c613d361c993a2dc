/-
  The look at fresh memory (plan): the steps' lists, grown.
-/
import Derived.Test.YtfdcfcalbongeaaGreatRg
namespace Go.Proofs.YtfdcfcalbongeaaGreat
open Go.RowKit
attribute [local go_sem] Oper.semAt_some

set_option maxRecDepth 100000 in
set_option maxHeartbeats 16000000 in
theorem pf33 {lv2 lv3 lv4 lv7 lv8 lv11 lv12 lv13 lv14 lv15 lv16 lv18 lv20 lv22 lv23 lv24 lv25 lv29 lv30 lv31 lv32 lv33 lv34 lv35 lv36 lv37 lv38 lv39 lv40 lv41 lv42 lv43 lv44 lv45 lv46 lv47 lv48 lv49 lv50 lv51 lv52 lv53 lv54 lv55 lv56 lv57 lv58 lv59 lv60 lv61 lv62 lv63 lv64 lv65 lv66 lv67 lv68 lv69 lv70 lv71 lv72 lv73 lv74 lv75 lv76 lv77 lv78 lv79 lv80 lv81 lv82 lv83 lv84 lv85 lv86 lv87 lv88 lv89 lv90 lv91 lv92 lv93 lv94 lv95 lv96 lv97 lv98 lv99 lv100 lv101 lv102 lv103 lv104 lv105 lv106 lv107 lv108 lv109 lv110 lv111 lv112 lv113 lv114 lv115 lv116 lv117 lv118 lv119 lv120 lv121 lv122 lv123 lv124 lv125 lv126 lv127 lv128 lv129 lv130 lv131 lv132 lv133 lv134 lv135 lv136 lv137 lv138 lv139 lv140 lv141 lv142 lv143 lv144 lv145 lv146 lv147 lv148 lv149 lv150 lv151 lv152 lv153 lv154 lv155 lv156 lv157 lv158 lv159 lv160 lv161 lv162 lv163 lv164 lv165 lv166 lv167 lv168 lv169 lv170 lv171 lv172 lv173 lv174 lv175 lv176 lv177 lv178 lv179 lv180 lv181 lv182 lv183 lv184 lv185 lv186 lv187 lv188 lv189 lv190 lv191 lv192 lv193 lv194 lv195 lv196 lv197 lv198 lv199 lv200 lv201 lv202 lv203 lv204 lv205 lv206 lv207 lv208 lv209 lv210 lv211 lv212 lv213 lv214 lv215 lv216 lv217 lv218 lv219 lv220 lv221 lv222 lv223 lv224 lv225 lv226 lv227 lv228 lv229 lv230 lv231 lv232 lv233 lv234 lv235 lv236 lv237 lv238 lv239 lv240 lv241 lv242 lv243 lv244 lv245 lv246 lv247 lv248 lv249 lv250 lv251 lv252 lv253 lv254 lv255 lv256 lv257 lv258 lv259 lv260 lv261 lv262 lv263 lv264 lv265 lv266 lv267 lv268 lv269 lv270 lv271 lv272 lv273 lv274 lv275 lv276 lv277 lv278 lv279 lv280 lv281 lv282 lv283 lv284 lv285 lv286 lv287 lv288 lv289 lv290 lv291 lv292 lv293 lv294 lv295 lv296 lv297 lv298 lv299 lv300 lv301 lv302 lv303 lv304 lv305 lv306 lv307 lv308 lv309 lv310 lv311 lv312 lv313 lv314 lv315 lv316 lv317 lv318 lv319 lv320 lv321 lv322 lv323 lv324 lv325 lv326 lv327 lv328 lv329 lv330 lv331 lv332 lv333 lv334 lv335 lv336 lv337 lv338 lv339 lv340 lv341 lv342 lv343 lv344 lv345 lv346 lv347 lv348 lv349 lv350 lv351 lv352 lv353 lv354 lv355 lv356 lv357 lv358 lv359 lv360 lv361 lv362 lv363 lv364 lv365 lv366 lv367 lv368 lv369 lv370 lv371 lv372 lv373 lv374 lv375 lv376 lv377 lv378 lv379 lv380 lv381 lv382 lv383 lv384 lv385 lv386 lv387 lv388 lv389 lv390 lv391 lv392 lv393 lv394 lv395 lv396 lv397 lv398 lv399 lv400 lv401 lv402 lv403 lv404 lv405 lv406 lv407 lv408 lv409 lv410 lv411 lv412 lv413 lv414 lv415 lv416 lv417 lv418 lv419 lv420 lv421 lv422 lv423 lv424 lv425 lv426 lv427 lv428 lv429 lv430 lv431 lv432 lv433 lv434 lv435 lv436 lv437 lv438 lv439 lv440 lv441 lv442 lv443 lv444 lv445 lv446 lv447 lv448 lv449 lv450 lv451 lv452 lv453 lv454 lv455 lv456 lv457 lv458 lv459 : Value} (C : PcP) {w W w0 : World} {oa na : Option Addr} {no oc nn nc go oq gn nq : Nat} {vw : Value} {m : Int} {old now : List Fl} (HE : Hid (FE w w0 oa na no oc nn nc go oq gn nq old now now)) (HW : Hid (OwS w.heap.size w0 vw (mkA old now))) (Hm : Hid (mkE old now = m)) (HZ : Hid (Fsz old ∧ Fsz now)) (hno : no ≤ 1500000) (hnn : nn ≤ 1500000) {pa qa : Option Addr} {pn pc qc ga gl B : Nat} {V U P : Nat → Value} {n mm : Nat → Nat} {D0 D : Nat → Nat → Prop} (HX : Hid (GX B w0 W ga gl V U P n mm D0 D)) (HM : Hid ((∀ i, i < 3 → P i = U i) ∧ (∀ i, i < 5 → mm i = n i) ∧ V 3 = .slice pa pn pc ∧ V 4 = .slice qa pn qc ∧ n 3 = pn ∧ n 4 = pn ∧ U 3 = V 3 ∧ U 4 = V 4)) (HL : Hid (w.heap.size ≤ B ∧ go < B ∧ gn < B ∧ (∀ k, vw.ownBlock = some k → k < B))) (hpn : pn ≤ 4000000) (hnk : ∀ k, k < 3 → n k ≤ 1000000) :
    Code.wp Tryz.prog (suff 33 (Tryz.f3.body.getD .skip)) (bodyPost Tryz.prog Tryz.f3 (Good w)) ⟨#[.slice oa no oc, .slice na nn nc, lv2, lv3, lv4, vw, .int .i64 m, lv7, lv8, .slice (some ⟨go, 0, none⟩) (no + 2) oq, .slice (some ⟨gn, 0, none⟩) (nn + 2) nq, lv11, lv12, lv13, lv14, lv15, lv16, .slice pa pn pc, lv18, .slice qa pn qc, lv20, .slice (some ⟨ga, 0, none⟩) 3 3, lv22, lv23, lv24, lv25, .slice (some ⟨gl, 0, none⟩) 3 3, .slice pa pn pc, .slice qa pn qc, lv29, lv30, lv31, lv32, lv33, lv34, lv35, lv36, lv37, lv38, lv39, lv40, lv41, lv42, lv43, lv44, lv45, lv46, lv47, lv48, lv49, lv50, lv51, lv52, lv53, lv54, lv55, lv56, lv57, lv58, lv59, lv60, lv61, lv62, lv63, lv64, lv65, lv66, lv67, lv68, lv69, lv70, lv71, lv72, lv73, lv74, lv75, lv76, lv77, lv78, lv79, lv80, lv81, lv82, lv83, lv84, lv85, lv86, lv87, lv88, lv89, lv90, lv91, lv92, lv93, lv94, lv95, lv96, lv97, lv98, lv99, lv100, lv101, lv102, lv103, lv104, lv105, lv106, lv107, lv108, lv109, lv110, lv111, lv112, lv113, lv114, lv115, lv116, lv117, lv118, lv119, lv120, lv121, lv122, lv123, lv124, lv125, lv126, lv127, lv128, lv129, lv130, lv131, lv132, lv133, lv134, lv135, lv136, lv137, lv138, lv139, lv140, lv141, lv142, lv143, lv144, lv145, lv146, lv147, lv148, lv149, lv150, lv151, lv152, lv153, lv154, lv155, lv156, lv157, lv158, lv159, lv160, lv161, lv162, lv163, lv164, lv165, lv166, lv167, lv168, lv169, lv170, lv171, lv172, lv173, lv174, lv175, lv176, lv177, lv178, lv179, lv180, lv181, lv182, lv183, lv184, lv185, lv186, lv187, lv188, lv189, lv190, lv191, lv192, lv193, lv194, lv195, lv196, lv197, lv198, lv199, lv200, lv201, lv202, lv203, lv204, lv205, lv206, lv207, lv208, lv209, lv210, lv211, lv212, lv213, lv214, lv215, lv216, lv217, lv218, lv219, lv220, lv221, lv222, lv223, lv224, lv225, lv226, lv227, lv228, lv229, lv230, lv231, lv232, lv233, lv234, lv235, lv236, lv237, lv238, lv239, lv240, lv241, lv242, lv243, lv244, lv245, lv246, lv247, lv248, lv249, lv250, lv251, lv252, lv253, lv254, lv255, lv256, lv257, lv258, lv259, lv260, lv261, lv262, lv263, lv264, lv265, lv266, lv267, lv268, lv269, lv270, lv271, lv272, lv273, lv274, lv275, lv276, lv277, lv278, lv279, lv280, lv281, lv282, lv283, lv284, lv285, lv286, lv287, lv288, lv289, lv290, lv291, lv292, lv293, lv294, lv295, lv296, lv297, lv298, lv299, lv300, lv301, lv302, lv303, lv304, lv305, lv306, lv307, lv308, lv309, lv310, lv311, lv312, lv313, lv314, lv315, lv316, lv317, lv318, lv319, lv320, lv321, lv322, lv323, lv324, lv325, lv326, lv327, lv328, lv329, lv330, lv331, lv332, lv333, lv334, lv335, lv336, lv337, lv338, lv339, lv340, lv341, lv342, lv343, lv344, lv345, lv346, lv347, lv348, lv349, lv350, lv351, lv352, lv353, lv354, lv355, lv356, lv357, lv358, lv359, lv360, lv361, lv362, lv363, lv364, lv365, lv366, lv367, lv368, lv369, lv370, lv371, lv372, lv373, lv374, lv375, lv376, lv377, lv378, lv379, lv380, lv381, lv382, lv383, lv384, lv385, lv386, lv387, lv388, lv389, lv390, lv391, lv392, lv393, lv394, lv395, lv396, lv397, lv398, lv399, lv400, lv401, lv402, lv403, lv404, lv405, lv406, lv407, lv408, lv409, lv410, lv411, lv412, lv413, lv414, lv415, lv416, lv417, lv418, lv419, lv420, lv421, lv422, lv423, lv424, lv425, lv426, lv427, lv428, lv429, lv430, lv431, lv432, lv433, lv434, lv435, lv436, lv437, lv438, lv439, lv440, lv441, lv442, lv443, lv444, lv445, lv446, lv447, lv448, lv449, lv450, lv451, lv452, lv453, lv454, lv455, lv456, lv457, lv458, lv459], []⟩ W := by
  conv => arg 2; whnf
  have HR : Hid (V 3 = .slice pa pn pc ∧ V 4 = .slice qa pn qc ∧ n 3 = pn ∧ n 4 = pn) := ⟨HM.out.2.2.1, HM.out.2.2.2.1, HM.out.2.2.2.2.1, HM.out.2.2.2.2.2.1⟩
  refine wp_seq_k fun KK hKK => ?_
  have HK_ : Hid _ := hKK
  clear hKK
  go_wp2_with fail
  go_loopw [29] (fun i wr => ∃ (k : Nat) (U2 P2 : Nat → Value) (m2 : Nat → Nat) (D2 : Nat → Nat → Prop), k ≤ 3 ∧ i = .int .i64 k ∧ GX B w0 wr ga gl V U2 P2 n m2 D0 D2 ∧ (∀ i, i < 3 → P2 i = U2 i) ∧ (∀ i, i < k → m2 i = n i + 16) ∧ (∀ i, k ≤ i → i < 5 → m2 i = n i) ∧ U2 3 = V 3 ∧ U2 4 = V 4) (fun i _ => 3 - (intOf i).toNat)
  case atStart => exact ⟨0, U, P, mm, D, by omega, rfl, HX.out, HM.out.1, fun i hi => by omega, fun i _ hi => HM.out.2.1 i hi, HM.out.2.2.2.2.2.2.1, HM.out.2.2.2.2.2.2.2⟩
  case round =>
    obtain ⟨k, U2, P2, m2, D2, hk, rfl, hX, hP, hm1, hm2, hu3, hu4⟩ := hrel
    have OK : Hid (GX B w0 wr ga gl V U2 P2 n m2 D0 D2 ∧ (∀ i, i < 3 → P2 i = U2 i) ∧ (∀ i, i < k → m2 i = n i + 16) ∧ (∀ i, k ≤ i → i < 5 → m2 i = n i) ∧ U2 3 = V 3 ∧ U2 4 = V 4) := ⟨hX, hP, hm1, hm2, hu3, hu4⟩
    clear hX hP hm1 hm2 hu3 hu4
    by_cases hlt : k < 3
    · have k0 : (0 : Int) ≤ (k : Int) := by omega
      have k1 : (k : Int) < 3 := by omega
      have hnl := hnk k hlt
      have hwz : IntKind.i64.wrap (-1 - (k : Int)) = -1 - (k : Int) := by rw [IntKind.wrap_i64]; omega
      go_wp2_with fail
      go_loopw [30] (fun i wr => ∃ (j : Nat) (U3 P3 : Nat → Value) (m3 : Nat → Nat) (D3 : Nat → Nat → Prop), j ≤ 16 ∧ i = .int .i64 j ∧ GX B w0 wr ga gl V U3 P3 n m3 D0 D3 ∧ (∀ i, i < 3 → P3 i = U3 i) ∧ (∀ i, i < k → m3 i = n i + 16) ∧ (∀ i, k < i → i < 5 → m3 i = n i) ∧ m3 k = n k + j ∧ U3 3 = V 3 ∧ U3 4 = V 4) (fun i _ => 16 - (intOf i).toNat)
      case atStart => exact ⟨0, U2, P2, m2, D2, by omega, rfl, OK.out.1, OK.out.2.1, OK.out.2.2.1, fun i h1 h2 => OK.out.2.2.2.1 i (by omega) h2, OK.out.2.2.2.1 k (Nat.le_refl _) (by omega), OK.out.2.2.2.2⟩
      case round =>
        rename World => wq
        clear OK
        obtain ⟨j, U3, P3, m3, D3, hj, rfl, hX, hP, hm1, hm2, hmk, hu3, hu4⟩ := hrel
        have OX : Hid (GX B w0 wq ga gl V U3 P3 n m3 D0 D3 ∧ (∀ i, i < 3 → P3 i = U3 i) ∧ (∀ i, i < k → m3 i = n i + 16) ∧ (∀ i, k < i → i < 5 → m3 i = n i) ∧ m3 k = n k + j ∧ U3 3 = V 3 ∧ U3 4 = V 4) := ⟨hX, hP, hm1, hm2, hmk, hu3, hu4⟩
        have hbs : B ≤ wq.heap.size := Nat.le_trans hX.x.base hX.x.size
        obtain ⟨ua, uc, hu⟩ := hX.len (i := k) (by omega)
        have hgl := hX.glt
        obtain ⟨c1, -⟩ := hX.cl hlt
        rw [hP k hlt, hu] at c1
        obtain ⟨mk, hmk'⟩ : ∃ x, m3 k = x := ⟨_, rfl⟩
        rw [hmk'] at c1 hu
        have HU : Hid (U3 k = .slice ua mk uc ∧ m3 k = mk) := ⟨hu, hmk'⟩
        have hmb : mk ≤ 1000016 := by rw [← hmk', hmk]; omega
        clear hX hP hm1 hm2 hmk hu3 hu4 hu hmk'
        by_cases hjl : j < 16
        · have j0 : (0 : Int) ≤ (j : Int) := by omega
          have j1 : (j : Int) < 16 := by omega
          have ou : Hid (OwR (kStp k).e (kStp k).sz B wq (.slice ua mk uc) mk (rep mk (kStp k).c)) := by
            have := OX.out.1.x.ou k (by omega)
            rw [HU.out.1, HU.out.2, kP_lt hlt] at this
            exact this
          go_wp2_with (at_builtin; refine app_kP (kStp_ok k) (ou.out.later (balloc wq (.cells #[.int .i64 (-1 - (k : Int)), .string ⟨#[]⟩, .string ⟨#[]⟩, .string ⟨#[]⟩, .int .i64 0, .int .i64 0] 42))) (src_S wq k) (by omega) (Nat.le_trans hbs (balloc wq (.cells #[.int .i64 (-1 - (k : Int)), .string ⟨#[]⟩, .string ⟨#[]⟩, .string ⟨#[]⟩, .int .i64 0, .int .i64 0] 42)).size) rfl (.tmp 285) (.tmp 289) rfl rfl rfl ?_; intro v5 w5 ho5 hw5; obtain ⟨a5, c5, e5⟩ := ho5.len; subst e5; have X5 : Hid (GX B w0 w5 ga gl V (fun i => if i = k then .slice a5 (mk + 1) c5 else U3 i) P3 n (fun i => if i = k then m3 k + 1 else m3 i) D0 (fun i g => D3 i g ∨ (i = k ∧ (Value.slice a5 (mk + 1) c5).ownBlock = some g))) := (OX.out.1.later (balloc wq (.cells #[.int .i64 (-1 - (k : Int)), .string ⟨#[]⟩, .string ⟨#[]⟩, .string ⟨#[]⟩, .int .i64 0, .int .i64 0] 42))).app (k := k) (by omega) (by rw [HU.out.2, kP_lt hlt]; exact ho5) (by rw [HU.out.1, HU.out.2]; exact hw5); clear ho5 hw5; obtain ⟨cs, cf⟩ := X5.out.cl hlt; have hg5 := X5.out.glt)
          go_roundw
          case rel =>
            refine ⟨j + 1, _, _, _, _, by omega, by go_num, X5.out.put hlt (.slice a5 (mk + 1) c5), fun i hi => ?_, fun i hi => ?_, fun i h1 h2 => ?_, ?_, ?_, ?_⟩
            · show (if i = k then Value.slice a5 (mk + 1) c5 else P3 i) = if i = k then Value.slice a5 (mk + 1) c5 else U3 i
              rw [OX.out.2.1 i hi]
            · show (if i = k then m3 k + 1 else m3 i) = _
              rw [if_neg (by omega)]; exact OX.out.2.2.1 i hi
            · show (if i = k then m3 k + 1 else m3 i) = _
              rw [if_neg (by omega)]; exact OX.out.2.2.2.1 i h1 h2
            · show (if k = k then m3 k + 1 else m3 k) = _
              rw [if_pos rfl, OX.out.2.2.2.2.1]; rfl
            · show (if 3 = k then Value.slice a5 (mk + 1) c5 else U3 3) = _
              rw [if_neg (by omega)]; exact OX.out.2.2.2.2.2.1
            · show (if 4 = k then Value.slice a5 (mk + 1) c5 else U3 4) = _
              rw [if_neg (by omega)]; exact OX.out.2.2.2.2.2.2
          case measure => simp [intOf]; omega
        · obtain rfl : j = 16 := by omega
          go_wp2_with fail
          go_roundw
          case rel =>
            refine ⟨k + 1, U3, P3, m3, D3, by omega, by go_num, OX.out.1, OX.out.2.1, fun i hi => ?_, fun i h1 h2 => OX.out.2.2.2.1 i (by omega) h2, OX.out.2.2.2.2.2⟩
            by_cases e : i = k
            · subst e; exact OX.out.2.2.2.2.1
            · exact OX.out.2.2.1 i (by omega)
          case measure => simp [intOf]; omega
    · obtain rfl : k = 3 := by omega
      go_wp2_with fail
      refine HK_.out _ _ ?_
      clear HK_
      exact pf40 C HE HW Hm HZ hno hnn OK.out.1 ⟨fun i hi => ⟨OK.out.2.1 i hi, OK.out.2.2.1 i hi⟩, HR.out.1, HR.out.2.1, HR.out.2.2.1, HR.out.2.2.2, (OK.out.2.2.2.1 3 (by omega) (by omega)).trans HR.out.2.2.1, (OK.out.2.2.2.1 4 (by omega) (by omega)).trans HR.out.2.2.2, OK.out.2.2.2.2.1, OK.out.2.2.2.2.2⟩ HL hpn hnk
end Go.Proofs.YtfdcfcalbongeaaGreat
