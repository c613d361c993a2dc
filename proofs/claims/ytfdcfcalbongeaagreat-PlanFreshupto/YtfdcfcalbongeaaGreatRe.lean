/-
  The look at fresh memory (plan): asked again, and once more with a number turned.
-/
import Derived.Test.YtfdcfcalbongeaaGreatRd
namespace Go.Proofs.YtfdcfcalbongeaaGreat
open Go.RowKit
attribute [local go_sem] Oper.semAt_some

theorem fsz_blob {p t : List UInt8} {b b2 s : Int} {r : List Fl} (h : Fsz (⟨p, t, b, s⟩ :: r)) (h1 : -9223372036854775808 ≤ b2) (h2 : b2 ≤ 9223372036854775807) : Fsz (⟨p, t, b2, s⟩ :: r) := by
  refine ⟨⟨h.sm.len, fun f hf => ?_⟩, h.len, fun f hf => ?_⟩
  · rcases List.mem_cons.1 hf with rfl | hf
    · have := h.sm.each _ (List.mem_cons_self ..)
      exact ⟨this.path, this.text, h1, h2, this.s0, this.s1⟩
    · exact h.sm.each f (List.mem_cons_of_mem _ hf)
  · rcases List.mem_cons.1 hf with rfl | hf
    · exact h.pl ⟨p, t, b, s⟩ (List.mem_cons_self ..)
    · exact h.pl f (List.mem_cons_of_mem _ hf)
theorem FE.blob {w W : World} {oa na : Option Addr} {no oc nn nc go oq gn nq : Nat} {old now r : List Fl} {f : Fl} (h : FE w W oa na no oc nn nc go oq gn nq old now (f :: r)) (b : Int) :
    FE w (W.setCell ⟨gn, 2, none⟩ (.int .i64 b)) oa na no oc nn nc go oq gn nq old now (⟨f.path, f.text, b, f.size⟩ :: r) := by
  have hl := h.n.lt (k := gn) rfl
  refine ⟨h.fo, h.fn, h.o.only (Only.set W gn 2 _) (fun k hk hm => ?_), ownP_blob h.n b, below_trans h.below ((Only.set W gn 2 _).below h.below.size (fun k hm => ?_)), h.ol, h.nl, h.xl, h.ne⟩
  · simp only [List.mem_singleton] at hm
    have : go = k := by simpa [Value.ownBlock] using hk
    exact h.ne (this.trans hm)
  · simp only [List.mem_singleton] at hm
    subst hm; exact hl.1
set_option maxRecDepth 100000 in
set_option maxHeartbeats 16000000 in
theorem pf58 {lv2 lv3 lv4 lv7 lv8 lv11 lv12 lv13 lv14 lv15 lv16 lv17 lv18 lv19 lv20 lv21 lv22 lv23 lv24 lv25 lv26 lv27 lv28 lv29 lv30 lv31 lv32 lv33 lv34 lv35 lv36 lv37 lv38 lv39 lv40 lv41 lv42 lv43 lv44 lv45 lv46 lv47 lv48 lv49 lv50 lv51 lv52 lv53 lv54 lv55 lv56 lv57 lv58 lv59 lv60 lv61 lv62 lv63 lv64 lv65 lv66 lv67 lv68 lv69 lv70 lv71 lv72 lv73 lv74 lv75 lv76 lv77 lv78 lv79 lv80 lv81 lv82 lv83 lv84 lv85 lv86 lv87 lv88 lv89 lv90 lv91 lv92 lv93 lv94 lv95 lv96 lv97 lv98 lv99 lv100 lv101 lv102 lv103 lv104 lv105 lv106 lv107 lv108 lv109 lv110 lv111 lv112 lv113 lv114 lv115 lv116 lv117 lv118 lv119 lv120 lv121 lv122 lv123 lv124 lv125 lv126 lv127 lv128 lv129 lv130 lv131 lv132 lv133 lv134 lv135 lv136 lv137 lv138 lv139 lv140 lv141 lv142 lv143 lv144 lv145 lv146 lv147 lv148 lv149 lv150 lv151 lv152 lv153 lv154 lv155 lv156 lv157 lv158 lv159 lv160 lv161 lv162 lv163 lv164 lv165 lv166 lv167 lv168 lv169 lv170 lv171 lv172 lv173 lv174 lv175 lv176 lv177 lv178 lv179 lv180 lv181 lv182 lv183 lv184 lv185 lv186 lv187 lv188 lv189 lv190 lv191 lv192 lv193 lv194 lv195 lv196 lv197 lv198 lv199 lv200 lv201 lv202 lv203 lv204 lv205 lv206 lv207 lv208 lv209 lv210 lv211 lv212 lv213 lv214 lv215 lv216 lv217 lv218 lv219 lv220 lv221 lv222 lv223 lv224 lv225 lv226 lv227 lv228 lv229 lv230 lv231 lv232 lv233 lv234 lv235 lv236 lv237 lv238 lv239 lv240 lv241 lv242 lv243 lv244 lv245 lv246 lv247 lv248 lv249 lv250 lv251 lv252 lv253 lv254 lv255 lv256 lv257 lv258 lv259 lv260 lv261 lv262 lv263 lv264 lv265 lv266 lv267 lv268 lv269 lv270 lv271 lv272 lv273 lv274 lv275 lv276 lv277 lv278 lv279 lv280 lv281 lv282 lv283 lv284 lv285 lv286 lv287 lv288 lv289 lv290 lv291 lv292 lv293 lv294 lv295 lv296 lv297 lv298 lv299 lv300 lv301 lv302 lv303 lv304 lv305 lv306 lv307 lv308 lv309 lv310 lv311 lv312 lv313 lv314 lv315 lv316 lv317 lv318 lv319 lv320 lv321 lv322 lv323 lv324 lv325 lv326 lv327 lv328 lv329 lv330 lv331 lv332 lv333 lv334 lv335 lv336 lv337 lv338 lv339 lv340 lv341 lv342 lv343 lv344 lv345 lv346 lv347 lv348 lv349 lv350 lv351 lv352 lv353 lv354 lv355 lv356 lv357 lv358 lv359 lv360 lv361 lv362 lv363 lv364 lv365 lv366 lv367 lv368 lv369 lv370 lv371 lv372 lv373 lv374 lv375 lv376 lv377 lv378 lv379 lv380 lv381 lv382 lv383 lv384 lv385 lv386 lv387 lv388 lv389 lv390 lv391 lv392 lv393 lv394 lv395 lv396 lv397 lv398 lv399 lv400 lv401 lv402 lv403 lv404 lv405 lv406 lv407 lv408 lv409 lv410 lv411 lv412 lv413 lv414 lv415 lv416 lv417 lv418 lv419 lv420 lv421 lv422 lv423 lv424 lv425 lv426 lv427 lv428 lv429 lv430 lv431 lv432 lv433 lv434 lv435 lv436 lv437 lv438 lv439 lv440 lv441 lv442 lv443 lv444 lv445 lv446 lv447 lv448 lv449 lv450 lv451 lv452 lv453 lv454 lv455 lv456 lv457 lv458 lv459 : Value} (C : PcP) {w W : World} {oa na : Option Addr} {no oc nn nc go oq gn nq : Nat} {vw : Value} {m : Int} {old now : List Fl} (HE : Hid (FE w W oa na no oc nn nc go oq gn nq old now now)) (HW : Hid (OwS w.heap.size W vw (mkA old now))) (Hm : Hid (mkE old now = m)) (HZ : Hid (Fsz old ∧ Fsz now)) (hno : no ≤ 1500000) (hnn : nn ≤ 1500000) :
    Code.wp Tryz.prog (suff 58 (Tryz.f3.body.getD .skip)) (bodyPost Tryz.prog Tryz.f3 (Good w)) ⟨#[.slice oa no oc, .slice na nn nc, lv2, lv3, lv4, vw, .int .i64 m, lv7, lv8, .slice (some ⟨go, 0, none⟩) (no + 2) oq, .slice (some ⟨gn, 0, none⟩) (nn + 2) nq, lv11, lv12, lv13, lv14, lv15, lv16, lv17, lv18, lv19, lv20, lv21, lv22, lv23, lv24, lv25, lv26, lv27, lv28, lv29, lv30, lv31, lv32, lv33, lv34, lv35, lv36, lv37, lv38, lv39, lv40, lv41, lv42, lv43, lv44, lv45, lv46, lv47, lv48, lv49, lv50, lv51, lv52, lv53, lv54, lv55, lv56, lv57, lv58, lv59, lv60, lv61, lv62, lv63, lv64, lv65, lv66, lv67, lv68, lv69, lv70, lv71, lv72, lv73, lv74, lv75, lv76, lv77, lv78, lv79, lv80, lv81, lv82, lv83, lv84, lv85, lv86, lv87, lv88, lv89, lv90, lv91, lv92, lv93, lv94, lv95, lv96, lv97, lv98, lv99, lv100, lv101, lv102, lv103, lv104, lv105, lv106, lv107, lv108, lv109, lv110, lv111, lv112, lv113, lv114, lv115, lv116, lv117, lv118, lv119, lv120, lv121, lv122, lv123, lv124, lv125, lv126, lv127, lv128, lv129, lv130, lv131, lv132, lv133, lv134, lv135, lv136, lv137, lv138, lv139, lv140, lv141, lv142, lv143, lv144, lv145, lv146, lv147, lv148, lv149, lv150, lv151, lv152, lv153, lv154, lv155, lv156, lv157, lv158, lv159, lv160, lv161, lv162, lv163, lv164, lv165, lv166, lv167, lv168, lv169, lv170, lv171, lv172, lv173, lv174, lv175, lv176, lv177, lv178, lv179, lv180, lv181, lv182, lv183, lv184, lv185, lv186, lv187, lv188, lv189, lv190, lv191, lv192, lv193, lv194, lv195, lv196, lv197, lv198, lv199, lv200, lv201, lv202, lv203, lv204, lv205, lv206, lv207, lv208, lv209, lv210, lv211, lv212, lv213, lv214, lv215, lv216, lv217, lv218, lv219, lv220, lv221, lv222, lv223, lv224, lv225, lv226, lv227, lv228, lv229, lv230, lv231, lv232, lv233, lv234, lv235, lv236, lv237, lv238, lv239, lv240, lv241, lv242, lv243, lv244, lv245, lv246, lv247, lv248, lv249, lv250, lv251, lv252, lv253, lv254, lv255, lv256, lv257, lv258, lv259, lv260, lv261, lv262, lv263, lv264, lv265, lv266, lv267, lv268, lv269, lv270, lv271, lv272, lv273, lv274, lv275, lv276, lv277, lv278, lv279, lv280, lv281, lv282, lv283, lv284, lv285, lv286, lv287, lv288, lv289, lv290, lv291, lv292, lv293, lv294, lv295, lv296, lv297, lv298, lv299, lv300, lv301, lv302, lv303, lv304, lv305, lv306, lv307, lv308, lv309, lv310, lv311, lv312, lv313, lv314, lv315, lv316, lv317, lv318, lv319, lv320, lv321, lv322, lv323, lv324, lv325, lv326, lv327, lv328, lv329, lv330, lv331, lv332, lv333, lv334, lv335, lv336, lv337, lv338, lv339, lv340, lv341, lv342, lv343, lv344, lv345, lv346, lv347, lv348, lv349, lv350, lv351, lv352, lv353, lv354, lv355, lv356, lv357, lv358, lv359, lv360, lv361, lv362, lv363, lv364, lv365, lv366, lv367, lv368, lv369, lv370, lv371, lv372, lv373, lv374, lv375, lv376, lv377, lv378, lv379, lv380, lv381, lv382, lv383, lv384, lv385, lv386, lv387, lv388, lv389, lv390, lv391, lv392, lv393, lv394, lv395, lv396, lv397, lv398, lv399, lv400, lv401, lv402, lv403, lv404, lv405, lv406, lv407, lv408, lv409, lv410, lv411, lv412, lv413, lv414, lv415, lv416, lv417, lv418, lv419, lv420, lv421, lv422, lv423, lv424, lv425, lv426, lv427, lv428, lv429, lv430, lv431, lv432, lv433, lv434, lv435, lv436, lv437, lv438, lv439, lv440, lv441, lv442, lv443, lv444, lv445, lv446, lv447, lv448, lv449, lv450, lv451, lv452, lv453, lv454, lv455, lv456, lv457, lv458, lv459], []⟩ W := by
  conv => arg 2; whnf
  obtain ⟨cp1, cp2⟩ := HE.out.caps
  have i0 : (0 : Int) ≤ (no : Int) := by omega
  have i1 : (no : Int) ≤ (oq : Int) := by omega
  have i2 : (0 : Int) ≤ (nn : Int) := by omega
  have i3 : (nn : Int) ≤ (nq : Int) := by omega
  have i4 : ¬ oq = 0 := by omega
  have i5 : ¬ nq = 0 := by omega
  clear cp1 cp2
  have MK : Hid (∀ V, Below W.heap.size W V → Calls Tryz.prog 6 #[.slice (some ⟨go, 0, none⟩) no oq, .slice (some ⟨gn, 0, none⟩) nn nq] V fun e w' => ∃ v, e = .returned (.tuple #[v, .int .i64 m]) ∧ OwS V.heap.size w' v (mkA old now) ∧ Below V.heap.size V w') := fun V h => by
    have := C.mak (HE.out.po.later h) (HE.out.pn.later h) HZ.out.1 HZ.out.2
    rw [Hm.out] at this
    unfold mkA
    rw [Hm.out]
    exact this
  refine wp_seq_k fun KK hKK => ?_
  have HK_ : Hid _ := hKK
  clear hKK
  go_upto_region 58 with fail
  refine wp_region_noPanic ?_
  refine wp_region_held_drew (S := fun _ => True) (by kernel_rfl) trivial (fun hHeld => ?_)
  refine wpAnyH_take (i := 0) (oi := { dst := some 387, op := _, type := _, pos := _, after := _, guard := _ }) (v := ?vx1) rfl (by kernel_rfl) (by kernel_rfl) (by kernel_rfl) (fun _ _ _ h => h) (Or.inl ⟨by rfl, ?hyx1⟩) (by assumption) ?restx1
  case hyx1 => (intro w hSw; (try dsimp only at hSw); go_simp; try with_reducible rfl)
  try simp only [Act.put, List.setIfInBounds_toArray, List.set_cons_zero, List.set_cons_succ]
  refine wpAnyH_take (i := 1) (oi := { dst := some 388, op := _, type := _, pos := _, after := _, guard := _ }) (v := ?vx2) rfl (by kernel_rfl) (by kernel_rfl) (by kernel_rfl) (fun _ _ _ h => h) (Or.inl ⟨by rfl, ?hyx2⟩) (by assumption) ?restx2
  case hyx2 => (intro w hSw; (try dsimp only at hSw); go_simp; try with_reducible rfl)
  try simp only [Act.put, List.setIfInBounds_toArray, List.set_cons_zero, List.set_cons_succ]
  refine wpAnyH_take (i := 2) (oi := { dst := some 389, op := _, type := _, pos := _, after := _, guard := _ }) (v := ?vx3) rfl (by kernel_rfl) (by kernel_rfl) (by kernel_rfl) (fun _ _ _ h => h) (Or.inl ⟨by rfl, ?hyx3⟩) (by assumption) ?restx3
  case hyx3 => (intro w hSw; (try dsimp only at hSw); go_simp; try with_reducible rfl)
  try simp only [Act.put, List.setIfInBounds_toArray, List.set_cons_zero, List.set_cons_succ]
  refine wpAnyH_take (i := 3) (oi := { dst := some 390, op := _, type := _, pos := _, after := _, guard := _ }) (v := ?vx4) rfl (by kernel_rfl) (by kernel_rfl) (by kernel_rfl) (fun _ _ _ h => h) (Or.inl ⟨by rfl, ?hyx4⟩) (by assumption) ?restx4
  case hyx4 => (intro w hSw; (try dsimp only at hSw); go_simp; try with_reducible rfl)
  try simp only [Act.put, List.setIfInBounds_toArray, List.set_cons_zero, List.set_cons_succ]
  refine wpAnyH_take (i := 4) (oi := { dst := some 391, op := _, type := _, pos := _, after := _, guard := _ }) (v := ?vx5) rfl (by kernel_rfl) (by kernel_rfl) (by kernel_rfl) (fun _ _ _ h => h) (Or.inl ⟨by rfl, ?hyx5⟩) (by assumption) ?restx5
  case hyx5 => (intro w hSw; (try dsimp only at hSw); go_simp; try with_reducible rfl)
  try simp only [Act.put, List.setIfInBounds_toArray, List.set_cons_zero, List.set_cons_succ]
  refine wpAnyH_take (i := 5) (oi := { dst := some 392, op := _, type := _, pos := _, after := _, guard := _ }) (v := ?vx6) rfl (by kernel_rfl) (by kernel_rfl) (by kernel_rfl) (fun _ _ _ h => h) (Or.inl ⟨by rfl, ?hyx6⟩) (by assumption) ?restx6
  case hyx6 => (intro w hSw; (try dsimp only at hSw); go_simp; try with_reducible rfl)
  try simp only [Act.put, List.setIfInBounds_toArray, List.set_cons_zero, List.set_cons_succ]
  refine wpAnyH_take (i := 6) (oi := { dst := some 393, op := _, type := _, pos := _, after := _, guard := _ }) (v := ?vx7) rfl (by kernel_rfl) (by kernel_rfl) (by kernel_rfl) (fun _ _ _ h => h) (Or.inl ⟨by rfl, ?hyx7⟩) (by assumption) ?restx7
  case hyx7 => (intro w hSw; (try dsimp only at hSw); go_simp; try with_reducible rfl)
  try simp only [Act.put, List.setIfInBounds_toArray, List.set_cons_zero, List.set_cons_succ]
  refine wpAnyH_take (i := 7) (oi := { dst := some 394, op := _, type := _, pos := _, after := _, guard := _ }) (v := ?vx8) rfl (by kernel_rfl) (by kernel_rfl) (by kernel_rfl) (fun _ _ _ h => h) (Or.inl ⟨by rfl, ?hyx8⟩) (by assumption) ?restx8
  case hyx8 => (intro w hSw; (try dsimp only at hSw); go_simp; try with_reducible rfl)
  try simp only [Act.put, List.setIfInBounds_toArray, List.set_cons_zero, List.set_cons_succ]
  refine wpAnyH_ready (rs := [8]) (by kernel_rfl) (by simp) ?_
  refine AllReadyH.cons (o := { dst := some 395, op := _, type := _, pos := _, after := _, guard := _ }) rfl (fun K hK => ?_) AllReadyH.nil
  go_simp
  with_reducible refine (MK.out _ (bdP W)).mono ?_
  rintro e z1 ⟨v1, rfl, hs1, hb1⟩
  have Z1 : Hid (Below W.heap.size W z1 ∧ PS z1 v1 (mkA old now)) := ⟨bstep (bdP W) hb1, hs1.ps⟩
  clear hs1 hb1
  refine hK.out _ _ trivial (fun hHeld => ?_)
  clear hK K
  try simp only [List.setIfInBounds_toArray, List.set_cons_zero, List.set_cons_succ]
  refine wpAnyH_take (i := 9) (oi := { dst := some 386, op := _, type := _, pos := _, after := _, guard := _ }) (v := ?vx9) rfl (by kernel_rfl) (by kernel_rfl) (by kernel_rfl) (fun _ _ _ h => h) (Or.inl ⟨by rfl, ?hyx9⟩) (by assumption) ?restx9
  case hyx9 => (intro w hSw; (try dsimp only at hSw); go_simp; try with_reducible rfl)
  try simp only [Act.put, List.setIfInBounds_toArray, List.set_cons_zero, List.set_cons_succ]
  refine wpAnyH_take (i := 10) (oi := { dst := some 396, op := _, type := _, pos := _, after := _, guard := _ }) (v := ?vx10) rfl (by kernel_rfl) (by kernel_rfl) (by kernel_rfl) (fun _ _ _ h => h) (Or.inl ⟨by rfl, ?hyx10⟩) (by assumption) ?restx10
  case hyx10 => (intro w hSw; (try dsimp only at hSw); go_simp; try with_reducible rfl)
  try simp only [Act.put, List.setIfInBounds_toArray, List.set_cons_zero, List.set_cons_succ]
  refine wpAnyH_take (i := 11) (oi := { dst := some 397, op := _, type := _, pos := _, after := _, guard := _ }) (v := ?vx11) rfl (by kernel_rfl) (by kernel_rfl) (by kernel_rfl) (fun _ _ _ h => h) (Or.inl ⟨by rfl, ?hyx11⟩) (by assumption) ?restx11
  case hyx11 => (intro w hSw; (try dsimp only at hSw); go_simp; try with_reducible rfl)
  try simp only [Act.put, List.setIfInBounds_toArray, List.set_cons_zero, List.set_cons_succ]
  refine wpAnyH_take (i := 12) (oi := { dst := some 11, op := _, type := _, pos := _, after := _, guard := _ }) (v := ?vx12) rfl (by kernel_rfl) (by kernel_rfl) (by kernel_rfl) (fun _ _ _ h => h) (Or.inl ⟨by rfl, ?hyx12⟩) (by assumption) ?restx12
  case hyx12 => (intro w hSw; (try dsimp only at hSw); go_simp; try with_reducible rfl)
  try simp only [Act.put, List.setIfInBounds_toArray, List.set_cons_zero, List.set_cons_succ]
  refine wpAnyH_take (i := 13) (oi := { dst := some 12, op := _, type := _, pos := _, after := _, guard := _ }) (v := ?vx13) rfl (by kernel_rfl) (by kernel_rfl) (by kernel_rfl) (fun _ _ _ h => h) (Or.inl ⟨by rfl, ?hyx13⟩) (by assumption) ?restx13
  case hyx13 => (intro w hSw; (try dsimp only at hSw); go_simp; try with_reducible rfl)
  try simp only [Act.put, List.setIfInBounds_toArray, List.set_cons_zero, List.set_cons_succ]
  refine wpAnyH_done (by kernel_rfl) ?_ _
  refine NoPanic.normal ?_
  go_wp2_with fail
  refine HK_.out _ _ ?_
  clear HK_
  refine wp_seq_k fun KK hKK => ?_
  have HK_ : Hid _ := hKK
  clear hKK
  by_cases hn0 : nn = 0
  · subst hn0
    go_wp2_with fail
    refine (sameSteps_any Z1.out.2 ((HW.out.later Z1.out.1).ps) (by have := mkA_len old now; omega)).mono ?_
    rintro e z2 ⟨rfl, hb2⟩
    rw [(sleq_iff _ _).2 rfl]
    have Z2 : Hid (Below W.heap.size W z2 ∧ PS z2 v1 (mkA old now)) := ⟨bstep Z1.out.1 hb2, Z1.out.2.later hb2⟩
    clear hb2
    go_wp2_with fail
    refine (sameSteps_any Z2.out.2 ((HW.out.later Z2.out.1).ps) (by have := mkA_len old now; omega)).mono ?_
    rintro e z3 ⟨rfl, hb2⟩
    rw [(sleq_iff _ _).2 rfl]
    have Z3 : Hid (Below W.heap.size W z3 ∧ PS z3 v1 (mkA old now)) := ⟨bstep Z2.out.1 hb2, Z2.out.2.later hb2⟩
    clear hb2
    go_wp2_with fail
    go_ret
    exact ⟨rfl, bstep HE.out.below Z3.out.1⟩
  · have hnb : ((nn : Int) == 0) = false := by simpa using hn0
    have hnc : ¬ (nn : Int) = 0 := by omega
    go_wp2_with fail
    refine (sameSteps_any Z1.out.2 ((HW.out.later Z1.out.1).ps) (by have := mkA_len old now; omega)).mono ?_
    rintro e z2 ⟨rfl, hb2⟩
    rw [(sleq_iff _ _).2 rfl]
    have Z2 : Hid (Below W.heap.size W z2 ∧ PS z2 v1 (mkA old now)) := ⟨bstep Z1.out.1 hb2, Z1.out.2.later hb2⟩
    clear hb2
    go_wp2_with fail
    refine HK_.out _ _ ?_
    clear HK_
    obtain ⟨nb, nf, hna⟩ : ∃ nb nf, na = some ⟨nb, nf, none⟩ := by
      rcases HE.out.fn with ⟨⟨_, _, e⟩, e2⟩ | ⟨b, off, _, e, _⟩
      · have := HE.out.nl
        rw [e2] at this
        simp at this
        omega
      · injection e with e1 _ _
        exact ⟨b, off, e1⟩
    subst hna
    have HE2 : Hid (FE w z2 oa (some ⟨nb, nf, none⟩) no oc nn nc go oq gn nq old now now) := HE.out.later Z2.out.1
    clear MK HW Hm Z1 Z2 HE
    cases now with
    | nil => exact absurd HE2.out.nl.symm hn0
    | cons f r =>
      obtain ⟨p, t, b0, sz⟩ := f
      obtain ⟨b2, hb2, hr1, hr2⟩ : ∃ x, IntKind.i64.wrap (b0 + 1) = x ∧ -9223372036854775808 ≤ x ∧ x ≤ 9223372036854775807 := ⟨_, rfl, by rw [IntKind.wrap_i64]; omega, by rw [IntKind.wrap_i64]; omega⟩
      have HE3 : Hid (FE w (z2.setCell ⟨gn, 2, none⟩ (.int .i64 b2)) oa (some ⟨nb, nf, none⟩) no oc nn nc go oq gn nq old (⟨p, t, b0, sz⟩ :: r) (⟨p, t, b2, sz⟩ :: r)) := HE2.out.blob b2
      obtain ⟨c0, c1⟩ := ownP_cell HE2.out.n (j := 2) (u := .int .i64 b0) (by simp [fc])
      have hgl := (HE2.out.n.lt (k := gn) rfl).2
      have k0 : (0 : Int) < (nn : Int) + 2 := by omega
      clear hnb hnc i0 i1 i2 i3 i4 i5
      refine wp_seq_k fun KK hKK => ?_
      have HK_ : Hid _ := hKK
      clear hKK
      go_wp2_with fail
      refine HK_.out _ _ ?_
      exact pf62 C HE3.out ⟨HZ.out.1, fsz_blob HZ.out.2 hr1 hr2⟩ hno hnn (by omega)
end Go.Proofs.YtfdcfcalbongeaaGreat
