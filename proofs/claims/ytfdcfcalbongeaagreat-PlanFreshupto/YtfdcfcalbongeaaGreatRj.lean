/-
  The look at fresh memory (plan): what is answered, held against what is wanted.
-/
import Derived.Test.YtfdcfcalbongeaaGreatJFx
import Derived.Test.YtfdcfcalbongeaaGreatRi
namespace Go.Proofs.YtfdcfcalbongeaaGreat
open Go.RowKit
attribute [local go_sem] Oper.semAt_some

theorem FE.marks {w W : World} {oa na : Option Addr} {no oc nn nc go oq gn nq : Nat} {old now : List Fl} (h : FE w W oa na no oc nn nc go oq gn nq old now now) :
    (W.cell? ⟨go, no * 4, none⟩ = some (.string ⟨#[111, 110, 101]⟩) ∧ W.cell? ⟨go, (no + 1) * 4, none⟩ = some (.string ⟨#[116, 119, 111]⟩)) ∧ W.cell? ⟨gn, nn * 4, none⟩ = some (.string ⟨#[116, 104, 114, 101, 101]⟩) ∧ W.cell? ⟨gn, (nn + 1) * 4, none⟩ = some (.string ⟨#[102, 111, 117, 114]⟩) := by
  have go' : ∀ (l : List Fl) (f g : Fl), (fc (l ++ [f, g]))[l.length * 4]? = some (.string (bs f.path)) ∧ (fc (l ++ [f, g]))[(l.length + 1) * 4]? = some (.string (bs g.path)) := fun l f g => by
    have e1 := (fc_get (l ++ [f, g]) l.length (by simp)).1
    have e2 := (fc_get (l ++ [f, g]) (l.length + 1) (by simp)).1
    refine ⟨e1.trans ?_, e2.trans ?_⟩ <;> simp
  have h1 := go' old fo1 fo2
  have h2 := go' now fo3 fo4
  rw [h.ol] at h1
  rw [h.nl] at h2
  exact ⟨⟨(ownP_cell h.o h1.1).1, (ownP_cell h.o h1.2).1⟩, (ownP_cell h.n h2.1).1, (ownP_cell h.n h2.2).1⟩
theorem OwR.nlen {e : TypeId} {k base n nn cap : Nat} {a : Option Addr} {w : World} {cs : List Value} (h : OwR e k base w (.slice a nn cap) n cs) : nn = n := by
  obtain ⟨_, _, e⟩ := h.len
  injection e
def dI (s0 s1 s2 s3 s4 s5 i g : Nat) : Prop := (i = 0 ∧ s0 ≤ g ∧ g < s1) ∨ (i = 1 ∧ s1 ≤ g ∧ g < s2) ∨ (i = 2 ∧ s2 ≤ g ∧ g < s3) ∨ (i = 3 ∧ s3 ≤ g ∧ g < s4) ∨ (i = 4 ∧ s4 ≤ g ∧ g < s5)
def v5 (a b c d e : Value) (i : Nat) : Value := if i = 0 then a else if i = 1 then b else if i = 2 then c else if i = 3 then d else e
def n5 (a b c d e : Nat) (i : Nat) : Nat := if i = 0 then a else if i = 1 then b else if i = 2 then c else if i = 3 then d else e
def l5 (a b c d e : List Value) (i : Nat) : List Value := if i = 0 then a else if i = 1 then b else if i = 2 then c else if i = 3 then d else e
/-- the five lists -/
structure R5 (W : World) (s0 s1 s2 s3 s4 s5 : Nat) (va vb vc vp vq : Value) (A A2 : List Sp) (Dd : List (List UInt8)) : Prop where
  r0 : OwS s0 W va A
  r1 : OwS s1 W vb A
  r2 : OwS s2 W vc A2
  r3 : OwT s3 W vp Dd
  r4 : OwT s4 W vq Dd
  h0 : ∀ g, va.ownBlock = some g → g < s1
  h1 : ∀ g, vb.ownBlock = some g → g < s2
  h2 : ∀ g, vc.ownBlock = some g → g < s3
  h3 : ∀ g, vp.ownBlock = some g → g < s4
  h4 : ∀ g, vq.ownBlock = some g → g < s5
  m : s0 ≤ s1 ∧ s1 ≤ s2 ∧ s2 ≤ s3 ∧ s3 ≤ s4 ∧ s4 ≤ s5 ∧ s5 ≤ W.heap.size
theorem R5.later {W W' : World} {s0 s1 s2 s3 s4 s5 : Nat} {va vb vc vp vq : Value} {A A2 : List Sp} {Dd : List (List UInt8)} (h : R5 W s0 s1 s2 s3 s4 s5 va vb vc vp vq A A2 Dd) (hb : Below W.heap.size W W') : R5 W' s0 s1 s2 s3 s4 s5 va vb vc vp vq A A2 Dd :=
  ⟨OwR.later h.r0 hb, OwR.later h.r1 hb, OwR.later h.r2 hb, OwR.later h.r3 hb, OwR.later h.r4 hb, h.h0, h.h1, h.h2, h.h3, h.h4, by have := h.m; have := hb.size; omega⟩
theorem R5.qx {W : World} {s0 s1 s2 s3 s4 s5 : Nat} {va vb vc vp vq : Value} {A A2 : List Sp} {Dd : List (List UInt8)} (h : R5 W s0 s1 s2 s3 s4 s5 va vb vc vp vq A A2 Dd) :
    QX s0 W W 5 kP (v5 va vb vc vp vq) (n5 A.length A.length A2.length Dd.length Dd.length) (l5 (pc A) (pc A) (pc A2) (sc Dd) (sc Dd)) (dI s0 s1 s2 s3 s4 s5) := by
  have hm := h.m
  refine ⟨fun i hi => ?_, fun i hi g hg => ?_, fun i j g h1 h2 => ?_, fun i g hd => ?_, by omega, fun _ _ _ => rfl, Nat.le_refl _, Below.refl _ _⟩
  · rcases i with _ | _ | _ | _ | _ | i
    · exact h.r0
    · exact OwR.mono h.r1 (by omega)
    · exact OwR.mono h.r2 (by omega)
    · exact OwR.mono h.r3 (by omega)
    · exact OwR.mono h.r4 (by omega)
    · omega
  · unfold dI
    rcases i with _ | _ | _ | _ | _ | i
    · have := h.h0 g hg; have := (OwR.lt h.r0 hg).1; omega
    · have := h.h1 g hg; have := (OwR.lt h.r1 hg).1; omega
    · have := h.h2 g hg; have := (OwR.lt h.r2 hg).1; omega
    · have := h.h3 g hg; have := (OwR.lt h.r3 hg).1; omega
    · have := h.h4 g hg; have := (OwR.lt h.r4 hg).1; omega
    · omega
  · unfold dI at h1 h2
    omega
  · unfold dI at hd
    omega
set_option maxRecDepth 100000 in
set_option maxHeartbeats 16000000 in
theorem pf10 {lv2 lv3 lv4 lv8 lv14 lv16 lv20 lv21 lv22 lv23 lv24 lv25 lv26 lv27 lv28 lv29 lv30 lv31 lv32 lv33 lv34 lv35 lv36 lv37 lv38 lv39 lv40 lv41 lv42 lv43 lv44 lv45 lv46 lv47 lv48 lv49 lv50 lv51 lv52 lv53 lv54 lv55 lv56 lv57 lv58 lv59 lv60 lv61 lv62 lv63 lv64 lv65 lv66 lv67 lv68 lv69 lv70 lv71 lv72 lv73 lv74 lv75 lv76 lv77 lv78 lv79 lv80 lv81 lv82 lv83 lv84 lv85 lv86 lv87 lv88 lv89 lv90 lv91 lv92 lv93 lv94 lv95 lv96 lv97 lv98 lv99 lv100 lv101 lv102 lv103 lv104 lv105 lv106 lv107 lv108 lv109 lv110 lv111 lv112 lv113 lv114 lv115 lv116 lv117 lv118 lv119 lv120 lv121 lv122 lv123 lv124 lv125 lv126 lv127 lv128 lv129 lv130 lv131 lv132 lv133 lv134 lv135 lv136 lv137 lv138 lv139 lv140 lv141 lv142 lv143 lv144 lv145 lv146 lv147 lv148 lv149 lv150 lv151 lv152 lv153 lv154 lv155 lv156 lv157 lv158 lv159 lv160 lv161 lv162 lv163 lv164 lv165 lv166 lv167 lv168 lv169 lv170 lv171 lv172 lv173 lv174 lv175 lv176 lv177 lv178 lv179 lv180 lv181 lv182 lv183 lv184 lv185 lv186 lv187 lv188 lv189 lv190 lv191 lv192 lv193 lv194 lv195 lv196 lv197 lv198 lv199 lv200 lv201 lv202 lv203 lv204 lv205 lv206 lv207 lv208 lv209 lv210 lv211 lv212 lv213 lv214 lv215 lv216 lv217 lv218 lv219 lv220 lv221 lv222 lv223 lv224 lv225 lv226 lv227 lv228 lv229 lv230 lv231 lv232 lv233 lv234 lv235 lv236 lv237 lv238 lv239 lv240 lv241 lv242 lv243 lv244 lv245 lv246 lv247 lv248 lv249 lv250 lv251 lv252 lv253 lv254 lv255 lv256 lv257 lv258 lv259 lv260 lv261 lv262 lv263 lv264 lv265 lv266 lv267 lv268 lv269 lv270 lv271 lv272 lv273 lv274 lv275 lv276 lv277 lv278 lv279 lv280 lv281 lv282 lv283 lv284 lv285 lv286 lv287 lv288 lv289 lv290 lv291 lv292 lv293 lv294 lv295 lv296 lv297 lv298 lv299 lv300 lv301 lv302 lv303 lv304 lv305 lv306 lv307 lv308 lv309 lv310 lv311 lv312 lv313 lv314 lv315 lv316 lv317 lv318 lv319 lv320 lv321 lv322 lv323 lv324 lv325 lv326 lv327 lv328 lv329 lv330 lv331 lv332 lv333 lv334 lv335 lv336 lv337 lv338 lv339 lv340 lv341 lv342 lv343 lv344 lv345 lv346 lv347 lv348 lv349 lv350 lv351 lv352 lv353 lv354 lv355 lv356 lv357 lv358 lv359 lv360 lv361 lv362 lv363 lv364 lv365 lv366 lv367 lv368 lv369 lv370 lv371 lv372 lv373 lv374 lv375 lv376 lv377 lv378 lv379 lv380 lv381 lv382 lv383 lv384 lv385 lv386 lv387 lv388 lv389 lv390 lv391 lv392 lv393 lv394 lv395 lv396 lv397 lv398 lv399 lv400 lv401 lv402 lv403 lv404 lv405 lv406 lv407 lv408 lv409 lv410 lv411 lv412 lv413 lv414 lv415 lv416 lv417 lv418 lv419 lv420 lv421 lv422 lv423 lv424 lv425 lv426 lv427 lv428 lv429 lv430 lv431 lv432 lv433 lv434 lv435 lv436 lv437 lv438 lv439 lv440 lv441 lv442 lv443 lv444 lv445 lv446 lv447 lv448 lv449 lv450 lv451 lv452 lv453 lv454 lv455 lv456 lv457 lv458 lv459 : Value} (C : PcP) {w W : World} {oa na : Option Addr} {no oc nn nc go oq gn nq : Nat} {vw vy : Value} {m : Int} {old now : List Fl} (HE : Hid (FE w W oa na no oc nn nc go oq gn nq old now now)) (HW : Hid (OwS w.heap.size W vw (mkA old now))) (Hm : Hid (mkE old now = m)) (HZ : Hid (Fsz old ∧ Fsz now)) (hno : no ≤ 1500000) (hnn : nn ≤ 1500000) {a0 a1 a2 pa qa : Option Addr} {n0 c0 n1 c1 n2 c2 pn pc qc s0 s1 s2 s3 s4 s5 : Nat} {Dd : List (List UInt8)} (HY : Hid (SS W vy Dd)) (HR : Hid (R5 W s0 s1 s2 s3 s4 s5 (.slice a0 n0 c0) (.slice a1 n1 c1) (.slice a2 n2 c2) (.slice pa pn pc) (.slice qa pn qc) (mkA old now) (mkA now old) Dd)) (HL : Hid (w.heap.size ≤ s0 ∧ go < s0 ∧ gn < s0 ∧ ∀ k, vw.ownBlock = some k → k < s0)) (hpn : pn ≤ 4000000) :
    Code.wp Tryz.prog (suff 10 (Tryz.f3.body.getD .skip)) (bodyPost Tryz.prog Tryz.f3 (Good w)) ⟨#[.slice oa no oc, .slice na nn nc, lv2, lv3, lv4, vw, .int .i64 m, vy, lv8, .slice (some ⟨go, 0, none⟩) (no + 2) oq, .slice (some ⟨gn, 0, none⟩) (nn + 2) nq, .slice a0 n0 c0, .int .i64 m, .slice a1 n1 c1, lv14, .slice a2 n2 c2, lv16, .slice pa pn pc, .int .i64 m, .slice qa pn qc, lv20, lv21, lv22, lv23, lv24, lv25, lv26, lv27, lv28, lv29, lv30, lv31, lv32, lv33, lv34, lv35, lv36, lv37, lv38, lv39, lv40, lv41, lv42, lv43, lv44, lv45, lv46, lv47, lv48, lv49, lv50, lv51, lv52, lv53, lv54, lv55, lv56, lv57, lv58, lv59, lv60, lv61, lv62, lv63, lv64, lv65, lv66, lv67, lv68, lv69, lv70, lv71, lv72, lv73, lv74, lv75, lv76, lv77, lv78, lv79, lv80, lv81, lv82, lv83, lv84, lv85, lv86, lv87, lv88, lv89, lv90, lv91, lv92, lv93, lv94, lv95, lv96, lv97, lv98, lv99, lv100, lv101, lv102, lv103, lv104, lv105, lv106, lv107, lv108, lv109, lv110, lv111, lv112, lv113, lv114, lv115, lv116, lv117, lv118, lv119, lv120, lv121, lv122, lv123, lv124, lv125, lv126, lv127, lv128, lv129, lv130, lv131, lv132, lv133, lv134, lv135, lv136, lv137, lv138, lv139, lv140, lv141, lv142, lv143, lv144, lv145, lv146, lv147, lv148, lv149, lv150, lv151, lv152, lv153, lv154, lv155, lv156, lv157, lv158, lv159, lv160, lv161, lv162, lv163, lv164, lv165, lv166, lv167, lv168, lv169, lv170, lv171, lv172, lv173, lv174, lv175, lv176, lv177, lv178, lv179, lv180, lv181, lv182, lv183, lv184, lv185, lv186, lv187, lv188, lv189, lv190, lv191, lv192, lv193, lv194, lv195, lv196, lv197, lv198, lv199, lv200, lv201, lv202, lv203, lv204, lv205, lv206, lv207, lv208, lv209, lv210, lv211, lv212, lv213, lv214, lv215, lv216, lv217, lv218, lv219, lv220, lv221, lv222, lv223, lv224, lv225, lv226, lv227, lv228, lv229, lv230, lv231, lv232, lv233, lv234, lv235, lv236, lv237, lv238, lv239, lv240, lv241, lv242, lv243, lv244, lv245, lv246, lv247, lv248, lv249, lv250, lv251, lv252, lv253, lv254, lv255, lv256, lv257, lv258, lv259, lv260, lv261, lv262, lv263, lv264, lv265, lv266, lv267, lv268, lv269, lv270, lv271, lv272, lv273, lv274, lv275, lv276, lv277, lv278, lv279, lv280, lv281, lv282, lv283, lv284, lv285, lv286, lv287, lv288, lv289, lv290, lv291, lv292, lv293, lv294, lv295, lv296, lv297, lv298, lv299, lv300, lv301, lv302, lv303, lv304, lv305, lv306, lv307, lv308, lv309, lv310, lv311, lv312, lv313, lv314, lv315, lv316, lv317, lv318, lv319, lv320, lv321, lv322, lv323, lv324, lv325, lv326, lv327, lv328, lv329, lv330, lv331, lv332, lv333, lv334, lv335, lv336, lv337, lv338, lv339, lv340, lv341, lv342, lv343, lv344, lv345, lv346, lv347, lv348, lv349, lv350, lv351, lv352, lv353, lv354, lv355, lv356, lv357, lv358, lv359, lv360, lv361, lv362, lv363, lv364, lv365, lv366, lv367, lv368, lv369, lv370, lv371, lv372, lv373, lv374, lv375, lv376, lv377, lv378, lv379, lv380, lv381, lv382, lv383, lv384, lv385, lv386, lv387, lv388, lv389, lv390, lv391, lv392, lv393, lv394, lv395, lv396, lv397, lv398, lv399, lv400, lv401, lv402, lv403, lv404, lv405, lv406, lv407, lv408, lv409, lv410, lv411, lv412, lv413, lv414, lv415, lv416, lv417, lv418, lv419, lv420, lv421, lv422, lv423, lv424, lv425, lv426, lv427, lv428, lv429, lv430, lv431, lv432, lv433, lv434, lv435, lv436, lv437, lv438, lv439, lv440, lv441, lv442, lv443, lv444, lv445, lv446, lv447, lv448, lv449, lv450, lv451, lv452, lv453, lv454, lv455, lv456, lv457, lv458, lv459], []⟩ W := by
  conv => arg 2; whnf
  have B0 : Hid (Below W.heap.size W W) := Below.refl _ _
  refine wp_seq_k fun KK hKK => ?_
  have HK_ : Hid _ := hKK
  clear hKK
  go_wp2_with fail
  refine (known_any C _).mono ?_
  rintro e w1 ⟨rfl, hb⟩
  have B1 : Hid (Below W.heap.size W w1) := bstep B0.out hb
  clear hb
  go_wp2_with fail
  refine (sameSteps_any (OwS.ps (OwR.later HR.out.r0 B1.out)) (HW.out.later B1.out).ps (by have := mkA_len old now; omega)).mono ?_
  rintro e w2 ⟨rfl, hb⟩
  rw [(sleq_iff _ _).2 rfl]
  have B2 : Hid (Below W.heap.size W w2) := bstep B1.out hb
  clear hb
  go_wp2_with fail
  refine (sameSteps_any (OwS.ps (OwR.later HR.out.r1 B2.out)) (HW.out.later B2.out).ps (by have := mkA_len old now; omega)).mono ?_
  rintro e w3 ⟨rfl, hb⟩
  rw [(sleq_iff _ _).2 rfl]
  have B3 : Hid (Below W.heap.size W w3) := bstep B2.out hb
  clear hb
  go_wp2_with fail
  refine (same_any (OwT.ss (OwR.later HR.out.r3 B3.out)) (HY.out.later B3.out) (by have h := OwR.nlen HR.out.r3; omega)).mono ?_
  rintro e w4 ⟨rfl, nq', hb⟩
  rw [decide_eq_true (rfl : Dd = Dd)]
  have B4 : Hid (Below W.heap.size W w4) := by rw [hb]; exact bstep B3.out (bd _ _)
  clear hb
  go_wp2_with fail
  refine (same_any (OwT.ss (OwR.later HR.out.r4 B4.out)) (HY.out.later B4.out) (by have h := OwR.nlen HR.out.r3; omega)).mono ?_
  rintro e w5 ⟨rfl, nq', hb⟩
  rw [decide_eq_true (rfl : Dd = Dd)]
  have B5 : Hid (Below W.heap.size W w5) := by rw [hb]; exact bstep B4.out (bd _ _)
  clear hb
  go_wp2_with fail
  refine HK_.out _ _ ?_
  clear HK_
  obtain ⟨cp1, cp2⟩ := HE.out.caps
  have i0 : (0 : Int) ≤ (no : Int) := by omega
  have i1 : (no : Int) ≤ (oq : Int) := by omega
  have i2 : (0 : Int) ≤ (nn : Int) := by omega
  have i3 : (nn : Int) ≤ (nq : Int) := by omega
  have i4 : ¬ oq = 0 := by omega
  have i5 : ¬ nq = 0 := by omega
  clear cp1 cp2
  clear i4 i5
  refine wp_seq_k fun KK hKK => ?_
  have HK_ : Hid _ := hKK
  clear hKK
  go_wp2_with fail
  refine (files_any (HE.out.po.later B5.out) (HE.out.qo.later B5.out) (by have := HE.out.ol; omega)).mono ?_
  rintro e w6 ⟨rfl, hb⟩
  rw [(leq_iff _ _).2 rfl]
  have B6 : Hid (Below W.heap.size W w6) := bstep B5.out hb
  clear hb
  go_wp2_with fail
  refine (files_any (HE.out.pn.later B6.out) (HE.out.qn.later B6.out) (by have := HE.out.nl; omega)).mono ?_
  rintro e w7 ⟨rfl, hb⟩
  rw [(leq_iff _ _).2 rfl]
  have B7 : Hid (Below W.heap.size W w7) := bstep B6.out hb
  clear hb
  obtain ⟨⟨d1, d2⟩, d3, d4⟩ := (HE.out.later B7.out).marks
  clear i0 i1 i2 i3
  have i1 : (no : Int) < (no : Int) + 2 := by omega
  have i2 : IntKind.i64.wrap ((no : Int) + 1) = (no : Int) + 1 := by rw [IntKind.wrap_i64]; omega
  have i3 : (0 : Int) ≤ (no : Int) + 1 := by omega
  have i4 : (no : Int) + 1 < (no : Int) + 2 := by omega
  have i0 : (0 : Int) ≤ (no : Int) := by omega
  have k1 : (nn : Int) < (nn : Int) + 2 := by omega
  have k2 : IntKind.i64.wrap ((nn : Int) + 1) = (nn : Int) + 1 := by rw [IntKind.wrap_i64]; omega
  have k3 : (0 : Int) ≤ (nn : Int) + 1 := by omega
  have k4 : (nn : Int) + 1 < (nn : Int) + 2 := by omega
  have k0 : (0 : Int) ≤ (nn : Int) := by omega
  go_wp2_with fail
  refine HK_.out _ _ ?_
  clear HK_
  clear d1 d2 d3 d4 i0 i1 i2 i3 i4 k0 k1 k2 k3 k4
  refine wp_seq_k fun KK hKK => ?_
  have HK_ : Hid _ := hKK
  clear hKK
  go_wp2_with fail
  refine HK_.out _ _ ?_
  clear HK_
  have BA := bstep B7.out (balloc w7 (.cells #[.slice a0 n0 c0, .slice a1 n1 c1, .slice a2 n2 c2] 23))
  have RX := HR.out.later BA
  have hq := RX.qx
  have hz := B7.out.size
  have hmm := HR.out.m
  have e0 := OwR.nlen HR.out.r0
  have e1 := OwR.nlen HR.out.r1
  have e2 := OwR.nlen HR.out.r2
  have e3 := OwR.nlen HR.out.r3
  have lA := mkA_len old now
  have lB := mkA_len now old
  refine pf15 (V := v5 (.slice a0 n0 c0) (.slice a1 n1 c1) (.slice a2 n2 c2) (.slice pa pn pc) (.slice qa pn qc)) C (HE.out.later BA) (HW.out.later BA) Hm HZ hno hnn (hq.congr fun i _ => CM_start i) (fun j hj => (hq.own j hj).1) ⟨rfl, rfl, rfl, rfl, rfl, e3.symm, e3.symm⟩ ⟨by simp, fun i hd => ?_, fun i hi => ?_⟩ HL.out hpn (fun k hk => ?_)
  · unfold dI at hd
    omega
  · rw [cell_blkR (heap_alloc_new w7 _)]
    rcases i with _ | _ | _ | i
    · rfl
    · rfl
    · rfl
    · omega
  · rcases k with _ | _ | _ | k
    · exact lA
    · exact lA
    · exact lB
    · omega
end Go.Proofs.YtfdcfcalbongeaaGreat
