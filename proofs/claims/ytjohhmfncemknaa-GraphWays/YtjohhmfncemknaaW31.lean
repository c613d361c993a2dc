/-
  The law of ways: turned about, and about again.
-/
import Derived.Test.YtjohhmfncemknaaW36
namespace Go.Proofs.Ytjohhmfncemknaa
open Go.RowKit Go.Maps

set_option maxRecDepth 100000 in
set_option maxHeartbeats 16000000 in
theorem w31 {w W : World} {g lb lo lc0 rb db : Nat} {E : List Ee} {R D : Nat → Nat → Bool} {lv0 lv1 lv2 lv6 lv8 lv9 lv10 lv11 lv12 lv13 lv14 lv15 lv16 lv17 lv18 lv19 lv20 lv21 lv22 lv23 lv24 lv25 lv26 lv27 lv28 lv29 lv30 lv31 lv32 lv33 lv34 lv35 lv36 lv37 lv38 lv39 lv40 lv41 lv42 lv43 lv44 lv45 lv46 lv47 lv48 lv49 lv50 lv51 lv52 lv53 lv54 lv55 lv56 lv57 lv58 lv59 lv60 lv61 lv62 lv63 lv64 lv65 lv66 lv67 lv68 lv69 lv70 lv71 lv72 lv73 lv74 lv75 lv76 lv77 lv78 lv79 lv80 lv81 lv82 lv83 lv84 lv85 lv86 lv87 lv88 lv89 lv90 lv91 lv92 lv93 lv94 lv95 lv96 lv97 lv98 lv99 lv100 lv101 lv102 lv103 lv104 lv105 lv106 lv107 lv108 lv109 lv110 lv111 lv112 lv113 lv114 lv115 lv116 lv117 lv118 lv119 lv120 lv121 lv122 lv123 lv124 lv125 lv126 lv127 lv128 lv129 lv130 lv131 lv132 lv133 lv134 lv135 lv136 lv137 lv138 lv139 lv140 lv141 lv142 lv143 lv144 lv145 lv146 lv147 lv148 lv149 lv150 lv151 lv152 lv153 lv154 lv155 lv156 lv157 lv158 lv159 lv160 lv161 lv162 lv163 lv164 lv165 lv166 lv167 lv168 lv169 lv170 lv171 lv172 lv173 lv174 lv175 lv176 lv177 lv178 lv179 lv180 lv181 lv182 lv183 lv184 lv185 lv186 lv187 lv188 lv189 lv190 lv191 lv192 lv193 lv194 lv195 lv196 lv197 lv198 lv199 lv200 lv201 lv202 lv203 lv204 lv205 lv206 lv207 lv208 lv209 lv210 lv211 lv212 lv213 lv214 lv215 lv216 lv217 lv218 lv219 lv220 lv221 lv222 lv223 lv224 lv225 lv226 lv227 lv228 lv229 lv230 lv231 lv232 lv233 lv234 lv235 lv236 lv237 lv238 lv239 lv240 lv241 lv242 lv243 lv244 lv245 lv246 lv247 lv248 lv249 lv250 lv251 lv252 lv253 lv254 lv255 lv256 lv257 lv258 lv259 lv260 lv261 lv262 lv263 lv264 lv265 lv266 lv267 lv268 lv269 lv270 lv271 lv272 lv273 lv274 lv275 lv276 lv277 lv278 lv279 lv280 lv281 lv282 lv283 lv284 lv285 lv286 lv287 lv288 lv289 lv290 lv291 lv292 lv293 lv294 lv295 lv296 lv297 lv298 lv299 lv300 lv301 lv302 lv303 lv304 lv305 lv306 lv307 lv308 lv309 lv310 lv311 lv312 lv313 lv314 lv315 lv316 lv317 lv318 lv319 lv320 lv321 lv322 lv323 lv324 lv325 lv326 lv327 lv328 lv329 lv330 : Value} (X : Hid (Below w.heap.size w W ∧ PG w.heap.size W g LL E ∧ LS W (.slice (some ⟨lb, lo, none⟩) 12 lc0) LL ∧ TB W rb R ∧ TB W db D)) (HE : Hid (ED E D)) (HR : Hid (TR R D)) :
    Code.wp Try.prog (suff 31 (Try.f3.body.getD .skip)) (bodyPost Try.prog Try.f3 (GoodE w)) ⟨#[lv0, lv1, lv2, .pointer (some ⟨g, 0, none⟩), .pointer (some ⟨rb, 0, none⟩), .slice (some ⟨lb, lo, none⟩) 12 lc0, lv6, .pointer (some ⟨db, 0, none⟩), lv8, lv9, lv10, lv11, lv12, lv13, lv14, lv15, lv16, lv17, lv18, lv19, lv20, lv21, lv22, lv23, lv24, lv25, lv26, lv27, lv28, lv29, lv30, lv31, lv32, lv33, lv34, lv35, lv36, lv37, lv38, lv39, lv40, lv41, lv42, lv43, lv44, lv45, lv46, lv47, lv48, lv49, lv50, lv51, lv52, lv53, lv54, lv55, lv56, lv57, lv58, lv59, lv60, lv61, lv62, lv63, lv64, lv65, lv66, lv67, lv68, lv69, lv70, lv71, lv72, lv73, lv74, lv75, lv76, lv77, lv78, lv79, lv80, lv81, lv82, lv83, lv84, lv85, lv86, lv87, lv88, lv89, lv90, lv91, lv92, lv93, lv94, lv95, lv96, lv97, lv98, lv99, lv100, lv101, lv102, lv103, lv104, lv105, lv106, lv107, lv108, lv109, lv110, lv111, lv112, lv113, lv114, lv115, lv116, lv117, lv118, lv119, lv120, lv121, lv122, lv123, lv124, lv125, lv126, lv127, lv128, lv129, lv130, lv131, lv132, lv133, lv134, lv135, lv136, lv137, lv138, lv139, lv140, lv141, lv142, lv143, lv144, lv145, lv146, lv147, lv148, lv149, lv150, lv151, lv152, lv153, lv154, lv155, lv156, lv157, lv158, lv159, lv160, lv161, lv162, lv163, lv164, lv165, lv166, lv167, lv168, lv169, lv170, lv171, lv172, lv173, lv174, lv175, lv176, lv177, lv178, lv179, lv180, lv181, lv182, lv183, lv184, lv185, lv186, lv187, lv188, lv189, lv190, lv191, lv192, lv193, lv194, lv195, lv196, lv197, lv198, lv199, lv200, lv201, lv202, lv203, lv204, lv205, lv206, lv207, lv208, lv209, lv210, lv211, lv212, lv213, lv214, lv215, lv216, lv217, lv218, lv219, lv220, lv221, lv222, lv223, lv224, lv225, lv226, lv227, lv228, lv229, lv230, lv231, lv232, lv233, lv234, lv235, lv236, lv237, lv238, lv239, lv240, lv241, lv242, lv243, lv244, lv245, lv246, lv247, lv248, lv249, lv250, lv251, lv252, lv253, lv254, lv255, lv256, lv257, lv258, lv259, lv260, lv261, lv262, lv263, lv264, lv265, lv266, lv267, lv268, lv269, lv270, lv271, lv272, lv273, lv274, lv275, lv276, lv277, lv278, lv279, lv280, lv281, lv282, lv283, lv284, lv285, lv286, lv287, lv288, lv289, lv290, lv291, lv292, lv293, lv294, lv295, lv296, lv297, lv298, lv299, lv300, lv301, lv302, lv303, lv304, lv305, lv306, lv307, lv308, lv309, lv310, lv311, lv312, lv313, lv314, lv315, lv316, lv317, lv318, lv319, lv320, lv321, lv322, lv323, lv324, lv325, lv326, lv327, lv328, lv329, lv330], []⟩ W := by
  conv => arg 2; whnf
  have hz : LL.length + 2 ≤ 1000000 := by rw [LL_len]; omega
  have HZ : Hid (LL.length + 2 ≤ 1000000) := hz
  clear hz
  refine wp_seq_k fun K1 hK1 => ?_
  have HK1 : Hid _ := hK1
  clear hK1
  go_wp2_with fail
  refine HK1.out _ _ ?_
  clear HK1 K1
  refine wp_seq_k fun K1 hK1 => ?_
  have HK1 : Hid _ := hK1
  clear hK1
  go_wp2_with fail
  refine (X.out.2.1.back HZ.out).mono ?_
  rintro e w1 ⟨bk, rfl, hpb, hb⟩
  have X1 : Hid (Below w.heap.size w w1 ∧ PG w.heap.size w1 g LL E ∧ LS w1 (.slice (some ⟨lb, lo, none⟩) 12 lc0) LL ∧ TB w1 rb R ∧ TB w1 db D ∧ PG W.heap.size w1 bk LL (Gs.flp E)) := ⟨bstep X.out.1 hb, X.out.2.1.later hb, X.out.2.2.1.later hb, X.out.2.2.2.1.later hb, X.out.2.2.2.2.later hb, hpb⟩
  clear hpb hb X
  go_wp2_with fail
  refine HK1.out _ _ ?_
  clear HK1 K1
  refine wp_seq_k fun K1 hK1 => ?_
  have HK1 : Hid _ := hK1
  clear hK1
  go_wp2_with fail
  refine (X1.out.2.2.2.2.2.back HZ.out).mono ?_
  rintro e w2 ⟨t1, rfl, _, hb⟩
  have X2 : Hid (Below w.heap.size w w2 ∧ PG w.heap.size w2 g LL E ∧ LS w2 (.slice (some ⟨lb, lo, none⟩) 12 lc0) LL ∧ TB w2 rb R ∧ TB w2 db D ∧ PG W.heap.size w2 bk LL (Gs.flp E)) := ⟨bstep X1.out.1 hb, X1.out.2.1.later hb, X1.out.2.2.1.later hb, X1.out.2.2.2.1.later hb, X1.out.2.2.2.2.1.later hb, X1.out.2.2.2.2.2.later hb⟩
  clear hb X1
  go_wp2_with fail
  refine HK1.out _ _ ?_
  clear HK1 K1
  refine wp_seq_k fun K1 hK1 => ?_
  have HK1 : Hid _ := hK1
  clear hK1
  go_wp2_with fail
  refine (X2.out.2.2.2.2.2.back HZ.out).mono ?_
  rintro e w3 ⟨tw, rfl, hpt, hb⟩
  rw [Gs.flp_flp] at hpt
  have X3 : Hid (WS w w3 g bk tw lb lo lc0 rb db E R D) := ⟨bstep X2.out.1 hb, X2.out.2.1.later hb, ⟨_, X2.out.2.2.2.2.2.later hb⟩, ⟨_, hpt⟩, X2.out.2.2.1.later hb, X2.out.2.2.2.1.later hb, X2.out.2.2.2.2.1.later hb⟩
  clear hpt hb X2
  go_wp2_with fail
  refine HK1.out _ _ ?_
  clear HK1 K1
  exact w36 X3 HE HR
end Go.Proofs.Ytjohhmfncemknaa
