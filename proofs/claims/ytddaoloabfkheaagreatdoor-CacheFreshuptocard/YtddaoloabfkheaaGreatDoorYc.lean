/-
  The law's spoiled: marking.
-/
import Derived.Test.YtddaoloabfkheaaGreatDoorJYb
import Derived.Deep.DeepCutAuto
namespace Go.Proofs.YtddaoloabfkheaaGreatDoor
open Go.RowKit
attribute [local go_sem] Oper.semAt_some

/-- what spoiled answers, and what it may change -/
def SpG (B : Nat) (w : World) (D0 : Nat → Nat → Prop) (e : Ending) (w' : World) : Prop := e = .returned (.bool true) ∧ Below B w w' ∧ ∀ g, g < w.heap.size → (∀ i, ¬ D0 i g) → w'.heap[g]? = w.heap[g]?
set_option maxRecDepth 100000 in
set_option maxHeartbeats 16000000 in
theorem y2 {w W : World} {B n0 ga : Nat} {A : Nat → Tv} {v0 v1 : Value} {n : Nat → Nat} {C0 : Nat → List Value} {D0 D : Nat → Nat → Prop}  {lv2 lv3 lv4 lv6 lv7 lv8 lv9 lv10 lv11 lv12 lv13 lv14 lv15 lv16 lv17 lv18 lv19 lv20 lv21 lv22 lv23 lv24 lv25 lv26 lv27 lv28 lv29 lv30 lv31 lv32 lv33 lv34 lv35 lv36 lv37 lv38 lv39 lv40 lv41 lv42 lv43 lv44 lv45 lv46 lv47 lv48 lv49 lv50 lv51 lv52 lv53 lv54 lv55 lv56 lv57 lv58 lv59 lv60 lv61 lv62 lv63 lv64 lv65 lv66 lv67 lv68 lv69 lv70 lv71 lv72 lv73 lv74 lv75 lv76 lv77 lv78 lv79 lv80 lv81 lv82 lv83 lv84 lv85 lv86 lv87 lv88 lv89 lv90 lv91 lv92 lv93 lv94 lv95 lv96 lv97 lv98 lv99 lv100 lv101 lv102 lv103 lv104 lv105 lv106 lv107 lv108 lv109 lv110 lv111 lv112 lv113 lv114 lv115 lv116 lv117 lv118 lv119 lv120 lv121 lv122 lv123 lv124 lv125 lv126 lv127 lv128 lv129 lv130 lv131 lv132 lv133 lv134 lv135 lv136 lv137 lv138 lv139 lv140 lv141 lv142 lv143 lv144 lv145 lv146 lv147 lv148 lv149 lv150 lv151 lv152 lv153 lv154 lv155 lv156 lv157 lv158 lv159 lv160 lv161 lv162 lv163 lv164 lv165 lv166 lv167 lv168 lv169 lv170 lv171 lv172 lv173 lv174 lv175 lv176 lv177 lv178 lv179 lv180 lv181 lv182 lv183 lv184 lv185 lv186 lv187 lv188 lv189 lv190 lv191 lv192 lv193 lv194 lv195 lv196 lv197 lv198 lv199 lv200 lv201 lv202 lv203 lv204 lv205 lv206 lv207 lv208 lv209 lv210 lv211 lv212 lv213 lv214 lv215 lv216 lv217 lv218 lv219 lv220 lv221 lv222 lv223 lv224 lv225 lv226 lv227 lv228 lv229 lv230 lv231 lv232 lv233 lv234 lv235 lv236 lv237 lv238 lv239 lv240 lv241 lv242 lv243 lv244 lv245 lv246 lv247 lv248 lv249 lv250 lv251 lv252 lv253 lv254 lv255 lv256 lv257 lv258 lv259 lv260 lv261 lv262 lv263 lv264 lv265 lv266 lv267 lv268 lv269 lv270 lv271 lv272 lv273 lv274 lv275 lv276 lv277 lv278 lv279 lv280 lv281 lv282 lv283 lv284 lv285 lv286 lv287 lv288 lv289 lv290 lv291 lv292 lv293 lv294 lv295 lv296 lv297 lv298 lv299 lv300 lv301 lv302 lv303 lv304 lv305 lv306 lv307 lv308 lv309 lv310 lv311 lv312 lv313 lv314 lv315 : Value} (S : Hid (SC w B n0 ga A v0 v1 n C0 D0)) (Q : Hid (QM B w W (6 * n0 + 2) (kF n0) (kV n0 A v0 v1) n C0 (mm n 0 0 0) D0 D)) (NX : ∀ {lv2 lv3 lv4 lv6 lv7 lv8 lv9 lv10 lv11 lv12 lv13 lv14 lv15 lv16 lv17 lv18 lv19 lv20 lv21 lv22 lv23 lv24 lv25 lv26 lv27 lv28 lv29 lv30 lv31 lv32 lv33 lv34 lv35 lv36 lv37 lv38 lv39 lv40 lv41 lv42 lv43 lv44 lv45 lv46 lv47 lv48 lv49 lv50 lv51 lv52 lv53 lv54 lv55 lv56 lv57 lv58 lv59 lv60 lv61 lv62 lv63 lv64 lv65 lv66 lv67 lv68 lv69 lv70 lv71 lv72 lv73 lv74 lv75 lv76 lv77 lv78 lv79 lv80 lv81 lv82 lv83 lv84 lv85 lv86 lv87 lv88 lv89 lv90 lv91 lv92 lv93 lv94 lv95 lv96 lv97 lv98 lv99 lv100 lv101 lv102 lv103 lv104 lv105 lv106 lv107 lv108 lv109 lv110 lv111 lv112 lv113 lv114 lv115 lv116 lv117 lv118 lv119 lv120 lv121 lv122 lv123 lv124 lv125 lv126 lv127 lv128 lv129 lv130 lv131 lv132 lv133 lv134 lv135 lv136 lv137 lv138 lv139 lv140 lv141 lv142 lv143 lv144 lv145 lv146 lv147 lv148 lv149 lv150 lv151 lv152 lv153 lv154 lv155 lv156 lv157 lv158 lv159 lv160 lv161 lv162 lv163 lv164 lv165 lv166 lv167 lv168 lv169 lv170 lv171 lv172 lv173 lv174 lv175 lv176 lv177 lv178 lv179 lv180 lv181 lv182 lv183 lv184 lv185 lv186 lv187 lv188 lv189 lv190 lv191 lv192 lv193 lv194 lv195 lv196 lv197 lv198 lv199 lv200 lv201 lv202 lv203 lv204 lv205 lv206 lv207 lv208 lv209 lv210 lv211 lv212 lv213 lv214 lv215 lv216 lv217 lv218 lv219 lv220 lv221 lv222 lv223 lv224 lv225 lv226 lv227 lv228 lv229 lv230 lv231 lv232 lv233 lv234 lv235 lv236 lv237 lv238 lv239 lv240 lv241 lv242 lv243 lv244 lv245 lv246 lv247 lv248 lv249 lv250 lv251 lv252 lv253 lv254 lv255 lv256 lv257 lv258 lv259 lv260 lv261 lv262 lv263 lv264 lv265 lv266 lv267 lv268 lv269 lv270 lv271 lv272 lv273 lv274 lv275 lv276 lv277 lv278 lv279 lv280 lv281 lv282 lv283 lv284 lv285 lv286 lv287 lv288 lv289 lv290 lv291 lv292 lv293 lv294 lv295 lv296 lv297 lv298 lv299 lv300 lv301 lv302 lv303 lv304 lv305 lv306 lv307 lv308 lv309 lv310 lv311 lv312 lv313 lv314 lv315 : Value} (W2 : World), Hid (QM B w W2 (6 * n0 + 2) (kF n0) (kV n0 A v0 v1) n C0 (mm n (3 * (2 * n0)) 0 0) D0 D) → Code.wp Tryz.prog (suff 20 (Tryz.f19.body.getD .skip)) (bodyPost Tryz.prog Tryz.f19 (SpG B w D0)) ⟨#[v0, v1, lv2, lv3, lv4, .slice (some ⟨ga, 0, none⟩) 2 2, lv6, lv7, lv8, lv9, lv10, lv11, lv12, lv13, lv14, lv15, lv16, lv17, lv18, lv19, lv20, lv21, lv22, lv23, lv24, lv25, lv26, lv27, lv28, lv29, lv30, lv31, lv32, lv33, lv34, lv35, lv36, lv37, lv38, lv39, lv40, lv41, lv42, lv43, lv44, lv45, lv46, lv47, lv48, lv49, lv50, lv51, lv52, lv53, lv54, lv55, lv56, lv57, lv58, lv59, lv60, lv61, lv62, lv63, lv64, lv65, lv66, lv67, lv68, lv69, lv70, lv71, lv72, lv73, lv74, lv75, lv76, lv77, lv78, lv79, lv80, lv81, lv82, lv83, lv84, lv85, lv86, lv87, lv88, lv89, lv90, lv91, lv92, lv93, lv94, lv95, lv96, lv97, lv98, lv99, lv100, lv101, lv102, lv103, lv104, lv105, lv106, lv107, lv108, lv109, lv110, lv111, lv112, lv113, lv114, lv115, lv116, lv117, lv118, lv119, lv120, lv121, lv122, lv123, lv124, lv125, lv126, lv127, lv128, lv129, lv130, lv131, lv132, lv133, lv134, lv135, lv136, lv137, lv138, lv139, lv140, lv141, lv142, lv143, lv144, lv145, lv146, lv147, lv148, lv149, lv150, lv151, lv152, lv153, lv154, lv155, lv156, lv157, lv158, lv159, lv160, lv161, lv162, lv163, lv164, lv165, lv166, lv167, lv168, lv169, lv170, lv171, lv172, lv173, lv174, lv175, lv176, lv177, lv178, lv179, lv180, lv181, lv182, lv183, lv184, lv185, lv186, lv187, lv188, lv189, lv190, lv191, lv192, lv193, lv194, lv195, lv196, lv197, lv198, lv199, lv200, lv201, lv202, lv203, lv204, lv205, lv206, lv207, lv208, lv209, lv210, lv211, lv212, lv213, lv214, lv215, lv216, lv217, lv218, lv219, lv220, lv221, lv222, lv223, lv224, lv225, lv226, lv227, lv228, lv229, lv230, lv231, lv232, lv233, lv234, lv235, lv236, lv237, lv238, lv239, lv240, lv241, lv242, lv243, lv244, lv245, lv246, lv247, lv248, lv249, lv250, lv251, lv252, lv253, lv254, lv255, lv256, lv257, lv258, lv259, lv260, lv261, lv262, lv263, lv264, lv265, lv266, lv267, lv268, lv269, lv270, lv271, lv272, lv273, lv274, lv275, lv276, lv277, lv278, lv279, lv280, lv281, lv282, lv283, lv284, lv285, lv286, lv287, lv288, lv289, lv290, lv291, lv292, lv293, lv294, lv295, lv296, lv297, lv298, lv299, lv300, lv301, lv302, lv303, lv304, lv305, lv306, lv307, lv308, lv309, lv310, lv311, lv312, lv313, lv314, lv315], []⟩ W2) :
    Code.wp Tryz.prog (suff 2 (Tryz.f19.body.getD .skip)) (bodyPost Tryz.prog Tryz.f19 (SpG B w D0)) ⟨#[v0, v1, lv2, lv3, lv4, .slice (some ⟨ga, 0, none⟩) 2 2, lv6, lv7, lv8, lv9, lv10, lv11, lv12, lv13, lv14, lv15, lv16, lv17, lv18, lv19, lv20, lv21, lv22, lv23, lv24, lv25, lv26, lv27, lv28, lv29, lv30, lv31, lv32, lv33, lv34, lv35, lv36, lv37, lv38, lv39, lv40, lv41, lv42, lv43, lv44, lv45, lv46, lv47, lv48, lv49, lv50, lv51, lv52, lv53, lv54, lv55, lv56, lv57, lv58, lv59, lv60, lv61, lv62, lv63, lv64, lv65, lv66, lv67, lv68, lv69, lv70, lv71, lv72, lv73, lv74, lv75, lv76, lv77, lv78, lv79, lv80, lv81, lv82, lv83, lv84, lv85, lv86, lv87, lv88, lv89, lv90, lv91, lv92, lv93, lv94, lv95, lv96, lv97, lv98, lv99, lv100, lv101, lv102, lv103, lv104, lv105, lv106, lv107, lv108, lv109, lv110, lv111, lv112, lv113, lv114, lv115, lv116, lv117, lv118, lv119, lv120, lv121, lv122, lv123, lv124, lv125, lv126, lv127, lv128, lv129, lv130, lv131, lv132, lv133, lv134, lv135, lv136, lv137, lv138, lv139, lv140, lv141, lv142, lv143, lv144, lv145, lv146, lv147, lv148, lv149, lv150, lv151, lv152, lv153, lv154, lv155, lv156, lv157, lv158, lv159, lv160, lv161, lv162, lv163, lv164, lv165, lv166, lv167, lv168, lv169, lv170, lv171, lv172, lv173, lv174, lv175, lv176, lv177, lv178, lv179, lv180, lv181, lv182, lv183, lv184, lv185, lv186, lv187, lv188, lv189, lv190, lv191, lv192, lv193, lv194, lv195, lv196, lv197, lv198, lv199, lv200, lv201, lv202, lv203, lv204, lv205, lv206, lv207, lv208, lv209, lv210, lv211, lv212, lv213, lv214, lv215, lv216, lv217, lv218, lv219, lv220, lv221, lv222, lv223, lv224, lv225, lv226, lv227, lv228, lv229, lv230, lv231, lv232, lv233, lv234, lv235, lv236, lv237, lv238, lv239, lv240, lv241, lv242, lv243, lv244, lv245, lv246, lv247, lv248, lv249, lv250, lv251, lv252, lv253, lv254, lv255, lv256, lv257, lv258, lv259, lv260, lv261, lv262, lv263, lv264, lv265, lv266, lv267, lv268, lv269, lv270, lv271, lv272, lv273, lv274, lv275, lv276, lv277, lv278, lv279, lv280, lv281, lv282, lv283, lv284, lv285, lv286, lv287, lv288, lv289, lv290, lv291, lv292, lv293, lv294, lv295, lv296, lv297, lv298, lv299, lv300, lv301, lv302, lv303, lv304, lv305, lv306, lv307, lv308, lv309, lv310, lv311, lv312, lv313, lv314, lv315], []⟩ W := by
  conv => arg 2; whnf
  have sM : (⟨#[109, 97, 114, 107]⟩ : ByteArray) = bs sMark := rfl
  have sS : (⟨#[115, 101, 101, 110]⟩ : ByteArray) = bs sSeen := rfl
  have sD : (⟨#[100, 101, 112]⟩ : ByteArray) = bs sDep := rfl
  have sZ : (⟨#[]⟩ : ByteArray) = bs [] := rfl
  have hn64 := S.out.nl
  refine wp_seq_k fun K9 hK => ?_
  have HK : Hid _ := hK
  clear hK
  go_wp2_with fail
  go_loopw [6] (fun s6 wr => ∃ (k : Nat), s6 = .int .i64 k ∧ k ≤ 2 ∧ QM B w wr (6 * n0 + 2) (kF n0) (kV n0 A v0 v1) n C0 (mm n (3 * (k * n0)) 0 0) D0 D) (fun s6 _ => 2 - (intOf s6).toNat)
  case atStart => exact ⟨0, rfl, by omega, by simpa using Q.out⟩
  case round =>
    obtain ⟨k, rfl, hk2, hq⟩ := hrel
    by_cases hk : k < 2
    · have HQ : Hid (QM B w wr (6 * n0 + 2) (kF n0) (kV n0 A v0 v1) n C0 (mm n (3 * (k * n0)) 0 0) D0 D) := hq
      clear hq
      have k1 : (k : Int) < 2 := by omega
      go_wp2_with fail
      go_loopw [7] (fun s7 wr => ∃ (i : Nat), s7 = .int .i64 i ∧ i ≤ n0 ∧ QM B w wr (6 * n0 + 2) (kF n0) (kV n0 A v0 v1) n C0 (mm n (3 * (k * n0 + i)) 0 0) D0 D) (fun s7 _ => n0 - (intOf s7).toNat)
      case atStart => exact ⟨0, rfl, by omega, HQ.out⟩
      case round =>
        obtain ⟨i, rfl, hi2, hq⟩ := hrel
        have H0 : Hid (QM B w wr (6 * n0 + 2) (kF n0) (kV n0 A v0 v1) n C0 (mm n (3 * (k * n0 + i)) 0 0) D0 D) := hq
        have ca0 := S.out.all hq hk
        obtain ⟨ak, ck, hvk0⟩ := S.out.rowv hq hk
        rw [hvk0] at ca0
        clear hq HQ
        by_cases hi : i < n0
        · have hkn : k * n0 + i < 2 * n0 := by
            rcases (show k = 0 ∨ k = 1 by omega) with rfl | rfl <;> omega
          have i1 : (i : Int) < (n0 : Int) := by omega
          go_wp2_with fail
          go_loopw [8] (fun sx wr => ∃ (x : Nat), sx = .int .i64 x ∧ x ≤ n (3 * (k * n0 + i)) ∧ QM B w wr (6 * n0 + 2) (kF n0) (kV n0 A v0 v1) n C0 (mm n (3 * (k * n0 + i)) 0 x) D0 D) (fun sx _ => n (3 * (k * n0 + i)) - (intOf sx).toNat)
          case atStart => exact ⟨0, rfl, by omega, H0.out⟩
          case round =>
            obtain ⟨x, rfl, hx, hq⟩ := hrel
            have HX : Hid (QM B w wr (6 * n0 + 2) (kF n0) (kV n0 A v0 v1) n C0 (mm n (3 * (k * n0 + i)) 0 x) D0 D) := hq
            have ca := S.out.all hq hk
            obtain ⟨g, cg, hvk, r1, r2, r3⟩ := S.out.row hq hk hi (by unfold mm; rw [if_neg (by omega), if_neg (by omega), if_neg (by omega), if_neg (by omega)])
            rw [hvk] at ca
            obtain ⟨hnj, aj, cj, hvj⟩ := S.out.ni (3 * (k * n0 + i)) (by omega)
            have hvj2 : (A (k * n0 + i)).s = .slice aj (n (3 * (k * n0 + i))) cj := by
              rw [← hvj]; unfold kV; rw [if_pos (by omega), show (3 * (k * n0 + i)) / 3 = k * n0 + i by omega, show (3 * (k * n0 + i)) % 3 = 0 by omega]; rfl
            rw [hvj2] at r1
            clear hvk hvj2 hq
            by_cases hlt : x < n (3 * (k * n0 + i))
            · have hkd : kF n0 (3 * (k * n0 + i)) = kS := by unfold kF; rw [if_pos (by omega), show (3 * (k * n0 + i)) % 3 = 0 by omega]; rfl
              have hmj : mm n (3 * (k * n0 + i)) 0 x (3 * (k * n0 + i)) = x := mm_at0 _ _ _
              obtain ⟨gj, cj', hvj', hsp⟩ := S.out.spot HX.out (j := (3 * (k * n0 + i))) (by omega) hlt (by rw [hmj]; omega)
              have hmk := QM.mark HX.out (fun i _ => kF_ok n0 i) (fun i hi => S.out.len i hi) (j := (3 * (k * n0 + i))) (by omega) hvj' (by rw [hmj]; exact hlt) (M' := mm n (3 * (k * n0 + i)) 0 (x + 1)) (by rw [hmj, mm_at0]) (fun i' hi' => by unfold mm; repeat' split; all_goals first | rfl | (exfalso; omega) | omega)
              rw [hmj, hkd] at hmk
              obtain ⟨⟨u0, cu0, _⟩, fu0⟩ := hsp (x) (by rw [hkd]; show _ < n (3 * (k * n0 + i)) * 1; omega)
              rw [hvj] at hvj'
              injection hvj' with e1 e2 e3
              subst e1 e3
              have HMK : Hid (QM B w (putC wr gj (x * kS.sz) kS.c) (6 * n0 + 2) (kF n0) (kV n0 A v0 v1) n C0 (mm n (3 * (k * n0 + i)) 0 (x + 1)) D0 D) := hmk
              clear hsp hmk hkd hmj hvj
              have x1 : (x : Int) < (n (3 * (k * n0 + i)) : Int) := by omega
              go_wp2_with fail
              go_roundw
              case rel => exact ⟨x + 1, by go_num, by omega, by simpa [putC, kS] using HMK.out⟩
              case measure => simp [intOf]; omega
            · have hxe : x = n (3 * (k * n0 + i)) := by omega
              subst hxe
              have x1 : ¬ (n (3 * (k * n0 + i)) : Int) < (n (3 * (k * n0 + i)) : Int) := by omega
              clear hlt hx hvj
              go_wp2_with fail
              have H1 : Hid (QM B w wr (6 * n0 + 2) (kF n0) (kV n0 A v0 v1) n C0 (mm n (3 * (k * n0 + i)) 1 0) D0 D) := QM.congr HX.out (fun j _ => mm_a n _ j)
              clear HX ca r1 r2 r3
              go_loopw [9] (fun sx wr => ∃ (x : Nat), sx = .int .i64 x ∧ x ≤ n (3 * (k * n0 + i) + 2) ∧ QM B w wr (6 * n0 + 2) (kF n0) (kV n0 A v0 v1) n C0 (mm n (3 * (k * n0 + i)) 1 x) D0 D) (fun sx _ => n (3 * (k * n0 + i) + 2) - (intOf sx).toNat)
              case atStart => exact ⟨0, rfl, by omega, H1.out⟩
              case round =>
                obtain ⟨x, rfl, hx, hq⟩ := hrel
                have HX : Hid (QM B w wr (6 * n0 + 2) (kF n0) (kV n0 A v0 v1) n C0 (mm n (3 * (k * n0 + i)) 1 x) D0 D) := hq
                have ca := S.out.all hq hk
                obtain ⟨g, cg, hvk, r1, r2, r3⟩ := S.out.row hq hk hi (by unfold mm; rw [if_neg (by omega), if_neg (by omega), if_neg (by omega), if_neg (by omega)])
                rw [hvk] at ca
                obtain ⟨hnj, aj, cj, hvj⟩ := S.out.ni (3 * (k * n0 + i) + 2) (by omega)
                have hvj2 : (A (k * n0 + i)).e = .slice aj (n (3 * (k * n0 + i) + 2)) cj := by
                  rw [← hvj]; unfold kV; rw [if_pos (by omega), show (3 * (k * n0 + i) + 2) / 3 = k * n0 + i by omega, show (3 * (k * n0 + i) + 2) % 3 = 2 by omega]; rfl
                rw [hvj2] at r3
                clear hvk hvj2 hq
                by_cases hlt : x < n (3 * (k * n0 + i) + 2)
                · have hkd : kF n0 (3 * (k * n0 + i) + 2) = kE := by unfold kF; rw [if_pos (by omega), show (3 * (k * n0 + i) + 2) % 3 = 2 by omega]; rfl
                  have hmj : mm n (3 * (k * n0 + i)) 1 x (3 * (k * n0 + i) + 2) = x := mm_at1 _ _ _
                  obtain ⟨gj, cj', hvj', hsp⟩ := S.out.spot HX.out (j := (3 * (k * n0 + i) + 2)) (by omega) hlt (by rw [hmj]; omega)
                  have hmk := QM.mark HX.out (fun i _ => kF_ok n0 i) (fun i hi => S.out.len i hi) (j := (3 * (k * n0 + i) + 2)) (by omega) hvj' (by rw [hmj]; exact hlt) (M' := mm n (3 * (k * n0 + i)) 1 (x + 1)) (by rw [hmj, mm_at1]) (fun i' hi' => by unfold mm; repeat' split; all_goals first | rfl | (exfalso; omega) | omega)
                  rw [hmj, hkd] at hmk
                  obtain ⟨⟨u0, cu0, _⟩, fu0⟩ := hsp (x) (by rw [hkd]; show _ < n (3 * (k * n0 + i) + 2) * 1; omega)
                  rw [hvj] at hvj'
                  injection hvj' with e1 e2 e3
                  subst e1 e3
                  have HMK : Hid (QM B w (putC wr gj (x * kE.sz) kE.c) (6 * n0 + 2) (kF n0) (kV n0 A v0 v1) n C0 (mm n (3 * (k * n0 + i)) 1 (x + 1)) D0 D) := hmk
                  clear hsp hmk hkd hmj hvj
                  have x1 : (x : Int) < (n (3 * (k * n0 + i) + 2) : Int) := by omega
                  go_wp2_with fail
                  go_roundw
                  case rel => exact ⟨x + 1, by go_num, by omega, by simpa [putC, kE] using HMK.out⟩
                  case measure => simp [intOf]; omega
                · have hxe : x = n (3 * (k * n0 + i) + 2) := by omega
                  subst hxe
                  have x1 : ¬ (n (3 * (k * n0 + i) + 2) : Int) < (n (3 * (k * n0 + i) + 2) : Int) := by omega
                  clear hlt hx hvj
                  go_wp2_with fail
                  have H2 : Hid (QM B w wr (6 * n0 + 2) (kF n0) (kV n0 A v0 v1) n C0 (mm n (3 * (k * n0 + i)) 2 0) D0 D) := QM.congr HX.out (fun j _ => mm_b n _ j)
                  clear HX ca r1 r2 r3
                  go_loopw [10] (fun sx wr => ∃ (x : Nat), sx = .int .i64 x ∧ x ≤ n (3 * (k * n0 + i) + 1) ∧ QM B w wr (6 * n0 + 2) (kF n0) (kV n0 A v0 v1) n C0 (mm n (3 * (k * n0 + i)) 2 x) D0 D) (fun sx _ => n (3 * (k * n0 + i) + 1) - (intOf sx).toNat)
                  case atStart => exact ⟨0, rfl, by omega, H2.out⟩
                  case round =>
                    obtain ⟨x, rfl, hx, hq⟩ := hrel
                    have HX : Hid (QM B w wr (6 * n0 + 2) (kF n0) (kV n0 A v0 v1) n C0 (mm n (3 * (k * n0 + i)) 2 x) D0 D) := hq
                    have ca := S.out.all hq hk
                    obtain ⟨g, cg, hvk, r1, r2, r3⟩ := S.out.row hq hk hi (by unfold mm; rw [if_neg (by omega), if_neg (by omega), if_neg (by omega), if_neg (by omega)])
                    rw [hvk] at ca
                    obtain ⟨hnj, aj, cj, hvj⟩ := S.out.ni (3 * (k * n0 + i) + 1) (by omega)
                    have hvj2 : (A (k * n0 + i)).d = .slice aj (n (3 * (k * n0 + i) + 1)) cj := by
                      rw [← hvj]; unfold kV; rw [if_pos (by omega), show (3 * (k * n0 + i) + 1) / 3 = k * n0 + i by omega, show (3 * (k * n0 + i) + 1) % 3 = 1 by omega]; rfl
                    rw [hvj2] at r2
                    clear hvk hvj2 hq
                    by_cases hlt : x < n (3 * (k * n0 + i) + 1)
                    · have hkd : kF n0 (3 * (k * n0 + i) + 1) = kD := by unfold kF; rw [if_pos (by omega), show (3 * (k * n0 + i) + 1) % 3 = 1 by omega]; rfl
                      have hmj : mm n (3 * (k * n0 + i)) 2 x (3 * (k * n0 + i) + 1) = x := mm_at2 _ _ _
                      obtain ⟨gj, cj', hvj', hsp⟩ := S.out.spot HX.out (j := (3 * (k * n0 + i) + 1)) (by omega) hlt (by rw [hmj]; omega)
                      have hmk := QM.mark HX.out (fun i _ => kF_ok n0 i) (fun i hi => S.out.len i hi) (j := (3 * (k * n0 + i) + 1)) (by omega) hvj' (by rw [hmj]; exact hlt) (M' := mm n (3 * (k * n0 + i)) 2 (x + 1)) (by rw [hmj, mm_at2]) (fun i' hi' => by unfold mm; repeat' split; all_goals first | rfl | (exfalso; omega) | omega)
                      rw [hmj, hkd] at hmk
                      obtain ⟨⟨u0, cu0, _⟩, fu0⟩ := hsp (x * 2) (by rw [hkd]; show _ < n (3 * (k * n0 + i) + 1) * 2; omega)
                      obtain ⟨⟨u1, cu1, _⟩, fu1⟩ := hsp (x * 2 + 1) (by rw [hkd]; show _ < n (3 * (k * n0 + i) + 1) * 2; omega)
                      rw [hvj] at hvj'
                      injection hvj' with e1 e2 e3
                      subst e1 e3
                      have HMK : Hid (QM B w (putC wr gj (x * kD.sz) kD.c) (6 * n0 + 2) (kF n0) (kV n0 A v0 v1) n C0 (mm n (3 * (k * n0 + i)) 2 (x + 1)) D0 D) := hmk
                      clear hsp hmk hkd hmj hvj
                      have x1 : (x : Int) < (n (3 * (k * n0 + i) + 1) : Int) := by omega
                      go_wp2_with fail
                      go_roundw
                      case rel => exact ⟨x + 1, by go_num, by omega, by simpa [putC, kD] using HMK.out⟩
                      case measure => simp [intOf]; omega
                    · have hxe : x = n (3 * (k * n0 + i) + 1) := by omega
                      subst hxe
                      have x1 : ¬ (n (3 * (k * n0 + i) + 1) : Int) < (n (3 * (k * n0 + i) + 1) : Int) := by omega
                      clear hlt hx hvj
                      have HE : Hid (QM B w wr (6 * n0 + 2) (kF n0) (kV n0 A v0 v1) n C0 (mm n (3 * (k * n0 + (i + 1))) 0 0) D0 D) := QM.congr HX.out (fun j _ => by rw [mm_c]; rfl)
                      go_wp2_with fail
                      go_roundw
                      case rel => exact ⟨i + 1, by go_num, by omega, HE.out⟩
                      case measure => simp [intOf]; omega
        · obtain rfl : n0 = i := by omega
          have i1 : ¬ (n0 : Int) < (n0 : Int) := by omega
          go_wp2_with fail
          go_roundw
          case rel => exact ⟨k + 1, by go_num, by omega, by rw [show (k + 1) * n0 = k * n0 + n0 by rw [Nat.succ_mul]]; exact H0.out⟩
          case measure => simp [intOf]; omega
    · obtain rfl : k = 2 := by omega
      have HQ : Hid (QM B w wr (6 * n0 + 2) (kF n0) (kV n0 A v0 v1) n C0 (mm n (3 * (2 * n0)) 0 0) D0 D) := hq
      clear hq
      go_wp2_with fail
      refine HK.out _ _ ?_
      exact NX wr HQ
end Go.Proofs.YtddaoloabfkheaaGreatDoor
