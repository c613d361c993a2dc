/-
  The law of new memory: asked again.
-/
import Derived.Test.YtjohhmfncemknaaHd
import Derived.Test.YtjohhmfncemknaaJWm
namespace Go.Proofs.Ytjohhmfncemknaa
open Go.RowKit Go.Maps

/-- what is there before the lists are answered -/
structure FX (w W1 : World) (g d ab ll lo lc0 wb : Nat) (fa : Option Addr) (fn fc : Nat) (v0 v1 v2 v3 : Value) (N : List Lb) (E : List Ee) (a : Lb) (fr : List Lb) : Prop where
  bel : Below w.heap.size w W1
  bt : ∃ F D ns out, Bt W1 F g ns out D d N E
  bx : RB W1 ab a
  lu : Lu a
  wt : W1.heap[wb]? = some (.cells #[v0, v1, v2, v3] 55 (0, 0))
  l0 : LS W1 v0 (rs N)
  l1 : LS W1 v1 (rs (oE E a))
  l2 : LS W1 v2 (RS N E fr)
  l3 : LS W1 v3 ((Gs.ord (rs N) E).getD [])
  lt : LS W1 (.slice (some ⟨ll, lo, none⟩) (fn + 2) lc0) (fr ++ [⟨[120], [49]⟩, ⟨[120], [50]⟩])
  lcp : fn + 2 ≤ lc0
  ln : fr.length = fn
  fs : LS W1 (.slice fa fn fc) fr
  fl : fr.length ≤ 1048576
  fu : ∀ x ∈ fr, Lu x
/-- the first of a list -/
theorem LS.front {w : World} {b off c n : Nat} {l r : List Lb} (h : LS w (.slice (some ⟨b, off, none⟩) n c) (l ++ r)) (hl : l.length ≤ c) : LS w (.slice (some ⟨b, off, none⟩) l.length c) l := by
  rcases h with ⟨_, e⟩ | ⟨b', off', cap, e, hc, hlt, hcell⟩
  · have : l = [] := (List.append_eq_nil_iff.1 e).1
    subst this
    exact .inl ⟨⟨_, _, rfl⟩, rfl⟩
  · injection e with e1 e2 e3
    injection e1 with e1
    injection e1 with e4 e5 _
    subst e4 e5 e3
    refine .inr ⟨b, off, c, rfl, hl, hlt, fun i u hu => hcell i u ?_⟩
    rw [lc_append, List.getElem?_append_left (List.getElem?_eq_some_iff.1 hu).1]
    exact hu

set_option maxRecDepth 100000 in
set_option maxHeartbeats 16000000 in
theorem f50 {w W1 : World} {g d ab ll lo lc0 wb fn fc : Nat} {fa : Option Addr} {v0 v1 v2 v3 : Value} {N : List Lb} {E : List Ee} {a : Lb} {fr : List Lb} {W : World} {lv0 lv2 lv3 lv4 lv5 lv6 lv7 lv8 lv10 lv11 lv12 lv13 lv14 lv15 lv16 lv17 lv18 lv19 lv20 lv21 lv22 lv23 lv24 lv25 lv26 lv27 lv28 lv29 lv30 lv31 lv32 lv33 lv34 lv35 lv36 lv37 lv38 lv39 lv40 lv41 lv42 lv43 lv44 lv45 lv46 lv47 lv48 lv49 lv50 lv51 lv52 lv53 lv54 lv55 lv56 lv57 lv58 lv59 lv60 lv61 lv62 lv63 lv64 lv65 lv66 lv67 lv68 lv69 lv70 lv71 lv72 lv73 lv74 lv75 lv76 lv77 lv78 lv79 lv80 lv81 lv82 lv83 lv84 lv85 lv86 lv87 lv88 lv89 lv90 lv91 lv92 lv93 lv94 lv95 lv96 lv97 lv98 lv99 lv100 lv101 lv102 lv103 lv104 lv105 lv106 lv107 lv108 lv109 lv110 lv111 lv112 lv113 lv114 lv115 lv116 lv117 lv118 lv119 lv120 lv121 lv122 lv123 lv124 lv125 lv126 lv127 lv128 lv129 lv130 lv131 lv132 lv133 lv134 lv135 lv136 lv137 lv138 lv139 lv140 lv141 lv142 lv143 lv144 lv145 lv146 lv147 lv148 lv149 lv150 lv151 lv152 lv153 lv154 lv155 lv156 lv157 lv158 lv159 lv160 lv161 lv162 lv163 lv164 lv165 lv166 lv167 lv168 lv169 lv170 lv171 lv172 lv173 lv174 lv175 lv176 lv177 lv178 lv179 lv180 lv181 lv182 lv183 lv184 lv185 lv186 lv187 lv188 lv189 lv190 lv191 lv192 lv193 lv194 lv195 lv196 lv197 lv198 lv199 lv200 lv201 lv202 lv203 lv204 lv205 lv206 lv207 lv208 lv209 lv210 lv211 lv212 lv213 lv214 lv215 lv216 lv217 lv218 lv219 lv220 lv221 lv222 lv223 lv224 lv225 lv226 lv227 lv228 lv229 lv230 lv231 lv232 lv233 lv234 lv235 lv236 lv237 lv238 lv239 lv240 lv241 lv242 lv243 lv244 lv245 lv246 lv247 lv248 lv249 lv250 lv251 lv252 lv253 lv254 lv255 lv256 lv257 lv258 lv259 lv260 lv261 lv262 lv263 lv264 lv265 lv266 lv267 lv268 lv269 lv270 lv271 lv272 lv273 lv274 lv275 lv276 lv277 lv278 lv279 lv280 lv281 lv282 lv283 lv284 lv285 lv286 lv287 lv288 lv289 lv290 lv291 lv292 lv293 lv294 lv295 lv296 lv297 lv298 lv299 lv300 lv301 lv302 lv303 lv304 lv305 lv306 lv307 lv308 lv309 lv310 lv311 lv312 lv313 lv314 lv315 lv316 lv317 lv318 lv319 lv320 : Value} (X : Hid (FX w W1 g d ab ll lo lc0 wb fa fn fc v0 v1 v2 v3 N E a fr)) (HB : Hid (Below W1.heap.size W1 W)) :
    Code.wp Try.prog (suff 50 (Try.f5.body.getD .skip)) (bodyPost Try.prog Try.f5 (GoodE w)) ⟨#[lv0, .slice fa fn fc, lv2, lv3, lv4, lv5, lv6, lv7, lv8, .slice (some ⟨ll, lo, none⟩) (fn + 2) lc0, lv10, lv11, lv12, lv13, lv14, lv15, lv16, lv17, lv18, lv19, lv20, lv21, lv22, lv23, lv24, lv25, lv26, lv27, lv28, lv29, lv30, lv31, lv32, lv33, lv34, lv35, lv36, lv37, lv38, lv39, lv40, lv41, lv42, lv43, lv44, lv45, lv46, lv47, lv48, lv49, lv50, lv51, lv52, lv53, lv54, lv55, lv56, lv57, lv58, lv59, lv60, lv61, lv62, lv63, lv64, lv65, lv66, lv67, lv68, lv69, lv70, lv71, lv72, lv73, lv74, lv75, lv76, lv77, lv78, lv79, lv80, lv81, lv82, lv83, lv84, lv85, lv86, lv87, lv88, lv89, lv90, lv91, lv92, lv93, lv94, lv95, lv96, lv97, lv98, lv99, lv100, lv101, lv102, lv103, lv104, lv105, lv106, lv107, lv108, lv109, lv110, lv111, lv112, lv113, lv114, lv115, lv116, lv117, lv118, lv119, lv120, lv121, lv122, lv123, lv124, lv125, lv126, lv127, lv128, lv129, lv130, lv131, lv132, lv133, lv134, lv135, lv136, lv137, lv138, lv139, lv140, lv141, lv142, lv143, lv144, lv145, lv146, lv147, lv148, lv149, lv150, lv151, lv152, lv153, lv154, lv155, lv156, lv157, lv158, lv159, lv160, lv161, lv162, lv163, lv164, lv165, lv166, lv167, lv168, lv169, lv170, lv171, lv172, lv173, lv174, lv175, lv176, lv177, lv178, lv179, lv180, lv181, lv182, lv183, lv184, lv185, lv186, lv187, lv188, lv189, lv190, lv191, lv192, lv193, lv194, lv195, lv196, lv197, lv198, lv199, lv200, lv201, lv202, lv203, lv204, lv205, lv206, lv207, lv208, lv209, lv210, lv211, lv212, lv213, lv214, lv215, lv216, lv217, lv218, lv219, lv220, lv221, lv222, lv223, lv224, lv225, lv226, lv227, lv228, lv229, lv230, lv231, lv232, lv233, lv234, lv235, lv236, lv237, lv238, lv239, lv240, lv241, lv242, lv243, lv244, lv245, lv246, lv247, lv248, lv249, lv250, lv251, lv252, lv253, lv254, lv255, lv256, lv257, lv258, lv259, lv260, lv261, lv262, lv263, lv264, lv265, lv266, lv267, lv268, lv269, lv270, lv271, lv272, lv273, lv274, lv275, lv276, lv277, lv278, lv279, lv280, lv281, lv282, lv283, lv284, lv285, lv286, lv287, lv288, lv289, lv290, lv291, lv292, lv293, lv294, lv295, lv296, lv297, lv298, lv299, lv300, lv301, lv302, lv303, lv304, lv305, lv306, lv307, lv308, lv309, lv310, lv311, lv312, lv313, lv314, lv315, lv316, lv317, lv318, lv319, lv320], []⟩ W := by
  unfold GoodE
  conv => arg 2; whnf
  have hfn : fn ≤ 1048576 := by have := X.out.fl; have := X.out.ln; omega
  refine wp_seq_k fun K hK => ?_
  have HK : Hid _ := hK
  clear hK
  go_wp2_with fail
  go_loopw [27] (fun iv wr => ∃ k : Nat, k ≤ fn ∧ iv = .int .i64 k ∧ Below W1.heap.size W1 wr) (fun iv _ => fn - (intOf iv).toNat)
  case atStart => exact ⟨0, by omega, rfl, HB.out⟩
  case round =>
    obtain ⟨k, hk, rfl, hb⟩ := hrel
    have HB5 : Hid (Below W1.heap.size W1 wr) := hb
    clear hb HB
    by_cases hlt : k < fn
    · have hkl : k < fr.length := by rw [X.out.ln]; exact hlt
      obtain ⟨fb, fo, fe, _, c0, c1⟩ := LS.at X.out.fs HB5.out (k := k) hkl
      subst fe
      obtain ⟨b2, o2, e2, _, d0, d1⟩ := LS.at X.out.lt HB5.out (k := k) (by simp; omega)
      injection e2 with e2
      injection e2 with e21 e22 _
      subst e21 e22
      rw [List.getElem_append_left hkl] at d0 d1
      obtain ⟨x, hx⟩ : ∃ x, fr[k] = x := ⟨_, rfl⟩
      rw [hx] at c0 c1 d0 d1
      clear hx
      obtain ⟨p, n⟩ := x
      simp only at c0 c1 d0 d1
      have k1 : (k : Int) < (fn : Int) := by omega
      have k2 : (k : Int) < ((fn + 2 : Nat) : Int) := by omega
      have k3 : (0 : Int) ≤ (k : Int) := by omega
      have hq := neq_run'
      have hl : leq ⟨p, n⟩ ⟨p, n⟩ = true := by unfold leq; simp
      go_wp2_with fail
      go_quiet (fail)
      go_wp2_with fail
      go_roundw
      case rel => exact ⟨k + 1, by omega, by go_num, bstep HB5.out (bd _ _)⟩
      case measure => simp [intOf]; omega
    · obtain rfl : fn = k := by omega
      go_wp2_with fail
      refine HK.out _ _ ?_
      clear HK
      have hl : (fr ++ [(⟨[120], [49]⟩ : Lb), ⟨[120], [50]⟩]).length = fn + 2 := by simp [X.out.ln]
      obtain ⟨b1, o1, e1, _, _, d1⟩ := LS.at X.out.lt HB5.out (k := fn) (by rw [hl]; omega)
      obtain ⟨b2, o2, e2, _, _, d2⟩ := LS.at X.out.lt HB5.out (k := fn + 1) (by rw [hl]; omega)
      injection e1 with e1
      injection e1 with e11 e12 _
      injection e2 with e2
      injection e2 with e21 e22 _
      subst e11 e12 e21 e22
      have x1 : (fr ++ [(⟨[120], [49]⟩ : Lb), ⟨[120], [50]⟩])[fn]'(by rw [hl]; omega) = ⟨[120], [49]⟩ := by
        rw [List.getElem_append_right (by rw [X.out.ln]; omega)]
        simp [X.out.ln]
      have x2 : (fr ++ [(⟨[120], [49]⟩ : Lb), ⟨[120], [50]⟩])[fn + 1]'(by rw [hl]; omega) = ⟨[120], [50]⟩ := by
        rw [List.getElem_append_right (by rw [X.out.ln]; omega)]
        simp [X.out.ln]
      rw [x1] at d1
      rw [x2] at d2
      have y1 : wr.cell? ⟨ll, lo + fn * 2 + 1, none⟩ = some (.string { data := #[49] }) := d1
      have y2 : wr.cell? ⟨ll, lo + (fn + 1) * 2 + 1, none⟩ = some (.string { data := #[50] }) := d2
      clear d1 d2 x1 x2
      have HVL : Hid (Calls Try.prog 24 #[.agg #[.string { data := #[] }, .string { data := #[97] }]] wr fun e w' => e = .returned (.bool true) ∧ Below wr.heap.size wr w') := rlvalid_any ⟨[], [97]⟩ wr (lu_small (by decide) (by decide))
      have g1 : (fn : Int) < ((fn + 2 : Nat) : Int) := by omega
      have g2 : (0 : Int) ≤ (fn : Int) := by omega
      have g3 : (fn : Int) + 1 < ((fn + 2 : Nat) : Int) := by omega
      have g4 : (0 : Int) ≤ (fn : Int) + 1 := by omega
      have g5 : (fn : Int) ≤ 1048576 := by have := X.out.fl; have := X.out.ln; omega
      go_wp2_with fail
      with_reducible refine HVL.out.mono ?_
      rintro e w9 ⟨rfl, hb⟩
      have HB9 : Hid (Below w.heap.size w w9) := bstep (bstep X.out.bel HB5.out) hb
      clear hb
      go_wp2_with fail
      go_ret
      exact ⟨rfl, HB9.out⟩

set_option maxRecDepth 100000 in
set_option maxHeartbeats 16000000 in
theorem f47 {w W1 : World} {g d ab ll lo lc0 wb fn fc : Nat} {fa : Option Addr} {v0 v1 v2 v3 : Value} {N : List Lb} {E : List Ee} {a : Lb} {fr : List Lb} {W : World} {lv0 lv2 lv3 lv4 lv6 lv8 lv10 lv11 lv13 lv14 lv15 lv16 lv17 lv18 lv19 lv20 lv21 lv22 lv23 lv24 lv25 lv26 lv27 lv28 lv29 lv30 lv31 lv32 lv33 lv34 lv35 lv36 lv37 lv38 lv39 lv40 lv41 lv42 lv43 lv44 lv45 lv46 lv47 lv48 lv49 lv50 lv51 lv52 lv53 lv54 lv55 lv56 lv57 lv58 lv59 lv60 lv61 lv62 lv63 lv64 lv65 lv66 lv67 lv68 lv69 lv70 lv71 lv72 lv73 lv74 lv75 lv76 lv77 lv78 lv79 lv80 lv81 lv82 lv83 lv84 lv85 lv86 lv87 lv88 lv89 lv90 lv91 lv92 lv93 lv94 lv95 lv96 lv97 lv98 lv99 lv100 lv101 lv102 lv103 lv104 lv105 lv106 lv107 lv108 lv109 lv110 lv111 lv112 lv113 lv114 lv115 lv116 lv117 lv118 lv119 lv120 lv121 lv122 lv123 lv124 lv125 lv126 lv127 lv128 lv129 lv130 lv131 lv132 lv133 lv134 lv135 lv136 lv137 lv138 lv139 lv140 lv141 lv142 lv143 lv144 lv145 lv146 lv147 lv148 lv149 lv150 lv151 lv152 lv153 lv154 lv155 lv156 lv157 lv158 lv159 lv160 lv161 lv162 lv163 lv164 lv165 lv166 lv167 lv168 lv169 lv170 lv171 lv172 lv173 lv174 lv175 lv176 lv177 lv178 lv179 lv180 lv181 lv182 lv183 lv184 lv185 lv186 lv187 lv188 lv189 lv190 lv191 lv192 lv193 lv194 lv195 lv196 lv197 lv198 lv199 lv200 lv201 lv202 lv203 lv204 lv205 lv206 lv207 lv208 lv209 lv210 lv211 lv212 lv213 lv214 lv215 lv216 lv217 lv218 lv219 lv220 lv221 lv222 lv223 lv224 lv225 lv226 lv227 lv228 lv229 lv230 lv231 lv232 lv233 lv234 lv235 lv236 lv237 lv238 lv239 lv240 lv241 lv242 lv243 lv244 lv245 lv246 lv247 lv248 lv249 lv250 lv251 lv252 lv253 lv254 lv255 lv256 lv257 lv258 lv259 lv260 lv261 lv262 lv263 lv264 lv265 lv266 lv267 lv268 lv269 lv270 lv271 lv272 lv273 lv274 lv275 lv276 lv277 lv278 lv279 lv280 lv281 lv282 lv283 lv284 lv285 lv286 lv287 lv288 lv289 lv290 lv291 lv292 lv293 lv294 lv295 lv296 lv297 lv298 lv299 lv300 lv301 lv302 lv303 lv304 lv305 lv306 lv307 lv308 lv309 lv310 lv311 lv312 lv313 lv314 lv315 lv316 lv317 lv318 lv319 lv320 : Value} (X : Hid (FX w W1 g d ab ll lo lc0 wb fa fn fc v0 v1 v2 v3 N E a fr)) (HB : Hid (Below W1.heap.size W1 W)) :
    Code.wp Try.prog (suff 47 (Try.f5.body.getD .skip)) (bodyPost Try.prog Try.f5 (GoodE w)) ⟨#[lv0, .slice fa fn fc, lv2, lv3, lv4, .pointer (some ⟨g, 0, none⟩), lv6, .pointer (some ⟨ab, 0, none⟩), lv8, .slice (some ⟨ll, lo, none⟩) (fn + 2) lc0, lv10, lv11, .pointer (some ⟨wb, 0, none⟩), lv13, lv14, lv15, lv16, lv17, lv18, lv19, lv20, lv21, lv22, lv23, lv24, lv25, lv26, lv27, lv28, lv29, lv30, lv31, lv32, lv33, lv34, lv35, lv36, lv37, lv38, lv39, lv40, lv41, lv42, lv43, lv44, lv45, lv46, lv47, lv48, lv49, lv50, lv51, lv52, lv53, lv54, lv55, lv56, lv57, lv58, lv59, lv60, lv61, lv62, lv63, lv64, lv65, lv66, lv67, lv68, lv69, lv70, lv71, lv72, lv73, lv74, lv75, lv76, lv77, lv78, lv79, lv80, lv81, lv82, lv83, lv84, lv85, lv86, lv87, lv88, lv89, lv90, lv91, lv92, lv93, lv94, lv95, lv96, lv97, lv98, lv99, lv100, lv101, lv102, lv103, lv104, lv105, lv106, lv107, lv108, lv109, lv110, lv111, lv112, lv113, lv114, lv115, lv116, lv117, lv118, lv119, lv120, lv121, lv122, lv123, lv124, lv125, lv126, lv127, lv128, lv129, lv130, lv131, lv132, lv133, lv134, lv135, lv136, lv137, lv138, lv139, lv140, lv141, lv142, lv143, lv144, lv145, lv146, lv147, lv148, lv149, lv150, lv151, lv152, lv153, lv154, lv155, lv156, lv157, lv158, lv159, lv160, lv161, lv162, lv163, lv164, lv165, lv166, lv167, lv168, lv169, lv170, lv171, lv172, lv173, lv174, lv175, lv176, lv177, lv178, lv179, lv180, lv181, lv182, lv183, lv184, lv185, lv186, lv187, lv188, lv189, lv190, lv191, lv192, lv193, lv194, lv195, lv196, lv197, lv198, lv199, lv200, lv201, lv202, lv203, lv204, lv205, lv206, lv207, lv208, lv209, lv210, lv211, lv212, lv213, lv214, lv215, lv216, lv217, lv218, lv219, lv220, lv221, lv222, lv223, lv224, lv225, lv226, lv227, lv228, lv229, lv230, lv231, lv232, lv233, lv234, lv235, lv236, lv237, lv238, lv239, lv240, lv241, lv242, lv243, lv244, lv245, lv246, lv247, lv248, lv249, lv250, lv251, lv252, lv253, lv254, lv255, lv256, lv257, lv258, lv259, lv260, lv261, lv262, lv263, lv264, lv265, lv266, lv267, lv268, lv269, lv270, lv271, lv272, lv273, lv274, lv275, lv276, lv277, lv278, lv279, lv280, lv281, lv282, lv283, lv284, lv285, lv286, lv287, lv288, lv289, lv290, lv291, lv292, lv293, lv294, lv295, lv296, lv297, lv298, lv299, lv300, lv301, lv302, lv303, lv304, lv305, lv306, lv307, lv308, lv309, lv310, lv311, lv312, lv313, lv314, lv315, lv316, lv317, lv318, lv319, lv320], []⟩ W := by
  unfold GoodE
  conv => arg 2; whnf
  obtain ⟨F, D, ns, out, hbt⟩ := X.out.bt
  have HBT : Hid (Bt W1 F g ns out D d N E) := hbt
  clear hbt
  have HLN : Hid (((Gs.ord (rs N) E).getD []).length ≤ 100000000 ∧ (rs N).length ≤ 100000000 ∧ (∀ a, (rs (oE E a)).length ≤ 100000000) ∧ ∀ fr, (RS N E fr).length ≤ 100000000) := HBT.out.lens
  refine wp_seq_k fun K hK => ?_
  have HK : Hid _ := hK
  clear hK
  go_wp2_with fail
  refine ((HBT.out.later HB.out).order).mono ?_
  rintro e w2 ⟨ov, rfl, ho, hb⟩
  have HB2 : Hid (Below W1.heap.size W1 w2) := bstep HB.out hb
  have HOV : Hid (LS w2 ov ((Gs.ord (rs N) E).getD [])) := ho
  clear ho hb
  go_wp2_with fail
  refine HK.out _ _ ?_
  clear HK K
  refine wp_seq_k fun K hK => ?_
  have HK : Hid _ := hK
  clear hK
  obtain ⟨p0, q0, e0, _⟩ := X.out.l0.form
  obtain ⟨p1, q1, e1, _⟩ := X.out.l1.form
  obtain ⟨p2, q2, e2, _⟩ := X.out.l2.form
  obtain ⟨p3, q3, e3, _⟩ := X.out.l3.form
  obtain ⟨n0, hn0⟩ : ∃ m, (rs N).length = m := ⟨_, rfl⟩
  obtain ⟨n1, hn1⟩ : ∃ m, (rs (oE E a)).length = m := ⟨_, rfl⟩
  obtain ⟨n2, hn2⟩ : ∃ m, (RS N E fr).length = m := ⟨_, rfl⟩
  obtain ⟨n3, hn3⟩ : ∃ m, ((Gs.ord (rs N) E).getD []).length = m := ⟨_, rfl⟩
  rw [hn0] at e0
  rw [hn1] at e1
  rw [hn2] at e2
  rw [hn3] at e3
  clear hn0 hn1 hn2 hn3
  subst e0 e1 e2 e3
  obtain ⟨p, n⟩ := a
  have HSD : Hid (∀ W', Below W1.heap.size W1 W' → W'.cell? ⟨wb, 0, none⟩ = some (.slice p0 n0 q0) ∧ W'.cell? ⟨wb, 1, none⟩ = some (.slice p1 n1 q1) ∧ W'.cell? ⟨wb, 2, none⟩ = some (.slice p2 n2 q2) ∧ W'.cell? ⟨wb, 3, none⟩ = some (.slice p3 n3 q3) ∧ W'.cell? ⟨ab, 0, none⟩ = some (.string (bs p)) ∧ W'.cell? ⟨ab, 1, none⟩ = some (.string (bs n))) := fun W' hW => by
    have hwl : wb < W1.heap.size := (Array.getElem?_eq_some_iff.1 X.out.wt).1
    have h1 : W'.heap[wb]? = _ := (hW.block wb hwl).trans X.out.wt
    obtain ⟨b0, b1, _, _⟩ := (X.out.bx.later hW).cells
    exact ⟨by simp [World.cell?, h1], by simp [World.cell?, h1], by simp [World.cell?, h1], by simp [World.cell?, h1], b0, b1⟩
  have HN : Hid (∀ W', Below W1.heap.size W1 W' → Gv 15 #[.pointer (some ⟨g, 0, none⟩)] W' (rs N)) := fun W' hW => (HBT.out.later hW).nodes
  have HO : Hid (∀ W', Below W1.heap.size W1 W' → Gv 13 #[.pointer (some ⟨g, 0, none⟩), .agg #[.string (bs p), .string (bs n)]] W' (rs (oE E ⟨p, n⟩))) := fun W' hW => (HBT.out.later hW).outs ⟨p, n⟩ X.out.lu
  have HR : Hid (∀ W', Below W1.heap.size W1 W' → Gv 12 #[.pointer (some ⟨g, 0, none⟩), .slice (some ⟨ll, lo, none⟩) fn lc0] W' (RS N E fr)) := fun W' hW => by
    have h := X.out.lt.front (l := fr) (by have := X.out.lcp; have := X.out.ln; omega)
    rw [X.out.ln] at h
    exact (HBT.out.later hW).reach (h.later hW) (by have := X.out.fl; omega) X.out.fu
  have HW0 : Hid (∀ W', Below W1.heap.size W1 W' → LS W' (.slice p0 n0 q0) (rs N)) := fun W' hW => X.out.l0.later hW
  have HW1 : Hid (∀ W', Below W1.heap.size W1 W' → LS W' (.slice p1 n1 q1) (rs (oE E ⟨p, n⟩))) := fun W' hW => X.out.l1.later hW
  have HW2 : Hid (∀ W', Below W1.heap.size W1 W' → LS W' (.slice p2 n2 q2) (RS N E fr)) := fun W' hW => X.out.l2.later hW
  have HW3 : Hid (∀ W', Below W1.heap.size W1 W' → LS W' (.slice p3 n3 q3) ((Gs.ord (rs N) E).getD [])) := fun W' hW => X.out.l3.later hW
  have Y0 : Hid (Below W1.heap.size W1 w2.drew) := bstep HB2.out (bd w2 1)
  obtain ⟨s1, s2, s3, s4, s5, s6⟩ := HSD.out w2 HB2.out
  have g1 : (fn : Int) ≤ ((fn + 2 : Nat) : Int) := by omega
  have g2 : (0 : Int) ≤ (fn : Int) := by omega
  have g3 : (fn : Int) ≤ (lc0 : Int) := by have := X.out.lcp; omega
  have HV0 : Hid (LS w2.drew ov ((Gs.ord (rs N) E).getD [])) := HOV.out.later (bd w2 1)
  go_wp2_with fail
  go_region_held3 (fun W' => W'.cell? ⟨wb, 0, none⟩ = some (.slice p0 n0 q0) ∧ W'.cell? ⟨wb, 1, none⟩ = some (.slice p1 n1 q1) ∧ W'.cell? ⟨wb, 2, none⟩ = some (.slice p2 n2 q2) ∧ W'.cell? ⟨wb, 3, none⟩ = some (.slice p3 n3 q3) ∧ W'.cell? ⟨ab, 0, none⟩ = some (.string (bs p)) ∧ W'.cell? ⟨ab, 1, none⟩ = some (.string (bs n))) (first | (with_reducible exact S1.out) | (with_reducible exact S2.out) | (with_reducible exact S3.out) | (with_reducible exact S4.out) | (with_reducible exact S5.out) | (with_reducible exact S6.out) | (with_reducible exact S7.out) | go_keep) (first | (go_at_call 11; (with_reducible refine (same_true HV6.out (HW3.out z6 Y6.out) HLN.out.1).mono ?_); rintro e z7 ⟨rfl, hb⟩; have Y7 : Hid (Below W1.heap.size W1 z7) := bstep Y6.out hb; have HV7 : Hid (LS z7 ov ((Gs.ord (rs N) E).getD [])) := HV6.out.later hb; have S7 : Hid (z7.cell? ⟨wb, 0, none⟩ = some (.slice p0 n0 q0) ∧ z7.cell? ⟨wb, 1, none⟩ = some (.slice p1 n1 q1) ∧ z7.cell? ⟨wb, 2, none⟩ = some (.slice p2 n2 q2) ∧ z7.cell? ⟨wb, 3, none⟩ = some (.slice p3 n3 q3) ∧ z7.cell? ⟨ab, 0, none⟩ = some (.string (bs p)) ∧ z7.cell? ⟨ab, 1, none⟩ = some (.string (bs n))) := HSD.out z7 Y7.out; clear hb) | (go_at_call 11; (with_reducible refine (same_true Hvr.out (HW2.out z5 Y5.out) (HLN.out.2.2.2 _)).mono ?_); rintro e z6 ⟨rfl, hb⟩; have Y6 : Hid (Below W1.heap.size W1 z6) := bstep Y5.out hb; have HV6 : Hid (LS z6 ov ((Gs.ord (rs N) E).getD [])) := HV5.out.later hb; have S6 : Hid (z6.cell? ⟨wb, 0, none⟩ = some (.slice p0 n0 q0) ∧ z6.cell? ⟨wb, 1, none⟩ = some (.slice p1 n1 q1) ∧ z6.cell? ⟨wb, 2, none⟩ = some (.slice p2 n2 q2) ∧ z6.cell? ⟨wb, 3, none⟩ = some (.slice p3 n3 q3) ∧ z6.cell? ⟨ab, 0, none⟩ = some (.string (bs p)) ∧ z6.cell? ⟨ab, 1, none⟩ = some (.string (bs n))) := HSD.out z6 Y6.out; clear hb) | (go_at_call 12; (with_reducible refine (HR.out z4 Y4.out).mono ?_); rintro e z5 ⟨vr, rfl, hl, hb⟩; have Hvr : Hid (LS z5 vr (RS N E fr)) := hl; clear hl; have Y5 : Hid (Below W1.heap.size W1 z5) := bstep Y4.out hb; have HV5 : Hid (LS z5 ov ((Gs.ord (rs N) E).getD [])) := HV4.out.later hb; have S5 : Hid (z5.cell? ⟨wb, 0, none⟩ = some (.slice p0 n0 q0) ∧ z5.cell? ⟨wb, 1, none⟩ = some (.slice p1 n1 q1) ∧ z5.cell? ⟨wb, 2, none⟩ = some (.slice p2 n2 q2) ∧ z5.cell? ⟨wb, 3, none⟩ = some (.slice p3 n3 q3) ∧ z5.cell? ⟨ab, 0, none⟩ = some (.string (bs p)) ∧ z5.cell? ⟨ab, 1, none⟩ = some (.string (bs n))) := HSD.out z5 Y5.out; clear hb) | (go_at_call 11; (with_reducible refine (same_true Hvo.out (HW1.out z3 Y3.out) (HLN.out.2.2.1 _)).mono ?_); rintro e z4 ⟨rfl, hb⟩; have Y4 : Hid (Below W1.heap.size W1 z4) := bstep Y3.out hb; have HV4 : Hid (LS z4 ov ((Gs.ord (rs N) E).getD [])) := HV3.out.later hb; have S4 : Hid (z4.cell? ⟨wb, 0, none⟩ = some (.slice p0 n0 q0) ∧ z4.cell? ⟨wb, 1, none⟩ = some (.slice p1 n1 q1) ∧ z4.cell? ⟨wb, 2, none⟩ = some (.slice p2 n2 q2) ∧ z4.cell? ⟨wb, 3, none⟩ = some (.slice p3 n3 q3) ∧ z4.cell? ⟨ab, 0, none⟩ = some (.string (bs p)) ∧ z4.cell? ⟨ab, 1, none⟩ = some (.string (bs n))) := HSD.out z4 Y4.out; clear hb) | (go_at_call 13; (with_reducible refine (HO.out z2 Y2.out).mono ?_); rintro e z3 ⟨vo, rfl, hl, hb⟩; have Hvo : Hid (LS z3 vo (rs (oE E ⟨p, n⟩))) := hl; clear hl; have Y3 : Hid (Below W1.heap.size W1 z3) := bstep Y2.out hb; have HV3 : Hid (LS z3 ov ((Gs.ord (rs N) E).getD [])) := HV2.out.later hb; have S3 : Hid (z3.cell? ⟨wb, 0, none⟩ = some (.slice p0 n0 q0) ∧ z3.cell? ⟨wb, 1, none⟩ = some (.slice p1 n1 q1) ∧ z3.cell? ⟨wb, 2, none⟩ = some (.slice p2 n2 q2) ∧ z3.cell? ⟨wb, 3, none⟩ = some (.slice p3 n3 q3) ∧ z3.cell? ⟨ab, 0, none⟩ = some (.string (bs p)) ∧ z3.cell? ⟨ab, 1, none⟩ = some (.string (bs n))) := HSD.out z3 Y3.out; clear hb) | (go_at_call 11; (with_reducible refine (same_true Hvn.out (HW0.out z1 Y1.out) HLN.out.2.1).mono ?_); rintro e z2 ⟨rfl, hb⟩; have Y2 : Hid (Below W1.heap.size W1 z2) := bstep Y1.out hb; have HV2 : Hid (LS z2 ov ((Gs.ord (rs N) E).getD [])) := HV1.out.later hb; have S2 : Hid (z2.cell? ⟨wb, 0, none⟩ = some (.slice p0 n0 q0) ∧ z2.cell? ⟨wb, 1, none⟩ = some (.slice p1 n1 q1) ∧ z2.cell? ⟨wb, 2, none⟩ = some (.slice p2 n2 q2) ∧ z2.cell? ⟨wb, 3, none⟩ = some (.slice p3 n3 q3) ∧ z2.cell? ⟨ab, 0, none⟩ = some (.string (bs p)) ∧ z2.cell? ⟨ab, 1, none⟩ = some (.string (bs n))) := HSD.out z2 Y2.out; clear hb) | (go_at_call 15; (with_reducible refine (HN.out w2.drew Y0.out).mono ?_); rintro e z1 ⟨vn, rfl, hl, hb⟩; have Hvn : Hid (LS z1 vn (rs N)) := hl; clear hl; have Y1 : Hid (Below W1.heap.size W1 z1) := bstep Y0.out hb; have HV1 : Hid (LS z1 ov ((Gs.ord (rs N) E).getD [])) := HV0.out.later hb; have S1 : Hid (z1.cell? ⟨wb, 0, none⟩ = some (.slice p0 n0 q0) ∧ z1.cell? ⟨wb, 1, none⟩ = some (.slice p1 n1 q1) ∧ z1.cell? ⟨wb, 2, none⟩ = some (.slice p2 n2 q2) ∧ z1.cell? ⟨wb, 3, none⟩ = some (.slice p3 n3 q3) ∧ z1.cell? ⟨ab, 0, none⟩ = some (.string (bs p)) ∧ z1.cell? ⟨ab, 1, none⟩ = some (.string (bs n))) := HSD.out z1 Y1.out; clear hb))
  go_wp2_with fail
  refine HK.out _ _ ?_
  clear HK
  exact f50 X Y7
end Go.Proofs.Ytjohhmfncemknaa
