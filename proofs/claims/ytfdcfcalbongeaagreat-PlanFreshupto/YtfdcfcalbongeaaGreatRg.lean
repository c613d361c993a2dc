/-
  The look at fresh memory (plan): what is marked, grown.
-/
import Derived.Test.YtfdcfcalbongeaaGreatRf
namespace Go.Proofs.YtfdcfcalbongeaaGreat
open Go.RowKit
attribute [local go_sem] Oper.semAt_some

def stC (z : Int) : List Value := [.int .i64 z, .string ⟨#[]⟩, .string ⟨#[]⟩, .string ⟨#[]⟩, .int .i64 0, .int .i64 0]
def kStp (i : Nat) : Knd := ⟨23, 42, 6, stC (-1 - (i : Int))⟩
def kO : Knd := ⟨26, 9, 1, [.string ⟨#[109, 97, 114, 107, 32, 111, 110, 101]⟩]⟩
def kT : Knd := ⟨26, 9, 1, [.string ⟨#[109, 97, 114, 107, 32, 116, 119, 111]⟩]⟩
def kP (i : Nat) : Knd := if i < 3 then kStp i else if i = 3 then kO else kT
theorem kP_lt {i : Nat} (h : i < 3) : kP i = kStp i := if_pos h
theorem kP_3 : kP 3 = kO := rfl
theorem kP_4 : kP 4 = kT := rfl
theorem und27P : Tryz.prog.underlying 26 = some (.slice 9) := by kernel_rfl
theorem kStp_ok (i : Nat) : KOk (kStp i) := ⟨und23, ⟨_, _, info42, rfl, by decide⟩, rfl, Nat.succ_pos _⟩
theorem kO_ok : KOk kO := ⟨und27P, ⟨_, _, info9, rfl, by decide⟩, rfl, Nat.succ_pos _⟩
theorem kT_ok : KOk kT := ⟨und27P, ⟨_, _, info9, rfl, by decide⟩, rfl, Nat.succ_pos _⟩
theorem kP_ok (i : Nat) : KOk (kP i) := by
  unfold kP
  split
  · exact kStp_ok i
  · split
    · exact kO_ok
    · exact kT_ok
theorem src_O (w : World) : Src Tryz.prog kO.sz kO.ty (.slice (some ⟨w.heap.size, 0, none⟩) 1 1) 1 kO.c (w.alloc (.cells #[.string ⟨#[109, 97, 114, 107, 32, 111, 110, 101]⟩] 9)) := by
  refine Src.ofSlice _ und27P ⟨w.heap.size, 0, none⟩ 1 1 kO.c rfl ?_ (fun u hu => ?_)
  · exact World.news_of_block (heap_alloc_new w _)
  · have : u = .string ⟨#[109, 97, 114, 107, 32, 111, 110, 101]⟩ := by simpa [kO] using hu
    rw [this]; rfl
theorem src_T (w : World) : Src Tryz.prog kT.sz kT.ty (.slice (some ⟨w.heap.size, 0, none⟩) 1 1) 1 kT.c (w.alloc (.cells #[.string ⟨#[109, 97, 114, 107, 32, 116, 119, 111]⟩] 9)) := by
  refine Src.ofSlice _ und27P ⟨w.heap.size, 0, none⟩ 1 1 kT.c rfl ?_ (fun u hu => ?_)
  · exact World.news_of_block (heap_alloc_new w _)
  · have : u = .string ⟨#[109, 97, 114, 107, 32, 116, 119, 111]⟩ := by simpa [kT] using hu
    rw [this]; rfl
theorem src_S (w : World) (i : Nat) : Src Tryz.prog (kStp i).sz (kStp i).ty (.slice (some ⟨w.heap.size, 0, none⟩) 1 1) 1 (kStp i).c (w.alloc (.cells #[.int .i64 (-1 - (i : Int)), .string ⟨#[]⟩, .string ⟨#[]⟩, .string ⟨#[]⟩, .int .i64 0, .int .i64 0] 42)) := by
  refine Src.ofSlice _ und23 ⟨w.heap.size, 0, none⟩ 1 1 (kStp i).c rfl ?_ (fun u hu => ?_)
  · exact World.news_of_block (heap_alloc_new w _)
  · simp only [kStp, stC, List.mem_cons, List.not_mem_nil, or_false] at hu
    rcases hu with rfl | rfl | rfl | rfl | rfl | rfl <;> rfl
theorem app_kP {K : Knd} (hK : KOk K) {w : World} {base n : Nat} {v x : Value} (hown : OwR K.e K.sz base w v n (rep n K.c)) (hsrc : Src Tryz.prog K.sz K.ty x 1 K.c w) (hb : n + 1 ≤ 100000000) (hbase : base ≤ w.heap.size)
    {ops : Array Oper} {rest : List Oper} {o : Oper} {a : Act} {Q : Exit → Act → World → Prop} (hgd : o.guard = none) (d y : Operand)
    (ho : o.op = .call { callee := .builtin .append, args := #[d, y], argTypes := #[K.ty, K.ty] }) (hv : a.eval d = v) (hx : a.eval y = x)
    (h : ∀ v' w', OwR K.e K.sz base w' v' (n + 1) (rep (n + 1) K.c) → ((∃ g off cap, v = .slice (some ⟨g, off, none⟩) n cap ∧ v' = .slice (some ⟨g, off, none⟩) (n + 1) cap ∧ w.grownBy w' (some g)) ∨ (∃ b, v'.ownBlock = some b ∧ w.heap.size ≤ b ∧ Below w.heap.size w w')) → wpList Tryz.prog ops Q rest (a.put o.dst v') w') :
    wpList Tryz.prog ops Q (o :: rest) a w := by
  obtain ⟨v', w', hr, h1, h2⟩ := run_append_kR hK x o.type hown hsrc hb hbase
  refine wpList_plain hgd fun K' hK' => ?_
  unfold Oper.wp execOp
  simp only [ho, resolve, invoke, builtin, Sem.run_bind, Sem.run_pure, Result.andThen_ok, List.map_toArray, List.map_cons, List.map_nil, hv, hx, hr]
  exact hK' _ _ (h v' w' h1 h2)
/-- the five lists, longer ones, and the two tables -/
structure GX (B : Nat) (w wr : World) (ga gl : Nat) (V U P : Nat → Value) (n m : Nat → Nat) (D0 D : Nat → Nat → Prop) : Prop where
  x : MX B w wr 5 kP V U n m D0 D
  ta : ga < w.heap.size ∧ (∀ i, ¬ D0 i ga) ∧ ∀ i, i < 3 → w.cell? ⟨ga, i, none⟩ = some (V i)
  gd : w.heap.size ≤ gl ∧ ∀ i, ¬ D i gl
  tb : wr.heap[gl]? = some (.cells #[P 0, P 1, P 2] 23 (0, 0))
section
variable {B : Nat} {w wr w' : World} {ga gl : Nat} {V U P : Nat → Value} {n m : Nat → Nat} {D0 D : Nat → Nat → Prop}
theorem GX.glt (h : GX B w wr ga gl V U P n m D0 D) : gl < wr.heap.size := (Array.getElem?_eq_some_iff.1 h.tb).1
theorem GX.later (h : GX B w wr ga gl V U P n m D0 D) (hb : Below wr.heap.size wr w') : GX B w w' ga gl V U P n m D0 D :=
  ⟨h.x.later hb, h.ta, h.gd, (hb.block _ h.glt).trans h.tb⟩
theorem GX.ca (h : GX B w wr ga gl V U P n m D0 D) {i : Nat} (hi : i < 3) : wr.cell? ⟨ga, i, none⟩ = some (V i) := h.x.cell (h.ta.2.2 i hi) h.ta.2.1
theorem GX.cl (h : GX B w wr ga gl V U P n m D0 D) {i : Nat} (hi : i < 3) : wr.cell? ⟨gl, i, none⟩ = some (P i) ∧ wr.frozen? ⟨gl, i, none⟩ = false := by
  refine ⟨?_, by simp [World.frozen?, h.tb]⟩
  rw [cell_blkR h.tb]
  rcases i with _ | _ | _ | i
  · rfl
  · rfl
  · rfl
  · omega
/-- list k, one mark longer -/
theorem GX.app (h : GX B w wr ga gl V U P n m D0 D) {k : Nat} (hk : k < 5) {v : Value} (ho : OwR (kP k).e (kP k).sz B w' v (m k + 1) (rep (m k + 1) (kP k).c))
    (hw : (∃ g off cap, U k = .slice (some ⟨g, off, none⟩) (m k) cap ∧ v = .slice (some ⟨g, off, none⟩) (m k + 1) cap ∧ wr.grownBy w' (some g)) ∨ (∃ b, v.ownBlock = some b ∧ wr.heap.size ≤ b ∧ Below wr.heap.size wr w')) :
    GX B w w' ga gl V (fun i => if i = k then v else U i) P n (fun i => if i = k then m k + 1 else m i) D0 (fun i g => D i g ∨ (i = k ∧ v.ownBlock = some g)) := by
  have hgl := h.glt
  refine ⟨h.x.app (fun j => (kP_ok j).len) hk ho hw, h.ta, ⟨h.gd.1, fun i hd => ?_⟩, ?_⟩
  · rcases hd with hd | ⟨rfl, hd⟩
    · exact h.gd.2 i hd
    · rcases hw with ⟨g, off, cap, hU, hv, _⟩ | ⟨b, hb, hbs, _⟩
      · rw [hv] at hd
        have : g = gl := by simpa [Value.ownBlock] using hd
        exact h.gd.2 i (h.x.ud i hk gl (by rw [hU, ← this]; rfl))
      · rw [hb] at hd; injection hd with hd; omega
  · rcases hw with ⟨g, off, cap, hU, hv, hgr⟩ | ⟨b, hb, hbs, hbw⟩
    · refine ((only_grownR hgr).block gl hgl (fun hm => ?_)).trans h.tb
      simp only [List.mem_singleton] at hm
      exact h.gd.2 k (h.x.ud k hk gl (by rw [hU, hm]; rfl))
    · exact (hbw.block gl hgl).trans h.tb
/-- and laid into the table -/
theorem GX.put (h : GX B w wr ga gl V U P n m D0 D) {k : Nat} (hk : k < 3) (v : Value) : GX B w (wr.setCell ⟨gl, k, none⟩ v) ga gl V U (fun i => if i = k then v else P i) n m D0 D := by
  have ho := Only.set wr gl k v
  refine ⟨h.x.other ho (fun g hg => ?_), h.ta, h.gd, ?_⟩
  · simp only [List.mem_singleton] at hg
    subst hg
    exact ⟨h.gd.2, h.gd.1⟩
  · rw [heap_setCell wr gl k v h.tb]
    rcases k with _ | _ | _ | k
    · rfl
    · rfl
    · rfl
    · omega
theorem GX.len (h : GX B w wr ga gl V U P n m D0 D) {i : Nat} (hi : i < 5) : ∃ a c, U i = .slice a (m i) c := (h.x.ou i hi).len
end
theorem OwS.past {base B : Nat} {w w' : World} {v : Value} {l : List Sp} (h : OwS base w v l) (hb : Below B w w') (hv : ∀ k, v.ownBlock = some k → k < B) : OwS base w' v l := OwR.block h fun j hj => hb.block j (hv j hj)
theorem Below.ofMX {B : Nat} {w0 W : World} {T : Nat} {F : Nat → Knd} {V U : Nat → Value} {n m : Nat → Nat} {D0 D : Nat → Nat → Prop} (h : MX B w0 W T F V U n m D0 D) : Below B w0 W := h.below
set_option maxRecDepth 100000 in
set_option maxHeartbeats 16000000 in
theorem pf40 {lv2 lv3 lv4 lv7 lv8 lv11 lv12 lv13 lv14 lv15 lv16 lv18 lv20 lv22 lv23 lv24 lv25 lv29 lv30 lv31 lv32 lv33 lv34 lv35 lv36 lv37 lv38 lv39 lv40 lv41 lv42 lv43 lv44 lv45 lv46 lv47 lv48 lv49 lv50 lv51 lv52 lv53 lv54 lv55 lv56 lv57 lv58 lv59 lv60 lv61 lv62 lv63 lv64 lv65 lv66 lv67 lv68 lv69 lv70 lv71 lv72 lv73 lv74 lv75 lv76 lv77 lv78 lv79 lv80 lv81 lv82 lv83 lv84 lv85 lv86 lv87 lv88 lv89 lv90 lv91 lv92 lv93 lv94 lv95 lv96 lv97 lv98 lv99 lv100 lv101 lv102 lv103 lv104 lv105 lv106 lv107 lv108 lv109 lv110 lv111 lv112 lv113 lv114 lv115 lv116 lv117 lv118 lv119 lv120 lv121 lv122 lv123 lv124 lv125 lv126 lv127 lv128 lv129 lv130 lv131 lv132 lv133 lv134 lv135 lv136 lv137 lv138 lv139 lv140 lv141 lv142 lv143 lv144 lv145 lv146 lv147 lv148 lv149 lv150 lv151 lv152 lv153 lv154 lv155 lv156 lv157 lv158 lv159 lv160 lv161 lv162 lv163 lv164 lv165 lv166 lv167 lv168 lv169 lv170 lv171 lv172 lv173 lv174 lv175 lv176 lv177 lv178 lv179 lv180 lv181 lv182 lv183 lv184 lv185 lv186 lv187 lv188 lv189 lv190 lv191 lv192 lv193 lv194 lv195 lv196 lv197 lv198 lv199 lv200 lv201 lv202 lv203 lv204 lv205 lv206 lv207 lv208 lv209 lv210 lv211 lv212 lv213 lv214 lv215 lv216 lv217 lv218 lv219 lv220 lv221 lv222 lv223 lv224 lv225 lv226 lv227 lv228 lv229 lv230 lv231 lv232 lv233 lv234 lv235 lv236 lv237 lv238 lv239 lv240 lv241 lv242 lv243 lv244 lv245 lv246 lv247 lv248 lv249 lv250 lv251 lv252 lv253 lv254 lv255 lv256 lv257 lv258 lv259 lv260 lv261 lv262 lv263 lv264 lv265 lv266 lv267 lv268 lv269 lv270 lv271 lv272 lv273 lv274 lv275 lv276 lv277 lv278 lv279 lv280 lv281 lv282 lv283 lv284 lv285 lv286 lv287 lv288 lv289 lv290 lv291 lv292 lv293 lv294 lv295 lv296 lv297 lv298 lv299 lv300 lv301 lv302 lv303 lv304 lv305 lv306 lv307 lv308 lv309 lv310 lv311 lv312 lv313 lv314 lv315 lv316 lv317 lv318 lv319 lv320 lv321 lv322 lv323 lv324 lv325 lv326 lv327 lv328 lv329 lv330 lv331 lv332 lv333 lv334 lv335 lv336 lv337 lv338 lv339 lv340 lv341 lv342 lv343 lv344 lv345 lv346 lv347 lv348 lv349 lv350 lv351 lv352 lv353 lv354 lv355 lv356 lv357 lv358 lv359 lv360 lv361 lv362 lv363 lv364 lv365 lv366 lv367 lv368 lv369 lv370 lv371 lv372 lv373 lv374 lv375 lv376 lv377 lv378 lv379 lv380 lv381 lv382 lv383 lv384 lv385 lv386 lv387 lv388 lv389 lv390 lv391 lv392 lv393 lv394 lv395 lv396 lv397 lv398 lv399 lv400 lv401 lv402 lv403 lv404 lv405 lv406 lv407 lv408 lv409 lv410 lv411 lv412 lv413 lv414 lv415 lv416 lv417 lv418 lv419 lv420 lv421 lv422 lv423 lv424 lv425 lv426 lv427 lv428 lv429 lv430 lv431 lv432 lv433 lv434 lv435 lv436 lv437 lv438 lv439 lv440 lv441 lv442 lv443 lv444 lv445 lv446 lv447 lv448 lv449 lv450 lv451 lv452 lv453 lv454 lv455 lv456 lv457 lv458 lv459 : Value} (C : PcP) {w W w0 : World} {oa na : Option Addr} {no oc nn nc go oq gn nq : Nat} {vw : Value} {m : Int} {old now : List Fl} (HE : Hid (FE w w0 oa na no oc nn nc go oq gn nq old now now)) (HW : Hid (OwS w.heap.size w0 vw (mkA old now))) (Hm : Hid (mkE old now = m)) (HZ : Hid (Fsz old ∧ Fsz now)) (hno : no ≤ 1500000) (hnn : nn ≤ 1500000) {pa qa : Option Addr} {pn pc qc ga gl B : Nat} {V U P : Nat → Value} {n mm : Nat → Nat} {D0 D : Nat → Nat → Prop} (HX : Hid (GX B w0 W ga gl V U P n mm D0 D)) (HM : Hid ((∀ i, i < 3 → P i = U i ∧ mm i = n i + 16) ∧ V 3 = .slice pa pn pc ∧ V 4 = .slice qa pn qc ∧ n 3 = pn ∧ n 4 = pn ∧ mm 3 = pn ∧ mm 4 = pn ∧ U 3 = V 3 ∧ U 4 = V 4)) (HL : Hid (w.heap.size ≤ B ∧ go < B ∧ gn < B ∧ (∀ k, vw.ownBlock = some k → k < B))) (hpn : pn ≤ 4000000) (hnk : ∀ k, k < 3 → n k ≤ 1000000) :
    Code.wp Tryz.prog (suff 40 (Tryz.f3.body.getD .skip)) (bodyPost Tryz.prog Tryz.f3 (Good w)) ⟨#[.slice oa no oc, .slice na nn nc, lv2, lv3, lv4, vw, .int .i64 m, lv7, lv8, .slice (some ⟨go, 0, none⟩) (no + 2) oq, .slice (some ⟨gn, 0, none⟩) (nn + 2) nq, lv11, lv12, lv13, lv14, lv15, lv16, .slice pa pn pc, lv18, .slice qa pn qc, lv20, .slice (some ⟨ga, 0, none⟩) 3 3, lv22, lv23, lv24, lv25, .slice (some ⟨gl, 0, none⟩) 3 3, .slice pa pn pc, .slice qa pn qc, lv29, lv30, lv31, lv32, lv33, lv34, lv35, lv36, lv37, lv38, lv39, lv40, lv41, lv42, lv43, lv44, lv45, lv46, lv47, lv48, lv49, lv50, lv51, lv52, lv53, lv54, lv55, lv56, lv57, lv58, lv59, lv60, lv61, lv62, lv63, lv64, lv65, lv66, lv67, lv68, lv69, lv70, lv71, lv72, lv73, lv74, lv75, lv76, lv77, lv78, lv79, lv80, lv81, lv82, lv83, lv84, lv85, lv86, lv87, lv88, lv89, lv90, lv91, lv92, lv93, lv94, lv95, lv96, lv97, lv98, lv99, lv100, lv101, lv102, lv103, lv104, lv105, lv106, lv107, lv108, lv109, lv110, lv111, lv112, lv113, lv114, lv115, lv116, lv117, lv118, lv119, lv120, lv121, lv122, lv123, lv124, lv125, lv126, lv127, lv128, lv129, lv130, lv131, lv132, lv133, lv134, lv135, lv136, lv137, lv138, lv139, lv140, lv141, lv142, lv143, lv144, lv145, lv146, lv147, lv148, lv149, lv150, lv151, lv152, lv153, lv154, lv155, lv156, lv157, lv158, lv159, lv160, lv161, lv162, lv163, lv164, lv165, lv166, lv167, lv168, lv169, lv170, lv171, lv172, lv173, lv174, lv175, lv176, lv177, lv178, lv179, lv180, lv181, lv182, lv183, lv184, lv185, lv186, lv187, lv188, lv189, lv190, lv191, lv192, lv193, lv194, lv195, lv196, lv197, lv198, lv199, lv200, lv201, lv202, lv203, lv204, lv205, lv206, lv207, lv208, lv209, lv210, lv211, lv212, lv213, lv214, lv215, lv216, lv217, lv218, lv219, lv220, lv221, lv222, lv223, lv224, lv225, lv226, lv227, lv228, lv229, lv230, lv231, lv232, lv233, lv234, lv235, lv236, lv237, lv238, lv239, lv240, lv241, lv242, lv243, lv244, lv245, lv246, lv247, lv248, lv249, lv250, lv251, lv252, lv253, lv254, lv255, lv256, lv257, lv258, lv259, lv260, lv261, lv262, lv263, lv264, lv265, lv266, lv267, lv268, lv269, lv270, lv271, lv272, lv273, lv274, lv275, lv276, lv277, lv278, lv279, lv280, lv281, lv282, lv283, lv284, lv285, lv286, lv287, lv288, lv289, lv290, lv291, lv292, lv293, lv294, lv295, lv296, lv297, lv298, lv299, lv300, lv301, lv302, lv303, lv304, lv305, lv306, lv307, lv308, lv309, lv310, lv311, lv312, lv313, lv314, lv315, lv316, lv317, lv318, lv319, lv320, lv321, lv322, lv323, lv324, lv325, lv326, lv327, lv328, lv329, lv330, lv331, lv332, lv333, lv334, lv335, lv336, lv337, lv338, lv339, lv340, lv341, lv342, lv343, lv344, lv345, lv346, lv347, lv348, lv349, lv350, lv351, lv352, lv353, lv354, lv355, lv356, lv357, lv358, lv359, lv360, lv361, lv362, lv363, lv364, lv365, lv366, lv367, lv368, lv369, lv370, lv371, lv372, lv373, lv374, lv375, lv376, lv377, lv378, lv379, lv380, lv381, lv382, lv383, lv384, lv385, lv386, lv387, lv388, lv389, lv390, lv391, lv392, lv393, lv394, lv395, lv396, lv397, lv398, lv399, lv400, lv401, lv402, lv403, lv404, lv405, lv406, lv407, lv408, lv409, lv410, lv411, lv412, lv413, lv414, lv415, lv416, lv417, lv418, lv419, lv420, lv421, lv422, lv423, lv424, lv425, lv426, lv427, lv428, lv429, lv430, lv431, lv432, lv433, lv434, lv435, lv436, lv437, lv438, lv439, lv440, lv441, lv442, lv443, lv444, lv445, lv446, lv447, lv448, lv449, lv450, lv451, lv452, lv453, lv454, lv455, lv456, lv457, lv458, lv459], []⟩ W := by
  conv => arg 2; whnf
  obtain ⟨hM1, hM2, hM3, hM4, hM5, hM6, hM7, hM8, hM9⟩ := HM.out
  have HVN : Hid (V 3 = .slice pa pn pc ∧ V 4 = .slice qa pn qc ∧ n 3 = pn ∧ n 4 = pn) := ⟨hM2, hM3, hM4, hM5⟩
  have ST : Hid ((∀ i, i < 3 → P i = U i ∧ mm i = n i + 16) ∧ mm 3 = pn ∧ mm 4 = pn ∧ U 3 = .slice pa pn pc ∧ U 4 = .slice qa pn qc) := ⟨hM1, hM6, hM7, hM8.trans hM2, hM9.trans hM3⟩
  clear hM1 hM2 hM3 hM4 hM5 hM6 hM7 hM8 hM9
  refine wp_seq_k fun KK hKK => ?_
  have HK_ : Hid _ := hKK
  clear hKK
  go_wp2_with fail
  go_loopw [27, 28, 31] (fun r s i wr => ∃ (j : Nat) (U2 : Nat → Value) (m2 : Nat → Nat) (D2 : Nat → Nat → Prop), j ≤ 16 ∧ i = .int .i64 j ∧ r = U2 3 ∧ s = U2 4 ∧ GX B w0 wr ga gl V U2 P n m2 D0 D2 ∧ (∀ i, i < 3 → P i = U2 i ∧ m2 i = n i + 16) ∧ m2 3 = pn + j ∧ m2 4 = pn + j) (fun _ _ i _ => 16 - (intOf i).toNat)
  case atStart => exact ⟨0, U, mm, D, by omega, rfl, ST.out.2.2.2.1.symm, ST.out.2.2.2.2.symm, HX.out, ST.out.1, ST.out.2.1, ST.out.2.2.1⟩
  case round =>
    obtain ⟨j, U2, m2, D2, hj, rfl, hr, hs, hX, hP, hm3, hm4⟩ := hrel
    have OX : Hid (GX B w0 wr ga gl V U2 P n m2 D0 D2 ∧ (∀ i, i < 3 → P i = U2 i ∧ m2 i = n i + 16) ∧ m2 3 = pn + j ∧ m2 4 = pn + j) := ⟨hX, hP, hm3, hm4⟩
    obtain ⟨ra, rc, h3⟩ := hX.len (i := 3) (by omega)
    obtain ⟨sa, sc, h4⟩ := hX.len (i := 4) (by omega)
    rw [hm3] at h3
    rw [hm4] at h4
    rw [h3] at hr
    rw [h4] at hs
    subst hr
    subst hs
    have HU : Hid (U2 3 = .slice ra (pn + j) rc ∧ U2 4 = .slice sa (pn + j) sc) := ⟨h3, h4⟩
    have hbs : B ≤ wr.heap.size := Nat.le_trans hX.x.base hX.x.size
    clear hX hP hm3 hm4 h3 h4
    by_cases hlt : j < 16
    · have j0 : (0 : Int) ≤ (j : Int) := by omega
      have j1 : (j : Int) < 16 := by omega
      have o3 : Hid (OwR kO.e kO.sz B wr (.slice ra (pn + j) rc) (pn + j) (rep (pn + j) kO.c)) := by
        have := OX.out.1.x.ou 3 (by omega)
        rw [HU.out.1, OX.out.2.2.1] at this
        exact this
      go_wp2_with (first | (at_builtin; refine app_kP kO_ok (o3.out.later (balloc wr (.cells #[.string ⟨#[109, 97, 114, 107, 32, 111, 110, 101]⟩] 9))) (src_O wr) (by omega) (Nat.le_trans hbs (balloc wr (.cells #[.string ⟨#[109, 97, 114, 107, 32, 111, 110, 101]⟩] 9)).size) rfl (.tmp 296) (.tmp 297) rfl rfl rfl ?_; intro v5 w5 ho5 hw5; have X5 : Hid (GX B w0 w5 ga gl V (fun i => if i = 3 then v5 else U2 i) P n (fun i => if i = 3 then m2 3 + 1 else m2 i) D0 (fun i g => D2 i g ∨ (i = 3 ∧ v5.ownBlock = some g))) := (OX.out.1.later (balloc wr (.cells #[.string ⟨#[109, 97, 114, 107, 32, 111, 110, 101]⟩] 9))).app (k := 3) (by omega) (by rw [OX.out.2.2.1]; exact ho5) (by rw [HU.out.1, OX.out.2.2.1]; exact hw5); clear ho5 hw5; have hbs5 : B ≤ w5.heap.size := Nat.le_trans X5.out.x.base X5.out.x.size; have o4 : Hid (OwR kT.e kT.sz B w5 (.slice sa (pn + j) sc) (pn + j) (rep (pn + j) kT.c)) := (by have := X5.out.x.ou 4 (by omega); simp only [if_neg (show ¬ ((4 : Nat) = 3) by decide), HU.out.2, OX.out.2.2.2] at this; exact this)) | (at_builtin; refine app_kP kT_ok (o4.out.later (balloc w5 (.cells #[.string ⟨#[109, 97, 114, 107, 32, 116, 119, 111]⟩] 9))) (src_T w5) (by omega) (Nat.le_trans hbs5 (balloc w5 (.cells #[.string ⟨#[109, 97, 114, 107, 32, 116, 119, 111]⟩] 9)).size) rfl (.tmp 299) (.tmp 300) rfl rfl rfl ?_; intro v6 w6 ho6 hw6; have X6 : Hid (GX B w0 w6 ga gl V (fun i => if i = 4 then v6 else if i = 3 then v5 else U2 i) P n (fun i => if i = 4 then m2 4 + 1 else if i = 3 then m2 3 + 1 else m2 i) D0 (fun i g => (D2 i g ∨ (i = 3 ∧ v5.ownBlock = some g)) ∨ (i = 4 ∧ v6.ownBlock = some g))) := (by have := (X5.out.later (balloc w5 (.cells #[.string ⟨#[109, 97, 114, 107, 32, 116, 119, 111]⟩] 9))).app (k := 4) (v := v6) (w' := w6) (by omega) (by simp only [if_neg (show ¬ ((4 : Nat) = 3) by decide), OX.out.2.2.2]; exact ho6) (by simp only [if_neg (show ¬ ((4 : Nat) = 3) by decide), OX.out.2.2.2, HU.out.2]; exact hw6); simp only [if_neg (show ¬ ((4 : Nat) = 3) by decide)] at this; exact this); clear ho6 hw6))
      go_roundw
      case rel =>
        refine ⟨j + 1, _, _, _, by omega, by go_num, rfl, rfl, X6.out, fun i hi => ?_, ?_, ?_⟩
        · rw [if_neg (by omega), if_neg (by omega), if_neg (by omega), if_neg (by omega)]
          exact OX.out.2.1 i hi
        · show m2 3 + 1 = _
          rw [OX.out.2.2.1]; rfl
        · show m2 4 + 1 = _
          rw [OX.out.2.2.2]; rfl
      case measure => simp [intOf]; omega
    · obtain rfl : j = 16 := by omega
      go_wp2_with fail
      refine HK_.out _ _ ?_
      clear HK_
      have X := OX.out.1
      have see : ∀ i, i < 5 → SeeR wr (V i) (n i) (kP i).sz ((kP i).c.headD (.bool false)) ∧ SeeR wr (U2 i) (m2 i) (kP i).sz ((kP i).c.headD (.bool false)) := fun i hi => by
        have hl := (kP_ok i).len
        have hp := (kP_ok i).pos
        have h0 : (kP i).c[0]? = some ((kP i).c.headD (.bool false)) := by
          cases e : (kP i).c with
          | nil => rw [e] at hl; simp at hl; omega
          | cons a b => rfl
        exact ⟨(X.x.ov i hi).see hl hp h0, (X.x.ou i hi).see hl hp h0⟩
      have s3 := see 3 (by omega)
      have s4 := see 4 (by omega)
      rw [HVN.out.1, HVN.out.2.2.1, HU.out.1, OX.out.2.2.1] at s3
      rw [HVN.out.2.1, HVN.out.2.2.2, HU.out.2, OX.out.2.2.2] at s4
      refine pf45 (V := V) (U := U2) (n := n) C (HE.out.past X.x.below HL.out.1 HL.out.2.1 HL.out.2.2.1) (OwS.past HW.out X.x.below HL.out.2.2.2) Hm HZ hno hnn ⟨s3.1, s4.1, s3.2, s4.2⟩ hpn (fun k hk => ?_) (fun k hk => ?_) ⟨Nat.lt_of_lt_of_le X.ta.1 X.x.size, X.glt⟩ hnk
      · have := (see k (by omega)).1
        rw [kP_lt hk] at this
        exact ⟨this, X.ca hk⟩
      · have := (see k (by omega)).2
        rw [kP_lt hk, (OX.out.2.1 k hk).2] at this
        refine ⟨this, ?_⟩
        rw [← (OX.out.2.1 k hk).1]
        exact (X.cl hk).1
end Go.Proofs.YtfdcfcalbongeaaGreat
