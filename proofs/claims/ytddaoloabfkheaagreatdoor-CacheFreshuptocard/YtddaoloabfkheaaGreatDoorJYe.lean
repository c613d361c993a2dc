/-
  The law's spoiled: three lists of a target, grown.
  The law's spoiled: growing.
-/
import Derived.Test.YtddaoloabfkheaaGreatDoorYc
namespace Go.Proofs.YtddaoloabfkheaaGreatDoor
open Go.RowKit

theorem app_k {K : Knd} (hK : KOk K) {w : World} {base : Nat} {v : Value} {n : Nat} (hown : w.ownsRow base K.e K.sz v n (rep n K.c)) (h1 : ∀ u ∈ K.c, u.oneCell' = true) (hb : n + 1 ≤ 100000000) (hbase : base ≤ w.heap.size)
    {ops : Array Oper} {rest : List Oper} {o : Oper} {a : Act} {Q : Exit → Act → World → Prop} (hgd : o.guard = none) (s y : Operand)
    (ho : o.op = .call { callee := .builtin .append, args := #[s, y], argTypes := #[K.ty, K.ty] }) (hv : a.eval s = v) (hx : a.eval y = .slice (some ⟨w.heap.size, 0, none⟩) 1 1)
    (h : ∀ a' c w', w'.ownsRow base K.e K.sz (.slice a' (n + 1) c) (n + 1) (rep (n + 1) K.c) → Only (bl v) (w.alloc (.cells K.c.toArray K.e)) w' →
      ((Value.slice a' (n + 1) c).ownBlock = v.ownBlock ∨ ∃ b, (Value.slice a' (n + 1) c).ownBlock = some b ∧ (w.alloc (.cells K.c.toArray K.e)).heap.size ≤ b) →
      (∀ b' u m, (w.alloc (.cells K.c.toArray K.e)).ownsRow b' K.e K.sz u m (rep m K.c) → w'.ownsRow b' K.e K.sz u m (rep m K.c)) → wpList Tryz.prog ops Q rest (a.put o.dst (.slice a' (n + 1) c)) w') :
    wpList Tryz.prog ops Q (o :: rest) a (w.alloc (.cells K.c.toArray K.e)) := by
  have hs : Src Tryz.prog K.sz K.ty (.slice (some ⟨w.heap.size, 0, none⟩) 1 1) 1 K.c (w.alloc (.cells K.c.toArray K.e)) :=
    Src.ofSlice _ hK.und ⟨w.heap.size, 0, none⟩ 1 1 K.c (by rw [hK.len]; omega) (World.news_of_block (heap_alloc_new w (.cells K.c.toArray K.e))) h1
  obtain ⟨a', c, w', hr, k1, k2, k3, k4⟩ := run_append_k hK _ o.type (row_later hown (balloc _ _)) hs hb (Nat.le_trans hbase (balloc w _).size)
  refine wpList_plain hgd fun J hJ => ?_
  unfold Oper.wp execOp
  simp only [ho, resolve, invoke, builtin, Sem.run_bind, Sem.run_pure, Result.andThen_ok, List.map_toArray, List.map_cons, List.map_nil, hv, hx, hr]
  exact hJ _ _ (h a' c w' k1 k2 k3 k4)

theorem kS_one : ∀ u ∈ kS.c, u.oneCell' = true := by intro u hu; simp only [kS, List.mem_singleton] at hu; subst hu; rfl
theorem kE_one : ∀ u ∈ kE.c, u.oneCell' = true := by intro u hu; simp only [kE, List.mem_singleton] at hu; subst hu; rfl
theorem kD_one : ∀ u ∈ kD.c, u.oneCell' = true := by intro u hu; simp only [kD, List.mem_cons, List.mem_nil_iff, or_false] at hu; rcases hu with rfl | rfl <;> rfl
section
variable {w wr w' : World} {B n0 : Nat} {A : Nat → Tv} {v0 v1 : Value} {n : Nat → Nat} {C0 : Nat → List Value} {D0 : Nat → Nat → Prop}
/-- all inner lists are marked -/
abbrev FM (n : Nat → Nat) (n0 : Nat) : Nat → Nat := mm n (3 * (2 * n0)) 0 0
theorem FM_in {j : Nat} (h : j < 6 * n0) : FM n n0 j = n j := by unfold FM mm; rw [if_pos (by omega)]
theorem FM_row {k : Nat} (hk : k < 2) : FM n n0 (6 * n0 + k) = 0 := by
  unfold FM mm
  rw [if_neg (by omega)]
  rcases (show k = 0 ∨ k = 1 by omega) with rfl | rfl
  · rw [if_pos (by omega), if_pos rfl]
  · rw [if_neg (by omega), if_neg (by omega), if_pos (by omega), if_neg (by omega)]
/-- the lists b, b + 1, b + 2 have longer ones, Uf, by xf -/
structure UL (B : Nat) (w wr : World) (n0 : Nat) (A : Nat → Tv) (v0 v1 : Value) (n : Nat → Nat) (C0 : Nat → List Value) (D0 : Nat → Nat → Prop) (b : Nat) (Uf : Nat → Value) (xf : Nat → Nat) : Prop where
  it : ∃ D, QM B w wr (6 * n0 + 2) (kF n0) (kV n0 A v0 v1) n C0 (FM n n0) D0 D ∧ ∀ j, b ≤ j → j < b + 3 → wr.ownsRow B (kF n0 j).e (kF n0 j).sz (Uf j) (n j + xf j) (rep (n j + xf j) (kF n0 j).c) ∧ ∀ g, (Uf j).ownBlock = some g → D j g
theorem UL.start {D : Nat → Nat → Prop} (h : QM B w wr (6 * n0 + 2) (kF n0) (kV n0 A v0 v1) n C0 (FM n n0) D0 D) (hC : ∀ j, j < 6 * n0 + 2 → (C0 j).length = n j * (kF n0 j).sz) {b : Nat} (hb : b + 3 ≤ 6 * n0) : UL B w wr n0 A v0 v1 n C0 D0 b (kV n0 A v0 v1) (fun _ => 0) := by
  refine ⟨D, h, fun j h1 h2 => ⟨?_, fun g hg => h.vd j (by omega) g hg⟩⟩
  have ho := h.own j (by omega)
  simp only [FM_in (n := n) (n0 := n0) (show j < 6 * n0 by omega), pmk_full (hC j (by omega))] at ho
  exact ho
theorem UL.later {b : Nat} {Uf : Nat → Value} {xf : Nat → Nat} (h : UL B w wr n0 A v0 v1 n C0 D0 b Uf xf) (hb : Below wr.heap.size wr w') : UL B w w' n0 A v0 v1 n C0 D0 b Uf xf := by
  obtain ⟨D, h1, h2⟩ := h
  exact ⟨D, QN.later h1 hb, fun j a c => ⟨row_later (h2 j a c).1 hb, (h2 j a c).2⟩⟩
theorem UL.row {b : Nat} {Uf : Nat → Value} {xf : Nat → Nat} (h : UL B w wr n0 A v0 v1 n C0 D0 b Uf xf) {K : Knd} {j : Nat} (h1 : b ≤ j) (h2 : j < b + 3) (hK : kF n0 j = K) {u : Value} (hu : Uf j = u) {m : Nat} (hm : n j + xf j = m) : wr.ownsRow B K.e K.sz u m (rep m K.c) := by
  obtain ⟨D, _, h3⟩ := h
  have := (h3 j h1 h2).1
  rw [hK, hu, hm] at this
  exact this
theorem UL.base {b : Nat} {Uf : Nat → Value} {xf : Nat → Nat} (h : UL B w wr n0 A v0 v1 n C0 D0 b Uf xf) : B ≤ wr.heap.size := by
  obtain ⟨D, h1, _⟩ := h
  exact Nat.le_trans h1.base h1.below.size
theorem UL.congr {b : Nat} {Uf Uf' : Nat → Value} {xf xf' : Nat → Nat} (h : UL B w wr n0 A v0 v1 n C0 D0 b Uf xf) (h1 : ∀ j, b ≤ j → j < b + 3 → Uf j = Uf' j) (h2 : ∀ j, b ≤ j → j < b + 3 → xf j = xf' j) : UL B w wr n0 A v0 v1 n C0 D0 b Uf' xf' := by
  obtain ⟨D, q, h3⟩ := h
  exact ⟨D, q, fun j a c => by rw [← h1 j a c, ← h2 j a c]; exact h3 j a c⟩
/-- one of them is grown -/
theorem UL.grow {b : Nat} {Uf : Nat → Value} {xf : Nat → Nat} (h : UL B w wr n0 A v0 v1 n C0 D0 b Uf xf) (hC : ∀ j, j < 6 * n0 + 2 → (C0 j).length = n j * (kF n0 j).sz) (hb : b + 3 ≤ 6 * n0) {j : Nat} (hj1 : b ≤ j) (hj2 : j < b + 3) {v' : Value} {o : Obj}
    (k1 : w'.ownsRow B (kF n0 j).e (kF n0 j).sz v' (n j + xf j + 1) (rep (n j + xf j + 1) (kF n0 j).c)) (k2 : Only (bl (Uf j)) (wr.alloc o) w')
    (k3 : v'.ownBlock = (Uf j).ownBlock ∨ ∃ g, v'.ownBlock = some g ∧ (wr.alloc o).heap.size ≤ g)
    (k4 : ∀ b' u m, (wr.alloc o).ownsRow b' (kF n0 j).e (kF n0 j).sz u m (rep m (kF n0 j).c) → w'.ownsRow b' (kF n0 j).e (kF n0 j).sz u m (rep m (kF n0 j).c)) :
    UL B w w' n0 A v0 v1 n C0 D0 b (fun i => if i = j then v' else Uf i) (fun i => if i = j then xf j + 1 else xf i) := by
  obtain ⟨D, h1, h2⟩ := h.later (balloc wr o)
  have hlt : ∀ g, v'.ownBlock = some g → g < w'.heap.size := fun g hg => (World.ownsRow.lt k1 g hg).2
  obtain ⟨D', q1, q2, q3, q4⟩ := QN.grow1 h1 (j := j) (fun _ => by rw [FM_in (by omega), pmk_full (hC j (by omega))]) (v := Uf j) (v' := v') (h2 j hj1 hj2).2 k2 (fun u x hu => k4 B u x hu) k3 hlt
  refine ⟨D', q1, fun i hi1 hi2 => ?_⟩
  by_cases e : i = j
  · subst e
    simp only [if_true]
    exact ⟨k1, q3⟩
  · simp only [e, if_false]
    refine ⟨row_only (h2 i hi1 hi2).1 k2 (fun g hg hm => e (h1.inj i j g ((h2 i hi1 hi2).2 g hg) ((h2 j hj1 hj2).2 g (mem_bl.1 hm)))), fun g hg => q2 i g ((h2 i hi1 hi2).2 g hg)⟩
theorem UL.growK {b : Nat} {Uf : Nat → Value} {xf : Nat → Nat} (h : UL B w wr n0 A v0 v1 n C0 D0 b Uf xf) (hC : ∀ j, j < 6 * n0 + 2 → (C0 j).length = n j * (kF n0 j).sz) (hb : b + 3 ≤ 6 * n0) {K : Knd} {j : Nat} (hj1 : b ≤ j) (hj2 : j < b + 3) (hK : kF n0 j = K) {u v' : Value} (hu : Uf j = u) {m : Nat} (hm : n j + xf j = m) {o : Obj}
    (k1 : w'.ownsRow B K.e K.sz v' (m + 1) (rep (m + 1) K.c)) (k2 : Only (bl u) (wr.alloc o) w')
    (k3 : v'.ownBlock = u.ownBlock ∨ ∃ g, v'.ownBlock = some g ∧ (wr.alloc o).heap.size ≤ g)
    (k4 : ∀ b' u m, (wr.alloc o).ownsRow b' K.e K.sz u m (rep m K.c) → w'.ownsRow b' K.e K.sz u m (rep m K.c)) :
    Hid (UL B w w' n0 A v0 v1 n C0 D0 b (fun i => if i = j then v' else Uf i) (fun i => if i = j then xf j + 1 else xf i)) := by
  subst hu hm hK
  exact h.grow hC hb hj1 hj2 k1 k2 k3 k4
end
end Go.Proofs.YtddaoloabfkheaaGreatDoor

namespace Go.Proofs.YtddaoloabfkheaaGreatDoor
open Go.RowKit
attribute [local go_sem] Oper.semAt_some

set_option maxRecDepth 100000 in
set_option maxHeartbeats 16000000 in
theorem y20 {w W : World} {B n0 ga : Nat} {A : Nat → Tv} {v0 v1 : Value} {n : Nat → Nat} {C0 : Nat → List Value} {D0 : Nat → Nat → Prop} {D : Nat → Nat → Prop} {lv2 lv3 lv4 lv6 lv7 lv8 lv9 lv10 lv11 lv12 lv13 lv14 lv15 lv16 lv17 lv18 lv19 lv20 lv21 lv22 lv23 lv24 lv25 lv26 lv27 lv28 lv29 lv30 lv31 lv32 lv33 lv34 lv35 lv36 lv37 lv38 lv39 lv40 lv41 lv42 lv43 lv44 lv45 lv46 lv47 lv48 lv49 lv50 lv51 lv52 lv53 lv54 lv55 lv56 lv57 lv58 lv59 lv60 lv61 lv62 lv63 lv64 lv65 lv66 lv67 lv68 lv69 lv70 lv71 lv72 lv73 lv74 lv75 lv76 lv77 lv78 lv79 lv80 lv81 lv82 lv83 lv84 lv85 lv86 lv87 lv88 lv89 lv90 lv91 lv92 lv93 lv94 lv95 lv96 lv97 lv98 lv99 lv100 lv101 lv102 lv103 lv104 lv105 lv106 lv107 lv108 lv109 lv110 lv111 lv112 lv113 lv114 lv115 lv116 lv117 lv118 lv119 lv120 lv121 lv122 lv123 lv124 lv125 lv126 lv127 lv128 lv129 lv130 lv131 lv132 lv133 lv134 lv135 lv136 lv137 lv138 lv139 lv140 lv141 lv142 lv143 lv144 lv145 lv146 lv147 lv148 lv149 lv150 lv151 lv152 lv153 lv154 lv155 lv156 lv157 lv158 lv159 lv160 lv161 lv162 lv163 lv164 lv165 lv166 lv167 lv168 lv169 lv170 lv171 lv172 lv173 lv174 lv175 lv176 lv177 lv178 lv179 lv180 lv181 lv182 lv183 lv184 lv185 lv186 lv187 lv188 lv189 lv190 lv191 lv192 lv193 lv194 lv195 lv196 lv197 lv198 lv199 lv200 lv201 lv202 lv203 lv204 lv205 lv206 lv207 lv208 lv209 lv210 lv211 lv212 lv213 lv214 lv215 lv216 lv217 lv218 lv219 lv220 lv221 lv222 lv223 lv224 lv225 lv226 lv227 lv228 lv229 lv230 lv231 lv232 lv233 lv234 lv235 lv236 lv237 lv238 lv239 lv240 lv241 lv242 lv243 lv244 lv245 lv246 lv247 lv248 lv249 lv250 lv251 lv252 lv253 lv254 lv255 lv256 lv257 lv258 lv259 lv260 lv261 lv262 lv263 lv264 lv265 lv266 lv267 lv268 lv269 lv270 lv271 lv272 lv273 lv274 lv275 lv276 lv277 lv278 lv279 lv280 lv281 lv282 lv283 lv284 lv285 lv286 lv287 lv288 lv289 lv290 lv291 lv292 lv293 lv294 lv295 lv296 lv297 lv298 lv299 lv300 lv301 lv302 lv303 lv304 lv305 lv306 lv307 lv308 lv309 lv310 lv311 lv312 lv313 lv314 lv315 : Value} (S : Hid (SC w B n0 ga A v0 v1 n C0 D0)) (Q : Hid (QM B w W (6 * n0 + 2) (kF n0) (kV n0 A v0 v1) n C0 (FM n n0) D0 D)) (NX : ∀ {lv2 lv3 lv4 lv6 lv7 lv8 lv9 lv10 lv11 lv12 lv13 lv14 lv15 lv16 lv17 lv18 lv19 lv20 lv21 lv22 lv23 lv24 lv25 lv26 lv27 lv28 lv29 lv30 lv31 lv32 lv33 lv34 lv35 lv36 lv37 lv38 lv39 lv40 lv41 lv42 lv43 lv44 lv45 lv46 lv47 lv48 lv49 lv50 lv51 lv52 lv53 lv54 lv55 lv56 lv57 lv58 lv59 lv60 lv61 lv62 lv63 lv64 lv65 lv66 lv67 lv68 lv69 lv70 lv71 lv72 lv73 lv74 lv75 lv76 lv77 lv78 lv79 lv80 lv81 lv82 lv83 lv84 lv85 lv86 lv87 lv88 lv89 lv90 lv91 lv92 lv93 lv94 lv95 lv96 lv97 lv98 lv99 lv100 lv101 lv102 lv103 lv104 lv105 lv106 lv107 lv108 lv109 lv110 lv111 lv112 lv113 lv114 lv115 lv116 lv117 lv118 lv119 lv120 lv121 lv122 lv123 lv124 lv125 lv126 lv127 lv128 lv129 lv130 lv131 lv132 lv133 lv134 lv135 lv136 lv137 lv138 lv139 lv140 lv141 lv142 lv143 lv144 lv145 lv146 lv147 lv148 lv149 lv150 lv151 lv152 lv153 lv154 lv155 lv156 lv157 lv158 lv159 lv160 lv161 lv162 lv163 lv164 lv165 lv166 lv167 lv168 lv169 lv170 lv171 lv172 lv173 lv174 lv175 lv176 lv177 lv178 lv179 lv180 lv181 lv182 lv183 lv184 lv185 lv186 lv187 lv188 lv189 lv190 lv191 lv192 lv193 lv194 lv195 lv196 lv197 lv198 lv199 lv200 lv201 lv202 lv203 lv204 lv205 lv206 lv207 lv208 lv209 lv210 lv211 lv212 lv213 lv214 lv215 lv216 lv217 lv218 lv219 lv220 lv221 lv222 lv223 lv224 lv225 lv226 lv227 lv228 lv229 lv230 lv231 lv232 lv233 lv234 lv235 lv236 lv237 lv238 lv239 lv240 lv241 lv242 lv243 lv244 lv245 lv246 lv247 lv248 lv249 lv250 lv251 lv252 lv253 lv254 lv255 lv256 lv257 lv258 lv259 lv260 lv261 lv262 lv263 lv264 lv265 lv266 lv267 lv268 lv269 lv270 lv271 lv272 lv273 lv274 lv275 lv276 lv277 lv278 lv279 lv280 lv281 lv282 lv283 lv284 lv285 lv286 lv287 lv288 lv289 lv290 lv291 lv292 lv293 lv294 lv295 lv296 lv297 lv298 lv299 lv300 lv301 lv302 lv303 lv304 lv305 lv306 lv307 lv308 lv309 lv310 lv311 lv312 lv313 lv314 lv315 : Value} (W2 : World) (D2 : Nat → Nat → Prop), Hid (QM B w W2 (6 * n0 + 2) (kF n0) (kV n0 A v0 v1) n C0 (FM n n0) D0 D2) → Code.wp Tryz.prog (suff 35 (Tryz.f19.body.getD .skip)) (bodyPost Tryz.prog Tryz.f19 (SpG B w D0)) ⟨#[v0, v1, lv2, lv3, lv4, .slice (some ⟨ga, 0, none⟩) 2 2, lv6, lv7, lv8, lv9, lv10, lv11, lv12, lv13, lv14, lv15, lv16, lv17, lv18, lv19, lv20, lv21, lv22, lv23, lv24, lv25, lv26, lv27, lv28, lv29, lv30, lv31, lv32, lv33, lv34, lv35, lv36, lv37, lv38, lv39, lv40, lv41, lv42, lv43, lv44, lv45, lv46, lv47, lv48, lv49, lv50, lv51, lv52, lv53, lv54, lv55, lv56, lv57, lv58, lv59, lv60, lv61, lv62, lv63, lv64, lv65, lv66, lv67, lv68, lv69, lv70, lv71, lv72, lv73, lv74, lv75, lv76, lv77, lv78, lv79, lv80, lv81, lv82, lv83, lv84, lv85, lv86, lv87, lv88, lv89, lv90, lv91, lv92, lv93, lv94, lv95, lv96, lv97, lv98, lv99, lv100, lv101, lv102, lv103, lv104, lv105, lv106, lv107, lv108, lv109, lv110, lv111, lv112, lv113, lv114, lv115, lv116, lv117, lv118, lv119, lv120, lv121, lv122, lv123, lv124, lv125, lv126, lv127, lv128, lv129, lv130, lv131, lv132, lv133, lv134, lv135, lv136, lv137, lv138, lv139, lv140, lv141, lv142, lv143, lv144, lv145, lv146, lv147, lv148, lv149, lv150, lv151, lv152, lv153, lv154, lv155, lv156, lv157, lv158, lv159, lv160, lv161, lv162, lv163, lv164, lv165, lv166, lv167, lv168, lv169, lv170, lv171, lv172, lv173, lv174, lv175, lv176, lv177, lv178, lv179, lv180, lv181, lv182, lv183, lv184, lv185, lv186, lv187, lv188, lv189, lv190, lv191, lv192, lv193, lv194, lv195, lv196, lv197, lv198, lv199, lv200, lv201, lv202, lv203, lv204, lv205, lv206, lv207, lv208, lv209, lv210, lv211, lv212, lv213, lv214, lv215, lv216, lv217, lv218, lv219, lv220, lv221, lv222, lv223, lv224, lv225, lv226, lv227, lv228, lv229, lv230, lv231, lv232, lv233, lv234, lv235, lv236, lv237, lv238, lv239, lv240, lv241, lv242, lv243, lv244, lv245, lv246, lv247, lv248, lv249, lv250, lv251, lv252, lv253, lv254, lv255, lv256, lv257, lv258, lv259, lv260, lv261, lv262, lv263, lv264, lv265, lv266, lv267, lv268, lv269, lv270, lv271, lv272, lv273, lv274, lv275, lv276, lv277, lv278, lv279, lv280, lv281, lv282, lv283, lv284, lv285, lv286, lv287, lv288, lv289, lv290, lv291, lv292, lv293, lv294, lv295, lv296, lv297, lv298, lv299, lv300, lv301, lv302, lv303, lv304, lv305, lv306, lv307, lv308, lv309, lv310, lv311, lv312, lv313, lv314, lv315], []⟩ W2) :
    Code.wp Tryz.prog (suff 20 (Tryz.f19.body.getD .skip)) (bodyPost Tryz.prog Tryz.f19 (SpG B w D0)) ⟨#[v0, v1, lv2, lv3, lv4, .slice (some ⟨ga, 0, none⟩) 2 2, lv6, lv7, lv8, lv9, lv10, lv11, lv12, lv13, lv14, lv15, lv16, lv17, lv18, lv19, lv20, lv21, lv22, lv23, lv24, lv25, lv26, lv27, lv28, lv29, lv30, lv31, lv32, lv33, lv34, lv35, lv36, lv37, lv38, lv39, lv40, lv41, lv42, lv43, lv44, lv45, lv46, lv47, lv48, lv49, lv50, lv51, lv52, lv53, lv54, lv55, lv56, lv57, lv58, lv59, lv60, lv61, lv62, lv63, lv64, lv65, lv66, lv67, lv68, lv69, lv70, lv71, lv72, lv73, lv74, lv75, lv76, lv77, lv78, lv79, lv80, lv81, lv82, lv83, lv84, lv85, lv86, lv87, lv88, lv89, lv90, lv91, lv92, lv93, lv94, lv95, lv96, lv97, lv98, lv99, lv100, lv101, lv102, lv103, lv104, lv105, lv106, lv107, lv108, lv109, lv110, lv111, lv112, lv113, lv114, lv115, lv116, lv117, lv118, lv119, lv120, lv121, lv122, lv123, lv124, lv125, lv126, lv127, lv128, lv129, lv130, lv131, lv132, lv133, lv134, lv135, lv136, lv137, lv138, lv139, lv140, lv141, lv142, lv143, lv144, lv145, lv146, lv147, lv148, lv149, lv150, lv151, lv152, lv153, lv154, lv155, lv156, lv157, lv158, lv159, lv160, lv161, lv162, lv163, lv164, lv165, lv166, lv167, lv168, lv169, lv170, lv171, lv172, lv173, lv174, lv175, lv176, lv177, lv178, lv179, lv180, lv181, lv182, lv183, lv184, lv185, lv186, lv187, lv188, lv189, lv190, lv191, lv192, lv193, lv194, lv195, lv196, lv197, lv198, lv199, lv200, lv201, lv202, lv203, lv204, lv205, lv206, lv207, lv208, lv209, lv210, lv211, lv212, lv213, lv214, lv215, lv216, lv217, lv218, lv219, lv220, lv221, lv222, lv223, lv224, lv225, lv226, lv227, lv228, lv229, lv230, lv231, lv232, lv233, lv234, lv235, lv236, lv237, lv238, lv239, lv240, lv241, lv242, lv243, lv244, lv245, lv246, lv247, lv248, lv249, lv250, lv251, lv252, lv253, lv254, lv255, lv256, lv257, lv258, lv259, lv260, lv261, lv262, lv263, lv264, lv265, lv266, lv267, lv268, lv269, lv270, lv271, lv272, lv273, lv274, lv275, lv276, lv277, lv278, lv279, lv280, lv281, lv282, lv283, lv284, lv285, lv286, lv287, lv288, lv289, lv290, lv291, lv292, lv293, lv294, lv295, lv296, lv297, lv298, lv299, lv300, lv301, lv302, lv303, lv304, lv305, lv306, lv307, lv308, lv309, lv310, lv311, lv312, lv313, lv314, lv315], []⟩ W := by
  conv => arg 2; whnf
  have sM : (⟨#[109, 97, 114, 107]⟩ : ByteArray) = bs sMark := rfl
  have sS : (⟨#[115, 101, 101, 110]⟩ : ByteArray) = bs sSeen := rfl
  have sD : (⟨#[100, 101, 112]⟩ : ByteArray) = bs sDep := rfl
  have sZ : (⟨#[]⟩ : ByteArray) = bs [] := rfl
  have hn64 := S.out.nl
  refine wp_seq_k fun K9 hK => ?_
  have HK : Hid _ := hK
  clear hK
  go_wp2_with fail
  go_loopw [11] (fun s11 wr => ∃ (k : Nat) (D : Nat → Nat → Prop), s11 = .int .i64 k ∧ k ≤ 2 ∧ QM B w wr (6 * n0 + 2) (kF n0) (kV n0 A v0 v1) n C0 (FM n n0) D0 D) (fun s11 _ => 2 - (intOf s11).toNat)
  case atStart => exact ⟨0, _, rfl, by omega, Q.out⟩
  case round =>
    obtain ⟨k, D1, rfl, hk2, hq⟩ := hrel
    by_cases hk : k < 2
    · have HQ : Hid (QM B w wr (6 * n0 + 2) (kF n0) (kV n0 A v0 v1) n C0 (FM n n0) D0 D1) := hq
      clear hq
      have k1 : (k : Int) < 2 := by omega
      go_wp2_with fail
      go_loopw [12] (fun s12 wr => ∃ (i : Nat) (D : Nat → Nat → Prop), s12 = .int .i64 i ∧ i ≤ n0 ∧ QM B w wr (6 * n0 + 2) (kF n0) (kV n0 A v0 v1) n C0 (FM n n0) D0 D) (fun s12 _ => n0 - (intOf s12).toNat)
      case atStart => exact ⟨0, _, rfl, by omega, HQ.out⟩
      case round =>
        obtain ⟨i, D2, rfl, hi2, hq⟩ := hrel
        have H0 : Hid (QM B w wr (6 * n0 + 2) (kF n0) (kV n0 A v0 v1) n C0 (FM n n0) D0 D2) := hq
        have ca := S.out.all hq hk
        clear HQ
        by_cases hi : i < n0
        · have hkn : k * n0 + i < 2 * n0 := by
            rcases (show k = 0 ∨ k = 1 by omega) with rfl | rfl <;> omega
          have i1 : (i : Int) < (n0 : Int) := by omega
          obtain ⟨g, cg, hvk, r1, r2, r3⟩ := S.out.row hq hk hi (FM_row hk)
          rw [hvk] at ca
          obtain ⟨hnA, aA, cA, hvA⟩ := S.out.ni (3 * (k * n0 + i)) (by omega)
          have hwA : (A (k * n0 + i)).s = .slice aA (n (3 * (k * n0 + i))) cA := by
            rw [← hvA]; unfold kV; rw [if_pos (by omega), show (3 * (k * n0 + i)) / 3 = k * n0 + i by omega, show (3 * (k * n0 + i)) % 3 = 0 by omega]; rfl
          rw [hwA] at r1
          obtain ⟨hnB, aB, cB, hvB⟩ := S.out.ni (3 * (k * n0 + i) + 1) (by omega)
          have hwB : (A (k * n0 + i)).d = .slice aB (n (3 * (k * n0 + i) + 1)) cB := by
            rw [← hvB]; unfold kV; rw [if_pos (by omega), show (3 * (k * n0 + i) + 1) / 3 = k * n0 + i by omega, show (3 * (k * n0 + i) + 1) % 3 = 1 by omega]; rfl
          rw [hwB] at r2
          obtain ⟨hnC, aC, cC, hvC⟩ := S.out.ni (3 * (k * n0 + i) + 2) (by omega)
          have hwC : (A (k * n0 + i)).e = .slice aC (n (3 * (k * n0 + i) + 2)) cC := by
            rw [← hvC]; unfold kV; rw [if_pos (by omega), show (3 * (k * n0 + i) + 2) / 3 = k * n0 + i by omega, show (3 * (k * n0 + i) + 2) % 3 = 2 by omega]; rfl
          rw [hwC] at r3
          have HU : Hid (UL B w wr n0 A v0 v1 n C0 D0 (3 * (k * n0 + i)) (kV n0 A v0 v1) (fun _ => 0)) := UL.start hq (fun j hj => S.out.len j hj) (by omega)
          clear hq hvk hwA hwB hwC
          go_wp2_with fail
          go_loopw [13, 14, 15, 16] (fun s13 s14 s15 s16 wr => ∃ (x : Nat) (Uf : Nat → Value), s16 = .int .i64 x ∧ x ≤ 8 ∧ Uf (3 * (k * n0 + i)) = s13 ∧ Uf (3 * (k * n0 + i) + 2) = s14 ∧ Uf (3 * (k * n0 + i) + 1) = s15 ∧ UL B w wr n0 A v0 v1 n C0 D0 (3 * (k * n0 + i)) Uf (fun _ => x)) (fun _ _ _ s16 _ => 8 - (intOf s16).toNat)
          case atStart => exact ⟨0, _, rfl, by omega, hvA, hvC, hvB, HU.out⟩
          case round =>
            obtain ⟨x, Uf, rfl, hx, e1, e2, e3, hu⟩ := hrel
            obtain ⟨u1, hu1⟩ : ∃ u1, Uf (3 * (k * n0 + i)) = u1 := ⟨_, rfl⟩
            obtain ⟨u2, hu2⟩ : ∃ u2, Uf (3 * (k * n0 + i) + 2) = u2 := ⟨_, rfl⟩
            obtain ⟨u3, hu3⟩ : ∃ u3, Uf (3 * (k * n0 + i) + 1) = u3 := ⟨_, rfl⟩
            subst e1 e2 e3
            by_cases hlt : x < 8
            · have x1 : (x : Int) < 8 := by omega
              rw [hu1, hu2, hu3]
              have HU0 : Hid (UL B w wr n0 A v0 v1 n C0 D0 (3 * (k * n0 + i)) Uf (fun _ => x)) := hu
              clear hu
              have hkS : kF n0 (3 * (k * n0 + i)) = kS := by unfold kF; rw [if_pos (by omega), show (3 * (k * n0 + i)) % 3 = 0 by omega]; rfl
              have hkD : kF n0 (3 * (k * n0 + i) + 1) = kD := by unfold kF; rw [if_pos (by omega), show (3 * (k * n0 + i) + 1) % 3 = 1 by omega]; rfl
              have hkE : kF n0 (3 * (k * n0 + i) + 2) = kE := by unfold kF; rw [if_pos (by omega), show (3 * (k * n0 + i) + 2) % 3 = 2 by omega]; rfl
              have HKK : Hid (kF n0 (3 * (k * n0 + i)) = kS ∧ kF n0 (3 * (k * n0 + i) + 1) = kD ∧ kF n0 (3 * (k * n0 + i) + 2) = kE) := ⟨hkS, hkD, hkE⟩
              have HUU : Hid (Uf (3 * (k * n0 + i)) = u1 ∧ Uf (3 * (k * n0 + i) + 2) = u2 ∧ Uf (3 * (k * n0 + i) + 1) = u3) := ⟨hu1, hu2, hu3⟩
              have HLn : Hid (∀ j, j < 6 * n0 + 2 → (C0 j).length = n j * (kF n0 j).sz) := fun j hj => S.out.len j hj
              clear hkS hkD hkE hu1 hu2 hu3 ca r1 r2 r3 hvA hvB hvC HU H0
              go_wp2_with (first
                | (at_builtin; refine app_k kS_ok (base := B) (n := n (3 * (k * n0 + i)) + x) (HU0.out.row (by omega) (by omega) HKK.out.1 HUU.out.1 rfl) kS_one (by omega) HU0.out.base rfl (.tmp 154) (.tmp 155) rfl rfl rfl ?_; intro a1 c1 w1 k1 k2 k3 k4; have HU1 := HU0.out.growK HLn.out (by omega) (j := 3 * (k * n0 + i)) (by omega) (by omega) HKK.out.1 HUU.out.1 rfl k1 k2 k3 k4; clear k1 k2 k3 k4)
                | (at_builtin; refine app_k kE_ok (base := B) (n := n (3 * (k * n0 + i) + 2) + x) (HU1.out.row (j := 3 * (k * n0 + i) + 2) (by omega) (by omega) HKK.out.2.2 (by rw [if_neg (by omega)]; exact HUU.out.2.1) (by rw [if_neg (by omega)])) kE_one (by omega) HU1.out.base rfl (.tmp 157) (.tmp 158) rfl rfl rfl ?_; intro a2 c2 w2 k1 k2 k3 k4; have HU2 := HU1.out.growK HLn.out (by omega) (j := 3 * (k * n0 + i) + 2) (by omega) (by omega) HKK.out.2.2 (by rw [if_neg (by omega)]; exact HUU.out.2.1) (by rw [if_neg (by omega)]) k1 k2 k3 k4; clear k1 k2 k3 k4)
                | (at_builtin; refine app_k kD_ok (base := B) (n := n (3 * (k * n0 + i) + 1) + x) (HU2.out.row (j := 3 * (k * n0 + i) + 1) (by omega) (by omega) HKK.out.2.1 (by rw [if_neg (by omega), if_neg (by omega)]; exact HUU.out.2.2) (by rw [if_neg (by omega), if_neg (by omega)])) kD_one (by omega) HU2.out.base rfl (.tmp 160) (.tmp 162) rfl rfl rfl ?_; intro a3 c3 w3 k1 k2 k3 k4; have HU3 := HU2.out.growK HLn.out (by omega) (j := 3 * (k * n0 + i) + 1) (by omega) (by omega) HKK.out.2.1 (by rw [if_neg (by omega), if_neg (by omega)]; exact HUU.out.2.2) (by rw [if_neg (by omega), if_neg (by omega)]) k1 k2 k3 k4; clear k1 k2 k3 k4))
              go_roundw
              case rel => exact ⟨x + 1, _, by go_num, by omega, by simp, by simp, by simp, UL.congr HU3.out (fun _ _ _ => rfl) (fun j h1 h2 => by rcases (show j = 3 * (k * n0 + i) ∨ j = 3 * (k * n0 + i) + 1 ∨ j = 3 * (k * n0 + i) + 2 by omega) with rfl | rfl | rfl <;> simp)⟩
              case measure => simp [intOf]; omega
            · obtain rfl : x = 8 := by omega
              obtain ⟨D5, hq5, _⟩ := hu
              have H5 : Hid (QM B w wr (6 * n0 + 2) (kF n0) (kV n0 A v0 v1) n C0 (FM n n0) D0 D5) := hq5
              clear hq5
              go_wp2_with fail
              go_roundw
              case rel => exact ⟨i + 1, _, by go_num, by omega, H5.out⟩
              case measure => simp [intOf]; omega
        · obtain rfl : n0 = i := by omega
          obtain ⟨ak, ck, hvk0⟩ := S.out.rowv hq hk
          rw [hvk0] at ca
          have i1 : ¬ (n0 : Int) < (n0 : Int) := by omega
          go_wp2_with fail
          go_roundw
          case rel => exact ⟨k + 1, _, by go_num, by omega, H0.out⟩
          case measure => simp [intOf]; omega
    · obtain rfl : k = 2 := by omega
      have HQ : Hid (QM B w wr (6 * n0 + 2) (kF n0) (kV n0 A v0 v1) n C0 (FM n n0) D0 D1) := hq
      clear hq
      go_wp2_with fail
      refine HK.out _ _ ?_
      exact NX wr _ HQ
end Go.Proofs.YtddaoloabfkheaaGreatDoor
