/-
  The law's spoiled: the parts one above the other.
  Two answers of targets, one made after the other: all their lists in a table.
  The law's spoiled.
-/
import Derived.Test.YtddaoloabfkheaaGreatDoorJYh
namespace Go.Proofs.YtddaoloabfkheaaGreatDoor
open Go.RowKit

set_option maxRecDepth 100000 in
set_option maxHeartbeats 16000000 in
theorem yall {w W : World} {B n0 ga : Nat} {A : Nat → Tv} {v0 v1 : Value} {n : Nat → Nat} {C0 : Nat → List Value} {D0 D : Nat → Nat → Prop} {lv2 lv3 lv4 lv6 lv7 lv8 lv9 lv10 lv11 lv12 lv13 lv14 lv15 lv16 lv17 lv18 lv19 lv20 lv21 lv22 lv23 lv24 lv25 lv26 lv27 lv28 lv29 lv30 lv31 lv32 lv33 lv34 lv35 lv36 lv37 lv38 lv39 lv40 lv41 lv42 lv43 lv44 lv45 lv46 lv47 lv48 lv49 lv50 lv51 lv52 lv53 lv54 lv55 lv56 lv57 lv58 lv59 lv60 lv61 lv62 lv63 lv64 lv65 lv66 lv67 lv68 lv69 lv70 lv71 lv72 lv73 lv74 lv75 lv76 lv77 lv78 lv79 lv80 lv81 lv82 lv83 lv84 lv85 lv86 lv87 lv88 lv89 lv90 lv91 lv92 lv93 lv94 lv95 lv96 lv97 lv98 lv99 lv100 lv101 lv102 lv103 lv104 lv105 lv106 lv107 lv108 lv109 lv110 lv111 lv112 lv113 lv114 lv115 lv116 lv117 lv118 lv119 lv120 lv121 lv122 lv123 lv124 lv125 lv126 lv127 lv128 lv129 lv130 lv131 lv132 lv133 lv134 lv135 lv136 lv137 lv138 lv139 lv140 lv141 lv142 lv143 lv144 lv145 lv146 lv147 lv148 lv149 lv150 lv151 lv152 lv153 lv154 lv155 lv156 lv157 lv158 lv159 lv160 lv161 lv162 lv163 lv164 lv165 lv166 lv167 lv168 lv169 lv170 lv171 lv172 lv173 lv174 lv175 lv176 lv177 lv178 lv179 lv180 lv181 lv182 lv183 lv184 lv185 lv186 lv187 lv188 lv189 lv190 lv191 lv192 lv193 lv194 lv195 lv196 lv197 lv198 lv199 lv200 lv201 lv202 lv203 lv204 lv205 lv206 lv207 lv208 lv209 lv210 lv211 lv212 lv213 lv214 lv215 lv216 lv217 lv218 lv219 lv220 lv221 lv222 lv223 lv224 lv225 lv226 lv227 lv228 lv229 lv230 lv231 lv232 lv233 lv234 lv235 lv236 lv237 lv238 lv239 lv240 lv241 lv242 lv243 lv244 lv245 lv246 lv247 lv248 lv249 lv250 lv251 lv252 lv253 lv254 lv255 lv256 lv257 lv258 lv259 lv260 lv261 lv262 lv263 lv264 lv265 lv266 lv267 lv268 lv269 lv270 lv271 lv272 lv273 lv274 lv275 lv276 lv277 lv278 lv279 lv280 lv281 lv282 lv283 lv284 lv285 lv286 lv287 lv288 lv289 lv290 lv291 lv292 lv293 lv294 lv295 lv296 lv297 lv298 lv299 lv300 lv301 lv302 lv303 lv304 lv305 lv306 lv307 lv308 lv309 lv310 lv311 lv312 lv313 lv314 lv315 : Value} (S : Hid (SC w B n0 ga A v0 v1 n C0 D0)) (Q : Hid (QM B w W (6 * n0 + 2) (kF n0) (kV n0 A v0 v1) n C0 (fun _ => 0) D0 D)) :
    Code.wp Tryz.prog (suff 2 (Tryz.f19.body.getD .skip)) (bodyPost Tryz.prog Tryz.f19 (SpG B w D0)) ⟨#[v0, v1, lv2, lv3, lv4, .slice (some ⟨ga, 0, none⟩) 2 2, lv6, lv7, lv8, lv9, lv10, lv11, lv12, lv13, lv14, lv15, lv16, lv17, lv18, lv19, lv20, lv21, lv22, lv23, lv24, lv25, lv26, lv27, lv28, lv29, lv30, lv31, lv32, lv33, lv34, lv35, lv36, lv37, lv38, lv39, lv40, lv41, lv42, lv43, lv44, lv45, lv46, lv47, lv48, lv49, lv50, lv51, lv52, lv53, lv54, lv55, lv56, lv57, lv58, lv59, lv60, lv61, lv62, lv63, lv64, lv65, lv66, lv67, lv68, lv69, lv70, lv71, lv72, lv73, lv74, lv75, lv76, lv77, lv78, lv79, lv80, lv81, lv82, lv83, lv84, lv85, lv86, lv87, lv88, lv89, lv90, lv91, lv92, lv93, lv94, lv95, lv96, lv97, lv98, lv99, lv100, lv101, lv102, lv103, lv104, lv105, lv106, lv107, lv108, lv109, lv110, lv111, lv112, lv113, lv114, lv115, lv116, lv117, lv118, lv119, lv120, lv121, lv122, lv123, lv124, lv125, lv126, lv127, lv128, lv129, lv130, lv131, lv132, lv133, lv134, lv135, lv136, lv137, lv138, lv139, lv140, lv141, lv142, lv143, lv144, lv145, lv146, lv147, lv148, lv149, lv150, lv151, lv152, lv153, lv154, lv155, lv156, lv157, lv158, lv159, lv160, lv161, lv162, lv163, lv164, lv165, lv166, lv167, lv168, lv169, lv170, lv171, lv172, lv173, lv174, lv175, lv176, lv177, lv178, lv179, lv180, lv181, lv182, lv183, lv184, lv185, lv186, lv187, lv188, lv189, lv190, lv191, lv192, lv193, lv194, lv195, lv196, lv197, lv198, lv199, lv200, lv201, lv202, lv203, lv204, lv205, lv206, lv207, lv208, lv209, lv210, lv211, lv212, lv213, lv214, lv215, lv216, lv217, lv218, lv219, lv220, lv221, lv222, lv223, lv224, lv225, lv226, lv227, lv228, lv229, lv230, lv231, lv232, lv233, lv234, lv235, lv236, lv237, lv238, lv239, lv240, lv241, lv242, lv243, lv244, lv245, lv246, lv247, lv248, lv249, lv250, lv251, lv252, lv253, lv254, lv255, lv256, lv257, lv258, lv259, lv260, lv261, lv262, lv263, lv264, lv265, lv266, lv267, lv268, lv269, lv270, lv271, lv272, lv273, lv274, lv275, lv276, lv277, lv278, lv279, lv280, lv281, lv282, lv283, lv284, lv285, lv286, lv287, lv288, lv289, lv290, lv291, lv292, lv293, lv294, lv295, lv296, lv297, lv298, lv299, lv300, lv301, lv302, lv303, lv304, lv305, lv306, lv307, lv308, lv309, lv310, lv311, lv312, lv313, lv314, lv315], []⟩ W := by
  refine y2 S (QM.congr (M := fun _ => 0) Q.out fun i _ => ?_) ?_
  · unfold mm
    rw [if_neg (by omega)]
    split <;> (try split) <;> (try split) <;> simp_all
  intro _ _ _ _ _ _ _ _ _ _ _ _ _ _ _ _ _ _ _ _ _ _ _ _ _ _ _ _ _ _ _ _ _ _ _ _ _ _ _ _ _ _ _ _ _ _ _ _ _ _ _ _ _ _ _ _ _ _ _ _ _ _ _ _ _ _ _ _ _ _ _ _ _ _ _ _ _ _ _ _ _ _ _ _ _ _ _ _ _ _ _ _ _ _ _ _ _ _ _ _ _ _ _ _ _ _ _ _ _ _ _ _ _ _ _ _ _ _ _ _ _ _ _ _ _ _ _ _ _ _ _ _ _ _ _ _ _ _ _ _ _ _ _ _ _ _ _ _ _ _ _ _ _ _ _ _ _ _ _ _ _ _ _ _ _ _ _ _ _ _ _ _ _ _ _ _ _ _ _ _ _ _ _ _ _ _ _ _ _ _ _ _ _ _ _ _ _ _ _ _ _ _ _ _ _ _ _ _ _ _ _ _ _ _ _ _ _ _ _ _ _ _ _ _ _ _ _ _ _ _ _ _ _ _ _ _ _ _ _ _ _ _ _ _ _ _ _ _ _ _ _ _ _ _ _ _ _ _ _ _ _ _ _ _ _ _ _ _ _ _ _ _ _ _ _ _ _ _ _ _ _ _ _ _ _ _ _ _ _ _ _ _ _ _ _ _ _ _ _ _ _ _ _ _ _ _ _ _ _ _ _ _ _ W2 Q2
  refine y20 S (QM.congr (M := mm n (3 * (2 * n0)) 0 0) Q2.out fun i _ => ?_) ?_
  · show mm n (3 * (2 * n0)) 0 0 i = FM n n0 i
    unfold FM
    rw [show 3 * (2 * n0) = 6 * n0 by omega]
  intro _ _ _ _ _ _ _ _ _ _ _ _ _ _ _ _ _ _ _ _ _ _ _ _ _ _ _ _ _ _ _ _ _ _ _ _ _ _ _ _ _ _ _ _ _ _ _ _ _ _ _ _ _ _ _ _ _ _ _ _ _ _ _ _ _ _ _ _ _ _ _ _ _ _ _ _ _ _ _ _ _ _ _ _ _ _ _ _ _ _ _ _ _ _ _ _ _ _ _ _ _ _ _ _ _ _ _ _ _ _ _ _ _ _ _ _ _ _ _ _ _ _ _ _ _ _ _ _ _ _ _ _ _ _ _ _ _ _ _ _ _ _ _ _ _ _ _ _ _ _ _ _ _ _ _ _ _ _ _ _ _ _ _ _ _ _ _ _ _ _ _ _ _ _ _ _ _ _ _ _ _ _ _ _ _ _ _ _ _ _ _ _ _ _ _ _ _ _ _ _ _ _ _ _ _ _ _ _ _ _ _ _ _ _ _ _ _ _ _ _ _ _ _ _ _ _ _ _ _ _ _ _ _ _ _ _ _ _ _ _ _ _ _ _ _ _ _ _ _ _ _ _ _ _ _ _ _ _ _ _ _ _ _ _ _ _ _ _ _ _ _ _ _ _ _ _ _ _ _ _ _ _ _ _ _ _ _ _ _ _ _ _ _ _ _ _ _ _ _ _ _ _ _ _ _ _ _ _ _ _ _ _ _ W3 D3 Q3
  refine y35 S Q3 ?_
  intro _ _ _ _ _ _ _ _ _ _ _ _ _ _ _ _ _ _ _ _ _ _ _ _ _ _ _ _ _ _ _ _ _ _ _ _ _ _ _ _ _ _ _ _ _ _ _ _ _ _ _ _ _ _ _ _ _ _ _ _ _ _ _ _ _ _ _ _ _ _ _ _ _ _ _ _ _ _ _ _ _ _ _ _ _ _ _ _ _ _ _ _ _ _ _ _ _ _ _ _ _ _ _ _ _ _ _ _ _ _ _ _ _ _ _ _ _ _ _ _ _ _ _ _ _ _ _ _ _ _ _ _ _ _ _ _ _ _ _ _ _ _ _ _ _ _ _ _ _ _ _ _ _ _ _ _ _ _ _ _ _ _ _ _ _ _ _ _ _ _ _ _ _ _ _ _ _ _ _ _ _ _ _ _ _ _ _ _ _ _ _ _ _ _ _ _ _ _ _ _ _ _ _ _ _ _ _ _ _ _ _ _ _ _ _ _ _ _ _ _ _ _ _ _ _ _ _ _ _ _ _ _ _ _ _ _ _ _ _ _ _ _ _ _ _ _ _ _ _ _ _ _ _ _ _ _ _ _ _ _ _ _ _ _ _ _ _ _ _ _ _ _ _ _ _ _ _ _ _ _ _ _ _ _ _ _ _ _ _ _ _ _ _ _ _ _ _ _ _ _ _ _ _ _ _ _ _ _ _ _ _ _ _ W4 Q4
  exact y60 S Q4
end Go.Proofs.YtddaoloabfkheaaGreatDoor

namespace Go.Proofs.YtddaoloabfkheaaGreatDoor
open Go.RowKit

theorem ap_inj {l : List Value} (h : l.Pairwise Ap) {i j g : Nat} {u v : Value} (hi : l[i]? = some u) (hj : l[j]? = some v) (h1 : u.ownBlock = some g) (h2 : v.ownBlock = some g) : i = j := by
  obtain ⟨hil, rfl⟩ := List.getElem?_eq_some_iff.1 hi
  obtain ⟨hjl, rfl⟩ := List.getElem?_eq_some_iff.1 hj
  rcases Nat.lt_trichotomy i j with hlt | he | hlt
  · exact absurd h2 ((List.pairwise_iff_getElem.1 h i j hil hjl hlt) g h1)
  · exact he
  · exact absurd h1 ((List.pairwise_iff_getElem.1 h j i hjl hil hlt) g h2)
def tz : Tv := ⟨[], none, 0, 0, none, 0, 0, none, 0, 0⟩
def gz : Tg := ⟨[], [], [], []⟩
theorem vals_get {f : Nat} (hf : f < 3) : ∀ (a : List Tv) (i : Nat), i < a.length → (a.flatMap Tv.vals)[3 * i + f]? = some (tv3 (a.getD i tz) f)
  | [], _, h => by simp at h
  | t :: r, 0, _ => by
    rcases (show f = 0 ∨ f = 1 ∨ f = 2 by omega) with rfl | rfl | rfl <;> simp [Tv.vals, tv3]
  | t :: r, i + 1, h => by
    have ih := vals_get hf r i (by simpa using h)
    rw [List.flatMap_cons, List.getElem?_append_right (by simp [Tv.vals]; omega)]
    rw [show 3 * (i + 1) + f - t.vals.length = 3 * i + f by simp [Tv.vals]; omega, ih]
    simp
theorem TsOwn.append {base : Nat} {w : World} {a' : List Tv} {b' : List Tg} (h' : TsOwn base w a' b') : ∀ {a : List Tv} {b : List Tg}, TsOwn base w a b → TsOwn base w (a ++ a') (b ++ b')
  | [], [], _ => h'
  | _ :: _, _ :: _, h => ⟨h.1, TsOwn.append h' h.2⟩
theorem TsOwn.get {base : Nat} {w : World} : ∀ {a : List Tv} {b : List Tg}, TsOwn base w a b → ∀ i, i < a.length → TOwn base w (a.getD i tz) (b.getD i gz)
  | [], [], _, _, h => by simp at h
  | _ :: _, _ :: _, h, 0, _ => h.1
  | _ :: _, _ :: _, h, i + 1, hi => TsOwn.get h.2 i (by simpa using hi)
theorem getD_range {α : Type} (z : α) (a b : List α) : ((List.range a.length).map fun i => (a ++ b).getD i z) = a := by
  refine List.ext_getElem (by simp) (fun i h1 h2 => ?_)
  simp [List.getElem?_append_left h2, List.getElem?_eq_getElem h2]
theorem getD_range2 {α : Type} (z : α) (a b : List α) : ((List.range b.length).map fun i => (a ++ b).getD (a.length + i) z) = b := by
  refine List.ext_getElem (by simp) (fun i h1 h2 => ?_)
  simp [List.getElem?_append_right, h2]
def len3 (t : Tg) (f : Nat) : Nat := if f = 0 then t.srcs.length else if f = 1 then t.deps.length else t.see.length
def cel3 (t : Tg) (f : Nat) : List Value := if f = 0 then sc t.srcs else if f = 1 then lc t.deps else sc t.see
/-- two answers in memory, the second made after the first, its memory above m -/
structure G2 (w : World) (B m : Nat) (v0 v1 : Value) (a0 a1 : List Tv) (l : List Tg) : Prop where
  r0 : OwnG B w v0 a0
  t0 : TsOwn B w a0 l
  p0 : Aps v0 a0
  lt : ∀ u ∈ v0 :: a0.flatMap Tv.vals, ∀ k, u.ownBlock = some k → k < m
  r1 : OwnG m w v1 a1
  t1 : TsOwn m w a1 l
  p1 : Aps v1 a1
  bm : B ≤ m
  mw : m ≤ w.heap.size
  n64 : l.length ≤ 64
  i64 : ∀ t ∈ l, t.srcs.length ≤ 64 ∧ t.deps.length ≤ 64 ∧ t.see.length ≤ 64
section
variable {w : World} {B m : Nat} {v0 v1 : Value} {a0 a1 : List Tv} {l : List Tg}
abbrev aA (a0 a1 : List Tv) (i : Nat) : Tv := (a0 ++ a1).getD i tz
abbrev aN (l : List Tg) (j : Nat) : Nat := if j < 6 * l.length then len3 ((l ++ l).getD (j / 3) gz) (j % 3) else l.length
abbrev aC (a0 a1 : List Tv) (l : List Tg) (j : Nat) : List Value := if j < 6 * l.length then cel3 ((l ++ l).getD (j / 3) gz) (j % 3) else if j = 6 * l.length then gc a0 else gc a1
abbrev aV (v0 v1 : Value) (a0 a1 : List Tv) (l : List Tg) (j : Nat) : Value := kV l.length (aA a0 a1) v0 v1 j
theorem G2.len0 (h : G2 w B m v0 v1 a0 a1 l) : a0.length = l.length := h.t0.len
theorem G2.len1 (h : G2 w B m v0 v1 a0 a1 l) : a1.length = l.length := h.t1.len
theorem G2.own (h : G2 w B m v0 v1 a0 a1 l) (j : Nat) : w.ownsRow B (kF l.length j).e (kF l.length j).sz (aV v0 v1 a0 a1 l j) (aN l j) (aC a0 a1 l j) := by
  have e0 := h.len0
  have e1 := h.len1
  unfold aV aN aC kV kF
  by_cases h6 : j < 6 * l.length
  · have ht := TsOwn.get (TsOwn.append (TsOwn.mono h.bm h.t1) h.t0) (j / 3) (by rw [List.length_append]; omega)
    simp only [h6, if_true]
    rcases (show j % 3 = 0 ∨ j % 3 = 1 ∨ j % 3 = 2 by omega) with e | e | e <;> rw [e]
    · exact ht.s
    · exact ht.d
    · exact ht.e
  · simp only [h6, if_false]
    by_cases h7 : j = 6 * l.length
    · simp only [h7, if_true]
      have := h.r0
      unfold OwnG at this
      rw [e0] at this
      exact this
    · simp only [h7, if_false]
      have := World.ownsRow.mono h.r1 h.bm
      rw [e1] at this
      exact this
/-- where each lies in the two lists of lists -/
theorem G2.pos (h : G2 w B m v0 v1 a0 a1 l) {j : Nat} (hj : j < 6 * l.length + 2) : (∃ p, (v0 :: a0.flatMap Tv.vals)[p]? = some (aV v0 v1 a0 a1 l j) ∧ ((p = 0 ∧ j = 6 * l.length) ∨ (j < 3 * l.length ∧ p = j + 1))) ∨
    (∃ p, (v1 :: a1.flatMap Tv.vals)[p]? = some (aV v0 v1 a0 a1 l j) ∧ ((p = 0 ∧ j = 6 * l.length + 1) ∨ (3 * l.length ≤ j ∧ j < 6 * l.length ∧ p + 3 * l.length = j + 1))) := by
  have e0 := h.len0
  have e1 := h.len1
  unfold aV kV
  by_cases h3 : j < 3 * l.length
  · refine .inl ⟨j + 1, ?_, .inr ⟨h3, rfl⟩⟩
    rw [if_pos (by omega), List.getElem?_cons_succ]
    have := vals_get (f := j % 3) (by omega) a0 (j / 3) (by omega)
    rw [show 3 * (j / 3) + j % 3 = j by omega] at this
    rw [this]
    unfold aA
    rw [List.getD_eq_getElem?_getD, List.getD_eq_getElem?_getD, List.getElem?_append_left (by omega)]
  · by_cases h6 : j < 6 * l.length
    · refine .inr ⟨j - 3 * l.length + 1, ?_, .inr ⟨by omega, h6, by omega⟩⟩
      rw [if_pos h6, List.getElem?_cons_succ]
      have := vals_get (f := j % 3) (by omega) a1 (j / 3 - l.length) (by omega)
      rw [show 3 * (j / 3 - l.length) + j % 3 = j - 3 * l.length by omega] at this
      rw [this]
      unfold aA
      rw [List.getD_eq_getElem?_getD, List.getD_eq_getElem?_getD, List.getElem?_append_right (by omega), e0]
    · rw [if_neg h6]
      by_cases h7 : j = 6 * l.length
      · exact .inl ⟨0, by rw [if_pos h7]; rfl, .inl ⟨rfl, h7⟩⟩
      · exact .inr ⟨0, by rw [if_neg h7]; rfl, .inl ⟨rfl, by omega⟩⟩
theorem G2.up (h : G2 w B m v0 v1 a0 a1 l) : ∀ u ∈ v1 :: a1.flatMap Tv.vals, ∀ k, u.ownBlock = some k → m ≤ k ∧ k < w.heap.size := by
  intro u hu k hk
  rcases List.mem_cons.1 hu with rfl | hu
  · exact World.ownsRow.lt h.r1 k hk
  · obtain ⟨t, ht, hu⟩ := mem_vals hu
    exact TsOwn.lt h.t1 t ht u hu k hk
theorem G2.inj (h : G2 w B m v0 v1 a0 a1 l) {i j g : Nat} (hi : i < 6 * l.length + 2) (hj : j < 6 * l.length + 2) (h1 : (aV v0 v1 a0 a1 l i).ownBlock = some g) (h2 : (aV v0 v1 a0 a1 l j).ownBlock = some g) : i = j := by
  rcases h.pos hi with ⟨p, hp, cp⟩ | ⟨p, hp, cp⟩ <;> rcases h.pos hj with ⟨q, hq, cq⟩ | ⟨q, hq, cq⟩
  · have := ap_inj h.p0 hp hq h1 h2
    omega
  · have x1 := h.lt _ (List.mem_of_getElem? hp) g h1
    have x2 := (h.up _ (List.mem_of_getElem? hq) g h2).1
    omega
  · have x1 := h.lt _ (List.mem_of_getElem? hq) g h2
    have x2 := (h.up _ (List.mem_of_getElem? hp) g h1).1
    omega
  · have := ap_inj h.p1 hp hq h1 h2
    omega
def aD (v0 v1 : Value) (a0 a1 : List Tv) (l : List Tg) (j g : Nat) : Prop := j < 6 * l.length + 2 ∧ (aV v0 v1 a0 a1 l j).ownBlock = some g
theorem aC_len (j : Nat) (e0 : a0.length = l.length) (e1 : a1.length = l.length) : (aC a0 a1 l j).length = aN l j * (kF l.length j).sz := by
  unfold aC aN kF
  by_cases h6 : j < 6 * l.length
  · simp only [h6, if_true]
    unfold cel3 len3
    rcases (show j % 3 = 0 ∨ j % 3 = 1 ∨ j % 3 = 2 by omega) with e | e | e <;> rw [e]
    · simp [sc_length, kS]
    · simp [lc_length, kD]
    · simp [sc_length, kE]
  · simp only [h6, if_false]
    split
    · rw [gc_length, e0]; rfl
    · rw [gc_length, e1]; rfl
theorem G2.qm (h : G2 w B m v0 v1 a0 a1 l) (o : Obj) : QM B (w.alloc o) (w.alloc o) (6 * l.length + 2) (kF l.length) (aV v0 v1 a0 a1 l) (aN l) (aC a0 a1 l) (fun _ => 0) (aD v0 v1 a0 a1 l) (aD v0 v1 a0 a1 l) := by
  have hbm := h.bm
  have hmw := h.mw
  have hsz := (balloc w o).size
  refine ⟨fun i hi => ?_, fun i hi g hg => ⟨hi, hg⟩, fun i j g hi hj => h.inj hi.1 hj.1 hi.2 hj.2, fun i g hi => ?_, fun i g hi _ => hi, by omega, Below.refl _ _, fun _ _ _ => rfl⟩
  · simp only [pmk_zero]
    exact row_later (h.own i) (balloc w o)
  · have := World.ownsRow.lt (h.own _) g hi.2
    omega
theorem G2.sc (h : G2 w B m v0 v1 a0 a1 l) (o : Obj) (c0 : (w.alloc o).cell? ⟨w.heap.size, 0, none⟩ = some v0) (c1 : (w.alloc o).cell? ⟨w.heap.size, 1, none⟩ = some v1) : SC (w.alloc o) B l.length w.heap.size (aA a0 a1) v0 v1 (aN l) (aC a0 a1 l) (aD v0 v1 a0 a1 l) := by
  have e0 := h.len0
  have e1 := h.len1
  refine ⟨c0, c1, fun i hi => ?_, h.n64, ⟨?_, ?_⟩, fun j hj => ⟨?_, ?_⟩, ?_, ?_, fun j _ => aC_len j e0 e1⟩
  · have := World.ownsRow.lt (h.own _) _ hi.2
    omega
  · unfold aN; rw [if_neg (by omega)]
  · unfold aN; rw [if_neg (by omega)]
  · unfold aN
    rw [if_pos hj]
    have hm : (l ++ l).getD (j / 3) gz ∈ l := by
      have hl : j / 3 < (l ++ l).length := by rw [List.length_append]; omega
      rw [List.getD_eq_getElem?_getD, List.getElem?_eq_getElem hl]
      simp only [Option.getD_some]
      have := List.getElem_mem hl
      rcases List.mem_append.1 this with h | h <;> exact h
    have := h.i64 _ hm
    unfold len3
    split
    · exact this.1
    · split
      · exact this.2.1
      · exact this.2.2
  · exact row_form (h.own _)
  · unfold aC
    rw [if_neg (by omega), if_pos rfl, ← e0]
    unfold aA
    rw [getD_range]
  · unfold aC
    rw [if_neg (by omega), if_neg (by omega)]
    unfold aA
    have := getD_range2 tz a0 a1
    rw [e0, e1] at this
    rw [this]
end
end Go.Proofs.YtddaoloabfkheaaGreatDoor

namespace Go.Proofs.YtddaoloabfkheaaGreatDoor
open Go.RowKit
attribute [local go_sem] Oper.semAt_some

set_option maxRecDepth 100000 in
set_option maxHeartbeats 16000000 in
theorem spoiled19_any {w : World} {B m M : Nat} {v0 v1 : Value} {a0 a1 : List Tv} {l : List Tg} (h : Hid (G2 w B m v0 v1 a0 a1 l)) (hM : Hid (∀ u ∈ v1 :: a1.flatMap Tv.vals, ∀ k, u.ownBlock = some k → k < M)) (hmM : m ≤ M) :
    Calls Tryz.prog 19 #[v0, v1] w fun e w' => e = .returned (.bool true) ∧ Below B w w' ∧ ∀ g, g < w.heap.size → M ≤ g → w'.heap[g]? = w.heap[g]? := by
  obtain ⟨x0, c0, e0⟩ := row_form h.out.r0
  obtain ⟨x1, c1, e1⟩ := row_form h.out.r1
  have S := G2.sc h.out (.cells #[v0, v1] 34) (by unfold World.cell?; rw [heap_alloc_new]; rfl) (by unfold World.cell?; rw [heap_alloc_new]; rfl)
  have Q := G2.qm h.out (.cells #[v0, v1] 34)
  have HSQ : Hid (SC _ _ _ _ _ _ _ _ _ _ ∧ QM _ _ _ _ _ _ _ _ _ _ _) := ⟨S, Q⟩
  have HE : Hid (∀ e w', SpG B (w.alloc (.cells #[v0, v1] 34)) (aD v0 v1 a0 a1 l) e w' → e = .returned (.bool true) ∧ Below B w w' ∧ ∀ g, g < w.heap.size → M ≤ g → w'.heap[g]? = w.heap[g]?) := by
    rintro e w' ⟨r1, r2, r3⟩
    have hb := balloc w (.cells #[v0, v1] 34)
    have hbm := h.out.bm
    have hmw := h.out.mw
    have hsz := hb.size
    refine ⟨r1, (hb.mono (by omega)).trans r2, fun g hg hMg => ?_⟩
    rw [r3 g (by omega) (fun i hi => ?_), hb.block g hg]
    rcases h.out.pos hi.1 with ⟨p, hp, _⟩ | ⟨p, hp, _⟩
    · have := h.out.lt _ (List.mem_of_getElem? hp) g hi.2
      omega
    · have := hM.out _ (List.mem_of_getElem? hp) g hi.2
      omega
  refine Calls.mono ?_ HE.out
  clear HE hM h S Q hmM
  subst e0 e1
  go_enter Tryz.func19, Tryz.ntmps19
  refine wp_seq_k fun K9 hK => ?_
  have HK : Hid _ := hK
  clear hK
  go_wp2_with fail
  refine HK.out _ _ ?_
  clear HK K9
  refine wp_seq_k fun K9 hK => ?_
  have HK : Hid _ := hK
  clear hK
  go_wp2_with fail
  refine HK.out _ _ ?_
  clear HK K9
  exact yall HSQ.out.1 HSQ.out.2
end Go.Proofs.YtddaoloabfkheaaGreatDoor
