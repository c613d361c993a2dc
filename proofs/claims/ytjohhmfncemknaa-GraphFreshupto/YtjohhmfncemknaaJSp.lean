/-
  The law of new memory: the list that is lent, and the document's order.
  Steps of a script; bits.
-/
import Derived.Test.YtjohhmfncemknaaF15
import Derived.Test.YtjohhmfncemknaaJPg
namespace Go.Proofs.Ytjohhmfncemknaa
open Go.RowKit Go.Maps

theorem f13a {W w1 : World} {v1 : Value} {fr : List Lb} {fn : Nat} (hn : fr.length = fn) (h1 : OwnL W.heap.size w1 v1 ([] ++ fr)) (h2 : (W.alloc (.cells #[] 31)).grownBy w1 (Value.slice (some ⟨W.heap.size, 0, none⟩) 0 0).ownBlock) : ∃ a1 c1, v1 = .slice a1 fn c1 ∧ Hid (OwnL W.heap.size w1 (.slice a1 fn c1) fr ∧ Below W.heap.size W w1) := by
  have hb1 : Below W.heap.size W w1 := ((Below.refl _ _).alloc (Nat.le_refl _) _).grown h2 (by simp) (fun k hk => by simp [Value.ownBlock] at hk; omega)
  rw [List.nil_append] at h1
  obtain ⟨a1, c1, e1⟩ := h1.form
  rw [hn] at e1
  subst e1
  exact ⟨a1, c1, rfl, h1, hb1⟩

set_option maxRecDepth 100000 in
set_option maxHeartbeats 16000000 in
theorem f13 {w W : World} {g d ab fn fc : Nat} {fa : Option Addr} {N : List Lb} {E : List Ee} {a : Lb} {fr : List Lb} {lv0 lv2 lv3 lv4 lv8 lv9 lv10 lv11 lv12 lv13 lv14 lv15 lv16 lv17 lv18 lv19 lv20 lv21 lv22 lv23 lv24 lv25 lv26 lv27 lv28 lv29 lv30 lv31 lv32 lv33 lv34 lv35 lv36 lv37 lv38 lv39 lv40 lv41 lv42 lv43 lv44 lv45 lv46 lv47 lv48 lv49 lv50 lv51 lv52 lv53 lv54 lv55 lv56 lv57 lv58 lv59 lv60 lv61 lv62 lv63 lv64 lv65 lv66 lv67 lv68 lv69 lv70 lv71 lv72 lv73 lv74 lv75 lv76 lv77 lv78 lv79 lv80 lv81 lv82 lv83 lv84 lv85 lv86 lv87 lv88 lv89 lv90 lv91 lv92 lv93 lv94 lv95 lv96 lv97 lv98 lv99 lv100 lv101 lv102 lv103 lv104 lv105 lv106 lv107 lv108 lv109 lv110 lv111 lv112 lv113 lv114 lv115 lv116 lv117 lv118 lv119 lv120 lv121 lv122 lv123 lv124 lv125 lv126 lv127 lv128 lv129 lv130 lv131 lv132 lv133 lv134 lv135 lv136 lv137 lv138 lv139 lv140 lv141 lv142 lv143 lv144 lv145 lv146 lv147 lv148 lv149 lv150 lv151 lv152 lv153 lv154 lv155 lv156 lv157 lv158 lv159 lv160 lv161 lv162 lv163 lv164 lv165 lv166 lv167 lv168 lv169 lv170 lv171 lv172 lv173 lv174 lv175 lv176 lv177 lv178 lv179 lv180 lv181 lv182 lv183 lv184 lv185 lv186 lv187 lv188 lv189 lv190 lv191 lv192 lv193 lv194 lv195 lv196 lv197 lv198 lv199 lv200 lv201 lv202 lv203 lv204 lv205 lv206 lv207 lv208 lv209 lv210 lv211 lv212 lv213 lv214 lv215 lv216 lv217 lv218 lv219 lv220 lv221 lv222 lv223 lv224 lv225 lv226 lv227 lv228 lv229 lv230 lv231 lv232 lv233 lv234 lv235 lv236 lv237 lv238 lv239 lv240 lv241 lv242 lv243 lv244 lv245 lv246 lv247 lv248 lv249 lv250 lv251 lv252 lv253 lv254 lv255 lv256 lv257 lv258 lv259 lv260 lv261 lv262 lv263 lv264 lv265 lv266 lv267 lv268 lv269 lv270 lv271 lv272 lv273 lv274 lv275 lv276 lv277 lv278 lv279 lv280 lv281 lv282 lv283 lv284 lv285 lv286 lv287 lv288 lv289 lv290 lv291 lv292 lv293 lv294 lv295 lv296 lv297 lv298 lv299 lv300 lv301 lv302 lv303 lv304 lv305 lv306 lv307 lv308 lv309 lv310 lv311 lv312 lv313 lv314 lv315 lv316 lv317 lv318 lv319 lv320 : Value} (X : Hid (FY w W g d ab fa fn fc N E a fr)) :
    Code.wp Try.prog (suff 13 (Try.f5.body.getD .skip)) (bodyPost Try.prog Try.f5 (GoodE w)) ⟨#[lv0, .slice fa fn fc, lv2, lv3, lv4, .pointer (some ⟨g, 0, none⟩), .pointer (some ⟨d, 0, none⟩), .pointer (some ⟨ab, 0, none⟩), lv8, lv9, lv10, lv11, lv12, lv13, lv14, lv15, lv16, lv17, lv18, lv19, lv20, lv21, lv22, lv23, lv24, lv25, lv26, lv27, lv28, lv29, lv30, lv31, lv32, lv33, lv34, lv35, lv36, lv37, lv38, lv39, lv40, lv41, lv42, lv43, lv44, lv45, lv46, lv47, lv48, lv49, lv50, lv51, lv52, lv53, lv54, lv55, lv56, lv57, lv58, lv59, lv60, lv61, lv62, lv63, lv64, lv65, lv66, lv67, lv68, lv69, lv70, lv71, lv72, lv73, lv74, lv75, lv76, lv77, lv78, lv79, lv80, lv81, lv82, lv83, lv84, lv85, lv86, lv87, lv88, lv89, lv90, lv91, lv92, lv93, lv94, lv95, lv96, lv97, lv98, lv99, lv100, lv101, lv102, lv103, lv104, lv105, lv106, lv107, lv108, lv109, lv110, lv111, lv112, lv113, lv114, lv115, lv116, lv117, lv118, lv119, lv120, lv121, lv122, lv123, lv124, lv125, lv126, lv127, lv128, lv129, lv130, lv131, lv132, lv133, lv134, lv135, lv136, lv137, lv138, lv139, lv140, lv141, lv142, lv143, lv144, lv145, lv146, lv147, lv148, lv149, lv150, lv151, lv152, lv153, lv154, lv155, lv156, lv157, lv158, lv159, lv160, lv161, lv162, lv163, lv164, lv165, lv166, lv167, lv168, lv169, lv170, lv171, lv172, lv173, lv174, lv175, lv176, lv177, lv178, lv179, lv180, lv181, lv182, lv183, lv184, lv185, lv186, lv187, lv188, lv189, lv190, lv191, lv192, lv193, lv194, lv195, lv196, lv197, lv198, lv199, lv200, lv201, lv202, lv203, lv204, lv205, lv206, lv207, lv208, lv209, lv210, lv211, lv212, lv213, lv214, lv215, lv216, lv217, lv218, lv219, lv220, lv221, lv222, lv223, lv224, lv225, lv226, lv227, lv228, lv229, lv230, lv231, lv232, lv233, lv234, lv235, lv236, lv237, lv238, lv239, lv240, lv241, lv242, lv243, lv244, lv245, lv246, lv247, lv248, lv249, lv250, lv251, lv252, lv253, lv254, lv255, lv256, lv257, lv258, lv259, lv260, lv261, lv262, lv263, lv264, lv265, lv266, lv267, lv268, lv269, lv270, lv271, lv272, lv273, lv274, lv275, lv276, lv277, lv278, lv279, lv280, lv281, lv282, lv283, lv284, lv285, lv286, lv287, lv288, lv289, lv290, lv291, lv292, lv293, lv294, lv295, lv296, lv297, lv298, lv299, lv300, lv301, lv302, lv303, lv304, lv305, lv306, lv307, lv308, lv309, lv310, lv311, lv312, lv313, lv314, lv315, lv316, lv317, lv318, lv319, lv320], []⟩ W := by
  conv => arg 2; whnf
  have HF : Hid (LS W (.slice fa fn fc) fr ∧ fr.length ≤ 1048576) := ⟨X.out.fs, X.out.fl⟩
  refine wp_seq_k fun K hK => ?_
  have HK : Hid _ := hK
  clear hK
  have HLN : Hid (fr.length = fn) := X.out.ln
  go_wp2_with (first | (at_builtin; refine app_Lt und_L (base := W.heap.size) (l := []) (k := fr) (own_empty W) ((HF.out.1.later (balloc _ _)).src) (by have := HF.out.2; simp; omega) (by simp) rfl (.tmp 83) (.tmp 84) rfl rfl rfl ?_; intro v1 w1 h1 h2 h3; have H1 := f13a HLN.out h1 h2; clear h1 h2 h3; obtain ⟨a1, c1, e1, H1⟩ := H1; subst e1) | (at_builtin; refine app_Lt und_L (base := W.heap.size) (l := fr) (k := [(⟨[120], [49]⟩ : Lb), ⟨[120], [50]⟩]) (H1.out.1.later (balloc _ _)) (ls_two w1 ⟨[120], [49]⟩ ⟨[120], [50]⟩).src (by have := HF.out.2; simp; omega) (by have := H1.out.2.size; simp; omega) rfl (.tmp 85) (.tmp 88) rfl rfl rfl ?_; intro v2 w2 h1 h2 h3))
  have hb2 : Below W.heap.size W w2 := (bstep H1.out.2 (balloc _ _)).grown h2 (by have := H1.out.2.size; simp; omega) (fun k hk => (H1.out.1.lt hk).1)
  have hl2 := h1.rs
  have hlen : (fr ++ [(⟨[120], [49]⟩ : Lb), ⟨[120], [50]⟩]).length = fn + 2 := by simp [X.out.ln]
  rcases hl2 with ⟨_, e⟩ | ⟨ll, lo, lc0, hv2, hcap, _⟩
  · simp at e
  rw [hlen] at hv2 hcap
  subst hv2
  have HL : Hid (LS w2 (.slice (some ⟨ll, lo, none⟩) (fn + 2) lc0) (fr ++ [(⟨[120], [49]⟩ : Lb), ⟨[120], [50]⟩]) ∧ fn + 2 ≤ lc0) := ⟨h1.rs, hcap⟩
  have X2 : Hid (FY w w2 g d ab fa fn fc N E a fr) := X.out.later hb2
  clear h1 h2 h3 hb2 hlen hcap X H1 HF
  go_wp2_with fail
  refine HK.out _ _ ?_
  clear HK K
  have HD : Hid (Calls Try.prog 20 #[.pointer (some ⟨d, 0, none⟩)] w2 fun e w' => ∃ u, e = .returned (.tuple #[u, .bool (Gs.ord (rs N) E).isSome]) ∧ OwnL w2.heap.size w' u ((Gs.ord (rs N) E).getD []) ∧ Below w2.heap.size w2 w') := by
    obtain ⟨F, D, ns, out, hbt⟩ := X2.out.bt
    exact dorder_any hbt.dg
  refine wp_seq_k fun K hK => ?_
  have HK : Hid _ := hK
  clear hK
  go_wp2_with fail
  refine HD.out.mono ?_
  rintro e w3 ⟨u, rfl, ho, hb⟩
  obtain ⟨oa, oc, hv⟩ := ho.form
  obtain ⟨on, hn⟩ : ∃ mm, ((Gs.ord (rs N) E).getD []).length = mm := ⟨_, rfl⟩
  rw [hn] at hv
  subst hv
  have HV : Hid (LS w3 (.slice oa on oc) ((Gs.ord (rs N) E).getD [])) := ho.rs
  have X3 : Hid (FY w w3 g d ab fa fn fc N E a fr) := X2.out.later hb
  have HL3 : Hid (LS w3 (.slice (some ⟨ll, lo, none⟩) (fn + 2) lc0) (fr ++ [(⟨[120], [49]⟩ : Lb), ⟨[120], [50]⟩]) ∧ fn + 2 ≤ lc0) := ⟨HL.out.1.later hb, HL.out.2⟩
  clear ho hb hn HD X2 HL
  go_wp2_with fail
  refine HK.out _ _ ?_
  clear HK
  exact f15 X3 HL3 HV
end Go.Proofs.Ytjohhmfncemknaa

namespace Go.Proofs.Ytjohhmfncemknaa
open Go.RowKit Go.Maps

theorem and_one_i (x : Int) : bits .and .i64 x 1 = 0 ∨ bits .and .i64 x 1 = 1 := by
  have h : bits .and .i64 x 1 = ((((BitVec.ofInt 64 x).toNat % 2 : Nat) : Int)) := by
    unfold bits
    show IntKind.wrap .i64 ((BitVec.ofInt 64 x &&& BitVec.ofInt 64 1).toNat : Int) = _
    rw [BitVec.toNat_and, show (BitVec.ofInt 64 1).toNat = 1 from rfl, Nat.and_one_is_mod, IntKind.wrap_i64]
    omega
  omega
theorem and_15_i (x : Int) : 0 ≤ bits .and .i64 x 15 ∧ bits .and .i64 x 15 ≤ 15 := by
  have h : bits .and .i64 x 15 = ((((BitVec.ofInt 64 x).toNat % 16 : Nat) : Int)) := by
    unfold bits
    show IntKind.wrap .i64 ((BitVec.ofInt 64 x &&& BitVec.ofInt 64 15).toNat : Int) = _
    rw [BitVec.toNat_and, show (BitVec.ofInt 64 15).toNat = 2 ^ 4 - 1 from rfl, Nat.and_two_pow_sub_one_eq_mod, IntKind.wrap_i64]
    omega
  omega

/-- a step -/
structure Stp where
  kind : Int
  which : Int
  a : Lb
  b : Lb
def stc : List Stp → List Value
  | [] => []
  | s :: r => .int .i64 s.kind :: .int .i64 s.which :: .string (bs s.a.pkg) :: .string (bs s.a.name) :: .string (bs s.b.pkg) :: .string (bs s.b.name) :: stc r
theorem stc_length : ∀ l, (stc l).length = l.length * 6
  | [] => rfl
  | f :: r => by simp only [stc, List.length_cons, stc_length r]; omega
theorem stc_get : ∀ (l : List Stp) (k : Nat) (h : k < l.length), (stc l)[k * 6]? = some (.int .i64 l[k].kind) ∧ (stc l)[k * 6 + 1]? = some (.int .i64 l[k].which) ∧ (stc l)[k * 6 + 2]? = some (.string (bs l[k].a.pkg)) ∧ (stc l)[k * 6 + 3]? = some (.string (bs l[k].a.name)) ∧ (stc l)[k * 6 + 4]? = some (.string (bs l[k].b.pkg)) ∧ (stc l)[k * 6 + 5]? = some (.string (bs l[k].b.name))
  | f :: r, 0, _ => ⟨rfl, rfl, rfl, rfl, rfl, rfl⟩
  | f :: r, k + 1, h => by
    have ih := stc_get r k (by simpa using h)
    rw [show (k + 1) * 6 = k * 6 + 6 by omega]
    simp only [stc, List.getElem_cons_succ]
    exact ⟨ih.1, ih.2.1, ih.2.2.1, ih.2.2.2.1, ih.2.2.2.2.1, ih.2.2.2.2.2⟩
/-- a slice of steps reads as a list -/
def TS6 (w : World) (v : Value) (l : List Stp) : Prop :=
  ((∃ a c, v = .slice a 0 c) ∧ l = []) ∨
  ∃ b off cap, v = .slice (some ⟨b, off, none⟩) l.length cap ∧ l.length ≤ cap ∧ b < w.heap.size ∧ ∀ i u, (stc l)[i]? = some u → w.cell? ⟨b, off + i, none⟩ = some u
theorem TS6.form {w : World} {v : Value} {l : List Stp} (h : TS6 w v l) : ∃ a c, v = .slice a l.length c := by
  rcases h with ⟨⟨a, c, rfl⟩, rfl⟩ | ⟨b, off, cap, rfl, hc, hlt, hcell⟩
  · exact ⟨a, c, rfl⟩
  · exact ⟨_, cap, rfl⟩
theorem TS6.at {w : World} {a : Option Addr} {c n : Nat} {l : List Stp} (h : TS6 w (.slice a n c) l) {k : Nat} (hk : k < l.length) : ∃ b off, a = some ⟨b, off, none⟩ ∧ b < w.heap.size ∧ ∀ wr, Below w.heap.size w wr →
    wr.cell? ⟨b, off + k * 6, none⟩ = some (.int .i64 l[k].kind) ∧ wr.cell? ⟨b, off + k * 6 + 1, none⟩ = some (.int .i64 l[k].which) ∧ wr.cell? ⟨b, off + k * 6 + 2, none⟩ = some (.string (bs l[k].a.pkg)) ∧ wr.cell? ⟨b, off + k * 6 + 3, none⟩ = some (.string (bs l[k].a.name)) ∧ wr.cell? ⟨b, off + k * 6 + 4, none⟩ = some (.string (bs l[k].b.pkg)) ∧ wr.cell? ⟨b, off + k * 6 + 5, none⟩ = some (.string (bs l[k].b.name)) := by
  rcases h with ⟨_, rfl⟩ | ⟨b, off, cap, e, hc, hlt, hcell⟩
  · simp at hk
  · injection e with e1 e2 e3
    subst e1
    refine ⟨b, off, rfl, hlt, fun wr hb => ?_⟩
    have hr : ∀ o, wr.cell? ⟨b, o, none⟩ = w.cell? ⟨b, o, none⟩ := fun o => hb.cell (p := ⟨b, o, none⟩) hlt
    obtain ⟨c0, c1, c2, c3, c4, c5⟩ := stc_get l k hk
    simp only [hr, Nat.add_assoc]
    exact ⟨hcell _ _ c0, hcell _ _ c1, hcell _ _ c2, hcell _ _ c3, hcell _ _ c4, hcell _ _ c5⟩
/-- what a machine has -/
structure SSm (l : List Stp) : Prop where
  len : l.length ≤ 4194304
  each : ∀ s ∈ l, Lu s.a ∧ Lu s.b ∧ -9223372036854775808 ≤ s.kind ∧ s.kind ≤ 9223372036854775807
end Go.Proofs.Ytjohhmfncemknaa
