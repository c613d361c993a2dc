/-
  The law MergeKeeps: what is handed in.
-/
import Derived.Test.YtbaheiimcnfaaaaGreatJOy
namespace Go.Proofs.YtbaheiimcnfaaaaGreat
open Go.RowKit Go.Maps
attribute [local go_sem] Oper.semAt_some

structure MZ (w W : World) (la ka : Option Addr) (nl nk lc kc : Nat) (l : List Fl) (k : List (List UInt8)) : Prop where
  bel : Below w.heap.size w W
  ln : l.length = nl
  kn : k.length = nk
  ll : nl ≤ 120
  kl : nk ≤ 16
  fl : FS W (.slice la nl lc) l
  ks : SS W (.slice ka nk kc) k
  sl : FSm l
  sk : Sm k
theorem MZ.later {w W W' : World} {la ka : Option Addr} {nl nk lc kc : Nat} {l : List Fl} {k : List (List UInt8)} (h : MZ w W la ka nl nk lc kc l k) (hb : Below W.heap.size W W') : MZ w W' la ka nl nk lc kc l k :=
  ⟨bstep h.bel hb, h.ln, h.kn, h.ll, h.kl, h.fl.later hb, h.ks.later hb, h.sl, h.sk⟩
def m12 : List (List UInt8) := [[109, 49], [109, 50]]
theorem own_zeroK (w : World) : Own w.heap.size (w.alloc (.cells #[] 9)) (.slice (some ⟨w.heap.size, 0, none⟩) 0 0) [] :=
  ⟨rfl, .inr ⟨w.heap.size, 0, #[], rfl, Nat.le_refl _, heap_alloc_new w _, Nat.le_refl _, by decide, rfl, rfl⟩⟩
theorem own_zeroF (w : World) : OwnF w.heap.size (w.alloc (.cells #[] 45)) (.slice (some ⟨w.heap.size, 0, none⟩) 0 0) [] :=
  ⟨rfl, .inr ⟨w.heap.size, 0, #[], rfl, Nat.le_refl _, heap_alloc_new w _, Nat.le_refl _, by decide, rfl, rfl⟩⟩
theorem src_m12 (w : World) : Src Tryz.prog 1 23 (.slice (some ⟨w.heap.size, 0, none⟩) 2 2) m12.length (sc m12) (w.alloc (.cells #[.string ⟨#[109, 49]⟩, .string ⟨#[109, 50]⟩] 9)) :=
  Src.ofSlice _ und70 ⟨w.heap.size, 0, none⟩ 2 2 (sc m12) rfl (World.news_of_block (heap_alloc_new w (.cells (sc m12).toArray 9))) (sc_one _)
theorem undF22 : Tryz.prog.underlying 22 = some (.slice 45) := by kernel_rfl
theorem src_m3 (w : World) : Src Tryz.prog 4 22 (.slice (some ⟨w.heap.size, 0, none⟩) 1 1) [m3F].length (fc [m3F]) (w.alloc (.cells #[.string ⟨#[109, 51]⟩, .string ByteArray.empty, .int .i64 0, .int .i64 0] 45)) :=
  Src.ofSlice _ undF22 ⟨w.heap.size, 0, none⟩ 1 1 (fc [m3F]) rfl (World.news_of_block (heap_alloc_new w (.cells (fc [m3F]).toArray 45))) (fun u hu => by
    simp only [fc, m3F, List.mem_cons, List.mem_nil_iff, or_false] at hu
    rcases hu with rfl | rfl | rfl | rfl <;> rfl)
theorem grow2 {w w1 w2 : World} {v1 : Value} {o o2 : Obj} (hg1 : (w.alloc o).grownBy w1 (Value.slice (some ⟨w.heap.size, 0, none⟩) 0 0).ownBlock) (hl : ∀ j, v1.ownBlock = some j → w.heap.size ≤ j) (hg2 : (w1.alloc o2).grownBy w2 v1.ownBlock) : Below w.heap.size w w2 := by
  have hb1 : Below w.heap.size w w1 := ((Below.refl _ _).alloc (Nat.le_refl _) _).grown hg1 (by simp) (fun j e => by simp only [Value.ownBlock, Option.some.injEq] at e; omega)
  have hz := hb1.size
  exact (hb1.alloc hz o2).grown hg2 (by simp; omega) (fun j e => hl j e)

set_option maxRecDepth 100000 in
set_option maxHeartbeats 16000000 in
theorem p6 {w : World} {la ka : Option Addr} {nl nk lc kc gm cm gf cf : Nat} {l : List Fl} {k : List (List UInt8)} {dq : Nat} {p : List UInt8} {b : Int} {B : Nat} {W : World} {lv2 lv3 lv4 lv6 lv9 lv10 lv11 lv12 lv13 lv14 lv15 lv16 lv17 lv18 lv19 lv20 lv21 lv22 lv23 lv24 lv25 lv26 lv27 lv28 lv29 lv30 lv31 lv32 lv33 lv34 lv35 lv36 lv37 lv38 lv39 lv40 lv41 lv42 lv43 lv44 lv45 lv46 lv47 lv48 lv49 lv50 lv51 lv52 lv53 lv54 lv55 lv56 lv57 lv58 lv59 lv60 lv61 lv62 lv63 lv64 lv65 lv66 lv67 lv68 lv69 lv70 lv71 lv72 lv73 lv74 lv75 lv76 lv77 lv78 lv79 lv80 lv81 lv82 lv83 lv84 lv85 lv86 lv87 lv88 lv89 lv90 lv91 lv92 lv93 lv94 lv95 lv96 lv97 lv98 lv99 lv100 lv101 lv102 lv103 lv104 lv105 lv106 lv107 lv108 lv109 lv110 lv111 lv112 lv113 lv114 lv115 lv116 lv117 lv118 lv119 lv120 lv121 lv122 lv123 lv124 lv125 lv126 lv127 lv128 lv129 lv130 lv131 lv132 lv133 lv134 lv135 lv136 lv137 lv138 lv139 lv140 lv141 lv142 lv143 lv144 lv145 lv146 lv147 lv148 lv149 lv150 lv151 lv152 lv153 lv154 lv155 lv156 lv157 lv158 lv159 lv160 lv161 lv162 lv163 lv164 lv165 lv166 lv167 lv168 lv169 lv170 lv171 lv172 lv173 lv174 lv175 lv176 lv177 lv178 lv179 lv180 lv181 lv182 lv183 lv184 lv185 lv186 lv187 lv188 lv189 lv190 lv191 lv192 lv193 lv194 lv195 lv196 lv197 lv198 lv199 lv200 lv201 lv202 lv203 lv204 lv205 lv206 lv207 lv208 lv209 lv210 lv211 lv212 lv213 lv214 lv215 lv216 lv217 lv218 lv219 lv220 lv221 lv222 lv223 lv224 lv225 lv226 lv227 lv228 lv229 lv230 lv231 lv232 lv233 lv234 lv235 lv236 lv237 lv238 lv239 lv240 lv241 lv242 lv243 lv244 lv245 lv246 lv247 lv248 lv249 lv250 lv251 lv252 lv253 lv254 lv255 lv256 lv257 lv258 lv259 lv260 lv261 lv262 lv263 lv264 lv265 lv266 lv267 lv268 lv269 lv270 lv271 lv272 lv273 lv274 lv275 lv276 lv277 lv278 lv279 lv280 lv281 lv282 lv283 lv284 lv285 lv286 lv287 lv288 lv289 lv290 lv291 lv292 lv293 lv294 lv295 lv296 lv297 lv298 lv299 lv300 lv301 lv302 lv303 lv304 lv305 lv306 lv307 lv308 lv309 lv310 lv311 lv312 lv313 : Value} (Z : Hid (MZ w W la ka nl nk lc kc l k ∧ SS W (.slice (some ⟨gm, 0, none⟩) (nk + 2) cm) (k ++ [[109, 49], [109, 50]]) ∧ FS W (.slice (some ⟨gf, 0, none⟩) (nl + 1) cf) (l ++ [m3F]))) (HQ : Hid (QY W dq p b B)) :
    Code.wp Tryz.prog (suff 6 (Tryz.f4.body.getD .skip)) (bodyPost Tryz.prog Tryz.f4 (GoodK w)) ⟨#[.slice la nl lc, .slice ka nk kc, lv2, lv3, lv4, .pointer (some ⟨dq, 0, none⟩), lv6, .slice (some ⟨gm, 0, none⟩) (nk + 2) cm, .slice (some ⟨gf, 0, none⟩) (nl + 1) cf, lv9, lv10, lv11, lv12, lv13, lv14, lv15, lv16, lv17, lv18, lv19, lv20, lv21, lv22, lv23, lv24, lv25, lv26, lv27, lv28, lv29, lv30, lv31, lv32, lv33, lv34, lv35, lv36, lv37, lv38, lv39, lv40, lv41, lv42, lv43, lv44, lv45, lv46, lv47, lv48, lv49, lv50, lv51, lv52, lv53, lv54, lv55, lv56, lv57, lv58, lv59, lv60, lv61, lv62, lv63, lv64, lv65, lv66, lv67, lv68, lv69, lv70, lv71, lv72, lv73, lv74, lv75, lv76, lv77, lv78, lv79, lv80, lv81, lv82, lv83, lv84, lv85, lv86, lv87, lv88, lv89, lv90, lv91, lv92, lv93, lv94, lv95, lv96, lv97, lv98, lv99, lv100, lv101, lv102, lv103, lv104, lv105, lv106, lv107, lv108, lv109, lv110, lv111, lv112, lv113, lv114, lv115, lv116, lv117, lv118, lv119, lv120, lv121, lv122, lv123, lv124, lv125, lv126, lv127, lv128, lv129, lv130, lv131, lv132, lv133, lv134, lv135, lv136, lv137, lv138, lv139, lv140, lv141, lv142, lv143, lv144, lv145, lv146, lv147, lv148, lv149, lv150, lv151, lv152, lv153, lv154, lv155, lv156, lv157, lv158, lv159, lv160, lv161, lv162, lv163, lv164, lv165, lv166, lv167, lv168, lv169, lv170, lv171, lv172, lv173, lv174, lv175, lv176, lv177, lv178, lv179, lv180, lv181, lv182, lv183, lv184, lv185, lv186, lv187, lv188, lv189, lv190, lv191, lv192, lv193, lv194, lv195, lv196, lv197, lv198, lv199, lv200, lv201, lv202, lv203, lv204, lv205, lv206, lv207, lv208, lv209, lv210, lv211, lv212, lv213, lv214, lv215, lv216, lv217, lv218, lv219, lv220, lv221, lv222, lv223, lv224, lv225, lv226, lv227, lv228, lv229, lv230, lv231, lv232, lv233, lv234, lv235, lv236, lv237, lv238, lv239, lv240, lv241, lv242, lv243, lv244, lv245, lv246, lv247, lv248, lv249, lv250, lv251, lv252, lv253, lv254, lv255, lv256, lv257, lv258, lv259, lv260, lv261, lv262, lv263, lv264, lv265, lv266, lv267, lv268, lv269, lv270, lv271, lv272, lv273, lv274, lv275, lv276, lv277, lv278, lv279, lv280, lv281, lv282, lv283, lv284, lv285, lv286, lv287, lv288, lv289, lv290, lv291, lv292, lv293, lv294, lv295, lv296, lv297, lv298, lv299, lv300, lv301, lv302, lv303, lv304, lv305, lv306, lv307, lv308, lv309, lv310, lv311, lv312, lv313], []⟩ W := by
  conv => arg 2; whnf
  have z1 := Z.out.2.1.cap
  have z2 := Z.out.2.2.cap
  have k1 : (nk : Int) ≤ (cm : Int) := by omega
  have k2 : (nl : Int) ≤ (cf : Int) := by omega
  have k3 : (0 : Int) ≤ (nk : Int) := by omega
  have k4 : (0 : Int) ≤ (nl : Int) := by omega
  have HY : Hid (∀ W', Below W.heap.size W W' → MY w W' la ka nl nk lc kc gm cm gf cf l k) := fun W' hW => by
    obtain ⟨y1, y2, y3⟩ := Z.out
    have y1' := y1.later hW
    have h1 := (y2.take (by simp [y1.kn]) nk (by omega : min (nk + 2) nk = nk)).later hW
    have h2 := (y3.take (by simp [y1.ln]) nl (by omega : min (nl + 1) nl = nl)).later hW
    rw [List.take_left' y1.kn] at h1
    rw [List.take_left' y1.ln] at h2
    exact ⟨y1'.bel, y1.ln, y1.kn, y1.ll, y1.kl, y1'.fl, y1'.ks, y2.later hW, h1, y3.later hW, h2, y1.sl, y1.sk⟩
  refine wp_seq_k fun K hK => ?_
  have HK : Hid _ := hK
  clear hK
  go_wp2_with fail
  go_quiet (fail)
  go_wp2_with fail
  refine HK.out _ _ ?_
  clear HK K
  exact p7 (HY.out _ (bd _ _)) (HQ.out.later (bd _ _))

set_option maxRecDepth 100000 in
set_option maxHeartbeats 16000000 in
theorem p5 {w : World} {la ka : Option Addr} {nl nk lc kc gm cm : Nat} {l : List Fl} {k : List (List UInt8)} {dq : Nat} {p : List UInt8} {b : Int} {B : Nat} {W : World} {lv2 lv3 lv4 lv6 lv8 lv9 lv10 lv11 lv12 lv13 lv14 lv15 lv16 lv17 lv18 lv19 lv20 lv21 lv22 lv23 lv24 lv25 lv26 lv27 lv28 lv29 lv30 lv31 lv32 lv33 lv34 lv35 lv36 lv37 lv38 lv39 lv40 lv41 lv42 lv43 lv44 lv45 lv46 lv47 lv48 lv49 lv50 lv51 lv52 lv53 lv54 lv55 lv56 lv57 lv58 lv59 lv60 lv61 lv62 lv63 lv64 lv65 lv66 lv67 lv68 lv69 lv70 lv71 lv72 lv73 lv74 lv75 lv76 lv77 lv78 lv79 lv80 lv81 lv82 lv83 lv84 lv85 lv86 lv87 lv88 lv89 lv90 lv91 lv92 lv93 lv94 lv95 lv96 lv97 lv98 lv99 lv100 lv101 lv102 lv103 lv104 lv105 lv106 lv107 lv108 lv109 lv110 lv111 lv112 lv113 lv114 lv115 lv116 lv117 lv118 lv119 lv120 lv121 lv122 lv123 lv124 lv125 lv126 lv127 lv128 lv129 lv130 lv131 lv132 lv133 lv134 lv135 lv136 lv137 lv138 lv139 lv140 lv141 lv142 lv143 lv144 lv145 lv146 lv147 lv148 lv149 lv150 lv151 lv152 lv153 lv154 lv155 lv156 lv157 lv158 lv159 lv160 lv161 lv162 lv163 lv164 lv165 lv166 lv167 lv168 lv169 lv170 lv171 lv172 lv173 lv174 lv175 lv176 lv177 lv178 lv179 lv180 lv181 lv182 lv183 lv184 lv185 lv186 lv187 lv188 lv189 lv190 lv191 lv192 lv193 lv194 lv195 lv196 lv197 lv198 lv199 lv200 lv201 lv202 lv203 lv204 lv205 lv206 lv207 lv208 lv209 lv210 lv211 lv212 lv213 lv214 lv215 lv216 lv217 lv218 lv219 lv220 lv221 lv222 lv223 lv224 lv225 lv226 lv227 lv228 lv229 lv230 lv231 lv232 lv233 lv234 lv235 lv236 lv237 lv238 lv239 lv240 lv241 lv242 lv243 lv244 lv245 lv246 lv247 lv248 lv249 lv250 lv251 lv252 lv253 lv254 lv255 lv256 lv257 lv258 lv259 lv260 lv261 lv262 lv263 lv264 lv265 lv266 lv267 lv268 lv269 lv270 lv271 lv272 lv273 lv274 lv275 lv276 lv277 lv278 lv279 lv280 lv281 lv282 lv283 lv284 lv285 lv286 lv287 lv288 lv289 lv290 lv291 lv292 lv293 lv294 lv295 lv296 lv297 lv298 lv299 lv300 lv301 lv302 lv303 lv304 lv305 lv306 lv307 lv308 lv309 lv310 lv311 lv312 lv313 : Value} (Z : Hid (MZ w W la ka nl nk lc kc l k ∧ SS W (.slice (some ⟨gm, 0, none⟩) (nk + 2) cm) (k ++ [[109, 49], [109, 50]]))) (HQ : Hid (QY W dq p b B)) :
    Code.wp Tryz.prog (suff 5 (Tryz.f4.body.getD .skip)) (bodyPost Tryz.prog Tryz.f4 (GoodK w)) ⟨#[.slice la nl lc, .slice ka nk kc, lv2, lv3, lv4, .pointer (some ⟨dq, 0, none⟩), lv6, .slice (some ⟨gm, 0, none⟩) (nk + 2) cm, lv8, lv9, lv10, lv11, lv12, lv13, lv14, lv15, lv16, lv17, lv18, lv19, lv20, lv21, lv22, lv23, lv24, lv25, lv26, lv27, lv28, lv29, lv30, lv31, lv32, lv33, lv34, lv35, lv36, lv37, lv38, lv39, lv40, lv41, lv42, lv43, lv44, lv45, lv46, lv47, lv48, lv49, lv50, lv51, lv52, lv53, lv54, lv55, lv56, lv57, lv58, lv59, lv60, lv61, lv62, lv63, lv64, lv65, lv66, lv67, lv68, lv69, lv70, lv71, lv72, lv73, lv74, lv75, lv76, lv77, lv78, lv79, lv80, lv81, lv82, lv83, lv84, lv85, lv86, lv87, lv88, lv89, lv90, lv91, lv92, lv93, lv94, lv95, lv96, lv97, lv98, lv99, lv100, lv101, lv102, lv103, lv104, lv105, lv106, lv107, lv108, lv109, lv110, lv111, lv112, lv113, lv114, lv115, lv116, lv117, lv118, lv119, lv120, lv121, lv122, lv123, lv124, lv125, lv126, lv127, lv128, lv129, lv130, lv131, lv132, lv133, lv134, lv135, lv136, lv137, lv138, lv139, lv140, lv141, lv142, lv143, lv144, lv145, lv146, lv147, lv148, lv149, lv150, lv151, lv152, lv153, lv154, lv155, lv156, lv157, lv158, lv159, lv160, lv161, lv162, lv163, lv164, lv165, lv166, lv167, lv168, lv169, lv170, lv171, lv172, lv173, lv174, lv175, lv176, lv177, lv178, lv179, lv180, lv181, lv182, lv183, lv184, lv185, lv186, lv187, lv188, lv189, lv190, lv191, lv192, lv193, lv194, lv195, lv196, lv197, lv198, lv199, lv200, lv201, lv202, lv203, lv204, lv205, lv206, lv207, lv208, lv209, lv210, lv211, lv212, lv213, lv214, lv215, lv216, lv217, lv218, lv219, lv220, lv221, lv222, lv223, lv224, lv225, lv226, lv227, lv228, lv229, lv230, lv231, lv232, lv233, lv234, lv235, lv236, lv237, lv238, lv239, lv240, lv241, lv242, lv243, lv244, lv245, lv246, lv247, lv248, lv249, lv250, lv251, lv252, lv253, lv254, lv255, lv256, lv257, lv258, lv259, lv260, lv261, lv262, lv263, lv264, lv265, lv266, lv267, lv268, lv269, lv270, lv271, lv272, lv273, lv274, lv275, lv276, lv277, lv278, lv279, lv280, lv281, lv282, lv283, lv284, lv285, lv286, lv287, lv288, lv289, lv290, lv291, lv292, lv293, lv294, lv295, lv296, lv297, lv298, lv299, lv300, lv301, lv302, lv303, lv304, lv305, lv306, lv307, lv308, lv309, lv310, lv311, lv312, lv313], []⟩ W := by
  conv => arg 2; whnf
  have HZ := hid_of (own_zeroF W)
  have HS1 := hid_of ((Z.out.1.fl.later (balloc W (.cells #[] 45))).src)
  have HN : Hid (l.length ≤ 120) := by have := Z.out.1.ln; have := Z.out.1.ll; show l.length ≤ 120; omega
  refine wp_seq_k fun K hK => ?_
  have HK : Hid _ := hK
  clear hK
  go_wp2_with (first | (at_builtin; refine app_files (base := W.heap.size) (l := []) (k := l) HZ.out HS1.out (by have := HN.out; simp; omega) (by simp) rfl _ _ rfl rfl rfl ?_; intro v1 w1 ho1 hg1 hk1; have HO1 := hid_of (And.intro ho1 hg1); clear ho1 hg1 hk1) | (at_builtin; refine app_files (base := W.heap.size) (l := [] ++ l) (k := [m3F]) (HO1.out.1.later (balloc _ _)) (src_m3 w1) (by have := HN.out; simp; omega) (by have := HO1.out.2.size; simp at this ⊢; omega) rfl _ _ rfl rfl rfl ?_; intro v2 w2 ho2 hg2 hk2; have HB2 : Hid (Below W.heap.size W w2) := grow2 HO1.out.2 (fun j e => (HO1.out.1.lt e).1) hg2; obtain ⟨gf, cf, ev, _, _, _⟩ := row_place ho2 (by simp); obtain ⟨N2, hN2⟩ : ∃ N2, ([] ++ l ++ [m3F]).length = N2 := ⟨_, rfl⟩; rw [hN2] at ev; have hN3 : N2 = nl + 1 := (by rw [← hN2, ← Z.out.1.ln]; simp); subst ev; subst hN3; have HO2 := hid_of ho2; clear ho2 hg2 hk2 hN2 HO1))
  refine HK.out _ _ ?_
  clear HK K
  have HFI : Hid (FS w2 (.slice (some ⟨gf, 0, none⟩) (nl + 1) cf) (l ++ [m3F])) := HO2.out.fs
  exact p6 (⟨Z.out.1.later HB2.out, Z.out.2.later HB2.out, HFI.out⟩) (HQ.out.later HB2.out)

set_option maxRecDepth 100000 in
set_option maxHeartbeats 16000000 in
theorem p4 {w : World} {la ka : Option Addr} {nl nk lc kc : Nat} {l : List Fl} {k : List (List UInt8)} {dq : Nat} {p : List UInt8} {b : Int} {B : Nat} {W : World} {lv2 lv3 lv4 lv6 lv7 lv8 lv9 lv10 lv11 lv12 lv13 lv14 lv15 lv16 lv17 lv18 lv19 lv20 lv21 lv22 lv23 lv24 lv25 lv26 lv27 lv28 lv29 lv30 lv31 lv32 lv33 lv34 lv35 lv36 lv37 lv38 lv39 lv40 lv41 lv42 lv43 lv44 lv45 lv46 lv47 lv48 lv49 lv50 lv51 lv52 lv53 lv54 lv55 lv56 lv57 lv58 lv59 lv60 lv61 lv62 lv63 lv64 lv65 lv66 lv67 lv68 lv69 lv70 lv71 lv72 lv73 lv74 lv75 lv76 lv77 lv78 lv79 lv80 lv81 lv82 lv83 lv84 lv85 lv86 lv87 lv88 lv89 lv90 lv91 lv92 lv93 lv94 lv95 lv96 lv97 lv98 lv99 lv100 lv101 lv102 lv103 lv104 lv105 lv106 lv107 lv108 lv109 lv110 lv111 lv112 lv113 lv114 lv115 lv116 lv117 lv118 lv119 lv120 lv121 lv122 lv123 lv124 lv125 lv126 lv127 lv128 lv129 lv130 lv131 lv132 lv133 lv134 lv135 lv136 lv137 lv138 lv139 lv140 lv141 lv142 lv143 lv144 lv145 lv146 lv147 lv148 lv149 lv150 lv151 lv152 lv153 lv154 lv155 lv156 lv157 lv158 lv159 lv160 lv161 lv162 lv163 lv164 lv165 lv166 lv167 lv168 lv169 lv170 lv171 lv172 lv173 lv174 lv175 lv176 lv177 lv178 lv179 lv180 lv181 lv182 lv183 lv184 lv185 lv186 lv187 lv188 lv189 lv190 lv191 lv192 lv193 lv194 lv195 lv196 lv197 lv198 lv199 lv200 lv201 lv202 lv203 lv204 lv205 lv206 lv207 lv208 lv209 lv210 lv211 lv212 lv213 lv214 lv215 lv216 lv217 lv218 lv219 lv220 lv221 lv222 lv223 lv224 lv225 lv226 lv227 lv228 lv229 lv230 lv231 lv232 lv233 lv234 lv235 lv236 lv237 lv238 lv239 lv240 lv241 lv242 lv243 lv244 lv245 lv246 lv247 lv248 lv249 lv250 lv251 lv252 lv253 lv254 lv255 lv256 lv257 lv258 lv259 lv260 lv261 lv262 lv263 lv264 lv265 lv266 lv267 lv268 lv269 lv270 lv271 lv272 lv273 lv274 lv275 lv276 lv277 lv278 lv279 lv280 lv281 lv282 lv283 lv284 lv285 lv286 lv287 lv288 lv289 lv290 lv291 lv292 lv293 lv294 lv295 lv296 lv297 lv298 lv299 lv300 lv301 lv302 lv303 lv304 lv305 lv306 lv307 lv308 lv309 lv310 lv311 lv312 lv313 : Value} (Z : Hid (MZ w W la ka nl nk lc kc l k)) (HQ : Hid (QY W dq p b B)) :
    Code.wp Tryz.prog (suff 4 (Tryz.f4.body.getD .skip)) (bodyPost Tryz.prog Tryz.f4 (GoodK w)) ⟨#[.slice la nl lc, .slice ka nk kc, lv2, lv3, lv4, .pointer (some ⟨dq, 0, none⟩), lv6, lv7, lv8, lv9, lv10, lv11, lv12, lv13, lv14, lv15, lv16, lv17, lv18, lv19, lv20, lv21, lv22, lv23, lv24, lv25, lv26, lv27, lv28, lv29, lv30, lv31, lv32, lv33, lv34, lv35, lv36, lv37, lv38, lv39, lv40, lv41, lv42, lv43, lv44, lv45, lv46, lv47, lv48, lv49, lv50, lv51, lv52, lv53, lv54, lv55, lv56, lv57, lv58, lv59, lv60, lv61, lv62, lv63, lv64, lv65, lv66, lv67, lv68, lv69, lv70, lv71, lv72, lv73, lv74, lv75, lv76, lv77, lv78, lv79, lv80, lv81, lv82, lv83, lv84, lv85, lv86, lv87, lv88, lv89, lv90, lv91, lv92, lv93, lv94, lv95, lv96, lv97, lv98, lv99, lv100, lv101, lv102, lv103, lv104, lv105, lv106, lv107, lv108, lv109, lv110, lv111, lv112, lv113, lv114, lv115, lv116, lv117, lv118, lv119, lv120, lv121, lv122, lv123, lv124, lv125, lv126, lv127, lv128, lv129, lv130, lv131, lv132, lv133, lv134, lv135, lv136, lv137, lv138, lv139, lv140, lv141, lv142, lv143, lv144, lv145, lv146, lv147, lv148, lv149, lv150, lv151, lv152, lv153, lv154, lv155, lv156, lv157, lv158, lv159, lv160, lv161, lv162, lv163, lv164, lv165, lv166, lv167, lv168, lv169, lv170, lv171, lv172, lv173, lv174, lv175, lv176, lv177, lv178, lv179, lv180, lv181, lv182, lv183, lv184, lv185, lv186, lv187, lv188, lv189, lv190, lv191, lv192, lv193, lv194, lv195, lv196, lv197, lv198, lv199, lv200, lv201, lv202, lv203, lv204, lv205, lv206, lv207, lv208, lv209, lv210, lv211, lv212, lv213, lv214, lv215, lv216, lv217, lv218, lv219, lv220, lv221, lv222, lv223, lv224, lv225, lv226, lv227, lv228, lv229, lv230, lv231, lv232, lv233, lv234, lv235, lv236, lv237, lv238, lv239, lv240, lv241, lv242, lv243, lv244, lv245, lv246, lv247, lv248, lv249, lv250, lv251, lv252, lv253, lv254, lv255, lv256, lv257, lv258, lv259, lv260, lv261, lv262, lv263, lv264, lv265, lv266, lv267, lv268, lv269, lv270, lv271, lv272, lv273, lv274, lv275, lv276, lv277, lv278, lv279, lv280, lv281, lv282, lv283, lv284, lv285, lv286, lv287, lv288, lv289, lv290, lv291, lv292, lv293, lv294, lv295, lv296, lv297, lv298, lv299, lv300, lv301, lv302, lv303, lv304, lv305, lv306, lv307, lv308, lv309, lv310, lv311, lv312, lv313], []⟩ W := by
  conv => arg 2; whnf
  have HZ := hid_of (own_zeroK W)
  have HS1 := hid_of ((Z.out.ks.later (balloc W (.cells #[] 9))).src und70)
  have HN : Hid (k.length ≤ 16) := by have := Z.out.kn; have := Z.out.kl; show k.length ≤ 16; omega
  refine wp_seq_k fun K hK => ?_
  have HK : Hid _ := hK
  clear hK
  go_wp2_with (first | (at_builtin; refine app_strs (base := W.heap.size) (l := []) (k := k) HZ.out HS1.out (by have := HN.out; simp; omega) (by simp) rfl _ _ rfl rfl rfl ?_; intro v1 w1 ho1 hg1 hk1; have HO1 := hid_of (And.intro ho1 hg1); clear ho1 hg1 hk1) | (at_builtin; refine app_strs (base := W.heap.size) (l := [] ++ k) (k := m12) (HO1.out.1.later (balloc _ _)) (src_m12 w1) (by have := HN.out; simp [m12]; omega) (by have := HO1.out.2.size; simp at this ⊢; omega) rfl _ _ rfl rfl rfl ?_; intro v2 w2 ho2 hg2 hk2; have HB2 : Hid (Below W.heap.size W w2) := grow2 HO1.out.2 (fun j e => (HO1.out.1.lt e).1) hg2; obtain ⟨gm, cm, ev, _, _, _⟩ := row_place ho2 (by simp [m12]); obtain ⟨N2, hN2⟩ : ∃ N2, ([] ++ k ++ m12).length = N2 := ⟨_, rfl⟩; rw [hN2] at ev; have hN3 : N2 = nk + 2 := (by rw [← hN2, ← Z.out.kn]; simp [m12]); subst ev; subst hN3; have HO2 := hid_of ho2; clear ho2 hg2 hk2 hN2 HO1))
  refine HK.out _ _ ?_
  clear HK K
  have HMI : Hid (SS w2 (.slice (some ⟨gm, 0, none⟩) (nk + 2) cm) (k ++ [[109, 49], [109, 50]])) := HO2.out.ss
  exact p5 (⟨Z.out.later HB2.out, HMI.out⟩) (HQ.out.later HB2.out)
end Go.Proofs.YtbaheiimcnfaaaaGreat
