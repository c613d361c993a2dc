/-
  The law CacheFresh: bytes that are handed in.
  The law CacheFresh: saved twice, asked twice.
-/
import Derived.Test.YtddaoloabfkheaaGreatDoorJFf
namespace Go.Proofs.YtddaoloabfkheaaGreatDoor
open Go.RowKit
attribute [local go_sem] Oper.semAt_some

theorem RmB.pre {w : World} {g cap : Nat} {b x : List UInt8} (h : RmB w g cap (b ++ x)) : RmB w g cap b := by
  obtain ⟨cur, fr, h1, h2, h3, h4⟩ := h.blk
  have hle := h.le
  rw [List.length_append] at hle
  refine ⟨by omega, cur, fr, h1, h2, h3, ?_⟩
  have := congrArg (List.take b.length) h4
  rw [List.take_take, List.length_append, Nat.min_eq_left (by omega), bc_append, ← bc_length b, List.take_left] at this
  rw [← bc_length b]; exact this
theorem bs_append (a b : List UInt8) : bs (a ++ b) = bs a ++ bs b := by
  apply ByteArray.ext
  simp [bs, ByteArray.data_append]
/-- one cache, and what the text says -/
structure FQ0 (CA : World → (Nat → Prop) → Nat → List Lb → Prop) (w W : World) (Ma c : Nat) (K : List Lb) (vw : Value) (A : List Tg) : Prop where
  bel : Below w.heap.size w W
  tc : ∃ F, CA W F c K ∧ ∀ k, F k → w.heap.size ≤ k ∧ k < Ma
  wt : GMt W (fun k => w.heap.size ≤ k ∧ k < Ma) vw A
  ma : w.heap.size ≤ Ma
  mw : Ma ≤ W.heap.size
theorem FQ0.later {CA : World → (Nat → Prop) → Nat → List Lb → Prop} (C : CcP CA) {w W W' : World} {Ma c : Nat} {K : List Lb} {vw : Value} {A : List Tg} (h : FQ0 CA w W Ma c K vw A) (hb : Below W.heap.size W W') : FQ0 CA w W' Ma c K vw A := by
  obtain ⟨F, f1, f2⟩ := h.tc
  have hmw := h.mw
  exact ⟨bstep h.bel hb, ⟨F, C.later f1 hb, f2⟩, h.wt.stay hb.size (fun k hk => hb.block k (by omega)), h.ma, Nat.le_trans hmw hb.size⟩
set_option maxRecDepth 100000 in
set_option maxHeartbeats 16000000 in
theorem c18 {CA : World → (Nat → Prop) → Nat → List Lb → Prop} (C : CcP CA) {w W : World} {av : Option Addr} {n cv kk c N ga gb ca cb Ma Bl ml Mm : Nat} {L : List Stp} {p t b0 : List UInt8} {K : List Lb} {vw v14 v17 : Value} {a0 a1 : List Tv} {G : List Tg} {A : List Tg} {ze : Int} {is : Bool} {lv1 lv2 lv3 lv4 lv6 lv7 lv15 lv18 lv19 lv20 lv21 lv22 lv23 lv24 lv25 lv26 lv27 lv28 lv29 lv30 lv31 lv32 lv33 lv34 lv35 lv36 lv37 lv38 lv39 lv40 lv41 lv42 lv43 lv44 lv45 lv46 lv47 lv48 lv49 lv50 lv51 lv52 lv53 lv54 lv55 lv56 lv57 lv58 lv59 lv60 lv61 lv62 lv63 lv64 lv65 lv66 lv67 lv68 lv69 lv70 lv71 lv72 lv73 lv74 lv75 lv76 lv77 lv78 lv79 lv80 lv81 lv82 lv83 lv84 lv85 lv86 lv87 lv88 lv89 lv90 lv91 lv92 lv93 lv94 lv95 lv96 lv97 lv98 lv99 lv100 lv101 lv102 lv103 lv104 lv105 lv106 lv107 lv108 lv109 lv110 lv111 lv112 lv113 lv114 lv115 lv116 lv117 lv118 lv119 lv120 lv121 lv122 lv123 lv124 lv125 lv126 lv127 lv128 lv129 lv130 lv131 lv132 lv133 lv134 lv135 lv136 lv137 lv138 lv139 lv140 lv141 lv142 lv143 lv144 lv145 lv146 lv147 lv148 lv149 lv150 lv151 lv152 lv153 lv154 lv155 lv156 lv157 lv158 lv159 lv160 lv161 lv162 lv163 lv164 lv165 lv166 lv167 lv168 lv169 lv170 lv171 lv172 lv173 lv174 lv175 lv176 lv177 lv178 lv179 lv180 lv181 lv182 lv183 lv184 lv185 lv186 lv187 lv188 lv189 lv190 lv191 lv192 lv193 lv194 lv195 lv196 lv197 lv198 lv199 lv200 lv201 lv202 lv203 lv204 lv205 lv206 lv207 lv208 lv209 lv210 lv211 lv212 lv213 lv214 lv215 lv216 lv217 lv218 lv219 lv220 lv221 lv222 lv223 lv224 lv225 lv226 lv227 lv228 lv229 lv230 lv231 lv232 lv233 lv234 lv235 lv236 lv237 lv238 lv239 lv240 lv241 lv242 lv243 lv244 lv245 lv246 lv247 lv248 lv249 lv250 lv251 lv252 lv253 lv254 lv255 lv256 lv257 lv258 lv259 lv260 lv261 lv262 lv263 lv264 lv265 lv266 lv267 lv268 lv269 lv270 lv271 lv272 lv273 lv274 lv275 lv276 lv277 lv278 lv279 lv280 lv281 lv282 lv283 lv284 lv285 lv286 lv287 lv288 lv289 lv290 lv291 lv292 lv293 lv294 lv295 lv296 lv297 lv298 lv299 lv300 lv301 lv302 lv303 lv304 lv305 lv306 lv307 lv308 lv309 lv310 lv311 lv312 lv313 lv314 lv315 lv316 lv317 : Value} (HI : Hid (FIn w av n cv L kk p t)) (HE : Hid (Ev w)) (HV : Hid (b0 = savB K ∧ prsM (dir p) t = (A, ze) ∧ is = (gtK K p t).2.2)) (X : Hid (FQ0 CA w W Ma c K vw A)) (Y : Hid (G2 W Bl ml v14 v17 a0 a1 G)) (HM : Hid (∀ u ∈ v17 :: a1.flatMap Tv.vals, ∀ k, u.ownBlock = some k → k < Mm)) (HN : Hid (Ma ≤ Bl ∧ ml ≤ Mm ∧ Mm ≤ W.heap.size)) (Z : Hid (OwnB Ma W (.slice (some ⟨ga, 0, none⟩) N ca) b0 ∧ OwnB Ma W (.slice (some ⟨gb, 0, none⟩) N cb) b0 ∧ ga < gb ∧ gb < Bl)) (hX : b0.length = N) (hN : N ≤ 3400000000) :
    Code.wp Tryz.prog (suff 18 (Tryz.f5.body.getD .skip)) (bodyPost Tryz.prog Tryz.f5 (Good w)) ⟨#[.slice av n cv, lv1, lv2, lv3, lv4, .pointer (some ⟨c, 0, none⟩), lv6, lv7, .int .i64 (kk : Int), vw, .int .i64 ze, .slice (some ⟨ga, 0, none⟩) N ca, .slice (some ⟨gb, 0, none⟩) N cb, .string (bs b0), v14, lv15, .bool is, v17, lv18, lv19, lv20, lv21, lv22, lv23, lv24, lv25, lv26, lv27, lv28, lv29, lv30, lv31, lv32, lv33, lv34, lv35, lv36, lv37, lv38, lv39, lv40, lv41, lv42, lv43, lv44, lv45, lv46, lv47, lv48, lv49, lv50, lv51, lv52, lv53, lv54, lv55, lv56, lv57, lv58, lv59, lv60, lv61, lv62, lv63, lv64, lv65, lv66, lv67, lv68, lv69, lv70, lv71, lv72, lv73, lv74, lv75, lv76, lv77, lv78, lv79, lv80, lv81, lv82, lv83, lv84, lv85, lv86, lv87, lv88, lv89, lv90, lv91, lv92, lv93, lv94, lv95, lv96, lv97, lv98, lv99, lv100, lv101, lv102, lv103, lv104, lv105, lv106, lv107, lv108, lv109, lv110, lv111, lv112, lv113, lv114, lv115, lv116, lv117, lv118, lv119, lv120, lv121, lv122, lv123, lv124, lv125, lv126, lv127, lv128, lv129, lv130, lv131, lv132, lv133, lv134, lv135, lv136, lv137, lv138, lv139, lv140, lv141, lv142, lv143, lv144, lv145, lv146, lv147, lv148, lv149, lv150, lv151, lv152, lv153, lv154, lv155, lv156, lv157, lv158, lv159, lv160, lv161, lv162, lv163, lv164, lv165, lv166, lv167, lv168, lv169, lv170, lv171, lv172, lv173, lv174, lv175, lv176, lv177, lv178, lv179, lv180, lv181, lv182, lv183, lv184, lv185, lv186, lv187, lv188, lv189, lv190, lv191, lv192, lv193, lv194, lv195, lv196, lv197, lv198, lv199, lv200, lv201, lv202, lv203, lv204, lv205, lv206, lv207, lv208, lv209, lv210, lv211, lv212, lv213, lv214, lv215, lv216, lv217, lv218, lv219, lv220, lv221, lv222, lv223, lv224, lv225, lv226, lv227, lv228, lv229, lv230, lv231, lv232, lv233, lv234, lv235, lv236, lv237, lv238, lv239, lv240, lv241, lv242, lv243, lv244, lv245, lv246, lv247, lv248, lv249, lv250, lv251, lv252, lv253, lv254, lv255, lv256, lv257, lv258, lv259, lv260, lv261, lv262, lv263, lv264, lv265, lv266, lv267, lv268, lv269, lv270, lv271, lv272, lv273, lv274, lv275, lv276, lv277, lv278, lv279, lv280, lv281, lv282, lv283, lv284, lv285, lv286, lv287, lv288, lv289, lv290, lv291, lv292, lv293, lv294, lv295, lv296, lv297, lv298, lv299, lv300, lv301, lv302, lv303, lv304, lv305, lv306, lv307, lv308, lv309, lv310, lv311, lv312, lv313, lv314, lv315, lv316, lv317], []⟩ W := by
  conv => arg 2; whnf
  obtain ⟨cap, W1, hcv, hrm, hb1, hs1⟩ := conv_new W b0
  obtain ⟨gr, cr, W2, hr2, hrm2, hgr, hb2⟩ := room3 hrm (Nat.le_refl _) (by omega) 41
  rw [hX] at hcv hr2
  have HB2 : Hid (Below W.heap.size W W2) := hb1.trans hb2
  have HR2 : Hid ((Builtin.append_ #[41, 41] 41 #[.slice (some ⟨W.heap.size, 0, none⟩) N cap, .slice (some ⟨W1.heap.size, 0, none⟩) 3 3]).run Tryz.prog (W1.alloc (.cells #[.int .u8 71, .int .u8 72, .int .u8 73] 5)) = .ok (.slice (some ⟨gr, 0, none⟩) (N + 3) cr) W2) := hr2
  have HRm : Hid (RmB W2 gr cr (b0 ++ [71, 72, 73]) ∧ W.heap.size ≤ gr) := ⟨hrm2, hgr⟩
  have hcr : N + 3 ≤ cr := by have := hrm2.le; rw [List.length_append, hX] at this; exact this
  have hz : (bs b0).size = N := hX
  clear hrm hb1 hs1 hr2 hrm2 hgr hb2
  refine wp_seq_k fun K9 hK => ?_
  have HK : Hid _ := hK
  clear hK
  go_wp2_with (first | (at_builtin; refine wpList_app_run rfl (.tmp 174) (.tmp 175) 41 41 rfl _ _ rfl rfl HR2.out ?_))
  clear hcv HR2
  refine HK.out _ _ ?_
  clear HK K9
  refine wp_seq_k fun K9 hK => ?_
  have HK : Hid _ := hK
  clear hK
  have hsl := slice_to gr 0 (N + 3) cr N (by omega) (N : Int) rfl
  have HLd : Hid (Calls Tryz.prog 15 #[.slice (some ⟨gr, 0, none⟩) N cr] W2 fun e w' => ∃ d, e = .returned (.tuple #[.pointer (some ⟨d, 0, none⟩), .int .i64 0]) ∧ TQ CA W2.heap.size w' d K ∧ Below W2.heap.size W2 w') := by
    have hbs := HRm.out.1.pre.bs
    rw [hX] at hbs
    obtain ⟨F, f1, _⟩ := X.out.tc
    have okK := C.ok f1
    refine (TQ.load C hbs (HE.out.later (bstep X.out.bel HB2.out)) (by omega)).mono ?_
    rintro e w' ⟨hb, ⟨K', g', ok', e', rfl, ht⟩ | ⟨hno, _⟩⟩
    · have hKK : K' = K := savB_inj ok' okK (by rw [e']; exact HV.out.1)
      rw [hKK] at ht
      exact ⟨g', rfl, ht, hb⟩
    · exact (hno K okK HV.out.1.symm).elim
  go_wp2_with fail
  refine HLd.out.mono ?_
  rintro e w3 ⟨d, rfl, ht3, hb3⟩
  have H3 : Hid (FQ CA w w3 Ma W2.heap.size c d K vw A ∧ RmB w3 gr cr (b0 ++ [71, 72, 73]) ∧ Below W.heap.size W w3) := by
    have hb := bstep HB2.out hb3
    have x := X.out.later C hb
    have hmw := X.out.mw
    have hz2 := HB2.out.size
    obtain ⟨F, f1, f2⟩ := ht3.it
    exact ⟨⟨x.bel, x.tc, x.wt, ⟨F, f1, f2⟩, by omega, x.ma, x.mw⟩, HRm.out.1.later hb3, hb⟩
  have hcv3 : (convert 41 9 (.slice (some ⟨gr, 0, none⟩) (N + 3) cr)).run Tryz.prog w3 = .ok (.string (bs (b0 ++ [71, 72, 73]))) w3 := by
    have := H3.out.2.1.bs
    rw [List.length_append, hX] at this
    exact conv_bs this
  clear ht3 hb3
  go_wp2_with fail
  refine HK.out _ _ ?_
  clear HK K9
  refine wp_seq_k fun K9 hK => ?_
  have HK : Hid _ := hK
  clear hK
  have e7 : (⟨#[71, 72, 73]⟩ : ByteArray) = bs [71, 72, 73] := rfl
  have e8 : bs b0 ++ bs [71, 72, 73] = bs (b0 ++ [71, 72, 73]) := (bs_append b0 [71, 72, 73]).symm
  have e9 : ((bs (b0 ++ [71, 72, 73])).toList == (bs (b0 ++ [71, 72, 73])).toList) = true := by simp
  have e10 : ¬ (9223372036854775807 : Int) < (N : Int) + 3 := by omega
  have e11 : (bs [71, 72, 73]).size = 3 := rfl
  go_wp2_with fail
  refine HK.out _ _ ?_
  clear HK K9
  have hgrl := HRm.out.1.lt
  refine c22 C HI HE HV (X := H3.out.1) (Y := Y.out.stay HM.out HN.out.2.1 H3.out.2.2.size (fun k hk _ _ => H3.out.2.2.block k hk)) HM ⟨HN.out.1, HN.out.2.1, Nat.le_trans HN.out.2.2 HB2.out.size⟩ (Z := ⟨row_later Z.out.1 H3.out.2.2, row_later Z.out.2.1 H3.out.2.2, Z.out.2.2⟩) hX hN (R := ⟨H3.out.2.1, ?_, hgrl, ?_⟩) hcr (by omega)
  · have := HN.out; have := HRm.out.2; omega
  · have := X.out.mw; have := HRm.out.2; omega
end Go.Proofs.YtddaoloabfkheaaGreatDoor

namespace Go.Proofs.YtddaoloabfkheaaGreatDoor
open Go.RowKit
attribute [local go_sem] Oper.semAt_some

set_option maxRecDepth 100000 in
set_option maxHeartbeats 16000000 in
theorem c11 {CA : World → (Nat → Prop) → Nat → List Lb → Prop} (C : CcP CA) {w W : World} {av : Option Addr} {n cv kk c o : Nat} {L : List Stp} {p t : List UInt8} {K : List Lb} {vw : Value} {A : List Tg} {ze : Int} {lv1 lv2 lv3 lv4 lv7 lv11 lv12 lv13 lv14 lv15 lv16 lv17 lv18 lv19 lv20 lv21 lv22 lv23 lv24 lv25 lv26 lv27 lv28 lv29 lv30 lv31 lv32 lv33 lv34 lv35 lv36 lv37 lv38 lv39 lv40 lv41 lv42 lv43 lv44 lv45 lv46 lv47 lv48 lv49 lv50 lv51 lv52 lv53 lv54 lv55 lv56 lv57 lv58 lv59 lv60 lv61 lv62 lv63 lv64 lv65 lv66 lv67 lv68 lv69 lv70 lv71 lv72 lv73 lv74 lv75 lv76 lv77 lv78 lv79 lv80 lv81 lv82 lv83 lv84 lv85 lv86 lv87 lv88 lv89 lv90 lv91 lv92 lv93 lv94 lv95 lv96 lv97 lv98 lv99 lv100 lv101 lv102 lv103 lv104 lv105 lv106 lv107 lv108 lv109 lv110 lv111 lv112 lv113 lv114 lv115 lv116 lv117 lv118 lv119 lv120 lv121 lv122 lv123 lv124 lv125 lv126 lv127 lv128 lv129 lv130 lv131 lv132 lv133 lv134 lv135 lv136 lv137 lv138 lv139 lv140 lv141 lv142 lv143 lv144 lv145 lv146 lv147 lv148 lv149 lv150 lv151 lv152 lv153 lv154 lv155 lv156 lv157 lv158 lv159 lv160 lv161 lv162 lv163 lv164 lv165 lv166 lv167 lv168 lv169 lv170 lv171 lv172 lv173 lv174 lv175 lv176 lv177 lv178 lv179 lv180 lv181 lv182 lv183 lv184 lv185 lv186 lv187 lv188 lv189 lv190 lv191 lv192 lv193 lv194 lv195 lv196 lv197 lv198 lv199 lv200 lv201 lv202 lv203 lv204 lv205 lv206 lv207 lv208 lv209 lv210 lv211 lv212 lv213 lv214 lv215 lv216 lv217 lv218 lv219 lv220 lv221 lv222 lv223 lv224 lv225 lv226 lv227 lv228 lv229 lv230 lv231 lv232 lv233 lv234 lv235 lv236 lv237 lv238 lv239 lv240 lv241 lv242 lv243 lv244 lv245 lv246 lv247 lv248 lv249 lv250 lv251 lv252 lv253 lv254 lv255 lv256 lv257 lv258 lv259 lv260 lv261 lv262 lv263 lv264 lv265 lv266 lv267 lv268 lv269 lv270 lv271 lv272 lv273 lv274 lv275 lv276 lv277 lv278 lv279 lv280 lv281 lv282 lv283 lv284 lv285 lv286 lv287 lv288 lv289 lv290 lv291 lv292 lv293 lv294 lv295 lv296 lv297 lv298 lv299 lv300 lv301 lv302 lv303 lv304 lv305 lv306 lv307 lv308 lv309 lv310 lv311 lv312 lv313 lv314 lv315 lv316 lv317 : Value} (HI : Hid (FIn w av n cv L kk p t)) (HE : Hid (Ev w)) (HP : Hid (prsM (dir p) t = (A, ze))) (X : Hid (FQ0 CA w W W.heap.size c K vw A)) (O : Hid (∃ F, CA W F o [])) :
    Code.wp Tryz.prog (suff 11 (Tryz.f5.body.getD .skip)) (bodyPost Tryz.prog Tryz.f5 (Good w)) ⟨#[.slice av n cv, lv1, lv2, lv3, lv4, .pointer (some ⟨c, 0, none⟩), .pointer (some ⟨o, 0, none⟩), lv7, .int .i64 (kk : Int), vw, .int .i64 ze, lv11, lv12, lv13, lv14, lv15, lv16, lv17, lv18, lv19, lv20, lv21, lv22, lv23, lv24, lv25, lv26, lv27, lv28, lv29, lv30, lv31, lv32, lv33, lv34, lv35, lv36, lv37, lv38, lv39, lv40, lv41, lv42, lv43, lv44, lv45, lv46, lv47, lv48, lv49, lv50, lv51, lv52, lv53, lv54, lv55, lv56, lv57, lv58, lv59, lv60, lv61, lv62, lv63, lv64, lv65, lv66, lv67, lv68, lv69, lv70, lv71, lv72, lv73, lv74, lv75, lv76, lv77, lv78, lv79, lv80, lv81, lv82, lv83, lv84, lv85, lv86, lv87, lv88, lv89, lv90, lv91, lv92, lv93, lv94, lv95, lv96, lv97, lv98, lv99, lv100, lv101, lv102, lv103, lv104, lv105, lv106, lv107, lv108, lv109, lv110, lv111, lv112, lv113, lv114, lv115, lv116, lv117, lv118, lv119, lv120, lv121, lv122, lv123, lv124, lv125, lv126, lv127, lv128, lv129, lv130, lv131, lv132, lv133, lv134, lv135, lv136, lv137, lv138, lv139, lv140, lv141, lv142, lv143, lv144, lv145, lv146, lv147, lv148, lv149, lv150, lv151, lv152, lv153, lv154, lv155, lv156, lv157, lv158, lv159, lv160, lv161, lv162, lv163, lv164, lv165, lv166, lv167, lv168, lv169, lv170, lv171, lv172, lv173, lv174, lv175, lv176, lv177, lv178, lv179, lv180, lv181, lv182, lv183, lv184, lv185, lv186, lv187, lv188, lv189, lv190, lv191, lv192, lv193, lv194, lv195, lv196, lv197, lv198, lv199, lv200, lv201, lv202, lv203, lv204, lv205, lv206, lv207, lv208, lv209, lv210, lv211, lv212, lv213, lv214, lv215, lv216, lv217, lv218, lv219, lv220, lv221, lv222, lv223, lv224, lv225, lv226, lv227, lv228, lv229, lv230, lv231, lv232, lv233, lv234, lv235, lv236, lv237, lv238, lv239, lv240, lv241, lv242, lv243, lv244, lv245, lv246, lv247, lv248, lv249, lv250, lv251, lv252, lv253, lv254, lv255, lv256, lv257, lv258, lv259, lv260, lv261, lv262, lv263, lv264, lv265, lv266, lv267, lv268, lv269, lv270, lv271, lv272, lv273, lv274, lv275, lv276, lv277, lv278, lv279, lv280, lv281, lv282, lv283, lv284, lv285, lv286, lv287, lv288, lv289, lv290, lv291, lv292, lv293, lv294, lv295, lv296, lv297, lv298, lv299, lv300, lv301, lv302, lv303, lv304, lv305, lv306, lv307, lv308, lv309, lv310, lv311, lv312, lv313, lv314, lv315, lv316, lv317], []⟩ W := by
  conv => arg 2; whnf
  have HG : Hid (∀ Z, Below W.heap.size W Z → Calls Tryz.prog 13 #[.pointer (some ⟨c, 0, none⟩), .string (bs p), .string (bs t)] Z (LsG Z (gtK K p t))) := fun Z hZ => by
    obtain ⟨F, f1, _⟩ := (X.out.later C hZ).tc
    exact C.get f1 (HE.out.later (bstep X.out.bel hZ)) p t HI.out.pl HI.out.tl
  obtain ⟨⟨R1, R2, R3⟩, hR⟩ : ∃ R, gtK K p t = R := ⟨_, rfl⟩
  rw [hR] at HG
  have HR : Hid (gtK K p t = (R1, R2, R3)) := hR
  obtain ⟨b0, hb0⟩ : ∃ b0, savB K = b0 := ⟨_, rfl⟩
  have HB0 : Hid (savB K = b0) := hb0
  have HSv : Hid (∀ Z, Below W.heap.size W Z → Calls Tryz.prog 14 #[.pointer (some ⟨c, 0, none⟩)] Z fun e w' => ∃ v', e = .returned v' ∧ OwnB Z.heap.size w' v' b0 ∧ Below Z.heap.size Z w') := fun Z hZ => by
    obtain ⟨F, f1, _⟩ := (X.out.later C hZ).tc
    rw [← hb0]
    exact C.save f1 (HE.out.later (bstep X.out.bel hZ))
  have HLo : Hid (∀ Z, Below W.heap.size W Z → Calls Tryz.prog 12 #[.pointer (some ⟨o, 0, none⟩)] Z fun e w' => e = .returned (.int .i64 0) ∧ Below Z.heap.size Z w') := fun Z hZ => by
    obtain ⟨F, f1⟩ := O.out
    have := C.len (C.later f1 hZ)
    simpa using this
  have hbl : 21 ≤ b0.length := by rw [← hb0, savB_hd, List.length_append, hdP_len]; omega
  have hbu : b0.length ≤ 3400000000 := by
    obtain ⟨F, f1, _⟩ := X.out.tc
    rw [← hb0]; exact savB_le2 (C.ok f1)
  obtain ⟨N, hN⟩ : ∃ N, b0.length = N := ⟨_, rfl⟩
  have hNu : N ≤ 3400000000 := by omega
  have HN0 : Hid (b0.length = N ∧ 21 ≤ b0.length) := ⟨hN, hbl⟩
  have k1 : (kk : Int) < (n : Int) := by have := HI.out.kl; omega
  have k2 : (0 : Int) ≤ (kk : Int) := by omega
  clear hR hb0 hbl hbu hN
  obtain ⟨bb, off, rfl, _, _, _⟩ := HI.out.cells X.out.bel
  have HCC : Hid (∀ Z, Below w.heap.size w Z → Z.cell? ⟨bb, off + kk * 4 + 2, none⟩ = some (.string (bs p)) ∧ Z.cell? ⟨bb, off + kk * 4 + 3, none⟩ = some (.string (bs t))) := fun Z hZ => by
    obtain ⟨b', off', e, _, x2, x3⟩ := HI.out.cells hZ
    injection e with e
    injection e with e1 e2
    subst e1 e2
    exact ⟨x2, x3⟩
  refine wp_seq_k fun K9 hK => ?_
  have HK : Hid _ := hK
  clear hK
  go_wp2_with fail
  refine (HSv.out _ (Below.refl _ _)).mono ?_
  rintro e w1 ⟨v1, rfl, ho1, hb1⟩
  obtain ⟨ga, ca, rfl⟩ : ∃ ga ca, v1 = .slice (some ⟨ga, 0, none⟩) N ca := by
    rcases ho1.2 with ⟨_, h0⟩ | ⟨g, cap, cur, e, _⟩
    · have := HN0.out; omega
    · exact ⟨g, cap, by rw [e, HN0.out.1]⟩
  have H1 : Hid (OwnB W.heap.size w1 (.slice (some ⟨ga, 0, none⟩) N ca) b0 ∧ Below W.heap.size W w1) := ⟨ho1, hb1⟩
  clear ho1 hb1
  go_wp2_with fail
  refine HK.out _ _ ?_
  clear HK K9
  refine wp_seq_k fun K9 hK => ?_
  have HK : Hid _ := hK
  clear hK
  go_wp2_with fail
  refine (HSv.out _ H1.out.2).mono ?_
  rintro e w2 ⟨v2, rfl, ho2, hb2⟩
  obtain ⟨gb, cb, rfl⟩ : ∃ gb cb, v2 = .slice (some ⟨gb, 0, none⟩) N cb := by
    rcases ho2.2 with ⟨_, h0⟩ | ⟨g, cap, cur, e, _⟩
    · have := HN0.out; omega
    · exact ⟨g, cap, by rw [e, HN0.out.1]⟩
  have H2 : Hid (OwnB W.heap.size w2 (.slice (some ⟨ga, 0, none⟩) N ca) b0 ∧ OwnB W.heap.size w2 (.slice (some ⟨gb, 0, none⟩) N cb) b0 ∧ ga < gb ∧ gb < w2.heap.size ∧ Below W.heap.size W w2) := by
    have h1 := (World.ownsRow.lt H1.out.1 ga rfl).2
    have h2 := World.ownsRow.lt ho2 gb rfl
    exact ⟨H1.out.1.later hb2, ho2.mono H1.out.2.size, by omega, h2.2, bstep H1.out.2 hb2⟩
  have hcv : (convert 41 9 (.slice (some ⟨ga, 0, none⟩) N ca)).run Tryz.prog w2 = .ok (.string (bs b0)) w2 := conv_bs H2.out.1.bs
  clear ho2 hb2
  go_wp2_with fail
  refine HK.out _ _ ?_
  clear HK K9
  refine wp_seq_k fun K9 hK => ?_
  have HK : Hid _ := hK
  clear hK
  go_wp2_with fail
  clear hcv
  refine HK.out _ _ ?_
  clear HK K9
  refine wp_seq_k fun K9 hK => ?_
  have HK : Hid _ := hK
  clear hK
  obtain ⟨d23, d33⟩ := HCC.out _ (bstep X.out.bel H2.out.2.2.2.2)
  have HCc3 : Hid (∀ Z, Below w2.heap.size w2 Z → Z.cell? ⟨bb, off + kk * 4 + 2, none⟩ = some (.string (bs p)) ∧ Z.cell? ⟨bb, off + kk * 4 + 3, none⟩ = some (.string (bs t))) := fun Z hZ => HCC.out Z (bstep (bstep X.out.bel H2.out.2.2.2.2) hZ)
  go_region_held3 (fun w' => w'.cell? ⟨bb, off + kk * 4 + 2, none⟩ = some (.string (bs p)) ∧ w'.cell? ⟨bb, off + kk * 4 + 3, none⟩ = some (.string (bs t))) (first | (with_reducible exact ⟨d23, d33⟩) | (with_reducible exact HCc3.out _ (Below.refl _ _).drew) | (with_reducible exact KA3.out) | go_keep) (first
    | (go_at_call 13; (with_reducible refine (HG.out _ (bstep H2.out.2.2.2.2 (Below.refl _ _).drew)).mono ?_); rintro e w3 ⟨v3, rfl, ho3, hb3⟩; have O3 : Hid (GOwn w2.heap.size w3 v3 R1 ∧ Below w2.heap.size w2 w3) := ⟨ho3.mono (Nat.le_refl _), bstep (Below.refl _ _).drew hb3⟩; have KA3 := hid_of (HCc3.out w3 O3.out.2); clear ho3 hb3))
  clear KA3 d23 d33
  refine HK.out _ _ ?_
  clear HK K9
  refine wp_seq_k fun K9 hK => ?_
  have HK : Hid _ := hK
  clear hK
  obtain ⟨d24, d34⟩ := HCC.out _ (bstep X.out.bel (bstep H2.out.2.2.2.2 O3.out.2))
  have HCc4 : Hid (∀ Z, Below w3.heap.size w3 Z → Z.cell? ⟨bb, off + kk * 4 + 2, none⟩ = some (.string (bs p)) ∧ Z.cell? ⟨bb, off + kk * 4 + 3, none⟩ = some (.string (bs t))) := fun Z hZ => HCC.out Z (bstep (bstep X.out.bel (bstep H2.out.2.2.2.2 O3.out.2)) hZ)
  go_region_held3 (fun w' => w'.cell? ⟨bb, off + kk * 4 + 2, none⟩ = some (.string (bs p)) ∧ w'.cell? ⟨bb, off + kk * 4 + 3, none⟩ = some (.string (bs t))) (first | (with_reducible exact ⟨d24, d34⟩) | (with_reducible exact HCc4.out _ (Below.refl _ _).drew) | (with_reducible exact KA4.out) | go_keep) (first
    | (go_at_call 13; (with_reducible refine (HG.out _ (bstep (bstep H2.out.2.2.2.2 O3.out.2) (Below.refl _ _).drew)).mono ?_); rintro e w4 ⟨v4, rfl, ho4, hb4⟩; have O4 : Hid (GOwn w3.heap.size w4 v4 R1 ∧ Below w3.heap.size w3 w4) := ⟨ho4.mono (Nat.le_refl _), bstep (Below.refl _ _).drew hb4⟩; have KA4 := hid_of (HCc4.out w4 O4.out.2); clear ho4 hb4))
  clear KA4 d24 d34
  refine HK.out _ _ ?_
  clear HK K9
  refine wp_seq_k fun K9 hK => ?_
  have HK : Hid _ := hK
  clear hK
  have H4 : Hid (Below W.heap.size W w4 ∧ Below w2.heap.size w2 w4 ∧ FQ0 CA w w4 W.heap.size c K vw A) := ⟨bstep H2.out.2.2.2.2 (bstep O3.out.2 O4.out.2), bstep O3.out.2 O4.out.2, X.out.later C (bstep H2.out.2.2.2.2 (bstep O3.out.2 O4.out.2))⟩
  have hcv2 : (convert 41 9 (.slice (some ⟨gb, 0, none⟩) N cb)).run Tryz.prog w4 = .ok (.string (bs b0)) w4 := conv_bs (H2.out.2.1.bs.later H4.out.2.1)
  have q1 : ((bs b0).toList == (bs b0).toList) = true := by simp
  have HGd : Hid (TBd R1) := by
    have h1 := HR.out
    unfold gtK at h1
    by_cases hk : (⟨p, t⟩ : Lb) ∈ K
    · rw [if_pos hk] at h1
      injection h1 with h1 _
      rw [← h1]; exact prsM_tbd _ _
    · rw [if_neg hk] at h1
      injection h1 with h1 _
      rw [← h1]; exact ⟨by simp, by simp⟩
  obtain ⟨x0, g1, g2, g3⟩ := O3.out.1.it
  obtain ⟨x1, g4, g5, g6⟩ := O4.out.1.it
  have HF : Hid (∀ W5, Below w4.heap.size w4 W5 → FQ0 CA w W5 W.heap.size c K vw A ∧ G2 W5 w2.heap.size w3.heap.size v3 v4 x0 x1 R1 ∧ (∀ u ∈ v4 :: x1.flatMap Tv.vals, ∀ k, u.ownBlock = some k → k < w4.heap.size) ∧ (W.heap.size ≤ w2.heap.size ∧ w3.heap.size ≤ w4.heap.size ∧ w4.heap.size ≤ W5.heap.size) ∧ OwnB W.heap.size W5 (.slice (some ⟨ga, 0, none⟩) N ca) b0 ∧ OwnB W.heap.size W5 (.slice (some ⟨gb, 0, none⟩) N cb) b0) := fun W5 h5 => by
    have hb34 := O4.out.2
    have hb45 := bstep hb34 h5
    refine ⟨H4.out.2.2.later C h5, ⟨row_later g1 hb45, g2.later hb45, g3, ?_, row_later g4 h5, g5.later h5, g6, O3.out.2.size, Nat.le_trans hb34.size h5.size, HGd.out.len, fun x hx => by have := HGd.out.each x hx; exact ⟨this.1, this.2.1, this.2.2.1⟩⟩, ?_, ⟨H2.out.2.2.2.2.size, hb34.size, h5.size⟩, row_later H2.out.1 (bstep H4.out.2.1 h5), row_later H2.out.2.1 (bstep H4.out.2.1 h5)⟩
    · intro u hu k hk
      rcases List.mem_cons.1 hu with rfl | hu
      · exact (g1.lt hk).2
      · obtain ⟨x, hx, hu⟩ := mem_vals hu
        exact (g2.lt x hx u hu k hk).2
    · intro u hu k hk
      rcases List.mem_cons.1 hu with rfl | hu
      · exact (g4.lt hk).2
      · obtain ⟨x, hx, hu⟩ := mem_vals hu
        exact (g5.lt x hx u hu k hk).2
  have HRd : Hid (GR w4 v3 R1 ∧ GR w4 v4 R1) := ⟨(O3.out.1.read).later O4.out.2, O4.out.1.read⟩
  clear g1 g2 g3 g4 g5 g6
  cases R3 with
  | false =>
    go_wp2_with fail
    refine (HLo.out _ H4.out.1).mono ?_
    rintro e w5 ⟨rfl, hb5⟩
    have H5 : Hid (Below w4.heap.size w4 w5) := hb5
    clear hb5
    go_wp2_with fail
    refine HK.out _ _ ?_
    obtain ⟨f1, f2, f3, f4, f5, f6⟩ := HF.out w5 H5.out
    exact c18 C HI HE ⟨HB0.out.symm, HP.out, by rw [HR.out]⟩ f1 f2 f3 f4 ⟨f5, f6, H2.out.2.2.1, H2.out.2.2.2.1⟩ HN0.out.1 hNu
  | true =>
    have hin : (⟨p, t⟩ : Lb) ∈ K := by
      have h1 := HR.out
      unfold gtK at h1
      by_cases hk : (⟨p, t⟩ : Lb) ∈ K
      · exact hk
      · rw [if_neg hk] at h1; injection h1 with _ h1; injection h1 with _ h1; cases h1
    have hR1 : R1 = A ∧ R2 = ze := by
      have h1 := HR.out
      unfold gtK at h1
      rw [if_pos hin, HP.out] at h1
      injection h1 with h1 h2
      injection h2 with h2 _
      exact ⟨h1.symm, h2.symm⟩
    obtain ⟨rfl, rfl⟩ := hR1
    have hbd := HGd.out
    have hsm : GSm R1 := ⟨by have := hbd.len; omega, fun x hx => by have := hbd.each x hx; omega⟩
    have HSm : Hid (∀ Z, Below w4.heap.size w4 Z → (Calls Tryz.prog 16 #[v3, vw] Z fun e w' => e = .returned (.bool true) ∧ ∃ m, w' = Z.drewN m) ∧ (Calls Tryz.prog 16 #[v4, vw] Z fun e w' => e = .returned (.bool true) ∧ ∃ m, w' = Z.drewN m)) := fun Z hZ => by
      have h1 := same_any (HRd.out.1.later hZ) (H4.out.2.2.wt.read.later hZ) hsm hsm
      have h2 := same_any (HRd.out.2.later hZ) (H4.out.2.2.wt.read.later hZ) hsm hsm
      rw [decide_eq_true rfl] at h1 h2
      exact ⟨h1, h2⟩
    have q2 : (R2 == R2) = true := by simp
    clear hin hbd hsm
    go_wp2_with fail
    refine (HLo.out _ H4.out.1).mono ?_
    rintro e w5 ⟨rfl, hb5⟩
    have H5 : Hid (Below w4.heap.size w4 w5) := hb5
    clear hb5
    go_wp2_with fail
    refine ((HSm.out _ H5.out).1).mono ?_
    rintro e w6 ⟨rfl, m6, hm6⟩
    have H6 : Hid (Below w4.heap.size w4 w6) := by rw [hm6]; exact bstep H5.out (bd _ _)
    clear hm6
    go_wp2_with fail
    refine ((HSm.out _ H6.out).2).mono ?_
    rintro e w7 ⟨rfl, m7, hm7⟩
    have H7 : Hid (Below w4.heap.size w4 w7) := by rw [hm7]; exact bstep H6.out (bd _ _)
    clear hm7
    go_wp2_with fail
    refine HK.out _ _ ?_
    obtain ⟨f1, f2, f3, f4, f5, f6⟩ := HF.out w7 H7.out
    exact c18 C HI HE ⟨HB0.out.symm, HP.out, by rw [HR.out]⟩ f1 f2 f3 f4 ⟨f5, f6, H2.out.2.2.1, H2.out.2.2.2.1⟩ HN0.out.1 hNu
end Go.Proofs.YtddaoloabfkheaaGreatDoor
