/-
  The law CacheFresh: its end.
  The law CacheFresh: targets are spoiled; the bytes' marks are looked at.
-/
import Derived.Test.YtddaoloabfkheaaGreatDoorJFb
import Derived.Deep.DeepCutAuto
namespace Go.Proofs.YtddaoloabfkheaaGreatDoor
open Go.RowKit
attribute [local go_sem] Oper.semAt_some

/-- what came in, and the key that is asked for -/
structure FIn (w : World) (av : Option Addr) (n cv : Nat) (L : List Stp) (kk : Nat) (p t : List UInt8) : Prop where
  ts : TS4 w (.slice av n cv) L
  len : L.length = n
  kl : kk < n
  pl : p.length ≤ 1000000000
  tl : t.length ≤ 1000000000
  it : ∃ h : kk < L.length, L[kk].p = p ∧ L[kk].t = t
theorem FIn.cells {w W : World} {av : Option Addr} {n cv : Nat} {L : List Stp} {kk : Nat} {p t : List UInt8} (h : FIn w av n cv L kk p t) (hb : Below w.heap.size w W) : ∃ b off, av = some ⟨b, off, none⟩ ∧ b < w.heap.size ∧ W.cell? ⟨b, off + kk * 4 + 2, none⟩ = some (.string (bs p)) ∧ W.cell? ⟨b, off + kk * 4 + 3, none⟩ = some (.string (bs t)) := by
  obtain ⟨hk, e1, e2⟩ := h.it
  obtain ⟨b, off, ea, hbw, _, _, d2, d3⟩ := TS4.at h.ts hb hk
  rw [e1] at d2
  rw [e2] at d3
  exact ⟨b, off, ea, hbw, d2, d3⟩
/-- the two caches, and what the text says -/
structure FQ (CA : World → (Nat → Prop) → Nat → List Lb → Prop) (w W : World) (Ma Mr c d : Nat) (K : List Lb) (vw : Value) (A : List Tg) : Prop where
  bel : Below w.heap.size w W
  tc : ∃ F, CA W F c K ∧ ∀ k, F k → w.heap.size ≤ k ∧ k < Ma
  wt : GMt W (fun k => w.heap.size ≤ k ∧ k < Ma) vw A
  td : ∃ F, CA W F d K ∧ ∀ k, F k → Mr ≤ k
  am : Ma ≤ Mr
  ma : w.heap.size ≤ Ma
  mw : Ma ≤ W.heap.size
theorem FQ.stay {CA : World → (Nat → Prop) → Nat → List Lb → Prop} (C : CcP CA) {w W W' : World} {Ma Mr c d : Nat} {K : List Lb} {vw : Value} {A : List Tg} (h : FQ CA w W Ma Mr c d K vw A) (hz : W.heap.size ≤ W'.heap.size) (hb : Below w.heap.size w W') (hs : ∀ k, k < W.heap.size → k < Ma ∨ Mr ≤ k → W'.heap[k]? = W.heap[k]?) : FQ CA w W' Ma Mr c d K vw A := by
  obtain ⟨F, f1, f2⟩ := h.tc
  obtain ⟨G, g1, g2⟩ := h.td
  have hmw := h.mw
  exact ⟨hb, ⟨F, C.stay f1 hz (fun k hk => hs k (C.lt f1 k hk) (.inl (f2 k hk).2)), f2⟩, h.wt.stay hz (fun k hk => hs k (by omega) (.inl hk.2)), ⟨G, C.stay g1 hz (fun k hk => hs k (C.lt g1 k hk) (.inr (g2 k hk))), g2⟩, h.am, h.ma, Nat.le_trans hmw hz⟩
theorem FQ.later {CA : World → (Nat → Prop) → Nat → List Lb → Prop} (C : CcP CA) {w W W' : World} {Ma Mr c d : Nat} {K : List Lb} {vw : Value} {A : List Tg} (h : FQ CA w W Ma Mr c d K vw A) (hb : Below W.heap.size W W') : FQ CA w W' Ma Mr c d K vw A :=
  h.stay C hb.size (bstep h.bel hb) (fun k hk _ => hb.block k hk)
theorem FQ.csave {CA : World → (Nat → Prop) → Nat → List Lb → Prop} (C : CcP CA) {w W : World} {Ma Mr c d : Nat} {K : List Lb} {vw : Value} {A : List Tg} (h : FQ CA w W Ma Mr c d K vw A) (E : Ev W) : Calls Tryz.prog 14 #[.pointer (some ⟨c, 0, none⟩)] W fun e w' => ∃ v', e = .returned v' ∧ OwnB W.heap.size w' v' (savB K) ∧ Below W.heap.size W w' := by
  obtain ⟨F, f1, _⟩ := h.tc
  exact C.save f1 E
theorem FQ.dsave {CA : World → (Nat → Prop) → Nat → List Lb → Prop} (C : CcP CA) {w W : World} {Ma Mr c d : Nat} {K : List Lb} {vw : Value} {A : List Tg} (h : FQ CA w W Ma Mr c d K vw A) (E : Ev W) : Calls Tryz.prog 14 #[.pointer (some ⟨d, 0, none⟩)] W fun e w' => ∃ v', e = .returned v' ∧ OwnB W.heap.size w' v' (savB K) ∧ Below W.heap.size W w' := by
  obtain ⟨F, f1, _⟩ := h.td
  exact C.save f1 E
theorem FQ.dget {CA : World → (Nat → Prop) → Nat → List Lb → Prop} (C : CcP CA) {w W : World} {Ma Mr c d : Nat} {K : List Lb} {vw : Value} {A : List Tg} (h : FQ CA w W Ma Mr c d K vw A) (E : Ev W) (p t : List UInt8) (hp : p.length ≤ 1000000000) (ht : t.length ≤ 1000000000) : Calls Tryz.prog 13 #[.pointer (some ⟨d, 0, none⟩), .string (bs p), .string (bs t)] W (LsG W (gtK K p t)) := by
  obtain ⟨F, f1, _⟩ := h.td
  exact C.get f1 E p t hp ht
set_option maxRecDepth 100000 in
set_option maxHeartbeats 16000000 in
theorem c45 {CA : World → (Nat → Prop) → Nat → List Lb → Prop} (C : CcP CA) {w W : World} {av : Option Addr} {n cv kk c d Ma Mr : Nat} {L : List Stp} {p t b0 : List UInt8} {K : List Lb} {vw : Value} {A : List Tg} {ze : Int} {is : Bool} {lv1 lv2 lv3 lv4 lv6 lv7 lv11 lv12 lv14 lv15 lv17 lv18 lv19 lv20 lv22 lv23 lv24 lv25 lv26 lv27 lv28 lv29 lv30 lv31 lv32 lv33 lv34 lv35 lv36 lv37 lv38 lv39 lv40 lv41 lv42 lv43 lv44 lv45 lv46 lv47 lv48 lv49 lv50 lv51 lv52 lv53 lv54 lv55 lv56 lv57 lv58 lv59 lv60 lv61 lv62 lv63 lv64 lv65 lv66 lv67 lv68 lv69 lv70 lv71 lv72 lv73 lv74 lv75 lv76 lv77 lv78 lv79 lv80 lv81 lv82 lv83 lv84 lv85 lv86 lv87 lv88 lv89 lv90 lv91 lv92 lv93 lv94 lv95 lv96 lv97 lv98 lv99 lv100 lv101 lv102 lv103 lv104 lv105 lv106 lv107 lv108 lv109 lv110 lv111 lv112 lv113 lv114 lv115 lv116 lv117 lv118 lv119 lv120 lv121 lv122 lv123 lv124 lv125 lv126 lv127 lv128 lv129 lv130 lv131 lv132 lv133 lv134 lv135 lv136 lv137 lv138 lv139 lv140 lv141 lv142 lv143 lv144 lv145 lv146 lv147 lv148 lv149 lv150 lv151 lv152 lv153 lv154 lv155 lv156 lv157 lv158 lv159 lv160 lv161 lv162 lv163 lv164 lv165 lv166 lv167 lv168 lv169 lv170 lv171 lv172 lv173 lv174 lv175 lv176 lv177 lv178 lv179 lv180 lv181 lv182 lv183 lv184 lv185 lv186 lv187 lv188 lv189 lv190 lv191 lv192 lv193 lv194 lv195 lv196 lv197 lv198 lv199 lv200 lv201 lv202 lv203 lv204 lv205 lv206 lv207 lv208 lv209 lv210 lv211 lv212 lv213 lv214 lv215 lv216 lv217 lv218 lv219 lv220 lv221 lv222 lv223 lv224 lv225 lv226 lv227 lv228 lv229 lv230 lv231 lv232 lv233 lv234 lv235 lv236 lv237 lv238 lv239 lv240 lv241 lv242 lv243 lv244 lv245 lv246 lv247 lv248 lv249 lv250 lv251 lv252 lv253 lv254 lv255 lv256 lv257 lv258 lv259 lv260 lv261 lv262 lv263 lv264 lv265 lv266 lv267 lv268 lv269 lv270 lv271 lv272 lv273 lv274 lv275 lv276 lv277 lv278 lv279 lv280 lv281 lv282 lv283 lv284 lv285 lv286 lv287 lv288 lv289 lv290 lv291 lv292 lv293 lv294 lv295 lv296 lv297 lv298 lv299 lv300 lv301 lv302 lv303 lv304 lv305 lv306 lv307 lv308 lv309 lv310 lv311 lv312 lv313 lv314 lv315 lv316 lv317 : Value} (HI : Hid (FIn w av n cv L kk p t)) (HE : Hid (Ev w)) (HV : Hid (b0 = savB K ∧ prsM (dir p) t = (A, ze) ∧ is = (gtK K p t).2.2)) (X : Hid (FQ CA w W Ma Mr c d K vw A)) :
    Code.wp Tryz.prog (suff 45 (Tryz.f5.body.getD .skip)) (bodyPost Tryz.prog Tryz.f5 (Good w)) ⟨#[.slice av n cv, lv1, lv2, lv3, lv4, .pointer (some ⟨c, 0, none⟩), lv6, lv7, .int .i64 (kk : Int), vw, .int .i64 ze, lv11, lv12, .string (bs b0), lv14, lv15, .bool is, lv17, lv18, lv19, lv20, .pointer (some ⟨d, 0, none⟩), lv22, lv23, lv24, lv25, lv26, lv27, lv28, lv29, lv30, lv31, lv32, lv33, lv34, lv35, lv36, lv37, lv38, lv39, lv40, lv41, lv42, lv43, lv44, lv45, lv46, lv47, lv48, lv49, lv50, lv51, lv52, lv53, lv54, lv55, lv56, lv57, lv58, lv59, lv60, lv61, lv62, lv63, lv64, lv65, lv66, lv67, lv68, lv69, lv70, lv71, lv72, lv73, lv74, lv75, lv76, lv77, lv78, lv79, lv80, lv81, lv82, lv83, lv84, lv85, lv86, lv87, lv88, lv89, lv90, lv91, lv92, lv93, lv94, lv95, lv96, lv97, lv98, lv99, lv100, lv101, lv102, lv103, lv104, lv105, lv106, lv107, lv108, lv109, lv110, lv111, lv112, lv113, lv114, lv115, lv116, lv117, lv118, lv119, lv120, lv121, lv122, lv123, lv124, lv125, lv126, lv127, lv128, lv129, lv130, lv131, lv132, lv133, lv134, lv135, lv136, lv137, lv138, lv139, lv140, lv141, lv142, lv143, lv144, lv145, lv146, lv147, lv148, lv149, lv150, lv151, lv152, lv153, lv154, lv155, lv156, lv157, lv158, lv159, lv160, lv161, lv162, lv163, lv164, lv165, lv166, lv167, lv168, lv169, lv170, lv171, lv172, lv173, lv174, lv175, lv176, lv177, lv178, lv179, lv180, lv181, lv182, lv183, lv184, lv185, lv186, lv187, lv188, lv189, lv190, lv191, lv192, lv193, lv194, lv195, lv196, lv197, lv198, lv199, lv200, lv201, lv202, lv203, lv204, lv205, lv206, lv207, lv208, lv209, lv210, lv211, lv212, lv213, lv214, lv215, lv216, lv217, lv218, lv219, lv220, lv221, lv222, lv223, lv224, lv225, lv226, lv227, lv228, lv229, lv230, lv231, lv232, lv233, lv234, lv235, lv236, lv237, lv238, lv239, lv240, lv241, lv242, lv243, lv244, lv245, lv246, lv247, lv248, lv249, lv250, lv251, lv252, lv253, lv254, lv255, lv256, lv257, lv258, lv259, lv260, lv261, lv262, lv263, lv264, lv265, lv266, lv267, lv268, lv269, lv270, lv271, lv272, lv273, lv274, lv275, lv276, lv277, lv278, lv279, lv280, lv281, lv282, lv283, lv284, lv285, lv286, lv287, lv288, lv289, lv290, lv291, lv292, lv293, lv294, lv295, lv296, lv297, lv298, lv299, lv300, lv301, lv302, lv303, lv304, lv305, lv306, lv307, lv308, lv309, lv310, lv311, lv312, lv313, lv314, lv315, lv316, lv317], []⟩ W := by
  conv => arg 2; whnf
  have HCv : Hid (∀ Z v, OwnB Z.heap.size Z v (savB K) → True) := fun _ _ _ => trivial
  clear HCv
  obtain ⟨hb0, hAz, his⟩ := HV.out
  have q1 : ((bs b0).toList == (bs b0).toList) = true := by simp
  have HSc : Hid (Calls Tryz.prog 14 #[.pointer (some ⟨c, 0, none⟩)] W fun e w' => ∃ v', e = .returned v' ∧ OwnB W.heap.size w' v' b0 ∧ Below W.heap.size W w') := by
    show Calls _ _ _ _ _
    rw [hb0]; exact X.out.csave C (HE.out.later X.out.bel)
  have HSd : Hid (∀ Z, Below W.heap.size W Z → Calls Tryz.prog 14 #[.pointer (some ⟨d, 0, none⟩)] Z fun e w' => ∃ v', e = .returned v' ∧ OwnB Z.heap.size w' v' b0 ∧ Below Z.heap.size Z w') := fun Z hZ => by
    rw [hb0]; exact (X.out.later C hZ).dsave C (HE.out.later (bstep X.out.bel hZ))
  clear hb0 hAz his
  refine wp_seq_k fun K9 hK => ?_
  have HK : Hid _ := hK
  clear hK
  go_wp2_with fail
  refine HSc.out.mono ?_
  rintro e w1 ⟨v1, rfl, ho1, hb1⟩
  have hv1 : (convert 41 9 v1).run Tryz.prog w1 = .ok (.string (bs b0)) w1 := conv_bs ho1.bs
  have H1 : Hid (Below W.heap.size W w1) := hb1
  clear ho1 hb1
  go_wp2_with fail
  refine (HSd.out _ H1.out).mono ?_
  rintro e w2 ⟨v2, rfl, ho2, hb2⟩
  have hv2 : (convert 41 9 v2).run Tryz.prog w2 = .ok (.string (bs b0)) w2 := conv_bs ho2.bs
  have H2 : Hid (Below W.heap.size W w2) := bstep H1.out hb2
  clear ho2 hb2
  go_wp2_with fail
  refine HK.out _ _ ?_
  clear HK K9
  refine wp_seq_k fun K9 hK => ?_
  have HK : Hid _ := hK
  clear hK
  obtain ⟨b, off, rfl, hbw, d2, d3⟩ := HI.out.cells (bstep X.out.bel H2.out)
  have HCc : Hid (∀ Z, Below w2.heap.size w2 Z → Z.cell? ⟨b, off + kk * 4 + 2, none⟩ = some (.string (bs p)) ∧ Z.cell? ⟨b, off + kk * 4 + 3, none⟩ = some (.string (bs t))) := fun Z hZ => by
    obtain ⟨b', off', e, _, x2, x3⟩ := HI.out.cells (bstep (bstep X.out.bel H2.out) hZ)
    injection e with e
    injection e with e1 e2
    subst e1 e2
    exact ⟨x2, x3⟩
  have HG : Hid (∀ Z, Below W.heap.size W Z → Calls Tryz.prog 13 #[.pointer (some ⟨d, 0, none⟩), .string (bs p), .string (bs t)] Z (LsG Z (gtK K p t))) := fun Z hZ => (X.out.later C hZ).dget C (HE.out.later (bstep X.out.bel hZ)) p t HI.out.pl HI.out.tl
  obtain ⟨⟨R1, R2, R3⟩, hR⟩ : ∃ R, gtK K p t = R := ⟨_, rfl⟩
  rw [hR] at HG
  have HR : Hid (gtK K p t = (R1, R2, R3)) := hR
  have k1 : (kk : Int) < (n : Int) := by have := HI.out.kl; omega
  have k2 : (0 : Int) ≤ (kk : Int) := by omega
  clear hR
  go_region_held3 (fun w' => w'.cell? ⟨b, off + kk * 4 + 2, none⟩ = some (.string (bs p)) ∧ w'.cell? ⟨b, off + kk * 4 + 3, none⟩ = some (.string (bs t))) (first | (with_reducible exact ⟨d2, d3⟩) | (with_reducible exact HCc.out _ (Below.refl _ _).drew) | (with_reducible exact KA.out) | go_keep) (first
    | (go_at_call 13; (with_reducible refine (HG.out _ (bstep H2.out (Below.refl _ _).drew)).mono ?_); rintro e w3 ⟨v3, rfl, ho3, hb3⟩; have O3 : Hid (GR w3 v3 R1 ∧ Below w2.heap.size w2 w3) := ⟨ho3.read, bstep (Below.refl _ _).drew hb3⟩; have KA := hid_of (HCc.out w3 O3.out.2); clear ho3 hb3))
  clear KA d2 d3
  refine HK.out _ _ ?_
  clear HK K9
  have H3 : Hid (Below w.heap.size w w3 ∧ GR w3 vw A) := ⟨bstep (bstep X.out.bel H2.out) O3.out.2, (X.out.later C (bstep H2.out O3.out.2)).wt.read⟩
  obtain rfl : is = R3 := by rw [HV.out.2.2, HR.out]
  cases is with
  | false =>
    go_wp2_with fail
    go_ret
    exact ⟨rfl, H3.out.1⟩
  | true =>
    have hin : (⟨p, t⟩ : Lb) ∈ K := by
      have h1 := HR.out
      unfold gtK at h1
      by_cases hk : (⟨p, t⟩ : Lb) ∈ K
      · exact hk
      · rw [if_neg hk] at h1; injection h1 with _ h1; injection h1 with _ h1; cases h1
    have hR1 : R1 = A ∧ R2 = ze := by
      have h1 := HR.out
      unfold gtK at h1
      rw [if_pos hin, HV.out.2.1] at h1
      injection h1 with h1 h2
      injection h2 with h2 _
      exact ⟨h1.symm, h2.symm⟩
    obtain ⟨rfl, rfl⟩ := hR1
    have hbd : TBd R1 := by
      have := prsM_tbd (dir p) t
      rw [HV.out.2.1] at this
      exact this
    have hsm : GSm R1 := ⟨by have := hbd.len; omega, fun x hx => by have := hbd.each x hx; omega⟩
    have HSm : Hid (Calls Tryz.prog 16 #[v3, vw] w3 fun e w' => e = .returned (.bool true) ∧ ∃ m, w' = w3.drewN m) := by
      have := same_any O3.out.1 H3.out.2 hsm hsm
      rw [decide_eq_true rfl] at this
      exact this
    have q2 : (R2 == R2) = true := by simp
    clear hin hbd hsm
    go_wp2_with fail
    refine HSm.out.mono ?_
    rintro e w4 ⟨rfl, m4, rfl⟩
    go_wp2_with fail
    go_ret
    exact ⟨rfl, bstep H3.out.1 (bd _ _)⟩
end Go.Proofs.YtddaoloabfkheaaGreatDoor

namespace Go.Proofs.YtddaoloabfkheaaGreatDoor
open Go.RowKit
attribute [local go_sem] Oper.semAt_some

theorem bs_rep {W : World} {a : Option Addr} {n c : Nat} {y : UInt8} (h : BS W (.slice a n c) (List.replicate n y)) {k : Nat} (hk : k < n) : ∃ b off, a = some ⟨b, off, none⟩ ∧ W.cell? ⟨b, off + k, none⟩ = some (.int .u8 (y.toNat : Int)) := by
  rcases h with ⟨⟨a', c', e⟩, h0⟩ | ⟨b, off, cap, e, hc, hlt, hcell⟩
  · have := congrArg List.length h0
    simp at this
    omega
  · injection e with e1 _ _
    exact ⟨b, off, e1, hcell k _ (by rw [bc_get, List.getElem?_replicate, if_pos hk]; rfl)⟩
set_option maxRecDepth 100000 in
set_option maxHeartbeats 16000000 in
theorem c43 {CA : World → (Nat → Prop) → Nat → List Lb → Prop} (C : CcP CA) {w W : World} {av : Option Addr} {n cv kk c d Ma Mr Bl ml Mm : Nat} {L : List Stp} {p t b0 : List UInt8} {K : List Lb} {vw v14 v17 : Value} {a0 a1 : List Tv} {G : List Tg} {A : List Tg} {ze : Int} {is : Bool} {lv1 lv2 lv3 lv4 lv6 lv7 lv11 lv12 lv15 lv18 lv19 lv20 lv22 lv23 lv24 lv25 lv26 lv27 lv28 lv29 lv30 lv31 lv32 lv33 lv34 lv35 lv36 lv37 lv38 lv39 lv40 lv41 lv42 lv43 lv44 lv45 lv46 lv47 lv48 lv49 lv50 lv51 lv52 lv53 lv54 lv55 lv56 lv57 lv58 lv59 lv60 lv61 lv62 lv63 lv64 lv65 lv66 lv67 lv68 lv69 lv70 lv71 lv72 lv73 lv74 lv75 lv76 lv77 lv78 lv79 lv80 lv81 lv82 lv83 lv84 lv85 lv86 lv87 lv88 lv89 lv90 lv91 lv92 lv93 lv94 lv95 lv96 lv97 lv98 lv99 lv100 lv101 lv102 lv103 lv104 lv105 lv106 lv107 lv108 lv109 lv110 lv111 lv112 lv113 lv114 lv115 lv116 lv117 lv118 lv119 lv120 lv121 lv122 lv123 lv124 lv125 lv126 lv127 lv128 lv129 lv130 lv131 lv132 lv133 lv134 lv135 lv136 lv137 lv138 lv139 lv140 lv141 lv142 lv143 lv144 lv145 lv146 lv147 lv148 lv149 lv150 lv151 lv152 lv153 lv154 lv155 lv156 lv157 lv158 lv159 lv160 lv161 lv162 lv163 lv164 lv165 lv166 lv167 lv168 lv169 lv170 lv171 lv172 lv173 lv174 lv175 lv176 lv177 lv178 lv179 lv180 lv181 lv182 lv183 lv184 lv185 lv186 lv187 lv188 lv189 lv190 lv191 lv192 lv193 lv194 lv195 lv196 lv197 lv198 lv199 lv200 lv201 lv202 lv203 lv204 lv205 lv206 lv207 lv208 lv209 lv210 lv211 lv212 lv213 lv214 lv215 lv216 lv217 lv218 lv219 lv220 lv221 lv222 lv223 lv224 lv225 lv226 lv227 lv228 lv229 lv230 lv231 lv232 lv233 lv234 lv235 lv236 lv237 lv238 lv239 lv240 lv241 lv242 lv243 lv244 lv245 lv246 lv247 lv248 lv249 lv250 lv251 lv252 lv253 lv254 lv255 lv256 lv257 lv258 lv259 lv260 lv261 lv262 lv263 lv264 lv265 lv266 lv267 lv268 lv269 lv270 lv271 lv272 lv273 lv274 lv275 lv276 lv277 lv278 lv279 lv280 lv281 lv282 lv283 lv284 lv285 lv286 lv287 lv288 lv289 lv290 lv291 lv292 lv293 lv294 lv295 lv296 lv297 lv298 lv299 lv300 lv301 lv302 lv303 lv304 lv305 lv306 lv307 lv308 lv309 lv310 lv311 lv312 lv313 lv314 lv315 lv316 lv317 : Value} (HI : Hid (FIn w av n cv L kk p t)) (HE : Hid (Ev w)) (HV : Hid (b0 = savB K ∧ prsM (dir p) t = (A, ze) ∧ is = (gtK K p t).2.2)) (X : Hid (FQ CA w W Ma Mr c d K vw A)) (Y : Hid (G2 W Bl ml v14 v17 a0 a1 G)) (HM : Hid (∀ u ∈ v17 :: a1.flatMap Tv.vals, ∀ k, u.ownBlock = some k → k < Mm)) (HN : Hid (Ma ≤ Bl ∧ ml ≤ Mm ∧ Mm ≤ Mr)) :
    Code.wp Tryz.prog (suff 43 (Tryz.f5.body.getD .skip)) (bodyPost Tryz.prog Tryz.f5 (Good w)) ⟨#[.slice av n cv, lv1, lv2, lv3, lv4, .pointer (some ⟨c, 0, none⟩), lv6, lv7, .int .i64 (kk : Int), vw, .int .i64 ze, lv11, lv12, .string (bs b0), v14, lv15, .bool is, v17, lv18, lv19, lv20, .pointer (some ⟨d, 0, none⟩), lv22, lv23, lv24, lv25, lv26, lv27, lv28, lv29, lv30, lv31, lv32, lv33, lv34, lv35, lv36, lv37, lv38, lv39, lv40, lv41, lv42, lv43, lv44, lv45, lv46, lv47, lv48, lv49, lv50, lv51, lv52, lv53, lv54, lv55, lv56, lv57, lv58, lv59, lv60, lv61, lv62, lv63, lv64, lv65, lv66, lv67, lv68, lv69, lv70, lv71, lv72, lv73, lv74, lv75, lv76, lv77, lv78, lv79, lv80, lv81, lv82, lv83, lv84, lv85, lv86, lv87, lv88, lv89, lv90, lv91, lv92, lv93, lv94, lv95, lv96, lv97, lv98, lv99, lv100, lv101, lv102, lv103, lv104, lv105, lv106, lv107, lv108, lv109, lv110, lv111, lv112, lv113, lv114, lv115, lv116, lv117, lv118, lv119, lv120, lv121, lv122, lv123, lv124, lv125, lv126, lv127, lv128, lv129, lv130, lv131, lv132, lv133, lv134, lv135, lv136, lv137, lv138, lv139, lv140, lv141, lv142, lv143, lv144, lv145, lv146, lv147, lv148, lv149, lv150, lv151, lv152, lv153, lv154, lv155, lv156, lv157, lv158, lv159, lv160, lv161, lv162, lv163, lv164, lv165, lv166, lv167, lv168, lv169, lv170, lv171, lv172, lv173, lv174, lv175, lv176, lv177, lv178, lv179, lv180, lv181, lv182, lv183, lv184, lv185, lv186, lv187, lv188, lv189, lv190, lv191, lv192, lv193, lv194, lv195, lv196, lv197, lv198, lv199, lv200, lv201, lv202, lv203, lv204, lv205, lv206, lv207, lv208, lv209, lv210, lv211, lv212, lv213, lv214, lv215, lv216, lv217, lv218, lv219, lv220, lv221, lv222, lv223, lv224, lv225, lv226, lv227, lv228, lv229, lv230, lv231, lv232, lv233, lv234, lv235, lv236, lv237, lv238, lv239, lv240, lv241, lv242, lv243, lv244, lv245, lv246, lv247, lv248, lv249, lv250, lv251, lv252, lv253, lv254, lv255, lv256, lv257, lv258, lv259, lv260, lv261, lv262, lv263, lv264, lv265, lv266, lv267, lv268, lv269, lv270, lv271, lv272, lv273, lv274, lv275, lv276, lv277, lv278, lv279, lv280, lv281, lv282, lv283, lv284, lv285, lv286, lv287, lv288, lv289, lv290, lv291, lv292, lv293, lv294, lv295, lv296, lv297, lv298, lv299, lv300, lv301, lv302, lv303, lv304, lv305, lv306, lv307, lv308, lv309, lv310, lv311, lv312, lv313, lv314, lv315, lv316, lv317], []⟩ W := by
  conv => arg 2; whnf
  have HS := spoiled19_any Y HM HN.out.2.1
  have HS2 : Hid (Calls Tryz.prog 19 #[v14, v17] W fun e w' => e = .returned (.bool true) ∧ Below Bl W w' ∧ ∀ g, g < W.heap.size → Mm ≤ g → w'.heap[g]? = W.heap[g]?) := HS
  clear HS
  refine wp_seq_k fun K9 hK => ?_
  have HK : Hid _ := hK
  clear hK
  go_wp2_with fail
  refine HS2.out.mono ?_
  rintro e w1 ⟨rfl, hb1, hk1⟩
  have H1 : Hid (FQ CA w w1 Ma Mr c d K vw A) := by
    obtain ⟨h1, h2, h3⟩ := HN.out
    have hma := X.out.ma
    refine X.out.stay C hb1.size (below_trans X.out.bel (hb1.mono (by omega))) (fun k hk hor => ?_)
    rcases hor with hor | hor
    · exact hb1.block k (by omega)
    · exact hk1 k hk (by omega)
  clear hb1 hk1
  go_wp2_with fail
  refine HK.out _ _ ?_
  clear HK K9
  exact c45 C HI HE HV H1
set_option maxRecDepth 100000 in
set_option maxHeartbeats 16000000 in
theorem c38 {CA : World → (Nat → Prop) → Nat → List Lb → Prop} (C : CcP CA) {w W : World} {av aa ab ap aq : Option Addr} {n cv kk c d N np ca cb cp cq Ma Mr Bl ml Mm : Nat} {L : List Stp} {p t b0 : List UInt8} {K : List Lb} {vw v14 v17 : Value} {a0 a1 : List Tv} {G : List Tg} {A : List Tg} {ze : Int} {is : Bool} {lv1 lv2 lv3 lv4 lv6 lv7 lv15 lv18 lv19 lv20 lv22 lv23 lv24 lv27 lv28 lv29 lv30 lv31 lv32 lv33 lv34 lv35 lv36 lv37 lv38 lv39 lv40 lv41 lv42 lv43 lv44 lv45 lv46 lv47 lv48 lv49 lv50 lv51 lv52 lv53 lv54 lv55 lv56 lv57 lv58 lv59 lv60 lv61 lv62 lv63 lv64 lv65 lv66 lv67 lv68 lv69 lv70 lv71 lv72 lv73 lv74 lv75 lv76 lv77 lv78 lv79 lv80 lv81 lv82 lv83 lv84 lv85 lv86 lv87 lv88 lv89 lv90 lv91 lv92 lv93 lv94 lv95 lv96 lv97 lv98 lv99 lv100 lv101 lv102 lv103 lv104 lv105 lv106 lv107 lv108 lv109 lv110 lv111 lv112 lv113 lv114 lv115 lv116 lv117 lv118 lv119 lv120 lv121 lv122 lv123 lv124 lv125 lv126 lv127 lv128 lv129 lv130 lv131 lv132 lv133 lv134 lv135 lv136 lv137 lv138 lv139 lv140 lv141 lv142 lv143 lv144 lv145 lv146 lv147 lv148 lv149 lv150 lv151 lv152 lv153 lv154 lv155 lv156 lv157 lv158 lv159 lv160 lv161 lv162 lv163 lv164 lv165 lv166 lv167 lv168 lv169 lv170 lv171 lv172 lv173 lv174 lv175 lv176 lv177 lv178 lv179 lv180 lv181 lv182 lv183 lv184 lv185 lv186 lv187 lv188 lv189 lv190 lv191 lv192 lv193 lv194 lv195 lv196 lv197 lv198 lv199 lv200 lv201 lv202 lv203 lv204 lv205 lv206 lv207 lv208 lv209 lv210 lv211 lv212 lv213 lv214 lv215 lv216 lv217 lv218 lv219 lv220 lv221 lv222 lv223 lv224 lv225 lv226 lv227 lv228 lv229 lv230 lv231 lv232 lv233 lv234 lv235 lv236 lv237 lv238 lv239 lv240 lv241 lv242 lv243 lv244 lv245 lv246 lv247 lv248 lv249 lv250 lv251 lv252 lv253 lv254 lv255 lv256 lv257 lv258 lv259 lv260 lv261 lv262 lv263 lv264 lv265 lv266 lv267 lv268 lv269 lv270 lv271 lv272 lv273 lv274 lv275 lv276 lv277 lv278 lv279 lv280 lv281 lv282 lv283 lv284 lv285 lv286 lv287 lv288 lv289 lv290 lv291 lv292 lv293 lv294 lv295 lv296 lv297 lv298 lv299 lv300 lv301 lv302 lv303 lv304 lv305 lv306 lv307 lv308 lv309 lv310 lv311 lv312 lv313 lv314 lv315 lv316 lv317 : Value} (HI : Hid (FIn w av n cv L kk p t)) (HE : Hid (Ev w)) (HV : Hid (b0 = savB K ∧ prsM (dir p) t = (A, ze) ∧ is = (gtK K p t).2.2)) (X : Hid (FQ CA w W Ma Mr c d K vw A)) (Y : Hid (G2 W Bl ml v14 v17 a0 a1 G)) (HM : Hid (∀ u ∈ v17 :: a1.flatMap Tv.vals, ∀ k, u.ownBlock = some k → k < Mm)) (HN : Hid (Ma ≤ Bl ∧ ml ≤ Mm ∧ Mm ≤ Mr)) (Z : Hid (BS W (.slice aa N ca) (List.replicate N 1) ∧ BS W (.slice ab N cb) (List.replicate N 2) ∧ BS W (.slice ap np cp) (List.replicate np 1) ∧ BS W (.slice aq np cq) (List.replicate np 2))) (hnp : np ≤ 4000000000) :
    Code.wp Tryz.prog (suff 38 (Tryz.f5.body.getD .skip)) (bodyPost Tryz.prog Tryz.f5 (Good w)) ⟨#[.slice av n cv, lv1, lv2, lv3, lv4, .pointer (some ⟨c, 0, none⟩), lv6, lv7, .int .i64 (kk : Int), vw, .int .i64 ze, .slice aa N ca, .slice ab N cb, .string (bs b0), v14, lv15, .bool is, v17, lv18, lv19, lv20, .pointer (some ⟨d, 0, none⟩), lv22, lv23, lv24, .slice ap np cp, .slice aq np cq, lv27, lv28, lv29, lv30, lv31, lv32, lv33, lv34, lv35, lv36, lv37, lv38, lv39, lv40, lv41, lv42, lv43, lv44, lv45, lv46, lv47, lv48, lv49, lv50, lv51, lv52, lv53, lv54, lv55, lv56, lv57, lv58, lv59, lv60, lv61, lv62, lv63, lv64, lv65, lv66, lv67, lv68, lv69, lv70, lv71, lv72, lv73, lv74, lv75, lv76, lv77, lv78, lv79, lv80, lv81, lv82, lv83, lv84, lv85, lv86, lv87, lv88, lv89, lv90, lv91, lv92, lv93, lv94, lv95, lv96, lv97, lv98, lv99, lv100, lv101, lv102, lv103, lv104, lv105, lv106, lv107, lv108, lv109, lv110, lv111, lv112, lv113, lv114, lv115, lv116, lv117, lv118, lv119, lv120, lv121, lv122, lv123, lv124, lv125, lv126, lv127, lv128, lv129, lv130, lv131, lv132, lv133, lv134, lv135, lv136, lv137, lv138, lv139, lv140, lv141, lv142, lv143, lv144, lv145, lv146, lv147, lv148, lv149, lv150, lv151, lv152, lv153, lv154, lv155, lv156, lv157, lv158, lv159, lv160, lv161, lv162, lv163, lv164, lv165, lv166, lv167, lv168, lv169, lv170, lv171, lv172, lv173, lv174, lv175, lv176, lv177, lv178, lv179, lv180, lv181, lv182, lv183, lv184, lv185, lv186, lv187, lv188, lv189, lv190, lv191, lv192, lv193, lv194, lv195, lv196, lv197, lv198, lv199, lv200, lv201, lv202, lv203, lv204, lv205, lv206, lv207, lv208, lv209, lv210, lv211, lv212, lv213, lv214, lv215, lv216, lv217, lv218, lv219, lv220, lv221, lv222, lv223, lv224, lv225, lv226, lv227, lv228, lv229, lv230, lv231, lv232, lv233, lv234, lv235, lv236, lv237, lv238, lv239, lv240, lv241, lv242, lv243, lv244, lv245, lv246, lv247, lv248, lv249, lv250, lv251, lv252, lv253, lv254, lv255, lv256, lv257, lv258, lv259, lv260, lv261, lv262, lv263, lv264, lv265, lv266, lv267, lv268, lv269, lv270, lv271, lv272, lv273, lv274, lv275, lv276, lv277, lv278, lv279, lv280, lv281, lv282, lv283, lv284, lv285, lv286, lv287, lv288, lv289, lv290, lv291, lv292, lv293, lv294, lv295, lv296, lv297, lv298, lv299, lv300, lv301, lv302, lv303, lv304, lv305, lv306, lv307, lv308, lv309, lv310, lv311, lv312, lv313, lv314, lv315, lv316, lv317], []⟩ W := by
  conv => arg 2; whnf
  refine wp_seq_k fun K9 hK => ?_
  have HK : Hid _ := hK
  clear hK
  go_wp2_with fail
  go_loop [28] (fun i => ∃ k : Nat, k ≤ np ∧ i = .int .i64 k) (fun i => np - (intOf i).toNat)
  case atStart => exact ⟨0, Nat.zero_le _, rfl⟩
  case round =>
    obtain ⟨k, hk, rfl⟩ := hrel
    by_cases hlt : k < np
    · obtain ⟨b1, o1, rfl, y1⟩ := bs_rep Z.out.2.2.1 hlt
      obtain ⟨b2, o2, rfl, y2⟩ := bs_rep Z.out.2.2.2 hlt
      have y1' : W.cell? ⟨b1, o1 + k, none⟩ = some (.int .u8 1) := y1
      have y2' : W.cell? ⟨b2, o2 + k, none⟩ = some (.int .u8 2) := y2
      have k1 : (k : Int) < (np : Int) := by omega
      have k2 : (0 : Int) ≤ (k : Int) := by omega
      clear y1 y2
      by_cases hN : k < N
      · obtain ⟨b3, o3, rfl, y3⟩ := bs_rep Z.out.1 hN
        obtain ⟨b4, o4, rfl, y4⟩ := bs_rep Z.out.2.1 hN
        have y3' : W.cell? ⟨b3, o3 + k, none⟩ = some (.int .u8 1) := y3
        have y4' : W.cell? ⟨b4, o4 + k, none⟩ = some (.int .u8 2) := y4
        have k3 : (k : Int) < (N : Int) := by omega
        clear y3 y4
        go_wp2_with fail
        go_round
        case rel => exact ⟨k + 1, by omega, by go_num⟩
        case measure => simp [intOf]; omega
      · have k3 : ¬ (k : Int) < (N : Int) := by omega
        go_wp2_with fail
        go_round
        case rel => exact ⟨k + 1, by omega, by go_num⟩
        case measure => simp [intOf]; omega
    · obtain rfl : k = np := by omega
      have k1 : ¬ (k : Int) < (k : Int) := by omega
      go_wp2_with fail
      refine HK.out _ _ ?_
      exact c43 C HI HE HV X Y HM HN
end Go.Proofs.YtddaoloabfkheaaGreatDoor
