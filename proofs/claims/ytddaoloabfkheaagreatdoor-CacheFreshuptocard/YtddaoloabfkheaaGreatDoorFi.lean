/-
  The law CacheFresh.
-/
import Derived.Test.YtddaoloabfkheaaGreatDoorJFh
namespace Go.Proofs.YtddaoloabfkheaaGreatDoor
open Go.RowKit
attribute [local go_sem] Oper.semAt_some

/-- behind some Puts: both caches, apart -/
structure FP (CA : World → (Nat → Prop) → Nat → List Lb → Prop) (w W : World) (c o : Nat) (K : List Lb) : Prop where
  bel : Below w.heap.size w W
  it : ∃ F G, CA W F c K ∧ CA W G o [] ∧ (∀ k, F k → w.heap.size ≤ k) ∧ ∀ k, F k → ¬ G k
theorem FP.later {CA : World → (Nat → Prop) → Nat → List Lb → Prop} (C : CcP CA) {w W W' : World} {c o : Nat} {K : List Lb} (h : FP CA w W c o K) (hb : Below W.heap.size W W') : FP CA w W' c o K := by
  obtain ⟨F, G, f1, f2, f3, f4⟩ := h.it
  exact ⟨bstep h.bel hb, F, G, C.later f1 hb, C.later f2 hb, f3, f4⟩
theorem FP.put {CA : World → (Nat → Prop) → Nat → List Lb → Prop} (C : CcP CA) {w W : World} {c o : Nat} {K : List Lb} (h : FP CA w W c o K) (E : Ev W) (p t : List UInt8) (hp : p.length ≤ 1000000000) (ht : t.length ≤ 1000000000) :
    Calls Tryz.prog 10 #[.pointer (some ⟨c, 0, none⟩), .string (bs p), .string (bs t)] W fun e w' => e = .returned (.int .i64 (pcod p t)) ∧ FP CA w w' c o (putA K p t) ∧ Below w.heap.size W w' := by
  obtain ⟨F, G, f1, f2, f3, f4⟩ := h.it
  refine (C.put f1 E p t hp ht).mono ?_
  rintro e w' ⟨rfl, h2, h3⟩
  have hb := h3.below h.bel.size f3
  refine ⟨rfl, ⟨below_trans h.bel hb, _, G, h2, C.only f2 h3 (fun k hk hF => f4 k hF hk), fun k hk => ?_, fun k hk hG => ?_⟩, hb⟩
  · rcases hk with hk | hk
    · exact f3 k hk
    · exact Nat.le_trans h.bel.size hk.1
  · rcases hk with hk | hk
    · exact f4 k hk hG
    · have := C.lt f2 k hG; omega
set_option maxRecDepth 100000 in
set_option maxHeartbeats 16000000 in
theorem c9 {CA : World → (Nat → Prop) → Nat → List Lb → Prop} (C : CcP CA) {w W : World} {av : Option Addr} {n cv c o : Nat} {L : List Stp} {K : List Lb} {at_ : Int} {lv2 lv3 lv4 lv7 lv8 lv9 lv10 lv11 lv12 lv13 lv14 lv15 lv16 lv17 lv18 lv19 lv20 lv21 lv22 lv23 lv24 lv25 lv26 lv27 lv28 lv29 lv30 lv31 lv32 lv33 lv34 lv35 lv36 lv37 lv38 lv39 lv40 lv41 lv42 lv43 lv44 lv45 lv46 lv47 lv48 lv49 lv50 lv51 lv52 lv53 lv54 lv55 lv56 lv57 lv58 lv59 lv60 lv61 lv62 lv63 lv64 lv65 lv66 lv67 lv68 lv69 lv70 lv71 lv72 lv73 lv74 lv75 lv76 lv77 lv78 lv79 lv80 lv81 lv82 lv83 lv84 lv85 lv86 lv87 lv88 lv89 lv90 lv91 lv92 lv93 lv94 lv95 lv96 lv97 lv98 lv99 lv100 lv101 lv102 lv103 lv104 lv105 lv106 lv107 lv108 lv109 lv110 lv111 lv112 lv113 lv114 lv115 lv116 lv117 lv118 lv119 lv120 lv121 lv122 lv123 lv124 lv125 lv126 lv127 lv128 lv129 lv130 lv131 lv132 lv133 lv134 lv135 lv136 lv137 lv138 lv139 lv140 lv141 lv142 lv143 lv144 lv145 lv146 lv147 lv148 lv149 lv150 lv151 lv152 lv153 lv154 lv155 lv156 lv157 lv158 lv159 lv160 lv161 lv162 lv163 lv164 lv165 lv166 lv167 lv168 lv169 lv170 lv171 lv172 lv173 lv174 lv175 lv176 lv177 lv178 lv179 lv180 lv181 lv182 lv183 lv184 lv185 lv186 lv187 lv188 lv189 lv190 lv191 lv192 lv193 lv194 lv195 lv196 lv197 lv198 lv199 lv200 lv201 lv202 lv203 lv204 lv205 lv206 lv207 lv208 lv209 lv210 lv211 lv212 lv213 lv214 lv215 lv216 lv217 lv218 lv219 lv220 lv221 lv222 lv223 lv224 lv225 lv226 lv227 lv228 lv229 lv230 lv231 lv232 lv233 lv234 lv235 lv236 lv237 lv238 lv239 lv240 lv241 lv242 lv243 lv244 lv245 lv246 lv247 lv248 lv249 lv250 lv251 lv252 lv253 lv254 lv255 lv256 lv257 lv258 lv259 lv260 lv261 lv262 lv263 lv264 lv265 lv266 lv267 lv268 lv269 lv270 lv271 lv272 lv273 lv274 lv275 lv276 lv277 lv278 lv279 lv280 lv281 lv282 lv283 lv284 lv285 lv286 lv287 lv288 lv289 lv290 lv291 lv292 lv293 lv294 lv295 lv296 lv297 lv298 lv299 lv300 lv301 lv302 lv303 lv304 lv305 lv306 lv307 lv308 lv309 lv310 lv311 lv312 lv313 lv314 lv315 lv316 lv317 : Value} (H : Hid (TS4 w (.slice av n cv) L ∧ (∀ s ∈ L, s.p.length ≤ 1000000000 ∧ s.t.length ≤ 1000000000) ∧ Ev w)) (HN : Hid (L.length = n)) (hnl : n ≤ 100000000) (hn0 : 0 < n) (X : Hid (FP CA w W c o K ∧ Ev W)) :
    Code.wp Tryz.prog (suff 9 (Tryz.f5.body.getD .skip)) (bodyPost Tryz.prog Tryz.f5 (Good w)) ⟨#[.slice av n cv, .int .i64 at_, lv2, lv3, lv4, .pointer (some ⟨c, 0, none⟩), .pointer (some ⟨o, 0, none⟩), lv7, lv8, lv9, lv10, lv11, lv12, lv13, lv14, lv15, lv16, lv17, lv18, lv19, lv20, lv21, lv22, lv23, lv24, lv25, lv26, lv27, lv28, lv29, lv30, lv31, lv32, lv33, lv34, lv35, lv36, lv37, lv38, lv39, lv40, lv41, lv42, lv43, lv44, lv45, lv46, lv47, lv48, lv49, lv50, lv51, lv52, lv53, lv54, lv55, lv56, lv57, lv58, lv59, lv60, lv61, lv62, lv63, lv64, lv65, lv66, lv67, lv68, lv69, lv70, lv71, lv72, lv73, lv74, lv75, lv76, lv77, lv78, lv79, lv80, lv81, lv82, lv83, lv84, lv85, lv86, lv87, lv88, lv89, lv90, lv91, lv92, lv93, lv94, lv95, lv96, lv97, lv98, lv99, lv100, lv101, lv102, lv103, lv104, lv105, lv106, lv107, lv108, lv109, lv110, lv111, lv112, lv113, lv114, lv115, lv116, lv117, lv118, lv119, lv120, lv121, lv122, lv123, lv124, lv125, lv126, lv127, lv128, lv129, lv130, lv131, lv132, lv133, lv134, lv135, lv136, lv137, lv138, lv139, lv140, lv141, lv142, lv143, lv144, lv145, lv146, lv147, lv148, lv149, lv150, lv151, lv152, lv153, lv154, lv155, lv156, lv157, lv158, lv159, lv160, lv161, lv162, lv163, lv164, lv165, lv166, lv167, lv168, lv169, lv170, lv171, lv172, lv173, lv174, lv175, lv176, lv177, lv178, lv179, lv180, lv181, lv182, lv183, lv184, lv185, lv186, lv187, lv188, lv189, lv190, lv191, lv192, lv193, lv194, lv195, lv196, lv197, lv198, lv199, lv200, lv201, lv202, lv203, lv204, lv205, lv206, lv207, lv208, lv209, lv210, lv211, lv212, lv213, lv214, lv215, lv216, lv217, lv218, lv219, lv220, lv221, lv222, lv223, lv224, lv225, lv226, lv227, lv228, lv229, lv230, lv231, lv232, lv233, lv234, lv235, lv236, lv237, lv238, lv239, lv240, lv241, lv242, lv243, lv244, lv245, lv246, lv247, lv248, lv249, lv250, lv251, lv252, lv253, lv254, lv255, lv256, lv257, lv258, lv259, lv260, lv261, lv262, lv263, lv264, lv265, lv266, lv267, lv268, lv269, lv270, lv271, lv272, lv273, lv274, lv275, lv276, lv277, lv278, lv279, lv280, lv281, lv282, lv283, lv284, lv285, lv286, lv287, lv288, lv289, lv290, lv291, lv292, lv293, lv294, lv295, lv296, lv297, lv298, lv299, lv300, lv301, lv302, lv303, lv304, lv305, lv306, lv307, lv308, lv309, lv310, lv311, lv312, lv313, lv314, lv315, lv316, lv317], []⟩ W := by
  conv => arg 2; whnf
  have hrm : -(n : Int) < Int.tmod at_ (n : Int) ∧ Int.tmod at_ (n : Int) < (n : Int) := by
    have h1 := Int.tmod_lt_of_pos at_ (show (0 : Int) < (n : Int) by omega)
    have h2 := Int.lt_tmod_of_pos at_ (show (0 : Int) < (n : Int) by omega)
    omega
  obtain ⟨z, hz⟩ : ∃ z, Int.tmod at_ (n : Int) = z := ⟨_, rfl⟩
  rw [hz] at hrm
  have hk0 : 0 ≤ Int.tmod (z + n) (n : Int) ∧ Int.tmod (z + n) (n : Int) < (n : Int) := by
    have h1 := Int.tmod_lt_of_pos (z + n) (show (0 : Int) < (n : Int) by omega)
    have h2 := Int.tmod_nonneg (n : Int) (show 0 ≤ z + n by omega)
    exact ⟨h2, h1⟩
  obtain ⟨kk, hkk⟩ : ∃ kk : Nat, Int.tmod (z + n) (n : Int) = (kk : Int) := ⟨(Int.tmod (z + n) (n : Int)).toNat, by omega⟩
  have hkl : kk < n := by omega
  have w2' : ((n : Int) == 0) = false := by rw [beq_eq_false_iff_ne]; omega
  have hws : IntKind.i64.wrap (z + (n : Int)) = z + (n : Int) ∧ IntKind.i64.wrap z = z ∧ IntKind.i64.wrap (kk : Int) = (kk : Int) := ⟨wrap_small _ (by omega) (by omega), by rw [IntKind.wrap_i64]; omega, wrap_small _ (by omega) (by omega)⟩
  obtain ⟨w1', w3', w4'⟩ := hws
  clear hrm hk0
  refine wp_seq_k fun K9 hK => ?_
  have HK : Hid _ := hK
  clear hK
  go_wp2_with fail
  refine HK.out _ _ ?_
  clear HK K9
  clear w1' w2' w3' w4' hz hkk
  refine wp_seq_k fun K9 hK => ?_
  have HK : Hid _ := hK
  clear hK
  have hkL : kk < L.length := by rw [HN.out]; exact hkl
  obtain ⟨p, hp⟩ : ∃ p, L[kk].p = p := ⟨_, rfl⟩
  obtain ⟨t, ht⟩ : ∃ t, L[kk].t = t := ⟨_, rfl⟩
  have hsz := H.out.2.1 _ (List.getElem_mem hkL)
  rw [hp, ht] at hsz
  have HI : Hid (FIn w av n cv L kk p t) := ⟨H.out.1, HN.out, hkl, hsz.1, hsz.2, hkL, hp, ht⟩
  have hdl := dir_le p
  have HD : Hid (∀ Z, Calls Tryz.prog 18 #[.string (bs p)] Z fun e w' => e = .returned (.string (bs (dir p))) ∧ w' = Z) := fun Z => ldir_any p Z hsz.1
  have HPr : Hid (∀ Z, Calls Tryz.prog 17 #[.string (bs (dir p)), .string (bs t)] Z (LsP Z (prsM (dir p) t))) := fun Z => rpars_any (dir p) t (by omega) hsz.2
  obtain ⟨⟨A, ze⟩, hAz⟩ : ∃ R, prsM (dir p) t = R := ⟨_, rfl⟩
  have HP : Hid (prsM (dir p) t = (A, ze)) := hAz
  rw [hAz] at HPr
  obtain ⟨bb, off, rfl, _, d2, d3⟩ := HI.out.cells X.out.1.bel
  have HCC : Hid (∀ Z, Below w.heap.size w Z → Z.cell? ⟨bb, off + kk * 4 + 2, none⟩ = some (.string (bs p)) ∧ Z.cell? ⟨bb, off + kk * 4 + 3, none⟩ = some (.string (bs t))) := fun Z hZ => by
    obtain ⟨b', off', e, _, x2, x3⟩ := HI.out.cells hZ
    injection e with e
    injection e with e1 e2
    subst e1 e2
    exact ⟨x2, x3⟩
  have k1 : (kk : Int) < (n : Int) := by omega
  have k2 : (0 : Int) ≤ (kk : Int) := by omega
  clear hp ht hsz hdl hAz
  generalize hdp : dir p = dp at HD HPr
  clear hdp
  go_region_held3 (fun w' => w'.cell? ⟨bb, off + kk * 4 + 2, none⟩ = some (.string (bs p)) ∧ w'.cell? ⟨bb, off + kk * 4 + 3, none⟩ = some (.string (bs t))) (first | (with_reducible exact ⟨d2, d3⟩) | (with_reducible exact HCC.out _ (bstep X.out.1.bel (Below.refl _ _).drew)) | (with_reducible exact KA.out) | go_keep) (first
    | (go_at_call 17; (with_reducible refine (HPr.out _).mono ?_); rintro e w2 ⟨v2, rfl, ho2, hb2⟩; have O2 : Hid (GOwn W.heap.size w2 v2 A ∧ Below W.heap.size W w2) := ⟨ho2.mono (Nat.le_refl _), bstep (Below.refl _ _).drew hb2⟩; have KA := hid_of (HCC.out w2 (bstep X.out.1.bel O2.out.2)); clear ho2 hb2)
    | (go_at_call 18; (with_reducible refine (HD.out _).mono ?_); rintro e w1 ⟨rfl, rfl⟩))
  clear KA d2 d3
  refine HK.out _ _ ?_
  clear HK K9
  obtain ⟨F, G, f1, f2, f3, f4⟩ := (X.out.1.later C O2.out.2).it
  have hz := O2.out.2.size
  have hwz := X.out.1.bel.size
  refine c11 C (p := p) (t := t) (K := K) (A := A) HI H.out.2.2 HP (X := ⟨bstep X.out.1.bel O2.out.2, ⟨F, f1, fun k hk => ⟨f3 k hk, C.lt f1 k hk⟩⟩, O2.out.1.gmt.wider (fun k hk => ⟨by omega, hk.2⟩), by omega, Nat.le_refl _⟩) (O := ⟨G, f2⟩)
set_option maxRecDepth 100000 in
set_option maxHeartbeats 16000000 in
theorem cfresh_law {CA : World → (Nat → Prop) → Nat → List Lb → Prop} (C : CcP CA) {w : World} {v : Value} {L : List Stp} (E : Ev w) (h : TS4 w v L) (hs : SSm L) (at_ : Int) :
    Calls Tryz.prog 5 #[v, .int .i64 at_] w (Good w) := by
  have H : Hid (TS4 w v L ∧ (∀ s ∈ L, s.p.length ≤ 1000000000 ∧ s.t.length ≤ 1000000000) ∧ Ev w) := ⟨h, hs.each, E⟩
  obtain ⟨av, cv, hvv⟩ := h.form
  obtain ⟨n, hn⟩ : ∃ n, L.length = n := ⟨_, rfl⟩
  have hnl : n ≤ 100000000 := hn ▸ hs.len
  rw [hn] at hvv
  subst hvv
  have HN : Hid (L.length = n) := hn
  clear h hs hn E
  obtain ⟨m, hm⟩ : ∃ m, min n 30 = m := ⟨_, rfl⟩
  have hmn : m ≤ n := by omega
  have hm3 : m ≤ 30 := by omega
  go_enter Tryz.func5, Tryz.ntmps5
  refine wp_seq_k fun K9 hK => ?_
  have HK : Hid _ := hK
  clear hK
  go_wp2_with fail
  refine HK.out _ _ ?_
  clear HK K9
  refine wp_seq_k fun K9 hK => ?_
  have HK : Hid _ := hK
  clear hK
  go_wp2_with fail
  refine (TQ.new C (Nat.le_refl _)).mono ?_
  rintro e w1 ⟨c, rfl, hc1', hb1⟩
  have H1 : Hid (TQ CA w.heap.size w1 c [] ∧ Below w.heap.size w w1) := ⟨hc1', hb1⟩
  clear hc1' hb1
  go_wp2_with fail
  refine HK.out _ _ ?_
  clear HK K9
  refine wp_seq_k fun K9 hK => ?_
  have HK : Hid _ := hK
  clear hK
  go_wp2_with fail
  refine (C.new w1).mono ?_
  rintro e w2 ⟨o, rfl, ho2, hb2⟩
  have H2 : Hid (TQ CA w.heap.size w2 c [] ∧ Below w.heap.size w w2 ∧ CA w2 (fun k => w1.heap.size ≤ k ∧ k < w2.heap.size) o [] ∧ Ev w2 ∧ (∃ F, CA w2 F c [] ∧ ∀ k, F k → w.heap.size ≤ k ∧ k < w1.heap.size)) := by
    obtain ⟨F, f1, f2⟩ := H1.out.1
    exact ⟨H1.out.1.later C hb2, bstep H1.out.2 hb2, ho2, H.out.2.2.later (bstep H1.out.2 hb2), ⟨F, C.later f1 hb2, fun k hk => ⟨f2 k hk, C.lt f1 k hk⟩⟩⟩
  clear ho2 hb2 H1
  go_wp2_with fail
  refine HK.out _ _ ?_
  clear HK K9
  refine wp_seq_k fun K9 hK => ?_
  have HK : Hid _ := hK
  clear hK
  go_wp2_with fail
  refine (known19 C H2.out.2.2.2.1).mono ?_
  rintro e w3 ⟨rfl, hb3⟩
  have H3 : Hid (Below w.heap.size w w3 ∧ CA w3 (fun k => w1.heap.size ≤ k ∧ k < w2.heap.size) o [] ∧ Ev w3 ∧ (∃ F, CA w3 F c [] ∧ (∀ k, F k → w.heap.size ≤ k) ∧ ∀ k, F k → ¬ (w1.heap.size ≤ k ∧ k < w2.heap.size))) := by
    obtain ⟨F, f1, f2⟩ := H2.out.2.2.2.2
    refine ⟨bstep H2.out.2.1 hb3, C.later H2.out.2.2.1 hb3, H2.out.2.2.2.1.later hb3, F, C.later f1 hb3, fun k hk => (f2 k hk).1, fun k hk => by have := f2 k hk; omega⟩
  clear hb3
  by_cases hn0 : n = 0
  · have k1 : ((n : Int) == 0) = true := by simp; omega
    subst hn0
    go_wp2_with fail
    refine (known19 C H3.out.2.2.1).mono ?_
    rintro e w4 ⟨rfl, hb4⟩
    have H4 : Hid (Below w.heap.size w w4) := bstep H3.out.1 hb4
    clear hb4
    go_wp2_with fail
    go_ret
    exact ⟨rfl, H4.out⟩
  have k1 : ((n : Int) == 0) = false := by simp; omega
  have k2 : ¬ (n : Int) = 0 := by omega
  go_wp2_with fail
  refine HK.out _ _ ?_
  clear HK K9
  refine wp_seq_k fun K9 hK => ?_
  have HK : Hid _ := hK
  clear hK
  go_wp2_with fail
  go_loopw [7] (fun s7 wr => ∃ (k : Nat), s7 = .int .i64 k ∧ k ≤ m ∧ FP CA w wr c o (ptK (L.take k))) (fun s7 _ => m - (intOf s7).toNat)
  case atStart =>
    refine ⟨0, rfl, by omega, ?_⟩
    obtain ⟨F, f1, f2, f3⟩ := H3.out.2.2.2
    exact ⟨H3.out.1, ⟨F, _, f1, H3.out.2.1, f2, f3⟩⟩
  case round =>
    obtain ⟨k, rfl, hk, hP⟩ := hrel
    have hb := hP.bel
    have HX : Hid (FP CA w wr c o (ptK (L.take k)) ∧ Below w.heap.size w wr ∧ Ev wr) := ⟨hP, hb, H.out.2.2.later hb⟩
    by_cases hlt : k < m
    · have hkl : k < L.length := by rw [HN.out]; omega
      obtain ⟨b, off, ea, hbw, _, _, d2, d3⟩ := TS4.at H.out.1 hb hkl
      subst ea
      obtain ⟨s, hse⟩ : ∃ s, L[k] = s := ⟨_, rfl⟩
      have hsz := H.out.2.1 s (hse ▸ List.getElem_mem hkl)
      rw [hse] at d2 d3
      have HPu : Hid (∀ Z, Below wr.heap.size wr Z → Calls Tryz.prog 10 #[.pointer (some ⟨c, 0, none⟩), .string (bs s.p), .string (bs s.t)] Z fun e w' => e = .returned (.int .i64 (pcod s.p s.t)) ∧ FP CA w w' c o (ptK (L.take (k + 1))) ∧ Below w.heap.size Z w') := fun Z hZ => by
        have := (HX.out.1.later C hZ).put C (HX.out.2.2.later hZ) s.p s.t hsz.1 hsz.2
        rw [List.take_succ_eq_append_getElem hkl, ptK_snoc, hse]
        exact this
      obtain ⟨sc, kd, p, t⟩ := s
      simp only at d2 d3 HPu
      clear hP hb hse hsz
      have k3 : (k : Int) < (n : Int) := by omega
      have k4 : (k : Int) < 30 := by omega
      have HCc : Hid (∀ Z, Below w.heap.size wr Z → Z.cell? ⟨b, off + k * 4 + 2, none⟩ = some (.string (bs p)) ∧ Z.cell? ⟨b, off + k * 4 + 3, none⟩ = some (.string (bs t))) := fun Z hW => ⟨(hW.cell (p := ⟨b, off + k * 4 + 2, none⟩) hbw).trans d2, (hW.cell (p := ⟨b, off + k * 4 + 3, none⟩) hbw).trans d3⟩
      go_wp2_with fail
      go_region_held3 (fun w' => w'.cell? ⟨b, off + k * 4 + 2, none⟩ = some (.string (bs p)) ∧ w'.cell? ⟨b, off + k * 4 + 3, none⟩ = some (.string (bs t))) (first | (with_reducible exact ⟨d2, d3⟩) | (with_reducible exact KA.out) | go_keep) (first
        | (go_at_call 10; (with_reducible refine (HPu.out _ (Below.refl _ _).drew).mono ?_); rintro e w5 ⟨rfl, hp5, hb5⟩; have O5 : Hid (FP CA w w5 c o (ptK (L.take (k + 1))) ∧ Below w.heap.size wr w5) := ⟨hp5, (Below.refl _ _).drew.trans hb5⟩; have KA : Hid (w5.cell? ⟨b, off + k * 4 + 2, none⟩ = some (.string (bs p)) ∧ w5.cell? ⟨b, off + k * 4 + 3, none⟩ = some (.string (bs t))) := HCc.out w5 O5.out.2; clear hp5 hb5))
      go_wp2_with fail
      go_roundw
      case rel => exact ⟨k + 1, by go_num, by omega, O5.out.1⟩
      case measure => simp [intOf]; omega
    · obtain rfl : m = k := by omega
      clear hP hb hk hlt
      obtain ⟨K, hK⟩ : ∃ K, ptK (L.take m) = K := ⟨_, rfl⟩
      rw [hK] at HX
      clear hK
      by_cases k3 : (m : Int) < (n : Int)
      · have k4 : ¬ (m : Int) < 30 := by omega
        go_wp2_with fail
        refine HK.out _ _ ?_
        exact c9 C H HN hnl (by omega) ⟨HX.out.1, HX.out.2.2⟩
      · go_wp2_with fail
        refine HK.out _ _ ?_
        exact c9 C H HN hnl (by omega) ⟨HX.out.1, HX.out.2.2⟩
end Go.Proofs.YtddaoloabfkheaaGreatDoor
