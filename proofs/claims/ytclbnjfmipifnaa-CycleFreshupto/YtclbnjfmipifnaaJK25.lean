/-
  The law of new memory: asked again.
  The law of new memory: all are looked at.
-/
import Derived.Test.YtclbnjfmipifnaaK40
namespace Go.Proofs.Ytclbnjfmipifnaa
open Go.RowKit Go.Maps

/-- what is there before the lists are answered -/
structure FX (w W1 : World) (g d : Nat) (wa : Option Addr) (wn wc : Nat) (Wv : List Value) (P : List (List Lb)) (N : List Lb) (E : List Ee) : Prop where
  bel : Below w.heap.size w W1
  hw : HW W1 g d N E
  pr : PR 0 W1 (.slice wa wn wc) Wv P
  pt : Gs.Pts ltL N E P

set_option maxRecDepth 100000 in
set_option maxHeartbeats 16000000 in
theorem f34 {w W1 : World} {g d wn wc : Nat} {wa : Option Addr} {Wv : List Value} {P : List (List Lb)} {N : List Lb} {E : List Ee} {mm : Int} {W : World} {lv0 lv2 lv3 lv4 lv6 lv8 lv9 lv10 lv11 lv12 lv13 lv14 lv15 lv16 lv17 lv18 lv19 lv20 lv21 lv22 lv23 lv24 lv25 lv26 lv27 lv28 lv29 lv30 lv31 lv32 lv33 lv34 lv35 lv36 lv37 lv38 lv39 lv40 lv41 lv42 lv43 lv44 lv45 lv46 lv47 lv48 lv49 lv50 lv51 lv52 lv53 lv54 lv55 lv56 lv57 lv58 lv59 lv60 lv61 lv62 lv63 lv64 lv65 lv66 lv67 lv68 lv69 lv70 lv71 lv72 lv73 lv74 lv75 lv76 lv77 lv78 lv79 lv80 lv81 lv82 lv83 lv84 lv85 lv86 lv87 lv88 lv89 lv90 lv91 lv92 lv93 lv94 lv95 lv96 lv97 lv98 lv99 lv100 lv101 lv102 lv103 lv104 lv105 lv106 lv107 lv108 lv109 lv110 lv111 lv112 lv113 lv114 lv115 lv116 lv117 lv118 lv119 lv120 lv121 lv122 lv123 lv124 lv125 lv126 lv127 lv128 lv129 lv130 lv131 lv132 lv133 lv134 lv135 lv136 lv137 lv138 lv139 lv140 lv141 lv142 lv143 lv144 lv145 lv146 lv147 lv148 lv149 lv150 lv151 lv152 lv153 lv154 lv155 lv156 lv157 lv158 lv159 lv160 lv161 lv162 lv163 lv164 lv165 lv166 lv167 lv168 lv169 lv170 lv171 lv172 lv173 lv174 lv175 lv176 lv177 lv178 lv179 lv180 lv181 lv182 lv183 lv184 lv185 lv186 lv187 lv188 lv189 lv190 lv191 lv192 lv193 lv194 lv195 lv196 lv197 lv198 lv199 lv200 lv201 lv202 lv203 lv204 lv205 lv206 lv207 lv208 lv209 lv210 lv211 lv212 lv213 lv214 lv215 lv216 lv217 lv218 lv219 lv220 lv221 lv222 lv223 lv224 lv225 lv226 lv227 lv228 lv229 lv230 lv231 lv232 lv233 lv234 lv235 lv236 lv237 lv238 lv239 lv240 lv241 lv242 lv243 lv244 lv245 lv246 lv247 lv248 lv249 lv250 lv251 lv252 lv253 lv254 lv255 lv256 lv257 lv258 lv259 lv260 lv261 lv262 lv263 lv264 lv265 lv266 lv267 lv268 lv269 lv270 lv271 lv272 lv273 lv274 lv275 lv276 lv277 lv278 lv279 lv280 lv281 lv282 lv283 : Value} (X : Hid (FX w W1 g d wa wn wc Wv P N E)) (HB : Hid (Below W1.heap.size W1 W)) :
    Code.wp Try.prog (suff 34 (Try.f5.body.getD .skip)) (bodyPost Try.prog Try.f5 (GoodE w)) ⟨#[lv0, .int .i64 mm, lv2, lv3, lv4, .pointer (some ⟨g, 0, none⟩), lv6, .slice wa wn wc, lv8, lv9, lv10, lv11, lv12, lv13, lv14, lv15, lv16, lv17, lv18, lv19, lv20, lv21, lv22, lv23, lv24, lv25, lv26, lv27, lv28, lv29, lv30, lv31, lv32, lv33, lv34, lv35, lv36, lv37, lv38, lv39, lv40, lv41, lv42, lv43, lv44, lv45, lv46, lv47, lv48, lv49, lv50, lv51, lv52, lv53, lv54, lv55, lv56, lv57, lv58, lv59, lv60, lv61, lv62, lv63, lv64, lv65, lv66, lv67, lv68, lv69, lv70, lv71, lv72, lv73, lv74, lv75, lv76, lv77, lv78, lv79, lv80, lv81, lv82, lv83, lv84, lv85, lv86, lv87, lv88, lv89, lv90, lv91, lv92, lv93, lv94, lv95, lv96, lv97, lv98, lv99, lv100, lv101, lv102, lv103, lv104, lv105, lv106, lv107, lv108, lv109, lv110, lv111, lv112, lv113, lv114, lv115, lv116, lv117, lv118, lv119, lv120, lv121, lv122, lv123, lv124, lv125, lv126, lv127, lv128, lv129, lv130, lv131, lv132, lv133, lv134, lv135, lv136, lv137, lv138, lv139, lv140, lv141, lv142, lv143, lv144, lv145, lv146, lv147, lv148, lv149, lv150, lv151, lv152, lv153, lv154, lv155, lv156, lv157, lv158, lv159, lv160, lv161, lv162, lv163, lv164, lv165, lv166, lv167, lv168, lv169, lv170, lv171, lv172, lv173, lv174, lv175, lv176, lv177, lv178, lv179, lv180, lv181, lv182, lv183, lv184, lv185, lv186, lv187, lv188, lv189, lv190, lv191, lv192, lv193, lv194, lv195, lv196, lv197, lv198, lv199, lv200, lv201, lv202, lv203, lv204, lv205, lv206, lv207, lv208, lv209, lv210, lv211, lv212, lv213, lv214, lv215, lv216, lv217, lv218, lv219, lv220, lv221, lv222, lv223, lv224, lv225, lv226, lv227, lv228, lv229, lv230, lv231, lv232, lv233, lv234, lv235, lv236, lv237, lv238, lv239, lv240, lv241, lv242, lv243, lv244, lv245, lv246, lv247, lv248, lv249, lv250, lv251, lv252, lv253, lv254, lv255, lv256, lv257, lv258, lv259, lv260, lv261, lv262, lv263, lv264, lv265, lv266, lv267, lv268, lv269, lv270, lv271, lv272, lv273, lv274, lv275, lv276, lv277, lv278, lv279, lv280, lv281, lv282, lv283], []⟩ W := by
  conv => arg 2; whnf
  have HLN : Hid ((∀ p ∈ P, p.length ≤ 100000000) ∧ P.length ≤ 1000000) := by
    obtain ⟨q1, q2⟩ := pts_len X.out.pt
    have hn := X.out.hw.nl
    exact ⟨fun p hp => by have := q2 p hp; omega, by omega⟩
  have HPT : Hid (Calls Try.prog 8 #[.pointer (some ⟨g, 0, none⟩)] W fun e w' => ∃ v V, e = .returned v ∧ PR W.heap.size w' v V P ∧ Below W.heap.size W w') := ((X.out.hw.later HB.out).pz.pg.parts (by have := X.out.hw.nl; omega)).mono fun _ _ ⟨v, V, P', k1, k2, k3, k4, k5⟩ => by
    rw [k4, ← X.out.pt.eq stoL] at k2
    exact ⟨v, V, k1, k2.pr, k5⟩
  have HSA : Hid (∀ W' v V B, Below W1.heap.size W1 W' → PR B W' v V P → Calls Try.prog 10 #[v, .slice wa wn wc] W' fun e w' => e = .returned (.bool true) ∧ Below W'.heap.size W' w') := fun W' v V B hW hv => sameAll_true hv (X.out.pr.later hW) HLN.out.1 HLN.out.2
  obtain ⟨q, hq, hq5⟩ := and511 mm
  have hq6 : (q : Int) ≤ 511 := by omega
  have hq0 : (0 : Int) ≤ (q : Int) := by omega
  refine wp_seq_k fun K hK => ?_
  have HK : Hid _ := hK
  clear hK
  go_wp2_with fail
  refine HPT.out.mono ?_
  rintro e w1 ⟨v1, V1, rfl, hp, hb⟩
  obtain ⟨a1, c1, hv1⟩ := row_form hp.row
  generalize V1.length = n1 at hv1
  subst hv1
  have HC := hid_of (HSA.out w1 _ _ _ (bstep HB.out hb) hp)
  have HB1 : Hid (Below W1.heap.size W1 w1) := bstep HB.out hb
  clear hp hb HPT
  go_wp2_with fail
  refine HC.out.mono ?_
  rintro e w2 ⟨rfl, hb⟩
  have HB2 : Hid (Below w.heap.size w w2) := bstep X.out.bel (bstep HB1.out hb)
  clear hb HC HB1 HB
  go_wp2_with fail
  refine HK.out _ _ ?_
  clear HK K
  refine wp_seq_k fun K hK => ?_
  have HK : Hid _ := hK
  clear hK
  go_wp2_with fail
  refine HK.out _ _ ?_
  clear HK K
  obtain ⟨s, hs⟩ : ∃ s : Nat, 2 + q = s := ⟨_, rfl⟩
  have hs' : (2 : Int) + (q : Int) = (s : Int) := by omega
  rw [hs']
  refine wp_seq_k fun K hK => ?_
  have HK : Hid _ := hK
  clear hK
  go_wp2_with fail
  refine (new_any w2).mono ?_
  rintro e w3 ⟨r, rfl, hg, hb⟩
  have HPG : Hid (PG w.heap.size w3 r [] [] ∧ Below w.heap.size w w3) := ⟨⟨⟨_, [], _, hg, Lnk.new, fun k hk => Nat.le_trans HB2.out.size hk.1⟩, by simp⟩, bstep HB2.out hb⟩
  clear hg hb
  go_wp2_with fail
  refine (Tw.new HPG.out.1 HPG.out.2.size).mono ?_
  rintro e w4 ⟨c, rfl, ht, hb⟩
  have HTY : Hid (TY w w4 r c s 0) := ⟨bstep HPG.out.2 hb, [], [], [], [], ht, RF.nil s, CF.nil s⟩
  clear ht hb HPG
  go_wp2_with fail
  refine HK.out _ _ ?_
  clear HK K
  refine wp_seq_k fun K hK => ?_
  have HK : Hid _ := hK
  clear hK
  go_wp2_with fail
  refine HK.out _ _ ?_
  clear HK K
  exact f40 (by omega) (by omega) HTY
end Go.Proofs.Ytclbnjfmipifnaa

namespace Go.Proofs.Ytclbnjfmipifnaa
open Go.RowKit Go.Maps

theorem row_cells {base e sz n g c : Nat} {w : World} {l : List Value} (h : w.ownsRow base e sz (.slice (some ⟨g, 0, none⟩) n c) n l) {j : Nat} {u : Value} (hu : l[j]? = some u) : w.cell? ⟨g, j, none⟩ = some u := by
  have := World.ownsRow.cells h (g := g) rfl j u hu
  rw [add_lit] at this
  simpa using this
theorem rep_mk (n i k : Nat) (h : k < n) : (rep n (mkc i))[k * 2]? = some (.string (bs mkb)) ∧ (rep n (mkc i))[k * 2 + 1]? = some (.string (bs (mkd i))) := by
  rw [rep_get (s := 2) rfl n (k * 2) (by omega), rep_get (s := 2) rfl n (k * 2 + 1) (by omega)]
  have e1 : k * 2 % 2 = 0 := by omega
  have e2 : (k * 2 + 1) % 2 = 1 := by omega
  rw [e1, e2]
  exact ⟨rfl, rfl⟩

set_option maxRecDepth 100000 in
set_option maxHeartbeats 16000000 in
theorem f25 {w W1 w0 : World} {g d wn wc T ag ac : Nat} {wa : Option Addr} {Wv : List Value} {P : List (List Lb)} {N : List Lb} {E : List Ee} {mm : Int} {V : Nat → Value} {n : Nat → Nat} {C0 : Nat → List Value} {U : Nat → Value} {D0 D : Nat → Nat → Prop} {la : Option Addr} {lc1 : Nat} {W : World} {lv0 lv2 lv3 lv4 lv6 lv8 lv9 lv10 lv11 lv12 lv13 lv15 lv16 lv18 lv19 lv20 lv21 lv22 lv23 lv24 lv25 lv26 lv27 lv28 lv29 lv30 lv31 lv32 lv33 lv34 lv35 lv36 lv37 lv38 lv39 lv40 lv41 lv42 lv43 lv44 lv45 lv46 lv47 lv48 lv49 lv50 lv51 lv52 lv53 lv54 lv55 lv56 lv57 lv58 lv59 lv60 lv61 lv62 lv63 lv64 lv65 lv66 lv67 lv68 lv69 lv70 lv71 lv72 lv73 lv74 lv75 lv76 lv77 lv78 lv79 lv80 lv81 lv82 lv83 lv84 lv85 lv86 lv87 lv88 lv89 lv90 lv91 lv92 lv93 lv94 lv95 lv96 lv97 lv98 lv99 lv100 lv101 lv102 lv103 lv104 lv105 lv106 lv107 lv108 lv109 lv110 lv111 lv112 lv113 lv114 lv115 lv116 lv117 lv118 lv119 lv120 lv121 lv122 lv123 lv124 lv125 lv126 lv127 lv128 lv129 lv130 lv131 lv132 lv133 lv134 lv135 lv136 lv137 lv138 lv139 lv140 lv141 lv142 lv143 lv144 lv145 lv146 lv147 lv148 lv149 lv150 lv151 lv152 lv153 lv154 lv155 lv156 lv157 lv158 lv159 lv160 lv161 lv162 lv163 lv164 lv165 lv166 lv167 lv168 lv169 lv170 lv171 lv172 lv173 lv174 lv175 lv176 lv177 lv178 lv179 lv180 lv181 lv182 lv183 lv184 lv185 lv186 lv187 lv188 lv189 lv190 lv191 lv192 lv193 lv194 lv195 lv196 lv197 lv198 lv199 lv200 lv201 lv202 lv203 lv204 lv205 lv206 lv207 lv208 lv209 lv210 lv211 lv212 lv213 lv214 lv215 lv216 lv217 lv218 lv219 lv220 lv221 lv222 lv223 lv224 lv225 lv226 lv227 lv228 lv229 lv230 lv231 lv232 lv233 lv234 lv235 lv236 lv237 lv238 lv239 lv240 lv241 lv242 lv243 lv244 lv245 lv246 lv247 lv248 lv249 lv250 lv251 lv252 lv253 lv254 lv255 lv256 lv257 lv258 lv259 lv260 lv261 lv262 lv263 lv264 lv265 lv266 lv267 lv268 lv269 lv270 lv271 lv272 lv273 lv274 lv275 lv276 lv277 lv278 lv279 lv280 lv281 lv282 lv283 : Value} (hT0 : 0 < T) (hT : T ≤ 250) (X : Hid (FX w W1 g d wa wn wc Wv P N E)) (HA : Hid (AL T W1 w0 ag V n C0 D0)) (HG : Hid (LG T W1 w0 W ag V n D0 D T T (.slice la T lc1) U)) :
    Code.wp Try.prog (suff 25 (Try.f5.body.getD .skip)) (bodyPost Try.prog Try.f5 (GoodE w)) ⟨#[lv0, .int .i64 mm, lv2, lv3, lv4, .pointer (some ⟨g, 0, none⟩), lv6, .slice wa wn wc, lv8, lv9, lv10, lv11, lv12, lv13, .slice (some ⟨ag, 0, none⟩) T ac, lv15, lv16, .slice la T lc1, lv18, lv19, lv20, lv21, lv22, lv23, lv24, lv25, lv26, lv27, lv28, lv29, lv30, lv31, lv32, lv33, lv34, lv35, lv36, lv37, lv38, lv39, lv40, lv41, lv42, lv43, lv44, lv45, lv46, lv47, lv48, lv49, lv50, lv51, lv52, lv53, lv54, lv55, lv56, lv57, lv58, lv59, lv60, lv61, lv62, lv63, lv64, lv65, lv66, lv67, lv68, lv69, lv70, lv71, lv72, lv73, lv74, lv75, lv76, lv77, lv78, lv79, lv80, lv81, lv82, lv83, lv84, lv85, lv86, lv87, lv88, lv89, lv90, lv91, lv92, lv93, lv94, lv95, lv96, lv97, lv98, lv99, lv100, lv101, lv102, lv103, lv104, lv105, lv106, lv107, lv108, lv109, lv110, lv111, lv112, lv113, lv114, lv115, lv116, lv117, lv118, lv119, lv120, lv121, lv122, lv123, lv124, lv125, lv126, lv127, lv128, lv129, lv130, lv131, lv132, lv133, lv134, lv135, lv136, lv137, lv138, lv139, lv140, lv141, lv142, lv143, lv144, lv145, lv146, lv147, lv148, lv149, lv150, lv151, lv152, lv153, lv154, lv155, lv156, lv157, lv158, lv159, lv160, lv161, lv162, lv163, lv164, lv165, lv166, lv167, lv168, lv169, lv170, lv171, lv172, lv173, lv174, lv175, lv176, lv177, lv178, lv179, lv180, lv181, lv182, lv183, lv184, lv185, lv186, lv187, lv188, lv189, lv190, lv191, lv192, lv193, lv194, lv195, lv196, lv197, lv198, lv199, lv200, lv201, lv202, lv203, lv204, lv205, lv206, lv207, lv208, lv209, lv210, lv211, lv212, lv213, lv214, lv215, lv216, lv217, lv218, lv219, lv220, lv221, lv222, lv223, lv224, lv225, lv226, lv227, lv228, lv229, lv230, lv231, lv232, lv233, lv234, lv235, lv236, lv237, lv238, lv239, lv240, lv241, lv242, lv243, lv244, lv245, lv246, lv247, lv248, lv249, lv250, lv251, lv252, lv253, lv254, lv255, lv256, lv257, lv258, lv259, lv260, lv261, lv262, lv263, lv264, lv265, lv266, lv267, lv268, lv269, lv270, lv271, lv272, lv273, lv274, lv275, lv276, lv277, lv278, lv279, lv280, lv281, lv282, lv283], []⟩ W := by
  conv => arg 2; whnf
  obtain ⟨lg, lc2, hle, _, _, _⟩ := row_place HG.out.lr (by omega)
  injection hle with e1 _ e3
  subst e1 e3
  refine wp_seq_k fun K hK => ?_
  have HK : Hid _ := hK
  clear hK
  go_wp2_with fail
  go_loopw [19] (fun iv wr => ∃ i : Nat, i ≤ T ∧ iv = .int .i64 i ∧ LG T W1 w0 wr ag V n D0 D T T (.slice (some ⟨lg, 0, none⟩) T lc1) U) (fun iv _ => T - (intOf iv).toNat)
  case atStart => exact ⟨0, by omega, rfl, HG.out⟩
  case round =>
    clear HG
    obtain ⟨i, hi0, rfl, hlg⟩ := hrel
    have X5 : Hid (LG T W1 w0 wr ag V n D0 D T T (.slice (some ⟨lg, 0, none⟩) T lc1) U) := hlg
    clear hlg
    by_cases hi : i < T
    · have i1 : (i : Int) < (T : Int) := by omega
      have i2 : (0 : Int) ≤ (i : Int) := by omega
      obtain ⟨ni, hni⟩ : ∃ ni, n i = ni := ⟨_, rfl⟩
      obtain ⟨va, vc, hv⟩ := X5.out.q.v hi
      rw [hni] at hv
      obtain ⟨ug, uc, hu, huc, _, _⟩ := row_place (X5.out.own i hi) (by omega)
      rw [hni] at hu huc
      have hnl : ni ≤ 1000000 := by rw [← hni]; exact HA.out.nl i hi
      have HN : Hid (n i = ni ∧ V i = .slice va ni vc ∧ U i = .slice (some ⟨ug, 0, none⟩) (ni + 1) uc) := ⟨hni, hv, hu⟩
      have HAC : Hid (w0.cell? ⟨ag, i, none⟩ = some (.slice va ni vc)) := by
        have := HA.out.cell i hi
        rw [hv] at this; exact this
      clear hni hv hu
      have HC1 : Hid (∀ W', LG T W1 w0 W' ag V n D0 D T T (.slice (some ⟨lg, 0, none⟩) T lc1) U → W'.cell? ⟨lg, i, none⟩ = some (.slice (some ⟨ug, 0, none⟩) (ni + 1) uc) ∧ W'.cell? ⟨ag, i, none⟩ = some (.slice va ni vc)) := fun W' h => by
        refine ⟨row_cells h.lr (j := i) ?_, h.q.cell HAC.out HA.out.nag⟩
        rw [List.getElem?_map, List.getElem?_range hi, ← HN.out.2.2]; rfl
      obtain ⟨x, hxe⟩ : ∃ x, UInt8.ofNat i = x := ⟨_, rfl⟩
      have hx : x.toNat = i := by rw [← hxe]; simp; omega
      have HMD : Hid (mkd i = [x]) := by show mkd i = [x]; unfold mkd; rw [hxe]
      have HCV : Hid (∀ W' : World, (convert 50 9 (.slice (some ⟨W'.heap.size, 0, none⟩) 1 1)).run Try.prog (W'.alloc (.cells #[.int .u8 (i : Int)] 5)) = .ok (.string (bs [x])) (W'.alloc (.cells #[.int .u8 (i : Int)] 5))) := fun W' => convW (by rw [hx]; simp)
      have hw1 : IntKind.u8.wrap (i : Int) = (i : Int) := by rw [IntKind.wrap_u8]; omega
      obtain ⟨p, hp⟩ : ∃ p, mkb = p := ⟨_, rfl⟩
      have HC2 : Hid (∀ W', LG T W1 w0 W' ag V n D0 D T T (.slice (some ⟨lg, 0, none⟩) T lc1) U → ∀ k, k < ni + 1 → W'.cell? ⟨ug, k * 2, none⟩ = some (.string (bs p)) ∧ W'.cell? ⟨ug, k * 2 + 1, none⟩ = some (.string (bs [x]))) := fun W' h k hk => by
        have ho := h.own i hi
        rw [HN.out.2.2, HN.out.1] at ho
        obtain ⟨z1, z2⟩ := rep_mk (ni + 1) i k hk
        rw [HMD.out] at z2
        rw [← hp]
        exact ⟨row_cells ho z1, row_cells ho z2⟩
      have HC3 : Hid (∀ W', LG T W1 w0 W' ag V n D0 D T T (.slice (some ⟨lg, 0, none⟩) T lc1) U → ∀ k, k < ni → ∃ vg, va = some ⟨vg, 0, none⟩ ∧ W'.cell? ⟨vg, k * 2, none⟩ = some (.string (bs p)) ∧ W'.cell? ⟨vg, k * 2 + 1, none⟩ = some (.string (bs [x]))) := fun W' h k hk => by
        have ho := h.q.own i hi
        rw [HN.out.2.1] at ho
        have ho2 : W'.ownsRow W1.heap.size 35 2 (.slice va ni vc) ni (rep ni (mkc i)) := by
          have e := HN.out.1
          rw [e] at ho; exact ho
        obtain ⟨vg, vc', e, _, _, _⟩ := row_place ho2 (by omega)
        injection e with e1 _ e3
        subst e1 e3
        obtain ⟨z1, z2⟩ := rep_mk ni i k hk
        rw [HMD.out] at z2
        rw [← hp]
        exact ⟨vg, rfl, row_cells ho2 z1, row_cells ho2 z2⟩
      have HLB : Hid (∀ W', LG T W1 w0 W' ag V n D0 D T T (.slice (some ⟨lg, 0, none⟩) T lc1) U → LG T W1 w0 ((W'.alloc (.cells #[.int .u8 (i : Int)] 5)).alloc (.cells #[.string { data := #[109] }, .string (bs [x])] 35)) ag V n D0 D T T (.slice (some ⟨lg, 0, none⟩) T lc1) U ∧ RB ((W'.alloc (.cells #[.int .u8 (i : Int)] 5)).alloc (.cells #[.string { data := #[109] }, .string (bs [x])] 35)) (W'.heap.size + 1) ⟨p, [x]⟩) := fun W' h => by
        rw [← hp]
        refine ⟨h.later (bstep (balloc _ _) (balloc _ _)), ?_⟩
        have h := RB.new (W'.alloc (.cells #[.int .u8 (i : Int)] 5)) ⟨mkb, [x]⟩
        have hz : (W'.alloc (.cells #[.int .u8 (i : Int)] 5)).heap.size = W'.heap.size + 1 := by simp
        rw [hz] at h
        exact h
      clear hp hxe hx
      go_wp2_with fail
      go_loopw [20] (fun kv wq => ∃ k : Nat, k ≤ ni + 1 ∧ kv = .int .i64 k ∧ LG T W1 w0 wq ag V n D0 D T T (.slice (some ⟨lg, 0, none⟩) T lc1) U) (fun kv _ => ni + 1 - (intOf kv).toNat)
      case atStart => exact ⟨0, by omega, rfl, X5.out⟩
      case round =>
        rename World => wq
        obtain ⟨k, hk0, rfl, hlg⟩ := hrel
        have X7 : Hid (LG T W1 w0 wq ag V n D0 D T T (.slice (some ⟨lg, 0, none⟩) T lc1) U) := hlg
        clear hlg X5
        obtain ⟨c1, c2⟩ := HC1.out wq X7.out
        by_cases hk : k < ni + 1
        · have k1 : (k : Int) < ((ni + 1 : Nat) : Int) := by omega
          have k1' : (k : Int) < (ni : Int) + 1 := by omega
          have k2 : (0 : Int) ≤ (k : Int) := by omega
          have hc := HCV.out wq
          obtain ⟨y1, y2⟩ := HLB.out wq X7.out
          obtain ⟨w4, hw4⟩ : ∃ w4, (wq.alloc (.cells #[.int .u8 (i : Int)] 5)).alloc (.cells #[.string { data := #[109] }, .string (bs [x])] 35) = w4 := ⟨_, rfl⟩
          obtain ⟨mb, hmb⟩ : ∃ mb, wq.heap.size + 1 = mb := ⟨_, rfl⟩
          rw [hw4] at y1 y2
          rw [hmb] at y2
          have X8 : Hid (LG T W1 w0 w4 ag V n D0 D T T (.slice (some ⟨lg, 0, none⟩) T lc1) U ∧ RB w4 mb ⟨p, [x]⟩) := ⟨y1, y2⟩
          clear y1 y2
          go_upto_region 32 with fail
          try rw [hw4]
          try rw [hmb]
          clear hw4 hmb hc c1 c2
          obtain ⟨c1, c2⟩ := HC1.out w4 X8.out.1
          obtain ⟨d1, d2⟩ := HC2.out w4 X8.out.1 k hk
          obtain ⟨b1, b2, _, _⟩ := X8.out.2.cells
          simp only at b1 b2
          have hq := neq_run'
          have hl : leq ⟨p, [x]⟩ ⟨p, [x]⟩ = true := by unfold leq; simp
          by_cases hkn : k < ni
          · obtain ⟨vg, hve, e1, e2⟩ := HC3.out w4 X8.out.1 k hkn
            subst hve
            have k3 : (k : Int) < (ni : Int) := by omega
            go_wp2_with fail
            go_quiet (fail)
            go_wp2_with fail
            go_roundw
            case rel => exact ⟨k + 1, by omega, by go_num, X8.out.1.later (bd _ _)⟩
            case measure => simp [intOf]; omega
          · have k3 : ¬ ((k : Int) < (ni : Int)) := by omega
            go_wp2_with fail
            go_quiet (fail)
            go_wp2_with fail
            go_roundw
            case rel => exact ⟨k + 1, by omega, by go_num, X8.out.1.later (bd _ _)⟩
            case measure => simp [intOf]; omega
        · obtain rfl : k = ni + 1 := by omega
          go_wp2_with fail
          go_roundw
          case rel => exact ⟨i + 1, by omega, by go_num, X7.out⟩
          case measure => simp [intOf]; omega
    · obtain rfl : i = T := by omega
      go_wp2_with fail
      refine HK.out _ _ ?_
      clear HK
      exact f34 X (below_trans HA.out.bw X5.out.q.below)
end Go.Proofs.Ytclbnjfmipifnaa
