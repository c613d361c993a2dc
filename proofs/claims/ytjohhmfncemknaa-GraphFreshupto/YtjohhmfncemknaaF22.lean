/-
  The law of new memory: each is the document's.
-/
import Derived.Test.YtjohhmfncemknaaF27
namespace Go.Proofs.Ytjohhmfncemknaa
open Go.RowKit Go.Maps

/-- the four answers -/
noncomputable def Lx (N : List Lb) (E : List Ee) (a : Lb) (fr : List Lb) (j : Nat) : List Lb := if j = 0 then rs N else if j = 1 then rs (oE E a) else if j = 2 then RS N E fr else (Gs.ord (rs N) E).getD []
def wv (v0 v1 v2 v3 : Value) (j : Nat) : Value := if j = 0 then v0 else if j = 1 then v1 else if j = 2 then v2 else v3
section
variable {w W1 W' : World} {g d ab ll lo lc0 wb fn fc : Nat} {fa : Option Addr} {v0 v1 v2 v3 : Value} {N : List Lb} {E : List Ee} {a : Lb} {fr : List Lb}
theorem FX.want (h : FX w W1 g d ab ll lo lc0 wb fa fn fc v0 v1 v2 v3 N E a fr) (hW : Below W1.heap.size W1 W') {j : Nat} (hj : j < 4) : W'.cell? ⟨wb, j, none⟩ = some (wv v0 v1 v2 v3 j) ∧ LS W' (wv v0 v1 v2 v3 j) (Lx N E a fr j) := by
  have hwl : wb < W1.heap.size := (Array.getElem?_eq_some_iff.1 h.wt).1
  have h1 : W'.heap[wb]? = _ := (hW.block wb hwl).trans h.wt
  have hj' : j = 0 ∨ j = 1 ∨ j = 2 ∨ j = 3 := by omega
  rcases hj' with rfl | rfl | rfl | rfl
  · exact ⟨by simp [World.cell?, h1, wv], h.l0.later hW⟩
  · exact ⟨by simp [World.cell?, h1, wv], h.l1.later hW⟩
  · exact ⟨by simp [World.cell?, h1, wv], h.l2.later hW⟩
  · exact ⟨by simp [World.cell?, h1, wv], h.l3.later hW⟩
theorem FX.lens (h : FX w W1 g d ab ll lo lc0 wb fa fn fc v0 v1 v2 v3 N E a fr) (j : Nat) : (Lx N E a fr j).length ≤ 1000000 := by
  obtain ⟨F, D, ns, out, hbt⟩ := h.bt
  have h1 := hbt.dg.nz
  have h2 := hbt.dg.ez
  have h3 : (rs N).length ≤ N.length := Gs.ris_le _
  have h4 : (rs (oE E a)).length ≤ (oE E a).length := Gs.ris_le _
  have h5 := oE_len E a
  have h6 := RS_len N E fr
  have h7 : ((Gs.ord (rs N) E).getD []).length ≤ (rs N).length := ord_len
  unfold Lx
  split
  · omega
  · split
    · omega
    · split <;> omega
end

set_option maxRecDepth 100000 in
set_option maxHeartbeats 16000000 in
theorem f22 {w W1 : World} {g d ab ll lo lc0 wb fn fc ag ac : Nat} {fa : Option Addr} {v0 v1 v2 v3 : Value} {N : List Lb} {E : List Ee} {a : Lb} {fr : List Lb} {V : Nat → Value} {n : Nat → Nat} {C0 : Nat → List Value} {D0 D : Nat → Nat → Prop} {W : World} {lv0 lv2 lv3 lv4 lv6 lv8 lv10 lv11 lv15 lv16 lv17 lv18 lv19 lv20 lv21 lv22 lv23 lv24 lv25 lv26 lv27 lv28 lv29 lv30 lv31 lv32 lv33 lv34 lv35 lv36 lv37 lv38 lv39 lv40 lv41 lv42 lv43 lv44 lv45 lv46 lv47 lv48 lv49 lv50 lv51 lv52 lv53 lv54 lv55 lv56 lv57 lv58 lv59 lv60 lv61 lv62 lv63 lv64 lv65 lv66 lv67 lv68 lv69 lv70 lv71 lv72 lv73 lv74 lv75 lv76 lv77 lv78 lv79 lv80 lv81 lv82 lv83 lv84 lv85 lv86 lv87 lv88 lv89 lv90 lv91 lv92 lv93 lv94 lv95 lv96 lv97 lv98 lv99 lv100 lv101 lv102 lv103 lv104 lv105 lv106 lv107 lv108 lv109 lv110 lv111 lv112 lv113 lv114 lv115 lv116 lv117 lv118 lv119 lv120 lv121 lv122 lv123 lv124 lv125 lv126 lv127 lv128 lv129 lv130 lv131 lv132 lv133 lv134 lv135 lv136 lv137 lv138 lv139 lv140 lv141 lv142 lv143 lv144 lv145 lv146 lv147 lv148 lv149 lv150 lv151 lv152 lv153 lv154 lv155 lv156 lv157 lv158 lv159 lv160 lv161 lv162 lv163 lv164 lv165 lv166 lv167 lv168 lv169 lv170 lv171 lv172 lv173 lv174 lv175 lv176 lv177 lv178 lv179 lv180 lv181 lv182 lv183 lv184 lv185 lv186 lv187 lv188 lv189 lv190 lv191 lv192 lv193 lv194 lv195 lv196 lv197 lv198 lv199 lv200 lv201 lv202 lv203 lv204 lv205 lv206 lv207 lv208 lv209 lv210 lv211 lv212 lv213 lv214 lv215 lv216 lv217 lv218 lv219 lv220 lv221 lv222 lv223 lv224 lv225 lv226 lv227 lv228 lv229 lv230 lv231 lv232 lv233 lv234 lv235 lv236 lv237 lv238 lv239 lv240 lv241 lv242 lv243 lv244 lv245 lv246 lv247 lv248 lv249 lv250 lv251 lv252 lv253 lv254 lv255 lv256 lv257 lv258 lv259 lv260 lv261 lv262 lv263 lv264 lv265 lv266 lv267 lv268 lv269 lv270 lv271 lv272 lv273 lv274 lv275 lv276 lv277 lv278 lv279 lv280 lv281 lv282 lv283 lv284 lv285 lv286 lv287 lv288 lv289 lv290 lv291 lv292 lv293 lv294 lv295 lv296 lv297 lv298 lv299 lv300 lv301 lv302 lv303 lv304 lv305 lv306 lv307 lv308 lv309 lv310 lv311 lv312 lv313 lv314 lv315 lv316 lv317 lv318 lv319 lv320 : Value} (X : Hid (FX w W1 g d ab ll lo lc0 wb fa fn fc v0 v1 v2 v3 N E a fr)) (HA : Hid (AL W1 W ag V n C0 D0)) (HQ : Hid (QM W1 W W V n C0 D0 D)) (HC : Hid (∀ j, j < 8 → n j = (Lx N E a fr (j % 4)).length ∧ C0 j = lc (Lx N E a fr (j % 4)))) :
    Code.wp Try.prog (suff 22 (Try.f5.body.getD .skip)) (bodyPost Try.prog Try.f5 (GoodE w)) ⟨#[lv0, .slice fa fn fc, lv2, lv3, lv4, .pointer (some ⟨g, 0, none⟩), lv6, .pointer (some ⟨ab, 0, none⟩), lv8, .slice (some ⟨ll, lo, none⟩) (fn + 2) lc0, lv10, lv11, .pointer (some ⟨wb, 0, none⟩), .slice (some ⟨ag, 0, none⟩) 8 ac, .slice none 0 0, lv15, lv16, lv17, lv18, lv19, lv20, lv21, lv22, lv23, lv24, lv25, lv26, lv27, lv28, lv29, lv30, lv31, lv32, lv33, lv34, lv35, lv36, lv37, lv38, lv39, lv40, lv41, lv42, lv43, lv44, lv45, lv46, lv47, lv48, lv49, lv50, lv51, lv52, lv53, lv54, lv55, lv56, lv57, lv58, lv59, lv60, lv61, lv62, lv63, lv64, lv65, lv66, lv67, lv68, lv69, lv70, lv71, lv72, lv73, lv74, lv75, lv76, lv77, lv78, lv79, lv80, lv81, lv82, lv83, lv84, lv85, lv86, lv87, lv88, lv89, lv90, lv91, lv92, lv93, lv94, lv95, lv96, lv97, lv98, lv99, lv100, lv101, lv102, lv103, lv104, lv105, lv106, lv107, lv108, lv109, lv110, lv111, lv112, lv113, lv114, lv115, lv116, lv117, lv118, lv119, lv120, lv121, lv122, lv123, lv124, lv125, lv126, lv127, lv128, lv129, lv130, lv131, lv132, lv133, lv134, lv135, lv136, lv137, lv138, lv139, lv140, lv141, lv142, lv143, lv144, lv145, lv146, lv147, lv148, lv149, lv150, lv151, lv152, lv153, lv154, lv155, lv156, lv157, lv158, lv159, lv160, lv161, lv162, lv163, lv164, lv165, lv166, lv167, lv168, lv169, lv170, lv171, lv172, lv173, lv174, lv175, lv176, lv177, lv178, lv179, lv180, lv181, lv182, lv183, lv184, lv185, lv186, lv187, lv188, lv189, lv190, lv191, lv192, lv193, lv194, lv195, lv196, lv197, lv198, lv199, lv200, lv201, lv202, lv203, lv204, lv205, lv206, lv207, lv208, lv209, lv210, lv211, lv212, lv213, lv214, lv215, lv216, lv217, lv218, lv219, lv220, lv221, lv222, lv223, lv224, lv225, lv226, lv227, lv228, lv229, lv230, lv231, lv232, lv233, lv234, lv235, lv236, lv237, lv238, lv239, lv240, lv241, lv242, lv243, lv244, lv245, lv246, lv247, lv248, lv249, lv250, lv251, lv252, lv253, lv254, lv255, lv256, lv257, lv258, lv259, lv260, lv261, lv262, lv263, lv264, lv265, lv266, lv267, lv268, lv269, lv270, lv271, lv272, lv273, lv274, lv275, lv276, lv277, lv278, lv279, lv280, lv281, lv282, lv283, lv284, lv285, lv286, lv287, lv288, lv289, lv290, lv291, lv292, lv293, lv294, lv295, lv296, lv297, lv298, lv299, lv300, lv301, lv302, lv303, lv304, lv305, lv306, lv307, lv308, lv309, lv310, lv311, lv312, lv313, lv314, lv315, lv316, lv317, lv318, lv319, lv320], []⟩ W := by
  conv => arg 2; whnf
  refine wp_seq_k fun K hK => ?_
  have HK : Hid _ := hK
  clear hK
  go_wp2_with fail
  go_loopw [18] (fun iv wr => ∃ i : Nat, i ≤ 8 ∧ iv = .int .i64 i ∧ Below W.heap.size W wr) (fun iv _ => 8 - (intOf iv).toNat)
  case atStart => exact ⟨0, by omega, rfl, Below.refl _ _⟩
  case round =>
    obtain ⟨i, hi0, rfl, hb⟩ := hrel
    have HB5 : Hid (Below W.heap.size W wr) := hb
    clear hb
    by_cases hi : i < 8
    · have i1 : (i : Int) < 8 := by omega
      have i2 : (0 : Int) ≤ (i : Int) := by omega
      have i3 : Int.tmod (i : Int) 4 = ((i % 4 : Nat) : Int) := by rw [Int.tmod_eq_emod_of_nonneg (by omega)]; omega
      have i4 : ((i % 4 : Nat) : Int) < 4 := by omega
      have i5 : (0 : Int) ≤ ((i % 4 : Nat) : Int) := by omega
      obtain ⟨va, vc, hv⟩ := HQ.out.v hi
      obtain ⟨vn, hvn⟩ : ∃ vn, n i = vn := ⟨_, rfl⟩
      rw [hvn] at hv
      obtain ⟨xa, xc, hxe, _⟩ := (X.out.want HA.out.bw (j := i % 4) (by omega)).2.form
      obtain ⟨xn, hxn⟩ : ∃ xn, (Lx N E a fr (i % 4)).length = xn := ⟨_, rfl⟩
      rw [hxn] at hxe
      have HS : Hid (∀ W', Below W.heap.size W W' → W'.cell? ⟨ag, i, none⟩ = some (.slice va vn vc) ∧ W'.cell? ⟨wb, i % 4, none⟩ = some (.slice xa xn xc)) := fun W' hW => by
        have h1 := (HQ.out.later hW).cell (HA.out.cell i hi) HA.out.nag
        rw [hv] at h1
        have h2 := (X.out.want (bstep HA.out.bw hW) (j := i % 4) (by omega)).1
        rw [hxe] at h2
        exact ⟨h1, h2⟩
      have HSM : Hid (∀ W', Below W.heap.size W W' → Calls Try.prog 11 #[.slice va vn vc, .slice xa xn xc] W' fun e w' => e = .returned (.bool true) ∧ Below W'.heap.size W' w') := fun W' hW => by
        have ho := (HQ.out.later hW).own i hi
        obtain ⟨z1, z2⟩ := HC.out i hi
        rw [z1, z2, hv] at ho
        have h1 : LS W' (.slice va vn vc) (Lx N E a fr (i % 4)) := OwnL.rs (base := W1.heap.size) ho
        have h2 := (X.out.want (bstep HA.out.bw hW) (j := i % 4) (by omega)).2
        rw [hxe] at h2
        exact same_true h1 h2 (Nat.le_trans (X.out.lens _) (by omega))
      clear hv hvn hxe hxn
      obtain ⟨s1, s2⟩ := HS.out wr HB5.out
      obtain ⟨r, hr⟩ : ∃ r, i % 4 = r := ⟨_, rfl⟩
      rw [hr] at i3 i4 i5 s2 HS
      clear hr
      have HC5 : Hid (Calls Try.prog 11 #[.slice va vn vc, .slice xa xn xc] wr.drew fun e w' => e = .returned (.bool true) ∧ Below wr.drew.heap.size wr.drew w') := HSM.out wr.drew (bstep HB5.out (bd wr 1))
      go_wp2_with fail
      go_region_held3 (fun W' => W'.cell? ⟨ag, i, none⟩ = some (.slice va vn vc) ∧ W'.cell? ⟨wb, r, none⟩ = some (.slice xa xn xc)) (first | (with_reducible exact S6.out) | go_keep) (first | (go_at_call 11; (with_reducible refine HC5.out.mono ?_); rintro e w6 ⟨rfl, hb⟩; have HB6 : Hid (Below W.heap.size W w6) := bstep (bstep HB5.out (bd wr 1)) hb; have S6 : Hid (w6.cell? ⟨ag, i, none⟩ = some (.slice va vn vc) ∧ w6.cell? ⟨wb, r, none⟩ = some (.slice xa xn xc)) := HS.out w6 HB6.out; clear hb))
      go_wp2_with fail
      go_roundw
      case rel => exact ⟨i + 1, by omega, by go_num, HB6.out⟩
      case measure => simp [intOf]; omega
    · obtain rfl : i = 8 := by omega
      go_wp2_with fail
      refine HK.out _ _ ?_
      clear HK
      exact f27 X HA (HQ.out.later HB5.out)
end Go.Proofs.Ytjohhmfncemknaa
