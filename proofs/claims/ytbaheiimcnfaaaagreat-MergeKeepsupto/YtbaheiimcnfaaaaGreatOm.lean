/-
  The law MergeKeeps: all are marked.
-/
import Derived.Test.YtbaheiimcnfaaaaGreatOl
namespace Go.Proofs.YtbaheiimcnfaaaaGreat
open Go.RowKit Go.Maps

theorem cell_allocK {w : World} (o : Obj) {g j : Nat} {u : Value} (hg : g < w.heap.size) (h : w.cell? ⟨g, j, none⟩ = some u) : (w.alloc o).cell? ⟨g, j, none⟩ = some u := by
  rw [World.cell?_of_block (w := w) ((balloc w o).block g hg)]; exact h

set_option maxRecDepth 100000 in
set_option maxHeartbeats 16000000 in
theorem p27 {w W1 : World} {la ka : Option Addr} {nl nk lc kc gm cm gf cf dw : Nat} {l : List Fl} {k : List (List UInt8)} {Wv : Nat → Value} {R : Nat → List (List UInt8)} {w0 : World} {T ag ac : Nat} {V : Nat → Value} {n : Nat → Nat} {C0 : Nat → List Value} {D0 D : Nat → Nat → Prop} {W : World} {lv2 lv3 lv4 lv5 lv6 lv14 lv15 lv16 lv17 lv18 lv19 lv20 lv21 lv22 lv23 lv24 lv25 lv26 lv27 lv28 lv29 lv30 lv31 lv32 lv33 lv34 lv35 lv36 lv37 lv38 lv39 lv40 lv41 lv42 lv43 lv44 lv45 lv46 lv47 lv48 lv49 lv50 lv51 lv52 lv53 lv54 lv55 lv56 lv57 lv58 lv59 lv60 lv61 lv62 lv63 lv64 lv65 lv66 lv67 lv68 lv69 lv70 lv71 lv72 lv73 lv74 lv75 lv76 lv77 lv78 lv79 lv80 lv81 lv82 lv83 lv84 lv85 lv86 lv87 lv88 lv89 lv90 lv91 lv92 lv93 lv94 lv95 lv96 lv97 lv98 lv99 lv100 lv101 lv102 lv103 lv104 lv105 lv106 lv107 lv108 lv109 lv110 lv111 lv112 lv113 lv114 lv115 lv116 lv117 lv118 lv119 lv120 lv121 lv122 lv123 lv124 lv125 lv126 lv127 lv128 lv129 lv130 lv131 lv132 lv133 lv134 lv135 lv136 lv137 lv138 lv139 lv140 lv141 lv142 lv143 lv144 lv145 lv146 lv147 lv148 lv149 lv150 lv151 lv152 lv153 lv154 lv155 lv156 lv157 lv158 lv159 lv160 lv161 lv162 lv163 lv164 lv165 lv166 lv167 lv168 lv169 lv170 lv171 lv172 lv173 lv174 lv175 lv176 lv177 lv178 lv179 lv180 lv181 lv182 lv183 lv184 lv185 lv186 lv187 lv188 lv189 lv190 lv191 lv192 lv193 lv194 lv195 lv196 lv197 lv198 lv199 lv200 lv201 lv202 lv203 lv204 lv205 lv206 lv207 lv208 lv209 lv210 lv211 lv212 lv213 lv214 lv215 lv216 lv217 lv218 lv219 lv220 lv221 lv222 lv223 lv224 lv225 lv226 lv227 lv228 lv229 lv230 lv231 lv232 lv233 lv234 lv235 lv236 lv237 lv238 lv239 lv240 lv241 lv242 lv243 lv244 lv245 lv246 lv247 lv248 lv249 lv250 lv251 lv252 lv253 lv254 lv255 lv256 lv257 lv258 lv259 lv260 lv261 lv262 lv263 lv264 lv265 lv266 lv267 lv268 lv269 lv270 lv271 lv272 lv273 lv274 lv275 lv276 lv277 lv278 lv279 lv280 lv281 lv282 lv283 lv284 lv285 lv286 lv287 lv288 lv289 lv290 lv291 lv292 lv293 lv294 lv295 lv296 lv297 lv298 lv299 lv300 lv301 lv302 lv303 lv304 lv305 lv306 lv307 lv308 lv309 lv310 lv311 lv312 lv313 : Value} (X : Hid (MX w W1 la ka nl nk lc kc gm cm gf cf dw l k Wv R)) (hT0 : 0 < T) (hT : T ≤ 200) (HA : Hid (AL T W1 w0 ag V n C0 D0)) (HQ : Hid (QM T W1 w0 W V n C0 D0 D)) :
    Code.wp Tryz.prog (suff 27 (Tryz.f4.body.getD .skip)) (bodyPost Tryz.prog Tryz.f4 (GoodK w)) ⟨#[.slice la nl lc, .slice ka nk kc, lv2, lv3, lv4, lv5, lv6, .slice (some ⟨gm, 0, none⟩) (nk + 2) cm, .slice (some ⟨gf, 0, none⟩) (nl + 1) cf, .slice (some ⟨gm, 0, none⟩) nk cm, .slice (some ⟨gf, 0, none⟩) nl cf, .pointer (some ⟨dw, 0, none⟩), .slice (some ⟨ag, 0, none⟩) T ac, .slice none 0 0, lv14, lv15, lv16, lv17, lv18, lv19, lv20, lv21, lv22, lv23, lv24, lv25, lv26, lv27, lv28, lv29, lv30, lv31, lv32, lv33, lv34, lv35, lv36, lv37, lv38, lv39, lv40, lv41, lv42, lv43, lv44, lv45, lv46, lv47, lv48, lv49, lv50, lv51, lv52, lv53, lv54, lv55, lv56, lv57, lv58, lv59, lv60, lv61, lv62, lv63, lv64, lv65, lv66, lv67, lv68, lv69, lv70, lv71, lv72, lv73, lv74, lv75, lv76, lv77, lv78, lv79, lv80, lv81, lv82, lv83, lv84, lv85, lv86, lv87, lv88, lv89, lv90, lv91, lv92, lv93, lv94, lv95, lv96, lv97, lv98, lv99, lv100, lv101, lv102, lv103, lv104, lv105, lv106, lv107, lv108, lv109, lv110, lv111, lv112, lv113, lv114, lv115, lv116, lv117, lv118, lv119, lv120, lv121, lv122, lv123, lv124, lv125, lv126, lv127, lv128, lv129, lv130, lv131, lv132, lv133, lv134, lv135, lv136, lv137, lv138, lv139, lv140, lv141, lv142, lv143, lv144, lv145, lv146, lv147, lv148, lv149, lv150, lv151, lv152, lv153, lv154, lv155, lv156, lv157, lv158, lv159, lv160, lv161, lv162, lv163, lv164, lv165, lv166, lv167, lv168, lv169, lv170, lv171, lv172, lv173, lv174, lv175, lv176, lv177, lv178, lv179, lv180, lv181, lv182, lv183, lv184, lv185, lv186, lv187, lv188, lv189, lv190, lv191, lv192, lv193, lv194, lv195, lv196, lv197, lv198, lv199, lv200, lv201, lv202, lv203, lv204, lv205, lv206, lv207, lv208, lv209, lv210, lv211, lv212, lv213, lv214, lv215, lv216, lv217, lv218, lv219, lv220, lv221, lv222, lv223, lv224, lv225, lv226, lv227, lv228, lv229, lv230, lv231, lv232, lv233, lv234, lv235, lv236, lv237, lv238, lv239, lv240, lv241, lv242, lv243, lv244, lv245, lv246, lv247, lv248, lv249, lv250, lv251, lv252, lv253, lv254, lv255, lv256, lv257, lv258, lv259, lv260, lv261, lv262, lv263, lv264, lv265, lv266, lv267, lv268, lv269, lv270, lv271, lv272, lv273, lv274, lv275, lv276, lv277, lv278, lv279, lv280, lv281, lv282, lv283, lv284, lv285, lv286, lv287, lv288, lv289, lv290, lv291, lv292, lv293, lv294, lv295, lv296, lv297, lv298, lv299, lv300, lv301, lv302, lv303, lv304, lv305, lv306, lv307, lv308, lv309, lv310, lv311, lv312, lv313], []⟩ W := by
  conv => arg 2; whnf
  refine wp_seq_k fun K hK => ?_
  have HK : Hid _ := hK
  clear hK
  go_wp2_with fail
  go_loopw [24] (fun iv wr => ∃ i : Nat, i ≤ T ∧ iv = .int .i64 i ∧ QM T W1 w0 wr V n (CM C0 n i 0) D0 D) (fun iv _ => T - (intOf iv).toNat)
  case atStart => exact ⟨0, by omega, rfl, HQ.out.congr (fun j _ => CM_start C0 n j)⟩
  case round =>
    obtain ⟨i, hi0, rfl, hq⟩ := hrel
    have X5 : Hid (QM T W1 w0 wr V n (CM C0 n i 0) D0 D) := hq
    clear hq HQ
    by_cases hi : i < T
    · have i1 : (i : Int) < (T : Int) := by omega
      have i2 : (0 : Int) ≤ (i : Int) := by omega
      obtain ⟨va, vc, hv⟩ := X5.out.v hi
      obtain ⟨ni, hni⟩ : ∃ ni, n i = ni := ⟨_, rfl⟩
      rw [hni] at hv
      have HNI : Hid (n i = ni ∧ ni ≤ 1000000) := ⟨hni, by rw [← hni]; exact HA.out.nl i hi⟩
      have HAC : Hid (w0.cell? ⟨ag, i, none⟩ = some (.slice va ni vc)) := by
        have := HA.out.cell i hi
        rw [hv] at this; exact this
      clear hni hv
      go_wp2_with fail
      go_loopw [25] (fun kv wq => ∃ z : Nat, z ≤ ni ∧ kv = .int .i64 z ∧ QM T W1 w0 wq V n (CM C0 n i z) D0 D) (fun kv _ => ni - (intOf kv).toNat)
      case atStart => exact ⟨0, by omega, rfl, X5.out⟩
      case round =>
        rename World => wq
        obtain ⟨z, hk0, rfl, hq⟩ := hrel
        have X6 : Hid (QM T W1 w0 wq V n (CM C0 n i z) D0 D) := hq
        clear hq X5
        have ac := X6.out.cell HAC.out HA.out.nag
        by_cases hk : z < ni
        · have k1 : (z : Int) < (ni : Int) := by omega
          have k2 : (0 : Int) ≤ (z : Int) := by omega
          have hni2 := HNI.out.2
          obtain ⟨gi, ci, hv, hcap, hgl, hsoft, hcell⟩ := X6.out.vp hi (by rw [HNI.out.1]; omega)
          rw [HNI.out.1] at hv hcap
          have hve : Value.slice va ni vc = .slice (some ⟨gi, 0, none⟩) ni ci := by
            have := HA.out.cell i hi
            rw [HAC.out, hv] at this
            injection this
          injection hve with e1 _ e3
          subst e1 e3
          have hcl : (CM C0 n i z i).length = ni * 1 := by
            have := (X6.out.own i hi).1
            rw [HNI.out.1] at this; exact this
          have m1 := hcell z _ (List.getElem?_eq_getElem (by omega))
          obtain ⟨y1, hy1⟩ : ∃ y, (CM C0 n i z i)[z]'(by omega) = y := ⟨_, rfl⟩
          rw [hy1] at m1
          have m3 := hsoft z
          have n1 := cell_allocK (.cells #[.int .u8 (48 + (i : Int))] 5) hgl m1
          have n3 : (wq.alloc (.cells #[.int .u8 (48 + (i : Int))] 5)).frozen? ⟨gi, z, none⟩ = false := by rw [World.frozen?_of_block (w := wq) ((balloc wq (.cells #[.int .u8 (48 + (i : Int))] 5)).block gi hgl)]; exact m3
          have HSD : Hid (∀ W', Below wq.heap.size wq W' → W'.cell? ⟨ag, i, none⟩ = some (.slice (some ⟨gi, 0, none⟩) ni vc)) := fun W' hW => (X6.out.later hW).cell HAC.out HA.out.nag
          have HQ2 : Hid (QM T W1 w0 (putC (wq.alloc (.cells #[.int .u8 (48 + (i : Int))] 5)).drew gi (z * 1) (mkc i)) V n (CM C0 n i (z + 1)) D0 D) := ((X6.out.later (balloc wq (.cells #[.int .u8 (48 + (i : Int))] 5)).drew).put hi (by rw [HNI.out.1]; exact hv) (z * 1) (mkc i)).congr (fun j hj => CM_put HA.out.len hi (by rw [HNI.out.1]; exact hk) j hj)
          have HS2 : Hid ((putC (wq.alloc (.cells #[.int .u8 (48 + (i : Int))] 5)).drew gi (z * 1) (mkc i)).cell? ⟨ag, i, none⟩ = some (.slice (some ⟨gi, 0, none⟩) ni vc)) := HQ2.out.cell HAC.out HA.out.nag
          simp only [mkc, putC, mkd, Nat.mul_one] at HQ2 HS2
          obtain ⟨x, hxe⟩ : ∃ x, UInt8.ofNat (48 + i) = x := ⟨_, rfl⟩
          have hx : x.toNat = 48 + i := by rw [← hxe]; simp; omega
          rw [hxe] at HQ2 HS2
          have hc : (convert 52 9 (.slice (some ⟨wq.heap.size, 0, none⟩) 1 1)).run Tryz.prog (wq.alloc (.cells #[.int .u8 (48 + (i : Int))] 5)).drew = .ok (.string (bs [x])) (wq.alloc (.cells #[.int .u8 (48 + (i : Int))] 5)).drew := convW (by rw [hx]; simp)
          have hw1 : IntKind.u8.wrap (i : Int) = (i : Int) := by rw [IntKind.wrap_u8]; omega
          have hw2 : IntKind.u8.wrap (48 + (i : Int)) = 48 + (i : Int) := by rw [IntKind.wrap_u8]; omega
          clear hxe hx hcl hcell hsoft hy1 hv hgl
          go_wp2_with fail
          refine wp_region_noPanic ?_
          refine wp_region_held_drew (S := fun W' => W'.cell? ⟨ag, i, none⟩ = some (.slice (some ⟨gi, 0, none⟩) ni vc)) (by kernel_rfl) (HSD.out _ (bd wq 1)) (fun hHeld => ?_)
          refine wpAnyH_take (i := 0) (oi := { dst := some 168, op := _, type := _, pos := _, after := _, guard := _ }) (v := ?vx1) rfl (by kernel_rfl) (by kernel_rfl) (by kernel_rfl) (fun _ _ _ h => h) (Or.inl ⟨by rfl, ?hyx1⟩) (by assumption) ?restx1
          case hyx1 => (intro w hSw; (try dsimp only at hSw); go_simp; try with_reducible rfl)
          try simp only [Act.put, List.setIfInBounds_toArray, List.set_cons_zero, List.set_cons_succ]
          refine wpAnyH_take (i := 1) (oi := { dst := some 169, op := _, type := _, pos := _, after := _, guard := _ }) (v := ?vx2) rfl (by kernel_rfl) (by kernel_rfl) (by kernel_rfl) (fun _ _ _ h => h) (Or.inl ⟨by rfl, ?hyx2⟩) (by assumption) ?restx2
          case hyx2 => (intro w hSw; (try dsimp only at hSw); go_simp; try with_reducible rfl)
          try simp only [Act.put, List.setIfInBounds_toArray, List.set_cons_zero, List.set_cons_succ]
          refine wpAnyH_take (i := 2) (oi := { dst := some 170, op := _, type := _, pos := _, after := _, guard := _ }) (v := ?vx3) rfl (by kernel_rfl) (by kernel_rfl) (by kernel_rfl) (fun _ _ _ h => h) (Or.inl ⟨by rfl, ?hyx3⟩) (by assumption) ?restx3
          case hyx3 => (intro w hSw; (try dsimp only at hSw); go_simp; try with_reducible rfl)
          try simp only [Act.put, List.setIfInBounds_toArray, List.set_cons_zero, List.set_cons_succ]
          refine wpAnyH_take (i := 3) (oi := { dst := some 171, op := _, type := _, pos := _, after := _, guard := _ }) (v := ?vx4) rfl (by kernel_rfl) (by kernel_rfl) (by kernel_rfl) (fun _ _ _ h => h) (Or.inl ⟨by rfl, ?hyx4⟩) (by assumption) ?restx4
          case hyx4 => (intro w hSw; (try dsimp only at hSw); go_simp; try with_reducible rfl)
          try simp only [Act.put, List.setIfInBounds_toArray, List.set_cons_zero, List.set_cons_succ]
          refine wpAnyH_take (i := 4) (oi := { dst := some 172, op := _, type := _, pos := _, after := _, guard := _ }) (v := ?vx5) rfl (by kernel_rfl) (by kernel_rfl) (by kernel_rfl) (fun _ _ _ h => h) (Or.inl ⟨by rfl, ?hyx5⟩) (by assumption) ?restx5
          case hyx5 => (intro w hSw; (try dsimp only at hSw); go_simp; try with_reducible rfl)
          try simp only [Act.put, List.setIfInBounds_toArray, List.set_cons_zero, List.set_cons_succ]
          refine wpAnyH_take (i := 5) (oi := { dst := some 173, op := _, type := _, pos := _, after := _, guard := _ }) (v := ?vx6) rfl (by kernel_rfl) (by kernel_rfl) (by kernel_rfl) (fun _ _ _ h => h) (Or.inl ⟨by rfl, ?hyx6⟩) (by assumption) ?restx6
          case hyx6 => (intro w hSw; (try dsimp only at hSw); go_simp; try with_reducible rfl)
          try simp only [Act.put, List.setIfInBounds_toArray, List.set_cons_zero, List.set_cons_succ]
          refine wpAnyH_take (i := 6) (oi := { dst := some 174, op := _, type := _, pos := _, after := _, guard := _ }) (v := ?vx7) rfl (by kernel_rfl) (by kernel_rfl) (by kernel_rfl) (fun _ _ _ h => h) (Or.inl ⟨by rfl, ?hyx7⟩) (by assumption) ?restx7
          case hyx7 => (intro w hSw; (try dsimp only at hSw); go_simp; try with_reducible rfl)
          try simp only [Act.put, List.setIfInBounds_toArray, List.set_cons_zero, List.set_cons_succ]
          refine wpAnyH_take (i := 7) (oi := { dst := some 175, op := _, type := _, pos := _, after := _, guard := _ }) (v := ?vx8) rfl (by kernel_rfl) (by kernel_rfl) (by kernel_rfl) (fun _ _ _ h => h) (Or.inl ⟨by rfl, ?hyx8⟩) (by assumption) ?restx8
          case hyx8 => (intro w hSw; (try dsimp only at hSw); go_simp; try with_reducible rfl)
          try simp only [Act.put, List.setIfInBounds_toArray, List.set_cons_zero, List.set_cons_succ]
          refine wpAnyH_ready (rs := [8]) (by kernel_rfl) (by simp) ?_
          refine AllReadyH.cons (o := { dst := some 176, op := _, type := _, pos := _, after := _, guard := _ }) rfl (fun K hK => ?_) AllReadyH.nil
          go_simp
          refine hK.out _ _ (HSD.out _ (balloc wq (.cells #[.int .u8 (48 + (i : Int))] 5)).drew) (fun hHeld => ?_)
          clear hK K
          try simp only [List.setIfInBounds_toArray, List.set_cons_zero, List.set_cons_succ]
          refine wpAnyH_ready (rs := [9]) (by kernel_rfl) (by simp) ?_
          refine AllReadyH.cons (o := { dst := some 177, op := _, type := _, pos := _, after := _, guard := _ }) rfl (fun K hK => ?_) AllReadyH.nil
          go_simp
          refine hK.out _ _ (HSD.out _ (balloc wq (.cells #[.int .u8 (48 + (i : Int))] 5)).drew) (fun hHeld => ?_)
          clear hK K
          try simp only [List.setIfInBounds_toArray, List.set_cons_zero, List.set_cons_succ]
          refine wpAnyH_take (i := 10) (oi := { dst := some 178, op := _, type := _, pos := _, after := _, guard := _ }) (v := ?vx9) rfl (by kernel_rfl) (by kernel_rfl) (by kernel_rfl) (fun _ _ _ h => h) (Or.inl ⟨by rfl, ?hyx9⟩) (by assumption) ?restx9
          case hyx9 => (intro w hSw; (try dsimp only at hSw); go_simp; try with_reducible rfl)
          try simp only [Act.put, List.setIfInBounds_toArray, List.set_cons_zero, List.set_cons_succ]
          refine wpAnyH_ready (rs := [11]) (by kernel_rfl) (by simp) ?_
          refine AllReadyH.cons (o := { dst := none, op := _, type := _, pos := _, after := _, guard := _ }) rfl (fun K hK => ?_) AllReadyH.nil
          go_simp
          refine hK.out _ _ HS2.out (fun hHeld => ?_)
          clear hK K
          try simp only [List.setIfInBounds_toArray, List.set_cons_zero, List.set_cons_succ]
          refine wpAnyH_done (by kernel_rfl) ?_ _
          refine NoPanic.normal ?_
          go_wp2_with fail
          go_roundw
          case rel => exact ⟨z + 1, by omega, by go_num, HQ2.out⟩
          case measure => simp [intOf]; omega
        · obtain rfl : z = ni := by omega
          have h2 := HNI.out.2
          go_wp2_with fail
          go_roundw
          case rel => exact ⟨i + 1, by omega, by go_num, X6.out.congr (fun j hj => by rw [← HNI.out.1]; exact CM_next HA.out.len hi j hj)⟩
          case measure => simp [intOf]; omega
    · obtain rfl : i = T := by omega
      go_wp2_with fail
      refine HK.out _ _ ?_
      clear HK
      exact p34 X hT0 hT HA (X5.out.congr (fun j hj => CM_end C0 n j hj))
end Go.Proofs.YtbaheiimcnfaaaaGreat
