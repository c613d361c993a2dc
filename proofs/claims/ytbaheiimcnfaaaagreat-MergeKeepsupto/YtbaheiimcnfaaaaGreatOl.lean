/-
  The law MergeKeeps: each is lengthened.
-/
import Derived.Test.YtbaheiimcnfaaaaGreatJOk
namespace Go.Proofs.YtbaheiimcnfaaaaGreat
open Go.RowKit Go.Maps

theorem QN.base' {B : Nat} {w wr : World} {T : Nat} {F : Nat → Knd} {V : Nat → Value} {n : Nat → Nat} {C : Nat → List Value} {D0 D : Nat → Nat → Prop} (h : QN B w wr T F V n C D0 D) : B ≤ wr.heap.size := Nat.le_trans h.base h.size
theorem LG.start {T : Nat} {W1 w0 W : World} {ag : Nat} {V : Nat → Value} {n : Nat → Nat} {D0 D : Nat → Nat → Prop} (h : QM T W1 w0 W V n (fun i => rep (n i) (mkc i)) D0 D) : LG T W1 w0 W ag V n D0 D 0 0 (.slice none 0 0) (fun _ => .slice none 0 0) :=
  ⟨h, World.ownsRow_nil _ _ _ _, (fun g hg => by cases hg), (fun i hi => by omega), (fun i hi => by omega)⟩
theorem src_Md (w : World) (x : UInt8) (i : Nat) (hx : mkd i = [x]) : Src Tryz.prog 1 23 (.slice (some ⟨w.heap.size, 0, none⟩) 1 1) 1 (mkc i) (w.alloc (.cells #[.string (bs [x])] 9)).drew := by
  refine Src.ofSlice _ und70 ⟨w.heap.size, 0, none⟩ 1 1 (mkc i) (by simp [mkc]) ?_ (kM_one i)
  have e : (.cells #[.string (bs [x])] 9 : Obj) = .cells (mkc i).toArray 9 := by
    unfold mkc; rw [hx]
  rw [e]
  intro j u hu
  exact World.news_of_block (w := (w.alloc (.cells (mkc i).toArray 9)).drew) (heap_alloc_new w _) j u hu

set_option maxRecDepth 100000 in
set_option maxHeartbeats 16000000 in
theorem p34 {w W1 : World} {la ka : Option Addr} {nl nk lc kc gm cm gf cf dw : Nat} {l : List Fl} {k : List (List UInt8)} {Wv : Nat → Value} {R : Nat → List (List UInt8)} {w0 : World} {T ag ac : Nat} {V : Nat → Value} {n : Nat → Nat} {C0 : Nat → List Value} {D0 D : Nat → Nat → Prop} {W : World} {lv2 lv3 lv4 lv5 lv6 lv14 lv15 lv16 lv17 lv18 lv19 lv20 lv21 lv22 lv23 lv24 lv25 lv26 lv27 lv28 lv29 lv30 lv31 lv32 lv33 lv34 lv35 lv36 lv37 lv38 lv39 lv40 lv41 lv42 lv43 lv44 lv45 lv46 lv47 lv48 lv49 lv50 lv51 lv52 lv53 lv54 lv55 lv56 lv57 lv58 lv59 lv60 lv61 lv62 lv63 lv64 lv65 lv66 lv67 lv68 lv69 lv70 lv71 lv72 lv73 lv74 lv75 lv76 lv77 lv78 lv79 lv80 lv81 lv82 lv83 lv84 lv85 lv86 lv87 lv88 lv89 lv90 lv91 lv92 lv93 lv94 lv95 lv96 lv97 lv98 lv99 lv100 lv101 lv102 lv103 lv104 lv105 lv106 lv107 lv108 lv109 lv110 lv111 lv112 lv113 lv114 lv115 lv116 lv117 lv118 lv119 lv120 lv121 lv122 lv123 lv124 lv125 lv126 lv127 lv128 lv129 lv130 lv131 lv132 lv133 lv134 lv135 lv136 lv137 lv138 lv139 lv140 lv141 lv142 lv143 lv144 lv145 lv146 lv147 lv148 lv149 lv150 lv151 lv152 lv153 lv154 lv155 lv156 lv157 lv158 lv159 lv160 lv161 lv162 lv163 lv164 lv165 lv166 lv167 lv168 lv169 lv170 lv171 lv172 lv173 lv174 lv175 lv176 lv177 lv178 lv179 lv180 lv181 lv182 lv183 lv184 lv185 lv186 lv187 lv188 lv189 lv190 lv191 lv192 lv193 lv194 lv195 lv196 lv197 lv198 lv199 lv200 lv201 lv202 lv203 lv204 lv205 lv206 lv207 lv208 lv209 lv210 lv211 lv212 lv213 lv214 lv215 lv216 lv217 lv218 lv219 lv220 lv221 lv222 lv223 lv224 lv225 lv226 lv227 lv228 lv229 lv230 lv231 lv232 lv233 lv234 lv235 lv236 lv237 lv238 lv239 lv240 lv241 lv242 lv243 lv244 lv245 lv246 lv247 lv248 lv249 lv250 lv251 lv252 lv253 lv254 lv255 lv256 lv257 lv258 lv259 lv260 lv261 lv262 lv263 lv264 lv265 lv266 lv267 lv268 lv269 lv270 lv271 lv272 lv273 lv274 lv275 lv276 lv277 lv278 lv279 lv280 lv281 lv282 lv283 lv284 lv285 lv286 lv287 lv288 lv289 lv290 lv291 lv292 lv293 lv294 lv295 lv296 lv297 lv298 lv299 lv300 lv301 lv302 lv303 lv304 lv305 lv306 lv307 lv308 lv309 lv310 lv311 lv312 lv313 : Value} (X : Hid (MX w W1 la ka nl nk lc kc gm cm gf cf dw l k Wv R)) (hT0 : 0 < T) (hT : T ≤ 200) (HA : Hid (AL T W1 w0 ag V n C0 D0)) (HQ : Hid (QM T W1 w0 W V n (fun i => rep (n i) (mkc i)) D0 D)) :
    Code.wp Tryz.prog (suff 34 (Tryz.f4.body.getD .skip)) (bodyPost Tryz.prog Tryz.f4 (GoodK w)) ⟨#[.slice la nl lc, .slice ka nk kc, lv2, lv3, lv4, lv5, lv6, .slice (some ⟨gm, 0, none⟩) (nk + 2) cm, .slice (some ⟨gf, 0, none⟩) (nl + 1) cf, .slice (some ⟨gm, 0, none⟩) nk cm, .slice (some ⟨gf, 0, none⟩) nl cf, .pointer (some ⟨dw, 0, none⟩), .slice (some ⟨ag, 0, none⟩) T ac, .slice none 0 0, lv14, lv15, lv16, lv17, lv18, lv19, lv20, lv21, lv22, lv23, lv24, lv25, lv26, lv27, lv28, lv29, lv30, lv31, lv32, lv33, lv34, lv35, lv36, lv37, lv38, lv39, lv40, lv41, lv42, lv43, lv44, lv45, lv46, lv47, lv48, lv49, lv50, lv51, lv52, lv53, lv54, lv55, lv56, lv57, lv58, lv59, lv60, lv61, lv62, lv63, lv64, lv65, lv66, lv67, lv68, lv69, lv70, lv71, lv72, lv73, lv74, lv75, lv76, lv77, lv78, lv79, lv80, lv81, lv82, lv83, lv84, lv85, lv86, lv87, lv88, lv89, lv90, lv91, lv92, lv93, lv94, lv95, lv96, lv97, lv98, lv99, lv100, lv101, lv102, lv103, lv104, lv105, lv106, lv107, lv108, lv109, lv110, lv111, lv112, lv113, lv114, lv115, lv116, lv117, lv118, lv119, lv120, lv121, lv122, lv123, lv124, lv125, lv126, lv127, lv128, lv129, lv130, lv131, lv132, lv133, lv134, lv135, lv136, lv137, lv138, lv139, lv140, lv141, lv142, lv143, lv144, lv145, lv146, lv147, lv148, lv149, lv150, lv151, lv152, lv153, lv154, lv155, lv156, lv157, lv158, lv159, lv160, lv161, lv162, lv163, lv164, lv165, lv166, lv167, lv168, lv169, lv170, lv171, lv172, lv173, lv174, lv175, lv176, lv177, lv178, lv179, lv180, lv181, lv182, lv183, lv184, lv185, lv186, lv187, lv188, lv189, lv190, lv191, lv192, lv193, lv194, lv195, lv196, lv197, lv198, lv199, lv200, lv201, lv202, lv203, lv204, lv205, lv206, lv207, lv208, lv209, lv210, lv211, lv212, lv213, lv214, lv215, lv216, lv217, lv218, lv219, lv220, lv221, lv222, lv223, lv224, lv225, lv226, lv227, lv228, lv229, lv230, lv231, lv232, lv233, lv234, lv235, lv236, lv237, lv238, lv239, lv240, lv241, lv242, lv243, lv244, lv245, lv246, lv247, lv248, lv249, lv250, lv251, lv252, lv253, lv254, lv255, lv256, lv257, lv258, lv259, lv260, lv261, lv262, lv263, lv264, lv265, lv266, lv267, lv268, lv269, lv270, lv271, lv272, lv273, lv274, lv275, lv276, lv277, lv278, lv279, lv280, lv281, lv282, lv283, lv284, lv285, lv286, lv287, lv288, lv289, lv290, lv291, lv292, lv293, lv294, lv295, lv296, lv297, lv298, lv299, lv300, lv301, lv302, lv303, lv304, lv305, lv306, lv307, lv308, lv309, lv310, lv311, lv312, lv313], []⟩ W := by
  conv => arg 2; whnf
  have HAG : Hid (ag < w0.heap.size) := World.block_lt_of_cell? w0 ⟨ag, 0, none⟩ (HA.out.cell 0 (by omega))
  refine wp_seq_k fun K hK => ?_
  have HK : Hid _ := hK
  clear hK
  go_wp2_with fail
  go_loopw [13, 26] (fun lv iv wr => ∃ (z : Nat) (D : Nat → Nat → Prop) (U : Nat → Value), z ≤ T ∧ iv = .int .i64 z ∧ LG T W1 w0 wr ag V n D0 D z z lv U) (fun _ iv _ => T - (intOf iv).toNat)
  case atStart => exact ⟨0, D, _, by omega, rfl, LG.start HQ.out⟩
  case round =>
    clear HQ
    obtain ⟨z, D, U, hk0, rfl, hlg⟩ := hrel
    obtain ⟨lo, lq, hle⟩ := row_form hlg.lr
    subst hle
    have X5 : Hid (LG T W1 w0 wr ag V n D0 D z z (.slice lo z lq) U) := hlg
    clear hlg
    by_cases hz : z < T
    · have k1 : (z : Int) < (T : Int) := by omega
      have k2 : (0 : Int) ≤ (z : Int) := by omega
      obtain ⟨va, vc, hv⟩ := X5.out.q.v hz
      obtain ⟨nz, hnz⟩ : ∃ nz, n z = nz := ⟨_, rfl⟩
      rw [hnz] at hv
      have hnl : nz ≤ 1000000 := by rw [← hnz]; exact HA.out.nl z hz
      have HNK : Hid (n z = nz ∧ V z = .slice va nz vc) := ⟨hnz, hv⟩
      have HAC : Hid (w0.cell? ⟨ag, z, none⟩ = some (.slice va nz vc)) := by
        have := HA.out.cell z hz
        rw [hv] at this; exact this
      clear hnz hv
      have ac1 := X5.out.q.cell HAC.out HA.out.nag
      have HSD : Hid (∀ W', Below wr.heap.size wr W' → W'.cell? ⟨ag, z, none⟩ = some (.slice va nz vc)) := fun W' hW => (X5.out.later hW).q.cell HAC.out HA.out.nag
      obtain ⟨x, hxe⟩ : ∃ x, UInt8.ofNat (48 + z) = x := ⟨_, rfl⟩
      have hx : x.toNat = 48 + z := by rw [← hxe]; simp; omega
      have HMD : Hid (mkd z = [x]) := by show mkd z = [x]; unfold mkd; rw [hxe]
      have hc : (convert 52 9 (.slice (some ⟨wr.heap.size, 0, none⟩) 1 1)).run Tryz.prog (wr.alloc (.cells #[.int .u8 (48 + (z : Int))] 5)).drew = .ok (.string (bs [x])) (wr.alloc (.cells #[.int .u8 (48 + (z : Int))] 5)).drew := convW (by rw [hx]; simp)
      have hw1 : IntKind.u8.wrap (z : Int) = (z : Int) := by rw [IntKind.wrap_u8]; omega
      have hw2 : IntKind.u8.wrap (48 + (z : Int)) = 48 + (z : Int) := by rw [IntKind.wrap_u8]; omega
      have HBB : Hid (Below wr.heap.size wr ((wr.alloc (.cells #[.int .u8 (48 + (z : Int))] 5)).alloc (.cells #[.string (bs [x])] 9)).drew) := bstep (balloc wr (.cells #[.int .u8 (48 + (z : Int))] 5)) (balloc (wr.alloc (.cells #[.int .u8 (48 + (z : Int))] 5)) (.cells #[.string (bs [x])] 9)).drew
      have X7 : Hid (LG T W1 w0 ((wr.alloc (.cells #[.int .u8 (48 + (z : Int))] 5)).alloc (.cells #[.string (bs [x])] 9)).drew ag V n D0 D z z (.slice lo z lq) U) := X5.out.later HBB.out
      have HOV : Hid ((((wr.alloc (.cells #[.int .u8 (48 + (z : Int))] 5)).alloc (.cells #[.string (bs [x])] 9)).drew).ownsRow W1.heap.size (kM z).e (kM z).sz (.slice va nz vc) nz (rep nz (kM z).c)) := by
        have := X7.out.q.own z hz
        rw [HNK.out.2, HNK.out.1] at this; exact this
      have HSRC : Hid (Src Tryz.prog (kM z).sz (kM z).ty (.slice (some ⟨wr.heap.size + 1, 0, none⟩) 1 1) 1 (kM z).c ((wr.alloc (.cells #[.int .u8 (48 + (z : Int))] 5)).alloc (.cells #[.string (bs [x])] 9)).drew) := by
        have h := src_Md (wr.alloc (.cells #[.int .u8 (48 + (z : Int))] 5)) x z HMD.out
        have hz : (wr.alloc (.cells #[.int .u8 (48 + (z : Int))] 5)).heap.size = wr.heap.size + 1 := by simp
        rw [hz] at h
        exact h
      have HBS : Hid (W1.heap.size ≤ (((wr.alloc (.cells #[.int .u8 (48 + (z : Int))] 5)).alloc (.cells #[.string (bs [x])] 9)).drew).heap.size) := X7.out.q.base'
      clear hxe hx
      go_wp2_with fail
      refine wp_region_noPanic ?_
      refine wp_region_held_drew (S := fun W' => W'.cell? ⟨ag, z, none⟩ = some (.slice va nz vc)) (by kernel_rfl) (HSD.out _ (bd wr 1)) (fun hHeld => ?_)
      refine wpAnyH_take (i := 0) (oi := { dst := some 185, op := _, type := _, pos := _, after := _, guard := _ }) (v := ?vx1) rfl (by kernel_rfl) (by kernel_rfl) (by kernel_rfl) (fun _ _ _ h => h) (Or.inl ⟨by rfl, ?hyx1⟩) (by assumption) ?restx1
      case hyx1 => (intro w hSw; (try dsimp only at hSw); go_simp; try with_reducible rfl)
      try simp only [Act.put, List.setIfInBounds_toArray, List.set_cons_zero, List.set_cons_succ]
      refine wpAnyH_take (i := 1) (oi := { dst := some 186, op := _, type := _, pos := _, after := _, guard := _ }) (v := ?vx2) rfl (by kernel_rfl) (by kernel_rfl) (by kernel_rfl) (fun _ _ _ h => h) (Or.inl ⟨by rfl, ?hyx2⟩) (by assumption) ?restx2
      case hyx2 => (intro w hSw; (try dsimp only at hSw); go_simp; try with_reducible rfl)
      try simp only [Act.put, List.setIfInBounds_toArray, List.set_cons_zero, List.set_cons_succ]
      refine wpAnyH_take (i := 2) (oi := { dst := some 187, op := _, type := _, pos := _, after := _, guard := _ }) (v := ?vx3) rfl (by kernel_rfl) (by kernel_rfl) (by kernel_rfl) (fun _ _ _ h => h) (Or.inl ⟨by rfl, ?hyx3⟩) (by assumption) ?restx3
      case hyx3 => (intro w hSw; (try dsimp only at hSw); go_simp; try with_reducible rfl)
      try simp only [Act.put, List.setIfInBounds_toArray, List.set_cons_zero, List.set_cons_succ]
      refine wpAnyH_take (i := 3) (oi := { dst := some 188, op := _, type := _, pos := _, after := _, guard := _ }) (v := ?vx4) rfl (by kernel_rfl) (by kernel_rfl) (by kernel_rfl) (fun _ _ _ h => h) (Or.inl ⟨by rfl, ?hyx4⟩) (by assumption) ?restx4
      case hyx4 => (intro w hSw; (try dsimp only at hSw); go_simp; try with_reducible rfl)
      try simp only [Act.put, List.setIfInBounds_toArray, List.set_cons_zero, List.set_cons_succ]
      refine wpAnyH_take (i := 4) (oi := { dst := some 189, op := _, type := _, pos := _, after := _, guard := _ }) (v := ?vx5) rfl (by kernel_rfl) (by kernel_rfl) (by kernel_rfl) (fun _ _ _ h => h) (Or.inl ⟨by rfl, ?hyx5⟩) (by assumption) ?restx5
      case hyx5 => (intro w hSw; (try dsimp only at hSw); go_simp; try with_reducible rfl)
      try simp only [Act.put, List.setIfInBounds_toArray, List.set_cons_zero, List.set_cons_succ]
      refine wpAnyH_take (i := 5) (oi := { dst := some 190, op := _, type := _, pos := _, after := _, guard := _ }) (v := ?vx6) rfl (by kernel_rfl) (by kernel_rfl) (by kernel_rfl) (fun _ _ _ h => h) (Or.inl ⟨by rfl, ?hyx6⟩) (by assumption) ?restx6
      case hyx6 => (intro w hSw; (try dsimp only at hSw); go_simp; try with_reducible rfl)
      try simp only [Act.put, List.setIfInBounds_toArray, List.set_cons_zero, List.set_cons_succ]
      refine wpAnyH_take (i := 6) (oi := { dst := some 191, op := _, type := _, pos := _, after := _, guard := _ }) (v := ?vx7) rfl (by kernel_rfl) (by kernel_rfl) (by kernel_rfl) (fun _ _ _ h => h) (Or.inl ⟨by rfl, ?hyx7⟩) (by assumption) ?restx7
      case hyx7 => (intro w hSw; (try dsimp only at hSw); go_simp; try with_reducible rfl)
      try simp only [Act.put, List.setIfInBounds_toArray, List.set_cons_zero, List.set_cons_succ]
      refine wpAnyH_take (i := 7) (oi := { dst := some 192, op := _, type := _, pos := _, after := _, guard := _ }) (v := ?vx8) rfl (by kernel_rfl) (by kernel_rfl) (by kernel_rfl) (fun _ _ _ h => h) (Or.inl ⟨by rfl, ?hyx8⟩) (by assumption) ?restx8
      case hyx8 => (intro w hSw; (try dsimp only at hSw); go_simp; try with_reducible rfl)
      try simp only [Act.put, List.setIfInBounds_toArray, List.set_cons_zero, List.set_cons_succ]
      refine wpAnyH_ready (rs := [8]) (by kernel_rfl) (by simp) ?_
      refine AllReadyH.cons (o := { dst := some 193, op := _, type := _, pos := _, after := _, guard := _ }) rfl (fun K hK => ?_) AllReadyH.nil
      go_simp
      refine hK.out _ _ (HSD.out _ (balloc wr (.cells #[.int .u8 (48 + (z : Int))] 5)).drew) (fun hHeld => ?_)
      clear hK K
      try simp only [List.setIfInBounds_toArray, List.set_cons_zero, List.set_cons_succ]
      refine wpAnyH_ready (rs := [9]) (by kernel_rfl) (by simp) ?_
      refine AllReadyH.cons (o := { dst := some 194, op := _, type := _, pos := _, after := _, guard := _ }) rfl (fun K hK => ?_) AllReadyH.nil
      go_simp
      refine hK.out _ _ (HSD.out _ (balloc wr (.cells #[.int .u8 (48 + (z : Int))] 5)).drew) (fun hHeld => ?_)
      clear hK K
      try simp only [List.setIfInBounds_toArray, List.set_cons_zero, List.set_cons_succ]
      refine wpAnyH_ready (rs := [10]) (by kernel_rfl) (by simp) ?_
      refine AllReadyH.cons (o := { dst := some 195, op := _, type := _, pos := _, after := _, guard := _ }) rfl (fun K hK => ?_) AllReadyH.nil
      go_simp
      refine hK.out _ _ (HSD.out _ HBB.out) (fun hHeld => ?_)
      clear hK K
      try simp only [List.setIfInBounds_toArray, List.set_cons_zero, List.set_cons_succ]
      refine wpAnyH_ready (rs := [11]) (by kernel_rfl) (by simp) ?_
      refine AllReadyH.cons (o := { dst := some 196, op := _, type := _, pos := _, after := _, guard := _ }) rfl (fun K hK => ?_) AllReadyH.nil
      refine step_append_k (kM_ok z) rfl (.tmp 189) (.tmp 195) rfl W1.heap.size nz (.slice va nz vc) _ rfl rfl HOV.out HSRC.out (by omega) HBS.out ?_
      intro A C w5 ho5 hon5 hw5 hk5
      have XM : Hid (LG T W1 w0 w5 ag V n D0 (fun i g => D i g ∨ (i = z ∧ (Value.slice A (nz + 1) C).ownBlock = some g)) (z + 1) z (.slice lo z lq) (fun i => if i = z then .slice A (nz + 1) C else U i)) := X7.out.mid (Nat.le_refl _) hz (by rw [HNK.out.1]; exact ho5) (by rw [HNK.out.2]; exact hon5) (by rw [HNK.out.2]; exact hw5) hk5
      clear ho5 hon5 hw5 hk5
      refine hK.out _ _ (XM.out.q.cell HAC.out HA.out.nag) (fun hHeld => ?_)
      clear hK K
      try simp only [Act.put, List.setIfInBounds_toArray, List.set_cons_zero, List.set_cons_succ]
      refine wpAnyH_ready (rs := [12]) (by kernel_rfl) (by simp) ?_
      refine AllReadyH.cons (o := { dst := some 197, op := _, type := _, pos := _, after := _, guard := _ }) rfl (fun K hK => ?_) AllReadyH.nil
      go_simp
      refine hK.out _ _ ((XM.out.later (balloc w5 (.cells #[.slice A (nz + 1) C] 23))).q.cell HAC.out HA.out.nag) (fun hHeld => ?_)
      clear hK K
      try simp only [List.setIfInBounds_toArray, List.set_cons_zero, List.set_cons_succ]
      refine wpAnyH_ready (rs := [13]) (by kernel_rfl) (by simp) ?_
      refine AllReadyH.cons (o := { dst := some 198, op := _, type := _, pos := _, after := _, guard := _ }) rfl (fun K hK => ?_) AllReadyH.nil
      refine step_app_S2 rfl (.tmp 185) (.tmp 197) rfl W1.heap.size ((List.range z).map (fun i => if i = z then .slice A (nz + 1) C else U i)) [.slice A (nz + 1) C] (.slice lo z lq) _ rfl rfl (by rw [List.length_map, List.length_range]; exact (XM.out.later (balloc w5 (.cells #[.slice A (nz + 1) C] 23))).lr) (src_S2 w5 A (nz + 1) C) (by simp; omega) (XM.out.later (balloc w5 (.cells #[.slice A (nz + 1) C] 23))).q.base' ?_
      intro v6 w6 ho6 hon6 hw6
      have hmap : (List.range z).map (fun i => if i = z then Value.slice A (nz + 1) C else U i) ++ [.slice A (nz + 1) C] = (List.range (z + 1)).map (fun i => if i = z then Value.slice A (nz + 1) C else U i) := by
        rw [List.range_succ, List.map_append]; simp
      rw [hmap, List.length_map, List.length_range] at ho6
      have hag := HAG.out
      have XN : Hid (LG T W1 w0 w6 ag V n D0 (fun i g => D i g ∨ (i = z ∧ (Value.slice A (nz + 1) C).ownBlock = some g)) (z + 1) (z + 1) v6 (fun i => if i = z then .slice A (nz + 1) C else U i)) := (XM.out.later (balloc w5 (.cells #[.slice A (nz + 1) C] 23))).lay hag ho6 hon6 (hw6.elim .inl (fun e => .inr ⟨_, e, Nat.le_refl _⟩))
      obtain ⟨a6, c6, hv6⟩ := row_form ho6
      subst hv6
      clear ho6 hon6 hw6 hmap hag
      refine hK.out _ _ (XN.out.q.cell HAC.out HA.out.nag) (fun hHeld => ?_)
      clear hK K
      try simp only [Act.put, List.setIfInBounds_toArray, List.set_cons_zero, List.set_cons_succ]
      refine wpAnyH_take (i := 14) (oi := { dst := some 13, op := _, type := _, pos := _, after := _, guard := _ }) (v := ?vx9) rfl (by kernel_rfl) (by kernel_rfl) (by kernel_rfl) (fun _ _ _ h => h) (Or.inl ⟨by rfl, ?hyx9⟩) (by assumption) ?restx9
      case hyx9 => (intro w hSw; (try dsimp only at hSw); go_simp; try with_reducible rfl)
      try simp only [Act.put, List.setIfInBounds_toArray, List.set_cons_zero, List.set_cons_succ]
      refine wpAnyH_done (by kernel_rfl) ?_ _
      refine NoPanic.normal ?_
      go_wp2_with fail
      go_roundw
      case rel => exact ⟨z + 1, _, _, by omega, by go_num, XN.out⟩
      case measure => simp [intOf]; omega
    · obtain rfl : z = T := by omega
      go_wp2_with fail
      refine HK.out _ _ ?_
      clear HK
      exact p38 X hT0 hT HA X5
end Go.Proofs.YtbaheiimcnfaaaaGreat
