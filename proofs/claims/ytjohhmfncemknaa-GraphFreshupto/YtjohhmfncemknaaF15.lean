/-
  The law of new memory: what the document answers.
-/
import Derived.Test.YtjohhmfncemknaaF17
namespace Go.Proofs.Ytjohhmfncemknaa
open Go.RowKit Go.Maps


theorem hid_of {p : Prop} (h : p) : Hid p := h
/-- the graphs, the label and the list -/
structure FY (w W : World) (g d ab : Nat) (fa : Option Addr) (fn fc : Nat) (N : List Lb) (E : List Ee) (a : Lb) (fr : List Lb) : Prop where
  bel : Below w.heap.size w W
  bt : ∃ F D ns out, Bt W F g ns out D d N E
  bx : RB W ab a
  lu : Lu a
  ln : fr.length = fn
  fs : LS W (.slice fa fn fc) fr
  fl : fr.length ≤ 1048576
  fu : ∀ x ∈ fr, Lu x
def st4 (z : World) (wb : Nat) (a b c d : Value) : World := (((z.setCell ⟨wb, 0, none⟩ a).setCell ⟨wb, 1, none⟩ b).setCell ⟨wb, 2, none⟩ c).setCell ⟨wb, 3, none⟩ d
theorem st4_heap {z : World} {wb : Nat} {x0 x1 x2 x3 : Value} (h : z.heap[wb]? = some (.cells #[x0, x1, x2, x3] 55 (0, 0))) (a b c d : Value) : (st4 z wb a b c d).heap[wb]? = some (.cells #[a, b, c, d] 55 (0, 0)) := by
  unfold st4
  rw [heap_setCell _ _ _ _ (heap_setCell _ _ _ _ (heap_setCell _ _ _ _ (heap_setCell _ _ _ _ h)))]
  simp
theorem st4_only (z : World) (wb : Nat) (a b c d : Value) : Only [wb] z (st4 z wb a b c d) :=
  (((Only.set z wb 0 a).trans (Only.set _ wb 1 b)).trans (Only.set _ wb 2 c)).trans (Only.set _ wb 3 d)
theorem st4_below {B : Nat} {w z : World} {wb : Nat} (h : Below B w z) (hB : B ≤ wb) (a b c d : Value) : Below B w (st4 z wb a b c d) :=
  (((h.setCell (p := ⟨wb, 0, none⟩) hB a).setCell (p := ⟨wb, 1, none⟩) hB b).setCell (p := ⟨wb, 2, none⟩) hB c).setCell (p := ⟨wb, 3, none⟩) hB d
theorem fcells4 {z : World} {wb : Nat} {x0 x1 x2 x3 : Value} (h : z.heap[wb]? = some (.cells #[x0, x1, x2, x3] 55 (0, 0))) : z.cell? ⟨wb, 0, none⟩ = some x0 ∧ z.cell? ⟨wb, 1, none⟩ = some x1 ∧ z.cell? ⟨wb, 2, none⟩ = some x2 ∧ z.cell? ⟨wb, 3, none⟩ = some x3 ∧
    z.frozen? ⟨wb, 0, none⟩ = false ∧ z.frozen? ⟨wb, 1, none⟩ = false ∧ z.frozen? ⟨wb, 2, none⟩ = false ∧ z.frozen? ⟨wb, 3, none⟩ = false :=
  ⟨by simp [World.cell?, h], by simp [World.cell?, h], by simp [World.cell?, h], by simp [World.cell?, h], by simp [World.frozen?, h], by simp [World.frozen?, h], by simp [World.frozen?, h], by simp [World.frozen?, h]⟩
section
variable {w W z : World} {g d ab ll lo lc0 fn fc wb : Nat} {fa : Option Addr} {N : List Lb} {E : List Ee} {a : Lb} {fr : List Lb} {v0 v1 v2 v3 x0 x1 x2 x3 : Value} {B0 B1 B2 : Nat}
theorem FY.want (h : FY w W g d ab fa fn fc N E a fr) (hl : LS W (.slice (some ⟨ll, lo, none⟩) (fn + 2) lc0) (fr ++ [⟨[120], [49]⟩, ⟨[120], [50]⟩]) ∧ fn + 2 ≤ lc0) (hv : LS W v3 ((Gs.ord (rs N) E).getD [])) (hz : Below W.heap.size W z) (hwb : W.heap.size ≤ wb) (hb : z.heap[wb]? = some (.cells #[x0, x1, x2, x3] 55 (0, 0)))
    (o0 : OwnL B0 z v0 (rs N)) (n0 : ∀ k, v0.ownBlock = some k → k ≠ wb) (o1 : OwnL B1 z v1 (rs (oE E a))) (n1 : ∀ k, v1.ownBlock = some k → k ≠ wb) (o2 : OwnL B2 z v2 (RS N E fr)) (n2 : ∀ k, v2.ownBlock = some k → k ≠ wb) :
    FX w (st4 z wb v0 v1 v2 v3) g d ab ll lo lc0 wb fa fn fc v0 v1 v2 v3 N E a fr ∧ Below W.heap.size W (st4 z wb v0 v1 v2 v3) := by
  have hbz := st4_below hz hwb v0 v1 v2 v3
  have hon := st4_only z wb v0 v1 v2 v3
  obtain ⟨F, D, ns, out, bt⟩ := h.bt
  exact ⟨⟨bstep h.bel hbz, ⟨F, D, ns, out, bt.later hbz⟩, h.bx.later hbz, h.lu, st4_heap hb _ _ _ _, (o0.only hon (fun k hk hm => n0 k hk (List.mem_singleton.1 hm))).rs, (o1.only hon (fun k hk hm => n1 k hk (List.mem_singleton.1 hm))).rs, (o2.only hon (fun k hk hm => n2 k hk (List.mem_singleton.1 hm))).rs,
    hv.later hbz, hl.1.later hbz, hl.2, h.ln, h.fs.later hbz, h.fl, h.fu⟩, hbz⟩
theorem FY.later {W' : World} (h : FY w W g d ab fa fn fc N E a fr) (hb : Below W.heap.size W W') : FY w W' g d ab fa fn fc N E a fr := by
  obtain ⟨F, D, ns, out, bt⟩ := h.bt
  exact ⟨bstep h.bel hb, ⟨F, D, ns, out, bt.later hb⟩, h.bx.later hb, h.lu, h.ln, h.fs.later hb, h.fl, h.fu⟩
end

set_option maxRecDepth 100000 in
set_option maxHeartbeats 16000000 in
theorem f15 {w W : World} {g d ab ll lo lc0 fn fc on oc : Nat} {fa oa : Option Addr} {N : List Lb} {E : List Ee} {a : Lb} {fr : List Lb} {lv0 lv2 lv3 lv4 lv8 lv11 lv12 lv13 lv14 lv15 lv16 lv17 lv18 lv19 lv20 lv21 lv22 lv23 lv24 lv25 lv26 lv27 lv28 lv29 lv30 lv31 lv32 lv33 lv34 lv35 lv36 lv37 lv38 lv39 lv40 lv41 lv42 lv43 lv44 lv45 lv46 lv47 lv48 lv49 lv50 lv51 lv52 lv53 lv54 lv55 lv56 lv57 lv58 lv59 lv60 lv61 lv62 lv63 lv64 lv65 lv66 lv67 lv68 lv69 lv70 lv71 lv72 lv73 lv74 lv75 lv76 lv77 lv78 lv79 lv80 lv81 lv82 lv83 lv84 lv85 lv86 lv87 lv88 lv89 lv90 lv91 lv92 lv93 lv94 lv95 lv96 lv97 lv98 lv99 lv100 lv101 lv102 lv103 lv104 lv105 lv106 lv107 lv108 lv109 lv110 lv111 lv112 lv113 lv114 lv115 lv116 lv117 lv118 lv119 lv120 lv121 lv122 lv123 lv124 lv125 lv126 lv127 lv128 lv129 lv130 lv131 lv132 lv133 lv134 lv135 lv136 lv137 lv138 lv139 lv140 lv141 lv142 lv143 lv144 lv145 lv146 lv147 lv148 lv149 lv150 lv151 lv152 lv153 lv154 lv155 lv156 lv157 lv158 lv159 lv160 lv161 lv162 lv163 lv164 lv165 lv166 lv167 lv168 lv169 lv170 lv171 lv172 lv173 lv174 lv175 lv176 lv177 lv178 lv179 lv180 lv181 lv182 lv183 lv184 lv185 lv186 lv187 lv188 lv189 lv190 lv191 lv192 lv193 lv194 lv195 lv196 lv197 lv198 lv199 lv200 lv201 lv202 lv203 lv204 lv205 lv206 lv207 lv208 lv209 lv210 lv211 lv212 lv213 lv214 lv215 lv216 lv217 lv218 lv219 lv220 lv221 lv222 lv223 lv224 lv225 lv226 lv227 lv228 lv229 lv230 lv231 lv232 lv233 lv234 lv235 lv236 lv237 lv238 lv239 lv240 lv241 lv242 lv243 lv244 lv245 lv246 lv247 lv248 lv249 lv250 lv251 lv252 lv253 lv254 lv255 lv256 lv257 lv258 lv259 lv260 lv261 lv262 lv263 lv264 lv265 lv266 lv267 lv268 lv269 lv270 lv271 lv272 lv273 lv274 lv275 lv276 lv277 lv278 lv279 lv280 lv281 lv282 lv283 lv284 lv285 lv286 lv287 lv288 lv289 lv290 lv291 lv292 lv293 lv294 lv295 lv296 lv297 lv298 lv299 lv300 lv301 lv302 lv303 lv304 lv305 lv306 lv307 lv308 lv309 lv310 lv311 lv312 lv313 lv314 lv315 lv316 lv317 lv318 lv319 lv320 : Value} (X : Hid (FY w W g d ab fa fn fc N E a fr)) (HL : Hid (LS W (.slice (some ⟨ll, lo, none⟩) (fn + 2) lc0) (fr ++ [⟨[120], [49]⟩, ⟨[120], [50]⟩]) ∧ fn + 2 ≤ lc0)) (HV : Hid (LS W (.slice oa on oc) ((Gs.ord (rs N) E).getD []))) :
    Code.wp Try.prog (suff 15 (Try.f5.body.getD .skip)) (bodyPost Try.prog Try.f5 (GoodE w)) ⟨#[lv0, .slice fa fn fc, lv2, lv3, lv4, .pointer (some ⟨g, 0, none⟩), .pointer (some ⟨d, 0, none⟩), .pointer (some ⟨ab, 0, none⟩), lv8, .slice (some ⟨ll, lo, none⟩) (fn + 2) lc0, .slice oa on oc, lv11, lv12, lv13, lv14, lv15, lv16, lv17, lv18, lv19, lv20, lv21, lv22, lv23, lv24, lv25, lv26, lv27, lv28, lv29, lv30, lv31, lv32, lv33, lv34, lv35, lv36, lv37, lv38, lv39, lv40, lv41, lv42, lv43, lv44, lv45, lv46, lv47, lv48, lv49, lv50, lv51, lv52, lv53, lv54, lv55, lv56, lv57, lv58, lv59, lv60, lv61, lv62, lv63, lv64, lv65, lv66, lv67, lv68, lv69, lv70, lv71, lv72, lv73, lv74, lv75, lv76, lv77, lv78, lv79, lv80, lv81, lv82, lv83, lv84, lv85, lv86, lv87, lv88, lv89, lv90, lv91, lv92, lv93, lv94, lv95, lv96, lv97, lv98, lv99, lv100, lv101, lv102, lv103, lv104, lv105, lv106, lv107, lv108, lv109, lv110, lv111, lv112, lv113, lv114, lv115, lv116, lv117, lv118, lv119, lv120, lv121, lv122, lv123, lv124, lv125, lv126, lv127, lv128, lv129, lv130, lv131, lv132, lv133, lv134, lv135, lv136, lv137, lv138, lv139, lv140, lv141, lv142, lv143, lv144, lv145, lv146, lv147, lv148, lv149, lv150, lv151, lv152, lv153, lv154, lv155, lv156, lv157, lv158, lv159, lv160, lv161, lv162, lv163, lv164, lv165, lv166, lv167, lv168, lv169, lv170, lv171, lv172, lv173, lv174, lv175, lv176, lv177, lv178, lv179, lv180, lv181, lv182, lv183, lv184, lv185, lv186, lv187, lv188, lv189, lv190, lv191, lv192, lv193, lv194, lv195, lv196, lv197, lv198, lv199, lv200, lv201, lv202, lv203, lv204, lv205, lv206, lv207, lv208, lv209, lv210, lv211, lv212, lv213, lv214, lv215, lv216, lv217, lv218, lv219, lv220, lv221, lv222, lv223, lv224, lv225, lv226, lv227, lv228, lv229, lv230, lv231, lv232, lv233, lv234, lv235, lv236, lv237, lv238, lv239, lv240, lv241, lv242, lv243, lv244, lv245, lv246, lv247, lv248, lv249, lv250, lv251, lv252, lv253, lv254, lv255, lv256, lv257, lv258, lv259, lv260, lv261, lv262, lv263, lv264, lv265, lv266, lv267, lv268, lv269, lv270, lv271, lv272, lv273, lv274, lv275, lv276, lv277, lv278, lv279, lv280, lv281, lv282, lv283, lv284, lv285, lv286, lv287, lv288, lv289, lv290, lv291, lv292, lv293, lv294, lv295, lv296, lv297, lv298, lv299, lv300, lv301, lv302, lv303, lv304, lv305, lv306, lv307, lv308, lv309, lv310, lv311, lv312, lv313, lv314, lv315, lv316, lv317, lv318, lv319, lv320], []⟩ W := by
  conv => arg 2; whnf
  obtain ⟨F, D, ns, out, hbt⟩ := X.out.bt
  obtain ⟨na, nc, _, _, h0, _, _, _, hoN, _⟩ := hbt.dg.rows
  obtain ⟨nn, hnn⟩ : ∃ nn, N.length = nn := ⟨_, rfl⟩
  rw [hnn] at h0 hoN
  have HBT : Hid (Bt W F g ns out D d N E) := hbt
  have HN : Hid (LS W (.slice na nn nc) N) := hoN.rs
  have H0 : Hid (W.cell? ⟨d, 0, none⟩ = some (.slice na nn nc)) := h0
  clear hbt hoN h0 hnn
  obtain ⟨p, m⟩ := a
  have HR : Hid (∀ W', Below W.heap.size W W' → Ow 21 #[.slice na nn nc] W' (rs N)) := fun W' hW => drising_any (HN.out.later hW) HBT.out.dg.nz HBT.out.dg.lu
  have HO : Hid (∀ W', Below W.heap.size W W' → Ow 22 #[.pointer (some ⟨d, 0, none⟩), .agg #[.string (bs p), .string (bs m)]] W' (rs (oE E ⟨p, m⟩))) := fun W' hW => dout_any (HBT.out.dg.later hW) ⟨p, m⟩
  have HC : Hid (∀ W', Below W.heap.size W W' → Ow 23 #[.pointer (some ⟨d, 0, none⟩), .slice fa fn fc] W' (RS N E fr)) := fun W' hW =>
    (dreach_any (HBT.out.dg.later hW) (X.out.fs.later hW) (by have := X.out.fl; omega)).mono fun _ _ ⟨v, R, k1, k2, k3, k4, k5⟩ => ⟨v, k1, by
      have e : R = RS N E fr := Gs.ris_ext stoL k3 (Gs.ris_up stoL _) (fun x => by rw [k4]; exact (mem_RS HBT.out.dg.sub).symm)
      rw [← e]; exact k2, k5⟩
  have HSD : Hid (∀ W', Below W.heap.size W W' → W'.cell? ⟨d, 0, none⟩ = some (.slice na nn nc) ∧ W'.cell? ⟨ab, 0, none⟩ = some (.string (bs p)) ∧ W'.cell? ⟨ab, 1, none⟩ = some (.string (bs m))) := fun W' hW => by
    obtain ⟨b0, b1, _, _⟩ := (X.out.bx.later hW).cells
    have hd : d < W.heap.size := HBT.out.dg.lt _ HBT.out.dg.own
    exact ⟨(hW.cell (p := ⟨d, 0, none⟩) hd).trans H0.out, b0, b1⟩
  have HBWdrew : Hid (Below W.heap.size W W.drew) := (Below.refl _ _).drew
  have HBW : Hid (Below W.heap.size W W) := Below.refl _ _
  clear H0 HN
  refine wp_seq_k fun K hK => ?_
  have HK : Hid _ := hK
  clear hK
  go_wp2_with fail
  refine wp_region_noPanic ?_
  refine wp_region_held_drew (S := fun W' => W'.cell? ⟨d, 0, none⟩ = some (.slice na nn nc) ∧ W'.cell? ⟨ab, 0, none⟩ = some (.string (bs p)) ∧ W'.cell? ⟨ab, 1, none⟩ = some (.string (bs m))) (by kernel_rfl) (HSD.out _ HBWdrew.out) (fun hHeld => ?_)
  refine wpAnyH_take (i := 0) (oi := { dst := some 95, op := _, type := _, pos := _, after := _, guard := _ }) (v := ?vx1) rfl (by kernel_rfl) (by kernel_rfl) (by kernel_rfl) (fun _ _ _ h => h) (Or.inl ⟨by rfl, ?hyx1⟩) (by assumption) ?restx1
  case hyx1 => (intro w hSw; (try dsimp only at hSw); go_simp; try with_reducible rfl)
  try simp only [Act.put, List.setIfInBounds_toArray, List.set_cons_zero, List.set_cons_succ]
  refine wpAnyH_take (i := 1) (oi := { dst := some 96, op := _, type := _, pos := _, after := _, guard := _ }) (v := ?vx2) rfl (by kernel_rfl) (by kernel_rfl) (by kernel_rfl) (fun _ _ _ h => h) (Or.inl ⟨by rfl, ?hyx2⟩) (by assumption) ?restx2
  case hyx2 => (intro w hSw; (try dsimp only at hSw); go_simp; try with_reducible rfl)
  try simp only [Act.put, List.setIfInBounds_toArray, List.set_cons_zero, List.set_cons_succ]
  refine wpAnyH_take (i := 2) (oi := { dst := some 97, op := _, type := _, pos := _, after := _, guard := _ }) (v := ?vx3) rfl (by kernel_rfl) (by kernel_rfl) (by kernel_rfl) (fun _ _ _ h => h) (Or.inl ⟨by rfl, ?hyx3⟩) (by assumption) ?restx3
  case hyx3 => (intro w hSw; (try dsimp only at hSw); go_simp; try with_reducible rfl)
  try simp only [Act.put, List.setIfInBounds_toArray, List.set_cons_zero, List.set_cons_succ]
  refine wpAnyH_take (i := 3) (oi := { dst := some 98, op := _, type := _, pos := _, after := _, guard := _ }) (v := ?vx4) rfl (by kernel_rfl) (by kernel_rfl) (by kernel_rfl) (fun _ _ _ h => h) (Or.inl ⟨by rfl, ?hyx4⟩) (by assumption) ?restx4
  case hyx4 => (intro w hSw; (try dsimp only at hSw); go_simp; try with_reducible rfl)
  try simp only [Act.put, List.setIfInBounds_toArray, List.set_cons_zero, List.set_cons_succ]
  refine wpAnyH_take (i := 5) (oi := { dst := some 100, op := _, type := _, pos := _, after := _, guard := _ }) (v := ?vx5) rfl (by kernel_rfl) (by kernel_rfl) (by kernel_rfl) (fun _ _ _ h => h) (Or.inl ⟨by rfl, ?hyx5⟩) (by assumption) ?restx5
  case hyx5 => (intro w hSw; (try dsimp only at hSw); go_simp; try with_reducible rfl)
  try simp only [Act.put, List.setIfInBounds_toArray, List.set_cons_zero, List.set_cons_succ]
  refine wpAnyH_take (i := 6) (oi := { dst := some 101, op := _, type := _, pos := _, after := _, guard := _ }) (v := ?vx6) rfl (by kernel_rfl) (by kernel_rfl) (by kernel_rfl) (fun _ _ _ h => h) (Or.inl ⟨by rfl, ?hyx6⟩) (by assumption) ?restx6
  case hyx6 => (intro w hSw; (try dsimp only at hSw); go_simp; try with_reducible rfl)
  try simp only [Act.put, List.setIfInBounds_toArray, List.set_cons_zero, List.set_cons_succ]
  refine wpAnyH_take (i := 8) (oi := { dst := some 103, op := _, type := _, pos := _, after := _, guard := _ }) (v := ?vx7) rfl (by kernel_rfl) (by kernel_rfl) (by kernel_rfl) (fun _ _ _ h => h) (Or.inl ⟨by rfl, ?hyx7⟩) (by assumption) ?restx7
  case hyx7 => (intro w hSw; (try dsimp only at hSw); go_simp; try with_reducible rfl)
  try simp only [Act.put, List.setIfInBounds_toArray, List.set_cons_zero, List.set_cons_succ]
  refine wpAnyH_take (i := 9) (oi := { dst := some 104, op := _, type := _, pos := _, after := _, guard := _ }) (v := ?vx8) rfl (by kernel_rfl) (by kernel_rfl) (by kernel_rfl) (fun _ _ _ h => h) (Or.inl ⟨by rfl, ?hyx8⟩) (by assumption) ?restx8
  case hyx8 => (intro w hSw; (try dsimp only at hSw); go_simp; try with_reducible rfl)
  try simp only [Act.put, List.setIfInBounds_toArray, List.set_cons_zero, List.set_cons_succ]
  refine wpAnyH_take (i := 11) (oi := { dst := some 106, op := _, type := _, pos := _, after := _, guard := _ }) (v := ?vx9) rfl (by kernel_rfl) (by kernel_rfl) (by kernel_rfl) (fun _ _ _ h => h) (Or.inl ⟨by rfl, ?hyx9⟩) (by assumption) ?restx9
  case hyx9 => (intro w hSw; (try dsimp only at hSw); go_simp; try with_reducible rfl)
  try simp only [Act.put, List.setIfInBounds_toArray, List.set_cons_zero, List.set_cons_succ]
  refine wpAnyH_ready (rs := [4, 13]) (by kernel_rfl) (by simp) ?_
  refine AllReadyH.cons (o := { dst := some 99, op := _, type := _, pos := _, after := _, guard := _ }) rfl (fun K hK => ?_) (AllReadyH.cons (o := { dst := some 12, op := _, type := _, pos := _, after := _, guard := _ }) rfl (fun K hK => ?_) AllReadyH.nil)
  · go_simp
    with_reducible refine (HR.out W.drew HBWdrew.out).mono ?_
    rintro e z1 ⟨va, rfl, ho, hb⟩
    obtain ⟨vaa, vac, hv⟩ := ho.form
    obtain ⟨van, hn⟩ : ∃ mm, (rs N).length = mm := ⟨_, rfl⟩
    rw [hn] at hv
    subst hv
    clear hn
    have HSz1 : Hid (Below W.drew.heap.size W.drew z1) := hb
    have HBz1 : Hid (Below W.heap.size W z1) := bstep HBWdrew.out hb
    have Hvaz1 : Hid (OwnL W.drew.heap.size z1 (.slice vaa van vac) (rs N)) := ho
    clear ho hb
    refine hK.out _ _ (HSD.out z1 HBz1.out) (fun hHeld => ?_)
    clear hK K
    try simp only [List.setIfInBounds_toArray, List.set_cons_zero, List.set_cons_succ]
    refine wpAnyH_ready (rs := [7, 13]) (by kernel_rfl) (by simp) ?_
    refine AllReadyH.cons (o := { dst := some 102, op := _, type := _, pos := _, after := _, guard := _ }) rfl (fun K hK => ?_) (AllReadyH.cons (o := { dst := some 12, op := _, type := _, pos := _, after := _, guard := _ }) rfl (fun K hK => ?_) AllReadyH.nil)
    · go_simp
      with_reducible refine (HO.out z1 HBz1.out).mono ?_
      rintro e z2 ⟨vb, rfl, ho, hb⟩
      obtain ⟨vba, vbc, hv⟩ := ho.form
      obtain ⟨vbn, hn⟩ : ∃ mm, (rs (oE E ⟨p, m⟩)).length = mm := ⟨_, rfl⟩
      rw [hn] at hv
      subst hv
      clear hn
      have HSz2 : Hid (Below z1.heap.size z1 z2) := hb
      have HBz2 : Hid (Below W.heap.size W z2) := bstep HBz1.out hb
      have Hvbz2 : Hid (OwnL z1.heap.size z2 (.slice vba vbn vbc) (rs (oE E ⟨p, m⟩))) := ho
      clear ho hb
      have Hvaz2 := hid_of (Hvaz1.out.later HSz2.out)
      refine hK.out _ _ (HSD.out z2 HBz2.out) (fun hHeld => ?_)
      clear hK K
      try simp only [List.setIfInBounds_toArray, List.set_cons_zero, List.set_cons_succ]
      refine wpAnyH_ready (rs := [10, 13]) (by kernel_rfl) (by simp) ?_
      refine AllReadyH.cons (o := { dst := some 105, op := _, type := _, pos := _, after := _, guard := _ }) rfl (fun K hK => ?_) (AllReadyH.cons (o := { dst := some 12, op := _, type := _, pos := _, after := _, guard := _ }) rfl (fun K hK => ?_) AllReadyH.nil)
      · go_simp
        with_reducible refine (HC.out z2 HBz2.out).mono ?_
        rintro e z3 ⟨vc, rfl, ho, hb⟩
        obtain ⟨vca, vcc, hv⟩ := ho.form
        obtain ⟨vcn, hn⟩ : ∃ mm, (RS N E fr).length = mm := ⟨_, rfl⟩
        rw [hn] at hv
        subst hv
        clear hn
        have HSz3 : Hid (Below z2.heap.size z2 z3) := hb
        have HBz3 : Hid (Below W.heap.size W z3) := bstep HBz2.out hb
        have Hvcz3 : Hid (OwnL z2.heap.size z3 (.slice vca vcn vcc) (RS N E fr)) := ho
        clear ho hb
        have Hvaz3 := hid_of (Hvaz2.out.later HSz3.out)
        have Hvbz3 := hid_of (Hvbz2.out.later HSz3.out)
        refine hK.out _ _ (HSD.out z3 HBz3.out) (fun hHeld => ?_)
        clear hK K
        try simp only [List.setIfInBounds_toArray, List.set_cons_zero, List.set_cons_succ]
        refine wpAnyH_take (i := 12) (oi := { dst := some 107, op := _, type := _, pos := _, after := _, guard := _ }) (v := ?vx10) rfl (by kernel_rfl) (by kernel_rfl) (by kernel_rfl) (fun _ _ _ h => h) (Or.inl ⟨by rfl, ?hyx10⟩) (by assumption) ?restx10
        case hyx10 => (intro w hSw; (try dsimp only at hSw); go_simp; try with_reducible rfl)
        try simp only [Act.put, List.setIfInBounds_toArray, List.set_cons_zero, List.set_cons_succ]
        refine wpAnyH_ready (rs := [13]) (by kernel_rfl) (by simp) ?_
        refine AllReadyH.cons (o := { dst := some 12, op := _, type := _, pos := _, after := _, guard := _ }) rfl (fun K hK => ?_) AllReadyH.nil
        go_simp
        refine hK.out _ _ (HSD.out _ (bstep HBz3.out (balloc z3 (.cells #[.slice none 0 0, .slice none 0 0, .slice none 0 0, .slice none 0 0] 55)))) (fun hHeld => ?_)
        clear hK K
        try simp only [List.setIfInBounds_toArray, List.set_cons_zero, List.set_cons_succ]
        obtain ⟨zA, hzA⟩ : ∃ zA, z3.alloc (.cells #[.slice none 0 0, .slice none 0 0, .slice none 0 0, .slice none 0 0] 55) = zA := ⟨_, rfl⟩
        have HA : Hid (zA.heap[z3.heap.size]? = some (.cells #[.slice none 0 0, .slice none 0 0, .slice none 0 0, .slice none 0 0] 55 (0, 0)) ∧ Below z3.heap.size z3 zA) := by
          rw [← hzA]; exact ⟨heap_alloc_new _ _, (balloc z3 (.cells #[.slice none 0 0, .slice none 0 0, .slice none 0 0, .slice none 0 0] 55))⟩
        have HBzA : Hid (Below W.heap.size W zA) := bstep HBz3.out HA.out.2
        have HWB : Hid (W.heap.size ≤ z3.heap.size) := HBz3.out.size
        have HvazA := hid_of (Hvaz3.out.later HA.out.2)
        have HvbzA := hid_of (Hvbz3.out.later HA.out.2)
        have HvczA := hid_of (Hvcz3.out.later HA.out.2)
        rw [hzA] at hHeld ⊢
        clear hzA
        have XN : Hid (FX w (st4 zA z3.heap.size (.slice vaa van vac) (.slice vba vbn vbc) (.slice vca vcn vcc) (.slice oa on oc)) g d ab ll lo lc0 z3.heap.size fa fn fc (.slice vaa van vac) (.slice vba vbn vbc) (.slice vca vcn vcc) (.slice oa on oc) N E ⟨p, m⟩ fr ∧ Below W.heap.size W (st4 zA z3.heap.size (.slice vaa van vac) (.slice vba vbn vbc) (.slice vca vcn vcc) (.slice oa on oc))) :=
          X.out.want HL.out HV.out HBzA.out HWB.out HA.out.1 HvazA.out (fun k hk => by have h := (Hvaz1.out.lt hk).2; have h2 := HSz2.out.size; have h3 := HSz3.out.size; omega) HvbzA.out (fun k hk => by have h := (Hvbz2.out.lt hk).2; have h3 := HSz3.out.size; omega) HvczA.out (fun k hk => by have h := (Hvcz3.out.lt hk).2; omega)
        obtain ⟨c0, c1, c2, c3, e0, e1, e2, e3⟩ := fcells4 HA.out.1
        refine wpAnyH_ready (rs := [14]) (by kernel_rfl) (by simp) ?_
        refine AllReadyH.cons (o := { dst := none, op := _, type := _, pos := _, after := _, guard := _ }) rfl (fun K hK => ?_) AllReadyH.nil
        go_simp
        refine hK.out _ _ (HSD.out _ XN.out.2) (fun hHeld => ?_)
        clear hK K c0 c1 c2 c3 e0 e1 e2 e3
        try simp only [List.setIfInBounds_toArray, List.set_cons_zero, List.set_cons_succ]
        refine wpAnyH_done (by kernel_rfl) ?_ _
        refine NoPanic.normal ?_
        refine HK.out _ _ ?_
        clear HK
        refine wp_seq_k fun K hK => ?_
        have HK : Hid _ := hK
        clear hK
        go_wp2_with fail
        refine HK.out _ _ ?_
        clear HK
        exact f17 XN.out.1
      · go_simp
        refine hK.out _ _ (HSD.out _ (bstep HBz2.out (balloc z2 (.cells #[.slice none 0 0, .slice none 0 0, .slice none 0 0, .slice none 0 0] 55)))) (fun hHeld => ?_)
        clear hK K
        try simp only [List.setIfInBounds_toArray, List.set_cons_zero, List.set_cons_succ]
        obtain ⟨zA, hzA⟩ : ∃ zA, z2.alloc (.cells #[.slice none 0 0, .slice none 0 0, .slice none 0 0, .slice none 0 0] 55) = zA := ⟨_, rfl⟩
        have HA : Hid (zA.heap[z2.heap.size]? = some (.cells #[.slice none 0 0, .slice none 0 0, .slice none 0 0, .slice none 0 0] 55 (0, 0)) ∧ Below z2.heap.size z2 zA) := by
          rw [← hzA]; exact ⟨heap_alloc_new _ _, (balloc z2 (.cells #[.slice none 0 0, .slice none 0 0, .slice none 0 0, .slice none 0 0] 55))⟩
        have HBzA : Hid (Below W.heap.size W zA) := bstep HBz2.out HA.out.2
        have HWB : Hid (W.heap.size ≤ z2.heap.size) := HBz2.out.size
        have HvazA := hid_of (Hvaz2.out.later HA.out.2)
        have HvbzA := hid_of (Hvbz2.out.later HA.out.2)
        rw [hzA] at hHeld ⊢
        clear hzA
        refine wpAnyH_ready (rs := [10]) (by kernel_rfl) (by simp) ?_
        refine AllReadyH.cons (o := { dst := some 105, op := _, type := _, pos := _, after := _, guard := _ }) rfl (fun K hK => ?_) AllReadyH.nil
        go_simp
        with_reducible refine (HC.out zA HBzA.out).mono ?_
        rintro e z3 ⟨vc, rfl, ho, hb⟩
        obtain ⟨vca, vcc, hv⟩ := ho.form
        obtain ⟨vcn, hn⟩ : ∃ mm, (RS N E fr).length = mm := ⟨_, rfl⟩
        rw [hn] at hv
        subst hv
        clear hn
        have HSz3 : Hid (Below zA.heap.size zA z3) := hb
        have HBz3 : Hid (Below W.heap.size W z3) := bstep HBzA.out hb
        have Hvcz3 : Hid (OwnL zA.heap.size z3 (.slice vca vcn vcc) (RS N E fr)) := ho
        clear ho hb
        have Hvaz3 := hid_of (HvazA.out.later HSz3.out)
        have Hvbz3 := hid_of (HvbzA.out.later HSz3.out)
        refine hK.out _ _ (HSD.out z3 HBz3.out) (fun hHeld => ?_)
        clear hK K
        try simp only [List.setIfInBounds_toArray, List.set_cons_zero, List.set_cons_succ]
        refine wpAnyH_take (i := 12) (oi := { dst := some 107, op := _, type := _, pos := _, after := _, guard := _ }) (v := ?vx11) rfl (by kernel_rfl) (by kernel_rfl) (by kernel_rfl) (fun _ _ _ h => h) (Or.inl ⟨by rfl, ?hyx11⟩) (by assumption) ?restx11
        case hyx11 => (intro w hSw; (try dsimp only at hSw); go_simp; try with_reducible rfl)
        try simp only [Act.put, List.setIfInBounds_toArray, List.set_cons_zero, List.set_cons_succ]
        have XN : Hid (FX w (st4 z3 z2.heap.size (.slice vaa van vac) (.slice vba vbn vbc) (.slice vca vcn vcc) (.slice oa on oc)) g d ab ll lo lc0 z2.heap.size fa fn fc (.slice vaa van vac) (.slice vba vbn vbc) (.slice vca vcn vcc) (.slice oa on oc) N E ⟨p, m⟩ fr ∧ Below W.heap.size W (st4 z3 z2.heap.size (.slice vaa van vac) (.slice vba vbn vbc) (.slice vca vcn vcc) (.slice oa on oc))) :=
          X.out.want HL.out HV.out HBz3.out HWB.out (((HSz3.out).block _ (Array.getElem?_eq_some_iff.1 HA.out.1).1).trans HA.out.1) Hvaz3.out (fun k hk => by have h := (Hvaz1.out.lt hk).2; have h2 := HSz2.out.size; omega) Hvbz3.out (fun k hk => by have h := (Hvbz2.out.lt hk).2; omega) Hvcz3.out (fun k hk => by have h := (Hvcz3.out.lt hk).1; have h0 : z2.heap.size < zA.heap.size := (Array.getElem?_eq_some_iff.1 HA.out.1).1; omega)
        obtain ⟨c0, c1, c2, c3, e0, e1, e2, e3⟩ := fcells4 (((HSz3.out).block _ (Array.getElem?_eq_some_iff.1 HA.out.1).1).trans HA.out.1)
        refine wpAnyH_ready (rs := [14]) (by kernel_rfl) (by simp) ?_
        refine AllReadyH.cons (o := { dst := none, op := _, type := _, pos := _, after := _, guard := _ }) rfl (fun K hK => ?_) AllReadyH.nil
        go_simp
        refine hK.out _ _ (HSD.out _ XN.out.2) (fun hHeld => ?_)
        clear hK K c0 c1 c2 c3 e0 e1 e2 e3
        try simp only [List.setIfInBounds_toArray, List.set_cons_zero, List.set_cons_succ]
        refine wpAnyH_done (by kernel_rfl) ?_ _
        refine NoPanic.normal ?_
        refine HK.out _ _ ?_
        clear HK
        refine wp_seq_k fun K hK => ?_
        have HK : Hid _ := hK
        clear hK
        go_wp2_with fail
        refine HK.out _ _ ?_
        clear HK
        exact f17 XN.out.1
    · go_simp
      refine hK.out _ _ (HSD.out _ (bstep HBz1.out (balloc z1 (.cells #[.slice none 0 0, .slice none 0 0, .slice none 0 0, .slice none 0 0] 55)))) (fun hHeld => ?_)
      clear hK K
      try simp only [List.setIfInBounds_toArray, List.set_cons_zero, List.set_cons_succ]
      obtain ⟨zA, hzA⟩ : ∃ zA, z1.alloc (.cells #[.slice none 0 0, .slice none 0 0, .slice none 0 0, .slice none 0 0] 55) = zA := ⟨_, rfl⟩
      have HA : Hid (zA.heap[z1.heap.size]? = some (.cells #[.slice none 0 0, .slice none 0 0, .slice none 0 0, .slice none 0 0] 55 (0, 0)) ∧ Below z1.heap.size z1 zA) := by
        rw [← hzA]; exact ⟨heap_alloc_new _ _, (balloc z1 (.cells #[.slice none 0 0, .slice none 0 0, .slice none 0 0, .slice none 0 0] 55))⟩
      have HBzA : Hid (Below W.heap.size W zA) := bstep HBz1.out HA.out.2
      have HWB : Hid (W.heap.size ≤ z1.heap.size) := HBz1.out.size
      have HvazA := hid_of (Hvaz1.out.later HA.out.2)
      rw [hzA] at hHeld ⊢
      clear hzA
      refine wpAnyH_ready (rs := [7]) (by kernel_rfl) (by simp) ?_
      refine AllReadyH.cons (o := { dst := some 102, op := _, type := _, pos := _, after := _, guard := _ }) rfl (fun K hK => ?_) AllReadyH.nil
      go_simp
      with_reducible refine (HO.out zA HBzA.out).mono ?_
      rintro e z2 ⟨vb, rfl, ho, hb⟩
      obtain ⟨vba, vbc, hv⟩ := ho.form
      obtain ⟨vbn, hn⟩ : ∃ mm, (rs (oE E ⟨p, m⟩)).length = mm := ⟨_, rfl⟩
      rw [hn] at hv
      subst hv
      clear hn
      have HSz2 : Hid (Below zA.heap.size zA z2) := hb
      have HBz2 : Hid (Below W.heap.size W z2) := bstep HBzA.out hb
      have Hvbz2 : Hid (OwnL zA.heap.size z2 (.slice vba vbn vbc) (rs (oE E ⟨p, m⟩))) := ho
      clear ho hb
      have Hvaz2 := hid_of (HvazA.out.later HSz2.out)
      refine hK.out _ _ (HSD.out z2 HBz2.out) (fun hHeld => ?_)
      clear hK K
      try simp only [List.setIfInBounds_toArray, List.set_cons_zero, List.set_cons_succ]
      refine wpAnyH_ready (rs := [10]) (by kernel_rfl) (by simp) ?_
      refine AllReadyH.cons (o := { dst := some 105, op := _, type := _, pos := _, after := _, guard := _ }) rfl (fun K hK => ?_) AllReadyH.nil
      go_simp
      with_reducible refine (HC.out z2 HBz2.out).mono ?_
      rintro e z3 ⟨vc, rfl, ho, hb⟩
      obtain ⟨vca, vcc, hv⟩ := ho.form
      obtain ⟨vcn, hn⟩ : ∃ mm, (RS N E fr).length = mm := ⟨_, rfl⟩
      rw [hn] at hv
      subst hv
      clear hn
      have HSz3 : Hid (Below z2.heap.size z2 z3) := hb
      have HBz3 : Hid (Below W.heap.size W z3) := bstep HBz2.out hb
      have Hvcz3 : Hid (OwnL z2.heap.size z3 (.slice vca vcn vcc) (RS N E fr)) := ho
      clear ho hb
      have Hvaz3 := hid_of (Hvaz2.out.later HSz3.out)
      have Hvbz3 := hid_of (Hvbz2.out.later HSz3.out)
      refine hK.out _ _ (HSD.out z3 HBz3.out) (fun hHeld => ?_)
      clear hK K
      try simp only [List.setIfInBounds_toArray, List.set_cons_zero, List.set_cons_succ]
      refine wpAnyH_take (i := 12) (oi := { dst := some 107, op := _, type := _, pos := _, after := _, guard := _ }) (v := ?vx12) rfl (by kernel_rfl) (by kernel_rfl) (by kernel_rfl) (fun _ _ _ h => h) (Or.inl ⟨by rfl, ?hyx12⟩) (by assumption) ?restx12
      case hyx12 => (intro w hSw; (try dsimp only at hSw); go_simp; try with_reducible rfl)
      try simp only [Act.put, List.setIfInBounds_toArray, List.set_cons_zero, List.set_cons_succ]
      have XN : Hid (FX w (st4 z3 z1.heap.size (.slice vaa van vac) (.slice vba vbn vbc) (.slice vca vcn vcc) (.slice oa on oc)) g d ab ll lo lc0 z1.heap.size fa fn fc (.slice vaa van vac) (.slice vba vbn vbc) (.slice vca vcn vcc) (.slice oa on oc) N E ⟨p, m⟩ fr ∧ Below W.heap.size W (st4 z3 z1.heap.size (.slice vaa van vac) (.slice vba vbn vbc) (.slice vca vcn vcc) (.slice oa on oc))) :=
        X.out.want HL.out HV.out HBz3.out HWB.out ((((bstep HSz2.out HSz3.out)).block _ (Array.getElem?_eq_some_iff.1 HA.out.1).1).trans HA.out.1) Hvaz3.out (fun k hk => by have h := (Hvaz1.out.lt hk).2; omega) Hvbz3.out (fun k hk => by have h := (Hvbz2.out.lt hk).1; have h0 : z1.heap.size < zA.heap.size := (Array.getElem?_eq_some_iff.1 HA.out.1).1; omega) Hvcz3.out (fun k hk => by have h := (Hvcz3.out.lt hk).1; have h0 : z1.heap.size < zA.heap.size := (Array.getElem?_eq_some_iff.1 HA.out.1).1; have h2 := HSz2.out.size; omega)
      obtain ⟨c0, c1, c2, c3, e0, e1, e2, e3⟩ := fcells4 ((((bstep HSz2.out HSz3.out)).block _ (Array.getElem?_eq_some_iff.1 HA.out.1).1).trans HA.out.1)
      refine wpAnyH_ready (rs := [14]) (by kernel_rfl) (by simp) ?_
      refine AllReadyH.cons (o := { dst := none, op := _, type := _, pos := _, after := _, guard := _ }) rfl (fun K hK => ?_) AllReadyH.nil
      go_simp
      refine hK.out _ _ (HSD.out _ XN.out.2) (fun hHeld => ?_)
      clear hK K c0 c1 c2 c3 e0 e1 e2 e3
      try simp only [List.setIfInBounds_toArray, List.set_cons_zero, List.set_cons_succ]
      refine wpAnyH_done (by kernel_rfl) ?_ _
      refine NoPanic.normal ?_
      refine HK.out _ _ ?_
      clear HK
      refine wp_seq_k fun K hK => ?_
      have HK : Hid _ := hK
      clear hK
      go_wp2_with fail
      refine HK.out _ _ ?_
      clear HK
      exact f17 XN.out.1
  · go_simp
    refine hK.out _ _ (HSD.out _ (bstep HBW.out (balloc W (.cells #[.slice none 0 0, .slice none 0 0, .slice none 0 0, .slice none 0 0] 55)).drew)) (fun hHeld => ?_)
    clear hK K
    try simp only [List.setIfInBounds_toArray, List.set_cons_zero, List.set_cons_succ]
    obtain ⟨zA, hzA⟩ : ∃ zA, (W.alloc (.cells #[.slice none 0 0, .slice none 0 0, .slice none 0 0, .slice none 0 0] 55)).drew = zA := ⟨_, rfl⟩
    have HA : Hid (zA.heap[W.heap.size]? = some (.cells #[.slice none 0 0, .slice none 0 0, .slice none 0 0, .slice none 0 0] 55 (0, 0)) ∧ Below W.heap.size W zA) := by
      rw [← hzA]; exact ⟨heap_alloc_new _ _, (balloc W (.cells #[.slice none 0 0, .slice none 0 0, .slice none 0 0, .slice none 0 0] 55)).drew⟩
    have HBzA : Hid (Below W.heap.size W zA) := bstep HBW.out HA.out.2
    have HWB : Hid (W.heap.size ≤ W.heap.size) := HBW.out.size
    rw [hzA] at hHeld ⊢
    clear hzA
    refine wpAnyH_ready (rs := [4]) (by kernel_rfl) (by simp) ?_
    refine AllReadyH.cons (o := { dst := some 99, op := _, type := _, pos := _, after := _, guard := _ }) rfl (fun K hK => ?_) AllReadyH.nil
    go_simp
    with_reducible refine (HR.out zA HBzA.out).mono ?_
    rintro e z1 ⟨va, rfl, ho, hb⟩
    obtain ⟨vaa, vac, hv⟩ := ho.form
    obtain ⟨van, hn⟩ : ∃ mm, (rs N).length = mm := ⟨_, rfl⟩
    rw [hn] at hv
    subst hv
    clear hn
    have HSz1 : Hid (Below zA.heap.size zA z1) := hb
    have HBz1 : Hid (Below W.heap.size W z1) := bstep HBzA.out hb
    have Hvaz1 : Hid (OwnL zA.heap.size z1 (.slice vaa van vac) (rs N)) := ho
    clear ho hb
    refine hK.out _ _ (HSD.out z1 HBz1.out) (fun hHeld => ?_)
    clear hK K
    try simp only [List.setIfInBounds_toArray, List.set_cons_zero, List.set_cons_succ]
    refine wpAnyH_ready (rs := [7]) (by kernel_rfl) (by simp) ?_
    refine AllReadyH.cons (o := { dst := some 102, op := _, type := _, pos := _, after := _, guard := _ }) rfl (fun K hK => ?_) AllReadyH.nil
    go_simp
    with_reducible refine (HO.out z1 HBz1.out).mono ?_
    rintro e z2 ⟨vb, rfl, ho, hb⟩
    obtain ⟨vba, vbc, hv⟩ := ho.form
    obtain ⟨vbn, hn⟩ : ∃ mm, (rs (oE E ⟨p, m⟩)).length = mm := ⟨_, rfl⟩
    rw [hn] at hv
    subst hv
    clear hn
    have HSz2 : Hid (Below z1.heap.size z1 z2) := hb
    have HBz2 : Hid (Below W.heap.size W z2) := bstep HBz1.out hb
    have Hvbz2 : Hid (OwnL z1.heap.size z2 (.slice vba vbn vbc) (rs (oE E ⟨p, m⟩))) := ho
    clear ho hb
    have Hvaz2 := hid_of (Hvaz1.out.later HSz2.out)
    refine hK.out _ _ (HSD.out z2 HBz2.out) (fun hHeld => ?_)
    clear hK K
    try simp only [List.setIfInBounds_toArray, List.set_cons_zero, List.set_cons_succ]
    refine wpAnyH_ready (rs := [10]) (by kernel_rfl) (by simp) ?_
    refine AllReadyH.cons (o := { dst := some 105, op := _, type := _, pos := _, after := _, guard := _ }) rfl (fun K hK => ?_) AllReadyH.nil
    go_simp
    with_reducible refine (HC.out z2 HBz2.out).mono ?_
    rintro e z3 ⟨vc, rfl, ho, hb⟩
    obtain ⟨vca, vcc, hv⟩ := ho.form
    obtain ⟨vcn, hn⟩ : ∃ mm, (RS N E fr).length = mm := ⟨_, rfl⟩
    rw [hn] at hv
    subst hv
    clear hn
    have HSz3 : Hid (Below z2.heap.size z2 z3) := hb
    have HBz3 : Hid (Below W.heap.size W z3) := bstep HBz2.out hb
    have Hvcz3 : Hid (OwnL z2.heap.size z3 (.slice vca vcn vcc) (RS N E fr)) := ho
    clear ho hb
    have Hvaz3 := hid_of (Hvaz2.out.later HSz3.out)
    have Hvbz3 := hid_of (Hvbz2.out.later HSz3.out)
    refine hK.out _ _ (HSD.out z3 HBz3.out) (fun hHeld => ?_)
    clear hK K
    try simp only [List.setIfInBounds_toArray, List.set_cons_zero, List.set_cons_succ]
    refine wpAnyH_take (i := 12) (oi := { dst := some 107, op := _, type := _, pos := _, after := _, guard := _ }) (v := ?vx13) rfl (by kernel_rfl) (by kernel_rfl) (by kernel_rfl) (fun _ _ _ h => h) (Or.inl ⟨by rfl, ?hyx13⟩) (by assumption) ?restx13
    case hyx13 => (intro w hSw; (try dsimp only at hSw); go_simp; try with_reducible rfl)
    try simp only [Act.put, List.setIfInBounds_toArray, List.set_cons_zero, List.set_cons_succ]
    have XN : Hid (FX w (st4 z3 W.heap.size (.slice vaa van vac) (.slice vba vbn vbc) (.slice vca vcn vcc) (.slice oa on oc)) g d ab ll lo lc0 W.heap.size fa fn fc (.slice vaa van vac) (.slice vba vbn vbc) (.slice vca vcn vcc) (.slice oa on oc) N E ⟨p, m⟩ fr ∧ Below W.heap.size W (st4 z3 W.heap.size (.slice vaa van vac) (.slice vba vbn vbc) (.slice vca vcn vcc) (.slice oa on oc))) :=
      X.out.want HL.out HV.out HBz3.out HWB.out ((((bstep (bstep HSz1.out HSz2.out) HSz3.out)).block _ (Array.getElem?_eq_some_iff.1 HA.out.1).1).trans HA.out.1) Hvaz3.out (fun k hk => by have h := (Hvaz1.out.lt hk).1; have h0 : W.heap.size < zA.heap.size := (Array.getElem?_eq_some_iff.1 HA.out.1).1; omega) Hvbz3.out (fun k hk => by have h := (Hvbz2.out.lt hk).1; have h0 : W.heap.size < zA.heap.size := (Array.getElem?_eq_some_iff.1 HA.out.1).1; have h1 := HSz1.out.size; omega) Hvcz3.out (fun k hk => by have h := (Hvcz3.out.lt hk).1; have h0 : W.heap.size < zA.heap.size := (Array.getElem?_eq_some_iff.1 HA.out.1).1; have h1 := HSz1.out.size; have h2 := HSz2.out.size; omega)
    obtain ⟨c0, c1, c2, c3, e0, e1, e2, e3⟩ := fcells4 ((((bstep (bstep HSz1.out HSz2.out) HSz3.out)).block _ (Array.getElem?_eq_some_iff.1 HA.out.1).1).trans HA.out.1)
    refine wpAnyH_ready (rs := [14]) (by kernel_rfl) (by simp) ?_
    refine AllReadyH.cons (o := { dst := none, op := _, type := _, pos := _, after := _, guard := _ }) rfl (fun K hK => ?_) AllReadyH.nil
    go_simp
    refine hK.out _ _ (HSD.out _ XN.out.2) (fun hHeld => ?_)
    clear hK K c0 c1 c2 c3 e0 e1 e2 e3
    try simp only [List.setIfInBounds_toArray, List.set_cons_zero, List.set_cons_succ]
    refine wpAnyH_done (by kernel_rfl) ?_ _
    refine NoPanic.normal ?_
    refine HK.out _ _ ?_
    clear HK
    refine wp_seq_k fun K hK => ?_
    have HK : Hid _ := hK
    clear hK
    go_wp2_with fail
    refine HK.out _ _ ?_
    clear HK
    exact f17 XN.out.1
end Go.Proofs.Ytjohhmfncemknaa
