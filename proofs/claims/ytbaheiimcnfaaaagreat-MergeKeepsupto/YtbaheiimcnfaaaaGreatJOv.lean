/-
  The law MergeKeeps: all are what they should be.
  The law MergeKeeps: lists answered in turns, behind one row.
-/
import Derived.Test.YtbaheiimcnfaaaaGreatOm
namespace Go.Proofs.YtbaheiimcnfaaaaGreat
open Go.RowKit Go.Maps
attribute [local go_sem] Oper.semAt_some

set_option maxRecDepth 100000 in
set_option maxHeartbeats 16000000 in
theorem p22 {w W1 : World} {la ka : Option Addr} {nl nk lc kc gm cm gf cf dw : Nat} {l : List Fl} {k : List (List UInt8)} {Wv : Nat → Value} {R : Nat → List (List UInt8)} {w0 : World} {T ag ac : Nat} {V : Nat → Value} {n : Nat → Nat} {C0 : Nat → List Value} {D0 D : Nat → Nat → Prop} {W : World} {lv2 lv3 lv4 lv5 lv6 lv14 lv15 lv16 lv17 lv18 lv19 lv20 lv21 lv22 lv23 lv24 lv25 lv26 lv27 lv28 lv29 lv30 lv31 lv32 lv33 lv34 lv35 lv36 lv37 lv38 lv39 lv40 lv41 lv42 lv43 lv44 lv45 lv46 lv47 lv48 lv49 lv50 lv51 lv52 lv53 lv54 lv55 lv56 lv57 lv58 lv59 lv60 lv61 lv62 lv63 lv64 lv65 lv66 lv67 lv68 lv69 lv70 lv71 lv72 lv73 lv74 lv75 lv76 lv77 lv78 lv79 lv80 lv81 lv82 lv83 lv84 lv85 lv86 lv87 lv88 lv89 lv90 lv91 lv92 lv93 lv94 lv95 lv96 lv97 lv98 lv99 lv100 lv101 lv102 lv103 lv104 lv105 lv106 lv107 lv108 lv109 lv110 lv111 lv112 lv113 lv114 lv115 lv116 lv117 lv118 lv119 lv120 lv121 lv122 lv123 lv124 lv125 lv126 lv127 lv128 lv129 lv130 lv131 lv132 lv133 lv134 lv135 lv136 lv137 lv138 lv139 lv140 lv141 lv142 lv143 lv144 lv145 lv146 lv147 lv148 lv149 lv150 lv151 lv152 lv153 lv154 lv155 lv156 lv157 lv158 lv159 lv160 lv161 lv162 lv163 lv164 lv165 lv166 lv167 lv168 lv169 lv170 lv171 lv172 lv173 lv174 lv175 lv176 lv177 lv178 lv179 lv180 lv181 lv182 lv183 lv184 lv185 lv186 lv187 lv188 lv189 lv190 lv191 lv192 lv193 lv194 lv195 lv196 lv197 lv198 lv199 lv200 lv201 lv202 lv203 lv204 lv205 lv206 lv207 lv208 lv209 lv210 lv211 lv212 lv213 lv214 lv215 lv216 lv217 lv218 lv219 lv220 lv221 lv222 lv223 lv224 lv225 lv226 lv227 lv228 lv229 lv230 lv231 lv232 lv233 lv234 lv235 lv236 lv237 lv238 lv239 lv240 lv241 lv242 lv243 lv244 lv245 lv246 lv247 lv248 lv249 lv250 lv251 lv252 lv253 lv254 lv255 lv256 lv257 lv258 lv259 lv260 lv261 lv262 lv263 lv264 lv265 lv266 lv267 lv268 lv269 lv270 lv271 lv272 lv273 lv274 lv275 lv276 lv277 lv278 lv279 lv280 lv281 lv282 lv283 lv284 lv285 lv286 lv287 lv288 lv289 lv290 lv291 lv292 lv293 lv294 lv295 lv296 lv297 lv298 lv299 lv300 lv301 lv302 lv303 lv304 lv305 lv306 lv307 lv308 lv309 lv310 lv311 lv312 lv313 : Value} (X : Hid (MX w W1 la ka nl nk lc kc gm cm gf cf dw l k Wv R)) (hT0 : 0 < T) (hT : T ≤ 200) (HA : Hid (AL T W1 w0 ag V n C0 D0)) (HQ : Hid (QM T W1 w0 w0 V n C0 D0 D)) (HS : Hid (∀ j, j < T → SS w0 (V j) (R (j % 4)) ∧ (R (j % 4)).length ≤ 1000000)) (HB : Hid (Below w0.heap.size w0 W)) :
    Code.wp Tryz.prog (suff 22 (Tryz.f4.body.getD .skip)) (bodyPost Tryz.prog Tryz.f4 (GoodK w)) ⟨#[.slice la nl lc, .slice ka nk kc, lv2, lv3, lv4, lv5, lv6, .slice (some ⟨gm, 0, none⟩) (nk + 2) cm, .slice (some ⟨gf, 0, none⟩) (nl + 1) cf, .slice (some ⟨gm, 0, none⟩) nk cm, .slice (some ⟨gf, 0, none⟩) nl cf, .pointer (some ⟨dw, 0, none⟩), .slice (some ⟨ag, 0, none⟩) T ac, .slice none 0 0, lv14, lv15, lv16, lv17, lv18, lv19, lv20, lv21, lv22, lv23, lv24, lv25, lv26, lv27, lv28, lv29, lv30, lv31, lv32, lv33, lv34, lv35, lv36, lv37, lv38, lv39, lv40, lv41, lv42, lv43, lv44, lv45, lv46, lv47, lv48, lv49, lv50, lv51, lv52, lv53, lv54, lv55, lv56, lv57, lv58, lv59, lv60, lv61, lv62, lv63, lv64, lv65, lv66, lv67, lv68, lv69, lv70, lv71, lv72, lv73, lv74, lv75, lv76, lv77, lv78, lv79, lv80, lv81, lv82, lv83, lv84, lv85, lv86, lv87, lv88, lv89, lv90, lv91, lv92, lv93, lv94, lv95, lv96, lv97, lv98, lv99, lv100, lv101, lv102, lv103, lv104, lv105, lv106, lv107, lv108, lv109, lv110, lv111, lv112, lv113, lv114, lv115, lv116, lv117, lv118, lv119, lv120, lv121, lv122, lv123, lv124, lv125, lv126, lv127, lv128, lv129, lv130, lv131, lv132, lv133, lv134, lv135, lv136, lv137, lv138, lv139, lv140, lv141, lv142, lv143, lv144, lv145, lv146, lv147, lv148, lv149, lv150, lv151, lv152, lv153, lv154, lv155, lv156, lv157, lv158, lv159, lv160, lv161, lv162, lv163, lv164, lv165, lv166, lv167, lv168, lv169, lv170, lv171, lv172, lv173, lv174, lv175, lv176, lv177, lv178, lv179, lv180, lv181, lv182, lv183, lv184, lv185, lv186, lv187, lv188, lv189, lv190, lv191, lv192, lv193, lv194, lv195, lv196, lv197, lv198, lv199, lv200, lv201, lv202, lv203, lv204, lv205, lv206, lv207, lv208, lv209, lv210, lv211, lv212, lv213, lv214, lv215, lv216, lv217, lv218, lv219, lv220, lv221, lv222, lv223, lv224, lv225, lv226, lv227, lv228, lv229, lv230, lv231, lv232, lv233, lv234, lv235, lv236, lv237, lv238, lv239, lv240, lv241, lv242, lv243, lv244, lv245, lv246, lv247, lv248, lv249, lv250, lv251, lv252, lv253, lv254, lv255, lv256, lv257, lv258, lv259, lv260, lv261, lv262, lv263, lv264, lv265, lv266, lv267, lv268, lv269, lv270, lv271, lv272, lv273, lv274, lv275, lv276, lv277, lv278, lv279, lv280, lv281, lv282, lv283, lv284, lv285, lv286, lv287, lv288, lv289, lv290, lv291, lv292, lv293, lv294, lv295, lv296, lv297, lv298, lv299, lv300, lv301, lv302, lv303, lv304, lv305, lv306, lv307, lv308, lv309, lv310, lv311, lv312, lv313], []⟩ W := by
  conv => arg 2; whnf
  refine wp_seq_k fun K hK => ?_
  have HK : Hid _ := hK
  clear hK
  go_wp2_with fail
  go_loopw [23] (fun iv wr => ∃ i : Nat, i ≤ T ∧ iv = .int .i64 i ∧ Below w0.heap.size w0 wr) (fun iv _ => T - (intOf iv).toNat)
  case atStart => exact ⟨0, by omega, rfl, HB.out⟩
  case round =>
    obtain ⟨i, hi0, rfl, hb⟩ := hrel
    have HB1 : Hid (Below w0.heap.size w0 wr) := hb
    clear hb HB
    by_cases hi : i < T
    · have i1 : (i : Int) < (T : Int) := by omega
      have i2 : (0 : Int) ≤ (i : Int) := by omega
      obtain ⟨va, vc, hv⟩ := HQ.out.v hi
      obtain ⟨ni, hni⟩ : ∃ ni, n i = ni := ⟨_, rfl⟩
      rw [hni] at hv
      obtain ⟨r, hr⟩ : ∃ r, i % 4 = r := ⟨_, rfl⟩
      have hr4 : r < 4 := by omega
      have hr1 : Int.tmod (i : Int) 4 = (r : Int) := by rw [← hr, Int.tmod_eq_emod_of_nonneg (by omega)]; omega
      obtain ⟨q1, q2⟩ := X.out.wc r hr4
      obtain ⟨wa, wb, hw⟩ := q2.len
      obtain ⟨wn, hwn⟩ : ∃ wn, (R r).length = wn := ⟨_, rfl⟩
      rw [hwn] at hw
      rw [hw] at q1 q2
      have q3 := HA.out.cell i hi
      rw [hv] at q3
      obtain ⟨q4, q5⟩ := HS.out i hi
      rw [hv, hr] at q4
      rw [hr] at q5
      have HSD : Hid (∀ W', Below w0.heap.size w0 W' → W'.cell? ⟨ag, i, none⟩ = some (.slice va ni vc) ∧ W'.cell? ⟨dw, r, none⟩ = some (.slice wa wn wb)) := fun W' hW => by
        refine ⟨?_, ?_⟩
        · rw [hW.cell (World.block_lt_of_cell? w0 ⟨ag, i, none⟩ q3)]; exact q3
        · rw [(bstep HA.out.bw hW).cell (World.block_lt_of_cell? W1 ⟨dw, r, none⟩ q1)]; exact q1
      have HC : Hid (Calls Tryz.prog 18 #[.slice va ni vc, .slice wa wn wb] wr.drew fun e w' => e = .returned (.bool true) ∧ Below wr.drew.heap.size wr.drew w') := (same_any (q4.later (bstep HB1.out (bd wr 1))) (q2.later (bstep HA.out.bw (bstep HB1.out (bd wr 1)))) (by omega)).mono fun e w' ⟨h1, n, h2⟩ => ⟨by rw [h1]; simp, by rw [h2]; exact bd _ _⟩
      have r1 : (r : Int) < 4 := by omega
      have r2 : (0 : Int) ≤ (r : Int) := by omega
      clear hv hni hr q1 q2 q3 q4 q5 hw hwn
      go_wp2_with fail
      refine wp_region_noPanic ?_
      refine wp_region_held_drew (S := fun W' => W'.cell? ⟨ag, i, none⟩ = some (.slice va ni vc) ∧ W'.cell? ⟨dw, r, none⟩ = some (.slice wa wn wb)) (by kernel_rfl) (HSD.out _ (bstep HB1.out (bd wr 1))) (fun hHeld => ?_)
      refine wpAnyH_take (i := 0) (oi := { dst := some 143, op := _, type := _, pos := _, after := _, guard := _ }) (v := ?vx1) rfl (by kernel_rfl) (by kernel_rfl) (by kernel_rfl) (fun _ _ _ h => h) (Or.inl ⟨by rfl, ?hyx1⟩) (by assumption) ?restx1
      case hyx1 => (intro w hSw; (try dsimp only at hSw); go_simp; try with_reducible rfl)
      try simp only [Act.put, List.setIfInBounds_toArray, List.set_cons_zero, List.set_cons_succ]
      refine wpAnyH_take (i := 1) (oi := { dst := some 144, op := _, type := _, pos := _, after := _, guard := _ }) (v := ?vx2) rfl (by kernel_rfl) (by kernel_rfl) (by kernel_rfl) (fun _ _ _ h => h) (Or.inl ⟨by rfl, ?hyx2⟩) (by assumption) ?restx2
      case hyx2 => (intro w hSw; (try dsimp only at hSw); go_simp; try with_reducible rfl)
      try simp only [Act.put, List.setIfInBounds_toArray, List.set_cons_zero, List.set_cons_succ]
      refine wpAnyH_take (i := 2) (oi := { dst := some 145, op := _, type := _, pos := _, after := _, guard := _ }) (v := ?vx3) rfl (by kernel_rfl) (by kernel_rfl) (by kernel_rfl) (fun _ _ _ h => h) (Or.inl ⟨by rfl, ?hyx3⟩) (by assumption) ?restx3
      case hyx3 => (intro w hSw; (try dsimp only at hSw); go_simp; try with_reducible rfl)
      try simp only [Act.put, List.setIfInBounds_toArray, List.set_cons_zero, List.set_cons_succ]
      refine wpAnyH_take (i := 3) (oi := { dst := some 146, op := _, type := _, pos := _, after := _, guard := _ }) (v := ?vx4) rfl (by kernel_rfl) (by kernel_rfl) (by kernel_rfl) (fun _ _ _ h => h) (Or.inl ⟨by rfl, ?hyx4⟩) (by assumption) ?restx4
      case hyx4 => (intro w hSw; (try dsimp only at hSw); go_simp; try with_reducible rfl)
      try simp only [Act.put, List.setIfInBounds_toArray, List.set_cons_zero, List.set_cons_succ]
      refine wpAnyH_take (i := 4) (oi := { dst := some 147, op := _, type := _, pos := _, after := _, guard := _ }) (v := ?vx5) rfl (by kernel_rfl) (by kernel_rfl) (by kernel_rfl) (fun _ _ _ h => h) (Or.inl ⟨by rfl, ?hyx5⟩) (by assumption) ?restx5
      case hyx5 => (intro w hSw; (try dsimp only at hSw); go_simp; try with_reducible rfl)
      try simp only [Act.put, List.setIfInBounds_toArray, List.set_cons_zero, List.set_cons_succ]
      refine wpAnyH_take (i := 5) (oi := { dst := some 148, op := _, type := _, pos := _, after := _, guard := _ }) (v := ?vx6) rfl (by kernel_rfl) (by kernel_rfl) (by kernel_rfl) (fun _ _ _ h => h) (Or.inl ⟨by rfl, ?hyx6⟩) (by assumption) ?restx6
      case hyx6 => (intro w hSw; (try dsimp only at hSw); go_simp; try with_reducible rfl)
      try simp only [Act.put, List.setIfInBounds_toArray, List.set_cons_zero, List.set_cons_succ]
      refine wpAnyH_take (i := 6) (oi := { dst := some 149, op := _, type := _, pos := _, after := _, guard := _ }) (v := ?vx7) rfl (by kernel_rfl) (by kernel_rfl) (by kernel_rfl) (fun _ _ _ h => h) (Or.inl ⟨by rfl, ?hyx7⟩) (by assumption) ?restx7
      case hyx7 => (intro w hSw; (try dsimp only at hSw); go_simp; try with_reducible rfl)
      try simp only [Act.put, List.setIfInBounds_toArray, List.set_cons_zero, List.set_cons_succ]
      refine wpAnyH_take (i := 7) (oi := { dst := some 150, op := _, type := _, pos := _, after := _, guard := _ }) (v := ?vx8) rfl (by kernel_rfl) (by kernel_rfl) (by kernel_rfl) (fun _ _ _ h => h) (Or.inl ⟨by rfl, ?hyx8⟩) (by assumption) ?restx8
      case hyx8 => (intro w hSw; (try dsimp only at hSw); go_simp; try with_reducible rfl)
      try simp only [Act.put, List.setIfInBounds_toArray, List.set_cons_zero, List.set_cons_succ]
      refine wpAnyH_ready (rs := [8]) (by kernel_rfl) (by simp) ?_
      refine AllReadyH.cons (o := { dst := some 151, op := _, type := _, pos := _, after := _, guard := _ }) rfl (fun K hK => ?_) AllReadyH.nil
      go_simp
      with_reducible refine HC.out.mono ?_
      rintro e w2 ⟨rfl, hb2⟩
      have HB2 : Hid (Below w0.heap.size w0 w2) := bstep HB1.out (bstep (bd wr 1) hb2)
      clear hb2
      refine hK.out _ _ (HSD.out _ HB2.out) (fun hHeld => ?_)
      clear hK K
      try simp only [List.setIfInBounds_toArray, List.set_cons_zero, List.set_cons_succ]
      refine wpAnyH_take (i := 9) (oi := { dst := some 152, op := _, type := _, pos := _, after := _, guard := _ }) (v := ?vx9) rfl (by kernel_rfl) (by kernel_rfl) (by kernel_rfl) (fun _ _ _ h => h) (Or.inl ⟨by rfl, ?hyx9⟩) (by assumption) ?restx9
      case hyx9 => (intro w hSw; (try dsimp only at hSw); go_simp; try with_reducible rfl)
      try simp only [Act.put, List.setIfInBounds_toArray, List.set_cons_zero, List.set_cons_succ]
      refine wpAnyH_done (by kernel_rfl) ?_ _
      refine NoPanic.normal ?_
      clear hHeld
      go_wp2_with fail
      go_roundw
      case rel => exact ⟨i + 1, by omega, by go_num, HB2.out⟩
      case measure => simp [intOf]; omega
    · obtain rfl : i = T := by omega
      go_wp2_with fail
      refine HK.out _ _ ?_
      clear HK
      exact p27 X hT0 hT HA (HQ.out.later HB1.out)
end Go.Proofs.YtbaheiimcnfaaaaGreat

namespace Go.Proofs.YtbaheiimcnfaaaaGreat
open Go.RowKit Go.Maps

theorem app_T2 {w : World} {base : Nat} {v x : Value} {l k : List Value} (hown : w.ownsRow base 23 1 v l.length l) (hs : Src Tryz.prog 1 51 x k.length k w) (hb : l.length + k.length ≤ 1000000) (hbase : base ≤ w.heap.size)
    {ops : Array Oper} {rest : List Oper} {o : Oper} {a : Act} {Q : Exit → Act → World → Prop} (hgd : o.guard = none) (s y : Operand)
    (ho : o.op = .call { callee := .builtin .append, args := #[s, y], argTypes := #[51, 51] }) (hv : a.eval s = v) (hx : a.eval y = x)
    (h : ∀ v' w', w'.ownsRow base 23 1 v' (l ++ k).length (l ++ k) → w.grownBy w' v.ownBlock → (v'.ownBlock = v.ownBlock ∨ v'.ownBlock = some w.heap.size) → wpList Tryz.prog ops Q rest (a.put o.dst v') w') :
    wpList Tryz.prog ops Q (o :: rest) a w := by
  obtain ⟨i0, hi, hz0, hz1, hz2⟩ := info_parts info_S2
  refine wpList_append_src w hgd s y 51 51 ho base 23 i0 _ 1 24 und_S2 hi hz0 hz1 hz2 rfl v l.length l hv hown x k.length k hx hs (by simp only [maxLen]; omega) (by omega) hbase ?_
  intro v' w' h1 h2 h3
  exact h v' w' (by rw [List.length_append]; exact h1) h2 h3
theorem src_four (w : World) (a b c d : Value) (h : ∀ u ∈ [a, b, c, d], u.oneCell' = true) : Src Tryz.prog 1 51 (.slice (some ⟨w.heap.size, 0, none⟩) 4 4) [a, b, c, d].length [a, b, c, d] (w.alloc (.cells #[a, b, c, d] 23)) :=
  Src.ofSlice _ und_S2 ⟨w.heap.size, 0, none⟩ 4 4 [a, b, c, d] (by simp) (World.news_of_block (heap_alloc_new w _)) h
theorem OwnAll.only {B : Nat} {w w' : World} {V : List Value} {P : List (List (List UInt8))} {S : List Nat} (h : OwnAll B w V P) (ho : Only S w w') (hn : ∀ (i : Nat) (vi : Value) (g : Nat), V[i]? = some vi → vi.ownBlock = some g → g ∉ S) : OwnAll B w' V P :=
  ⟨h.len, fun j vj l h1 h2 => (h.own j vj l h1 h2).only ho (fun g hg => hn j vj g h1 hg), h.dis⟩
/-- t turns of four lists -/
def RR (R : Nat → List (List UInt8)) : Nat → List (List (List UInt8))
  | 0 => []
  | t + 1 => RR R t ++ [R 0, R 1, R 2, R 3]
structure AT (W1 wr : World) (av : Value) (t : Nat) (R : Nat → List (List UInt8)) (Vs : List Value) : Prop where
  bel : Below W1.heap.size W1 wr
  row : wr.ownsRow W1.heap.size 23 1 av Vs.length Vs
  len : Vs.length = 4 * t
  oa : OwnAll W1.heap.size wr Vs (RR R t)
  dis : ∀ g, av.ownBlock = some g → ∀ (i : Nat) (vi : Value), Vs[i]? = some vi → vi.ownBlock ≠ some g
section
variable {W1 wr w1 w2 w3 w4 w6 w7 : World} {av v' x1 x2 x3 x4 : Value} {t : Nat} {R : Nat → List (List UInt8)} {Vs : List Value}
theorem AT.start (hb : Below W1.heap.size W1 wr) : AT W1 wr (.slice none 0 0) 0 R [] :=
  ⟨hb, World.ownsRow_nil _ _ _ _, rfl, ⟨rfl, fun j vj l h1 _ => by simp at h1, fun i j vi vj k h1 _ _ _ => by simp at h1⟩, fun g hg => by cases hg⟩
theorem AT.step (h : AT W1 wr av t R Vs) (b1 : Below wr.heap.size wr w1) (o1 : Own wr.heap.size w1 x1 (R 0)) (b2 : Below w1.heap.size w1 w2) (o2 : Own w1.heap.size w2 x2 (R 1))
    (b3 : Below w2.heap.size w2 w3) (o3 : Own w2.heap.size w3 x3 (R 2)) (b4 : Below w3.heap.size w3 w4) (o4 : Own w3.heap.size w4 x4 (R 3)) (b6 : Below w4.heap.size w4 w6)
    (hg : w6.grownBy w7 av.ownBlock) (hr : w7.ownsRow W1.heap.size 23 1 v' (Vs ++ [x1, x2, x3, x4]).length (Vs ++ [x1, x2, x3, x4])) (hw : v'.ownBlock = av.ownBlock ∨ v'.ownBlock = some w6.heap.size) :
    AT W1 w7 v' (t + 1) R (Vs ++ [x1, x2, x3, x4]) := by
  have s0 := h.bel.size
  have s1 := b1.size
  have s2 := b2.size
  have s3 := b3.size
  have s4 := b4.size
  have s6 := b6.size
  have b14 : Below wr.heap.size wr w4 := bstep (bstep (bstep b1 b2) b3) b4
  have b16 : Below W1.heap.size W1 w6 := bstep (bstep h.bel b14) b6
  have n4 : OwnAll wr.heap.size w4 ((([x1] ++ [x2]) ++ [x3]) ++ [x4]) ((([R 0] ++ [R 1]) ++ [R 2]) ++ [R 3]) :=
    (((OwnAll.one o1).app b2 (OwnAll.one o2) (Nat.le_refl _) s1).app b3 (OwnAll.one o3) (Nat.le_refl _) (by omega)).app b4 (OwnAll.one o4) (Nat.le_refl _) (by omega)
  have a6 : OwnAll W1.heap.size w6 (Vs ++ [x1, x2, x3, x4]) (RR R t ++ [R 0, R 1, R 2, R 3]) := (h.oa.app b14 n4 (Nat.le_refl _) s0).later b6
  have key : ∀ (i : Nat) (vi : Value) (g : Nat), (Vs ++ [x1, x2, x3, x4])[i]? = some vi → vi.ownBlock = some g → av.ownBlock ≠ some g := fun i vi g h1 h2 e => by
    have hlt := (World.ownsRow.lt h.row g e).2
    rcases Nat.lt_or_ge i Vs.length with a | a
    · rw [List.getElem?_append_left a] at h1
      exact h.dis g e i vi h1 h2
    · rw [List.getElem?_append_right a] at h1
      have := (n4.lt (j := i - Vs.length) h1 h2).1
      omega
  refine ⟨b16.grown hg b16.size (fun k hk => (World.ownsRow.lt h.row k hk).1), hr, by simp [h.len]; omega, a6.only (only_grownK hg) (fun i vi g h1 h2 e => key i vi g h1 h2 (by simpa using e)), fun g hg2 i vi h1 h2 => ?_⟩
  rcases hw with e | e
  · exact key i vi g h1 h2 (e ▸ hg2)
  · rw [e] at hg2
    injection hg2 with hg2
    have := (a6.lt h1 h2).2
    omega
theorem RR_two (R : Nat → List (List UInt8)) : RR R 2 = [R 0, R 1, R 2, R 3, R 0, R 1, R 2, R 3] := rfl
theorem RR_at {j : Nat} (hj : j < 8) : (RR R 2)[j]? = some (R (j % 4)) := by
  rcases (show j = 0 ∨ j = 1 ∨ j = 2 ∨ j = 3 ∨ j = 4 ∨ j = 5 ∨ j = 6 ∨ j = 7 by omega) with rfl | rfl | rfl | rfl | rfl | rfl | rfl | rfl <;> rfl
theorem AT.fin (h : AT W1 wr av 2 R Vs) (hR : ∀ j, j < 4 → (R j).length ≤ 1000000) : ∃ ag ac, av = .slice (some ⟨ag, 0, none⟩) 8 ac ∧ AL 8 W1 wr ag (vV Vs) (nP (RR R 2)) (cP (RR R 2)) (dV Vs) ∧ QM 8 W1 wr wr (vV Vs) (nP (RR R 2)) (cP (RR R 2)) (dV Vs) (dV Vs) ∧
    ∀ j, j < 8 → SS wr (vV Vs j) (R (j % 4)) ∧ (R (j % 4)).length ≤ 1000000 := by
  have hl : Vs.length = 8 := h.len
  obtain ⟨ag, ac, e, _, hb, hlt⟩ := row_place h.row (by omega)
  have hrow := h.row
  rw [e] at hrow
  have get : ∀ j, j < 8 → Vs[j]? = some (vV Vs j) := fun j hj => by
    have e := List.getElem?_eq_getElem (l := Vs) (i := j) (by omega)
    rw [e, vV_at e]
  refine ⟨ag, ac, by rw [e, hl], ⟨h.bel, fun j hj => row_cell hrow (get j hj), fun j ⟨vi, h1, h2⟩ => h.dis ag (by rw [e]; rfl) j vi h1 h2, hb, fun j _ => ?_, fun j hj => ?_⟩, h.oa.qn h.bel.size, fun j hj => ?_⟩
  · unfold cP nP; rw [sc_length, Nat.mul_one]
  · unfold nP
    simp only [List.getD, RR_at hj, Option.getD_some]
    exact hR _ (by omega)
  · obtain ⟨l, h1, h2⟩ := h.oa.at (get j hj)
    rw [RR_at hj] at h1
    injection h1 with h1
    subst h1
    exact ⟨h2.ss, hR _ (by omega)⟩
end
theorem bud7 (b : Int) : ∃ B : Nat, 1 ≤ B ∧ B ≤ 8 ∧ wrap64 (1 + bits .and .i64 b 7) = (B : Int) := by
  have h : ∃ x : Nat, x ≤ 7 ∧ bits .and .i64 b 7 = (x : Int) := by
    refine ⟨(BitVec.ofInt 64 b).toNat &&& 7, Nat.and_le_right, ?_⟩
    have h2 : (BitVec.ofInt 64 (7 : Int)).toNat = 7 := by decide
    have hx : (BitVec.ofInt 64 b).toNat &&& 7 ≤ 7 := Nat.and_le_right
    show IntKind.i64.wrap ((BitVec.ofInt 64 b &&& BitVec.ofInt 64 7).toNat : Int) = _
    rw [BitVec.toNat_and, h2, IntKind.wrap_i64]
    omega
  obtain ⟨x, hx, e⟩ := h
  exact ⟨x + 1, by omega, by omega, by rw [e]; unfold wrap64; omega⟩
end Go.Proofs.YtbaheiimcnfaaaaGreat
