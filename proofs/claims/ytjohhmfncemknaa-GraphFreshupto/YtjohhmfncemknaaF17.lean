/-
  The law of new memory: asked twice.
-/
import Derived.Test.YtjohhmfncemknaaF22
namespace Go.Proofs.Ytjohhmfncemknaa
open Go.RowKit Go.Maps

def xs (a b c d : Value) (j : Nat) : Value := if j = 0 then a else if j = 1 then b else if j = 2 then c else d
theorem src_S4 (w : World) (a1 : Option Addr) (n1 c1 : Nat) (a2 : Option Addr) (n2 c2 : Nat) (a3 : Option Addr) (n3 c3 : Nat) (a4 : Option Addr) (n4 c4 : Nat) : Src Try.prog 1 56 (.slice (some ⟨w.heap.size, 0, none⟩) 4 4) [Value.slice a1 n1 c1, .slice a2 n2 c2, .slice a3 n3 c3, .slice a4 n4 c4].length [.slice a1 n1 c1, .slice a2 n2 c2, .slice a3 n3 c3, .slice a4 n4 c4] (w.alloc (.cells #[.slice a1 n1 c1, .slice a2 n2 c2, .slice a3 n3 c3, .slice a4 n4 c4] 28)) := by
  refine Src.ofSlice _ und_S ⟨w.heap.size, 0, none⟩ 4 4 _ (by simp) ?_ (fun u hu => ?_)
  · exact World.news_of_block (heap_alloc_new w _)
  · simp only [List.mem_cons, List.mem_nil_iff, or_false] at hu
    rcases hu with rfl | rfl | rfl | rfl <;> rfl
/-- what is answered so far -/
structure AQ (W1 wr : World) (L : Nat → List Lb) (t : Nat) (av : Value) (V : Nat → Value) : Prop where
  bel : Below W1.heap.size W1 wr
  row : wr.ownsRow W1.heap.size 28 1 av (4 * t) ((List.range (4 * t)).map V)
  own : ∀ j, j < 4 * t → OwnL W1.heap.size wr (V j) (L (j % 4))
  dis : ∀ i j g, i < 4 * t → j < 4 * t → (V i).ownBlock = some g → (V j).ownBlock = some g → i = j
  ra : ∀ g, av.ownBlock = some g → ∀ j, j < 4 * t → (V j).ownBlock ≠ some g
theorem AQ.start {W1 W : World} {L : Nat → List Lb} (h : Below W1.heap.size W1 W) : AQ W1 W L 0 (.slice none 0 0) (fun _ => .slice none 0 0) :=
  ⟨h, World.ownsRow_nil _ _ _ _, (fun j hj => by omega), (fun i j g hi => by omega), (fun g hg => by cases hg)⟩
theorem xs_list (V : Nat → Value) (t : Nat) (a b c d : Value) : (List.range (4 * (t + 1))).map (fun j => if j < 4 * t then V j else xs a b c d (j - 4 * t)) = (List.range (4 * t)).map V ++ [a, b, c, d] := by
  have e : 4 * (t + 1) = 4 * t + 1 + 1 + 1 + 1 := by omega
  rw [e, List.range_succ, List.range_succ, List.range_succ, List.range_succ]
  simp only [List.map_append, List.append_assoc]
  congr 1
  · exact List.map_congr_left (fun j hj => if_pos (List.mem_range.1 hj))
  · simp [xs, Nat.add_sub_cancel_left]
    exact ⟨fun h => by omega, fun h => by omega, fun h => by omega⟩
theorem AQ.add {W1 wr zB z4 : World} {L : Nat → List Lb} {t : Nat} {av av' : Value} {V x : Nat → Value} (h : AQ W1 wr L t av V) (hb : Below wr.heap.size wr zB) (ho : ∀ j, j < 4 → OwnL wr.heap.size zB (x j) (L j)) (hd : ∀ i j g, i < 4 → j < 4 → (x i).ownBlock = some g → (x j).ownBlock = some g → i = j)
    (hr : z4.ownsRow W1.heap.size 28 1 av' (4 * (t + 1)) ((List.range (4 * (t + 1))).map (fun j => if j < 4 * t then V j else x (j - 4 * t)))) (hon : Only (bl av) zB z4) (hw : av'.ownBlock = av.ownBlock ∨ ∃ b, av'.ownBlock = some b ∧ zB.heap.size ≤ b) :
    AQ W1 z4 L (t + 1) av' (fun j => if j < 4 * t then V j else x (j - 4 * t)) := by
  have hbs := h.bel.size
  have hs := hb.size
  have hal : ∀ g, av.ownBlock = some g → W1.heap.size ≤ g ∧ g < wr.heap.size := fun g hg => World.ownsRow.lt h.row g hg
  have hxl : ∀ j, j < 4 → ∀ g, (x j).ownBlock = some g → wr.heap.size ≤ g ∧ g < zB.heap.size := fun j hj g hg => (ho j hj).lt hg
  have hvl : ∀ j, j < 4 * t → ∀ g, (V j).ownBlock = some g → g < wr.heap.size := fun j hj g hg => ((h.own j hj).lt hg).2
  refine ⟨below_trans (bstep h.bel hb) (hon.below (by omega) (fun k hk => (hal k (mem_bl.1 hk)).1)), hr, fun j hj => ?_, fun i j g hi hj h1 h2 => ?_, fun g hg j hj hv => ?_⟩
  · show OwnL _ _ (if j < 4 * t then V j else x (j - 4 * t)) _
    by_cases e : j < 4 * t
    · rw [if_pos e]
      exact ((h.own j e).later hb).only hon (fun k hk hm => h.ra k (mem_bl.1 hm) j e hk)
    · rw [if_neg e]
      have e2 : j % 4 = j - 4 * t := by omega
      rw [e2]
      exact ((ho (j - 4 * t) (by omega)).only hon (fun k hk hm => by
        have := hal k (mem_bl.1 hm)
        have := hxl (j - 4 * t) (by omega) k hk
        omega)).mono hbs
  · by_cases e1 : i < 4 * t <;> by_cases e2 : j < 4 * t
    · rw [if_pos e1] at h1
      rw [if_pos e2] at h2
      exact h.dis i j g e1 e2 h1 h2
    · rw [if_pos e1] at h1
      rw [if_neg e2] at h2
      have := hvl i e1 g h1
      have := hxl _ (by omega) g h2
      omega
    · rw [if_neg e1] at h1
      rw [if_pos e2] at h2
      have := hvl j e2 g h2
      have := hxl _ (by omega) g h1
      omega
    · rw [if_neg e1] at h1
      rw [if_neg e2] at h2
      have := hd _ _ g (by omega) (by omega) h1 h2
      omega
  · rcases hw with e | ⟨b, e, hb2⟩
    · rw [e] at hg
      by_cases e1 : j < 4 * t
      · rw [if_pos e1] at hv
        exact h.ra g hg j e1 hv
      · rw [if_neg e1] at hv
        have := hxl _ (by omega) g hv
        have := hal g hg
        omega
    · rw [e] at hg
      injection hg with hg
      subst hg
      by_cases e1 : j < 4 * t
      · rw [if_pos e1] at hv
        have := hvl j e1 b hv
        omega
      · rw [if_neg e1] at hv
        have := hxl _ (by omega) b hv
        omega

set_option maxRecDepth 100000 in
set_option maxHeartbeats 16000000 in
theorem f17 {w W1 : World} {g d ab ll lo lc0 wb fn fc : Nat} {fa : Option Addr} {v0 v1 v2 v3 : Value} {N : List Lb} {E : List Ee} {a : Lb} {fr : List Lb} {lv0 lv2 lv3 lv4 lv6 lv8 lv10 lv11 lv15 lv16 lv17 lv18 lv19 lv20 lv21 lv22 lv23 lv24 lv25 lv26 lv27 lv28 lv29 lv30 lv31 lv32 lv33 lv34 lv35 lv36 lv37 lv38 lv39 lv40 lv41 lv42 lv43 lv44 lv45 lv46 lv47 lv48 lv49 lv50 lv51 lv52 lv53 lv54 lv55 lv56 lv57 lv58 lv59 lv60 lv61 lv62 lv63 lv64 lv65 lv66 lv67 lv68 lv69 lv70 lv71 lv72 lv73 lv74 lv75 lv76 lv77 lv78 lv79 lv80 lv81 lv82 lv83 lv84 lv85 lv86 lv87 lv88 lv89 lv90 lv91 lv92 lv93 lv94 lv95 lv96 lv97 lv98 lv99 lv100 lv101 lv102 lv103 lv104 lv105 lv106 lv107 lv108 lv109 lv110 lv111 lv112 lv113 lv114 lv115 lv116 lv117 lv118 lv119 lv120 lv121 lv122 lv123 lv124 lv125 lv126 lv127 lv128 lv129 lv130 lv131 lv132 lv133 lv134 lv135 lv136 lv137 lv138 lv139 lv140 lv141 lv142 lv143 lv144 lv145 lv146 lv147 lv148 lv149 lv150 lv151 lv152 lv153 lv154 lv155 lv156 lv157 lv158 lv159 lv160 lv161 lv162 lv163 lv164 lv165 lv166 lv167 lv168 lv169 lv170 lv171 lv172 lv173 lv174 lv175 lv176 lv177 lv178 lv179 lv180 lv181 lv182 lv183 lv184 lv185 lv186 lv187 lv188 lv189 lv190 lv191 lv192 lv193 lv194 lv195 lv196 lv197 lv198 lv199 lv200 lv201 lv202 lv203 lv204 lv205 lv206 lv207 lv208 lv209 lv210 lv211 lv212 lv213 lv214 lv215 lv216 lv217 lv218 lv219 lv220 lv221 lv222 lv223 lv224 lv225 lv226 lv227 lv228 lv229 lv230 lv231 lv232 lv233 lv234 lv235 lv236 lv237 lv238 lv239 lv240 lv241 lv242 lv243 lv244 lv245 lv246 lv247 lv248 lv249 lv250 lv251 lv252 lv253 lv254 lv255 lv256 lv257 lv258 lv259 lv260 lv261 lv262 lv263 lv264 lv265 lv266 lv267 lv268 lv269 lv270 lv271 lv272 lv273 lv274 lv275 lv276 lv277 lv278 lv279 lv280 lv281 lv282 lv283 lv284 lv285 lv286 lv287 lv288 lv289 lv290 lv291 lv292 lv293 lv294 lv295 lv296 lv297 lv298 lv299 lv300 lv301 lv302 lv303 lv304 lv305 lv306 lv307 lv308 lv309 lv310 lv311 lv312 lv313 lv314 lv315 lv316 lv317 lv318 lv319 lv320 : Value} (X : Hid (FX w W1 g d ab ll lo lc0 wb fa fn fc v0 v1 v2 v3 N E a fr)) :
    Code.wp Try.prog (suff 17 (Try.f5.body.getD .skip)) (bodyPost Try.prog Try.f5 (GoodE w)) ⟨#[lv0, .slice fa fn fc, lv2, lv3, lv4, .pointer (some ⟨g, 0, none⟩), lv6, .pointer (some ⟨ab, 0, none⟩), lv8, .slice (some ⟨ll, lo, none⟩) (fn + 2) lc0, lv10, lv11, .pointer (some ⟨wb, 0, none⟩), .slice none 0 0, .slice none 0 0, lv15, lv16, lv17, lv18, lv19, lv20, lv21, lv22, lv23, lv24, lv25, lv26, lv27, lv28, lv29, lv30, lv31, lv32, lv33, lv34, lv35, lv36, lv37, lv38, lv39, lv40, lv41, lv42, lv43, lv44, lv45, lv46, lv47, lv48, lv49, lv50, lv51, lv52, lv53, lv54, lv55, lv56, lv57, lv58, lv59, lv60, lv61, lv62, lv63, lv64, lv65, lv66, lv67, lv68, lv69, lv70, lv71, lv72, lv73, lv74, lv75, lv76, lv77, lv78, lv79, lv80, lv81, lv82, lv83, lv84, lv85, lv86, lv87, lv88, lv89, lv90, lv91, lv92, lv93, lv94, lv95, lv96, lv97, lv98, lv99, lv100, lv101, lv102, lv103, lv104, lv105, lv106, lv107, lv108, lv109, lv110, lv111, lv112, lv113, lv114, lv115, lv116, lv117, lv118, lv119, lv120, lv121, lv122, lv123, lv124, lv125, lv126, lv127, lv128, lv129, lv130, lv131, lv132, lv133, lv134, lv135, lv136, lv137, lv138, lv139, lv140, lv141, lv142, lv143, lv144, lv145, lv146, lv147, lv148, lv149, lv150, lv151, lv152, lv153, lv154, lv155, lv156, lv157, lv158, lv159, lv160, lv161, lv162, lv163, lv164, lv165, lv166, lv167, lv168, lv169, lv170, lv171, lv172, lv173, lv174, lv175, lv176, lv177, lv178, lv179, lv180, lv181, lv182, lv183, lv184, lv185, lv186, lv187, lv188, lv189, lv190, lv191, lv192, lv193, lv194, lv195, lv196, lv197, lv198, lv199, lv200, lv201, lv202, lv203, lv204, lv205, lv206, lv207, lv208, lv209, lv210, lv211, lv212, lv213, lv214, lv215, lv216, lv217, lv218, lv219, lv220, lv221, lv222, lv223, lv224, lv225, lv226, lv227, lv228, lv229, lv230, lv231, lv232, lv233, lv234, lv235, lv236, lv237, lv238, lv239, lv240, lv241, lv242, lv243, lv244, lv245, lv246, lv247, lv248, lv249, lv250, lv251, lv252, lv253, lv254, lv255, lv256, lv257, lv258, lv259, lv260, lv261, lv262, lv263, lv264, lv265, lv266, lv267, lv268, lv269, lv270, lv271, lv272, lv273, lv274, lv275, lv276, lv277, lv278, lv279, lv280, lv281, lv282, lv283, lv284, lv285, lv286, lv287, lv288, lv289, lv290, lv291, lv292, lv293, lv294, lv295, lv296, lv297, lv298, lv299, lv300, lv301, lv302, lv303, lv304, lv305, lv306, lv307, lv308, lv309, lv310, lv311, lv312, lv313, lv314, lv315, lv316, lv317, lv318, lv319, lv320], []⟩ W1 := by
  conv => arg 2; whnf
  obtain ⟨F, D, ns, out, hbt⟩ := X.out.bt
  have HBT : Hid (Bt W1 F g ns out D d N E ∧ ns.length + 2 ≤ 1000000) := ⟨hbt, hbt.sz⟩
  clear hbt
  obtain ⟨p, m⟩ := a
  have HORD : Hid (∀ W', Below W1.heap.size W1 W' → ∃ b, Ow2 14 #[.pointer (some ⟨g, 0, none⟩)] W' ((Gs.ord (rs N) E).getD []) b) := fun W' hW => by
    have h := order_any (HBT.out.1.gr.later hW) HBT.out.2
    rw [HBT.out.1.lk.ord_eq HBT.out.1.gr.gf] at h
    exact ⟨_, h⟩
  have HN : Hid (∀ W', Below W1.heap.size W1 W' → Ow 15 #[.pointer (some ⟨g, 0, none⟩)] W' (rs N)) := fun W' hW => by
    have h := nodes_any (HBT.out.1.gr.later hW)
    rw [HBT.out.1.lk.rs_eq] at h
    exact h
  have HO : Hid (∀ W', Below W1.heap.size W1 W' → Ow 13 #[.pointer (some ⟨g, 0, none⟩), .agg #[.string (bs p), .string (bs m)]] W' (rs (oE E ⟨p, m⟩))) := fun W' hW => by
    have h := out_any (HBT.out.1.gr.later hW) ⟨p, m⟩ X.out.lu
    rw [HBT.out.1.lk.out_eq HBT.out.1.gr.gf] at h
    exact h
  have HR : Hid (∀ W', Below W1.heap.size W1 W' → Ow 12 #[.pointer (some ⟨g, 0, none⟩), .slice (some ⟨ll, lo, none⟩) fn lc0] W' (RS N E fr)) := fun W' hW => by
    have h := X.out.lt.front (l := fr) (by have := X.out.lcp; have := X.out.ln; omega)
    rw [X.out.ln] at h
    exact (reach_any (HBT.out.1.gr.later hW) HBT.out.2 (h.later hW) (by have := X.out.fl; omega) X.out.fu).mono fun _ _ ⟨v, R, k1, k2, k3, k4, k5⟩ => ⟨v, k1, by
      have e : R = RS N E fr := HBT.out.1.lk.reach_eq HBT.out.1.gr.gf k3 (Gs.ris_up stoL _) k4 (fun x => mem_RS HBT.out.1.dg.sub)
      rw [← e]; exact k2, k5⟩
  have HSD : Hid (∀ W', Below W1.heap.size W1 W' → W'.cell? ⟨ab, 0, none⟩ = some (.string (bs p)) ∧ W'.cell? ⟨ab, 1, none⟩ = some (.string (bs m))) := fun W' hW => by
    obtain ⟨b0, b1, _, _⟩ := (X.out.bx.later hW).cells
    exact ⟨b0, b1⟩
  have g1 : (fn : Int) ≤ ((fn + 2 : Nat) : Int) := by omega
  have g2 : (0 : Int) ≤ (fn : Int) := by omega
  have g3 : (fn : Int) ≤ (lc0 : Int) := by have := X.out.lcp; omega
  refine wp_seq_k fun K hK => ?_
  have HK : Hid _ := hK
  clear hK
  go_wp2_with fail
  go_loopw [13, 15] (fun av tv wr => ∃ (t : Nat) (V : Nat → Value), t ≤ 2 ∧ tv = .int .i64 t ∧ AQ W1 wr (Lx N E ⟨p, m⟩ fr) t av V) (fun _ tv _ => 2 - (intOf tv).toNat)
  case atStart => exact ⟨0, _, by omega, rfl, AQ.start (Below.refl _ _)⟩
  case round =>
    obtain ⟨t, V, ht0, rfl, haq⟩ := hrel
    obtain ⟨aa, ac, hae⟩ := row_form haq.row
    obtain ⟨an, han⟩ : ∃ an, 4 * t = an := ⟨_, rfl⟩
    have HAN : Hid (4 * t = an) := han
    rw [han] at hae
    subst hae
    clear han
    have X5 : Hid (AQ W1 wr (Lx N E ⟨p, m⟩ fr) t (.slice aa an ac) V) := haq
    clear haq
    by_cases ht : t < 2
    · have t1 : (t : Int) < 2 := by omega
      have t2 : (0 : Int) ≤ (t : Int) := by omega
      obtain ⟨bo, hbo⟩ := HORD.out wr X5.out.bel
      have HC : Hid (Ow2 14 #[.pointer (some ⟨g, 0, none⟩)] wr ((Gs.ord (rs N) E).getD []) bo) := hbo
      clear hbo
      go_wp2_with fail
      refine HC.out.mono ?_
      rintro e w1 ⟨ov, rfl, ho, hb⟩
      obtain ⟨oa, oc, hv⟩ := ho.form
      obtain ⟨on, hn⟩ : ∃ m, ((Gs.ord (rs N) E).getD []).length = m := ⟨_, rfl⟩
      rw [hn] at hv
      subst hv
      clear hn HC
      have HO1 : Hid (OwnL wr.heap.size w1 (.slice oa on oc) ((Gs.ord (rs N) E).getD []) ∧ Below wr.heap.size wr w1) := ⟨ho, hb⟩
      have HBw1drew : Hid (Below W1.heap.size W1 w1.drew) := bstep (bstep X5.out.bel hb) (bd w1 1)
      clear ho hb
      have s12 := HSD.out w1 (bstep X5.out.bel HO1.out.2)
      have s1 := s12.1
      have s2 := s12.2
      clear s12
      go_wp2_with fail
      refine wp_region_noPanic ?_
      refine wp_region_held_drew (S := fun W' => W'.cell? ⟨ab, 0, none⟩ = some (.string (bs p)) ∧ W'.cell? ⟨ab, 1, none⟩ = some (.string (bs m))) (by kernel_rfl) (HSD.out _ HBw1drew.out) (fun hHeld => ?_)
      refine wpAnyH_take (i := 0) (oi := { dst := some 117, op := _, type := _, pos := _, after := _, guard := _ }) (v := ?vx1) rfl (by kernel_rfl) (by kernel_rfl) (by kernel_rfl) (fun _ _ _ h => h) (Or.inl ⟨by rfl, ?hyx1⟩) (by assumption) ?restx1
      case hyx1 => (intro w hSw; (try dsimp only at hSw); go_simp; try with_reducible rfl)
      try simp only [Act.put, List.setIfInBounds_toArray, List.set_cons_zero, List.set_cons_succ]
      refine wpAnyH_take (i := 1) (oi := { dst := some 118, op := _, type := _, pos := _, after := _, guard := _ }) (v := ?vx2) rfl (by kernel_rfl) (by kernel_rfl) (by kernel_rfl) (fun _ _ _ h => h) (Or.inl ⟨by rfl, ?hyx2⟩) (by assumption) ?restx2
      case hyx2 => (intro w hSw; (try dsimp only at hSw); go_simp; try with_reducible rfl)
      try simp only [Act.put, List.setIfInBounds_toArray, List.set_cons_zero, List.set_cons_succ]
      refine wpAnyH_take (i := 3) (oi := { dst := some 120, op := _, type := _, pos := _, after := _, guard := _ }) (v := ?vx3) rfl (by kernel_rfl) (by kernel_rfl) (by kernel_rfl) (fun _ _ _ h => h) (Or.inl ⟨by rfl, ?hyx3⟩) (by assumption) ?restx3
      case hyx3 => (intro w hSw; (try dsimp only at hSw); go_simp; try with_reducible rfl)
      try simp only [Act.put, List.setIfInBounds_toArray, List.set_cons_zero, List.set_cons_succ]
      refine wpAnyH_take (i := 4) (oi := { dst := some 121, op := _, type := _, pos := _, after := _, guard := _ }) (v := ?vx4) rfl (by kernel_rfl) (by kernel_rfl) (by kernel_rfl) (fun _ _ _ h => h) (Or.inl ⟨by rfl, ?hyx4⟩) (by assumption) ?restx4
      case hyx4 => (intro w hSw; (try dsimp only at hSw); go_simp; try with_reducible rfl)
      try simp only [Act.put, List.setIfInBounds_toArray, List.set_cons_zero, List.set_cons_succ]
      refine wpAnyH_take (i := 6) (oi := { dst := some 123, op := _, type := _, pos := _, after := _, guard := _ }) (v := ?vx5) rfl (by kernel_rfl) (by kernel_rfl) (by kernel_rfl) (fun _ _ _ h => h) (Or.inl ⟨by rfl, ?hyx5⟩) (by assumption) ?restx5
      case hyx5 => (intro w hSw; (try dsimp only at hSw); go_simp; try with_reducible rfl)
      try simp only [Act.put, List.setIfInBounds_toArray, List.set_cons_zero, List.set_cons_succ]
      refine wpAnyH_take (i := 7) (oi := { dst := some 124, op := _, type := _, pos := _, after := _, guard := _ }) (v := ?vx6) rfl (by kernel_rfl) (by kernel_rfl) (by kernel_rfl) (fun _ _ _ h => h) (Or.inl ⟨by rfl, ?hyx6⟩) (by assumption) ?restx6
      case hyx6 => (intro w hSw; (try dsimp only at hSw); go_simp; try with_reducible rfl)
      try simp only [Act.put, List.setIfInBounds_toArray, List.set_cons_zero, List.set_cons_succ]
      refine wpAnyH_take (i := 8) (oi := { dst := some 125, op := _, type := _, pos := _, after := _, guard := _ }) (v := ?vx7) rfl (by kernel_rfl) (by kernel_rfl) (by kernel_rfl) (fun _ _ _ h => h) (Or.inl ⟨by rfl, ?hyx7⟩) (by assumption) ?restx7
      case hyx7 => (intro w hSw; (try dsimp only at hSw); go_simp; try with_reducible rfl)
      try simp only [Act.put, List.setIfInBounds_toArray, List.set_cons_zero, List.set_cons_succ]
      refine wpAnyH_take (i := 9) (oi := { dst := some 126, op := _, type := _, pos := _, after := _, guard := _ }) (v := ?vx8) rfl (by kernel_rfl) (by kernel_rfl) (by kernel_rfl) (fun _ _ _ h => h) (Or.inl ⟨by rfl, ?hyx8⟩) (by assumption) ?restx8
      case hyx8 => (intro w hSw; (try dsimp only at hSw); go_simp; try with_reducible rfl)
      try simp only [Act.put, List.setIfInBounds_toArray, List.set_cons_zero, List.set_cons_succ]
      refine wpAnyH_take (i := 10) (oi := { dst := some 127, op := _, type := _, pos := _, after := _, guard := _ }) (v := ?vx9) rfl (by kernel_rfl) (by kernel_rfl) (by kernel_rfl) (fun _ _ _ h => h) (Or.inl ⟨by rfl, ?hyx9⟩) (by assumption) ?restx9
      case hyx9 => (intro w hSw; (try dsimp only at hSw); go_simp; try with_reducible rfl)
      try simp only [Act.put, List.setIfInBounds_toArray, List.set_cons_zero, List.set_cons_succ]
      refine wpAnyH_take (i := 12) (oi := { dst := some 129, op := _, type := _, pos := _, after := _, guard := _ }) (v := ?vx10) rfl (by kernel_rfl) (by kernel_rfl) (by kernel_rfl) (fun _ _ _ h => h) (Or.inl ⟨by rfl, ?hyx10⟩) (by assumption) ?restx10
      case hyx10 => (intro w hSw; (try dsimp only at hSw); go_simp; try with_reducible rfl)
      try simp only [Act.put, List.setIfInBounds_toArray, List.set_cons_zero, List.set_cons_succ]
      refine wpAnyH_ready (rs := [2]) (by kernel_rfl) (by simp) ?_
      refine AllReadyH.cons (o := { dst := some 119, op := _, type := _, pos := _, after := _, guard := _ }) rfl (fun K hK => ?_) AllReadyH.nil
      go_simp
      with_reducible refine (HN.out w1.drew HBw1drew.out).mono ?_
      rintro e z1 ⟨vn, rfl, ho, hb⟩
      obtain ⟨vna, vnc, hv⟩ := ho.form
      obtain ⟨vnn, hn⟩ : ∃ mm, (rs N).length = mm := ⟨_, rfl⟩
      rw [hn] at hv
      subst hv
      clear hn
      have Hvn : Hid (OwnL w1.drew.heap.size z1 (.slice vna vnn vnc) (rs N) ∧ Below w1.drew.heap.size w1.drew z1) := ⟨ho, hb⟩
      have HBz1 : Hid (Below W1.heap.size W1 z1) := bstep HBw1drew.out hb
      clear ho hb
      refine hK.out _ _ (HSD.out z1 HBz1.out) (fun hHeld => ?_)
      clear hK K
      try simp only [List.setIfInBounds_toArray, List.set_cons_zero, List.set_cons_succ]
      refine wpAnyH_ready (rs := [5]) (by kernel_rfl) (by simp) ?_
      refine AllReadyH.cons (o := { dst := some 122, op := _, type := _, pos := _, after := _, guard := _ }) rfl (fun K hK => ?_) AllReadyH.nil
      go_simp
      with_reducible refine (HO.out z1 HBz1.out).mono ?_
      rintro e z2 ⟨vo, rfl, ho, hb⟩
      obtain ⟨voa, voc, hv⟩ := ho.form
      obtain ⟨von, hn⟩ : ∃ mm, (rs (oE E ⟨p, m⟩)).length = mm := ⟨_, rfl⟩
      rw [hn] at hv
      subst hv
      clear hn
      have Hvo : Hid (OwnL z1.heap.size z2 (.slice voa von voc) (rs (oE E ⟨p, m⟩)) ∧ Below z1.heap.size z1 z2) := ⟨ho, hb⟩
      have HBz2 : Hid (Below W1.heap.size W1 z2) := bstep HBz1.out hb
      clear ho hb
      refine hK.out _ _ (HSD.out z2 HBz2.out) (fun hHeld => ?_)
      clear hK K
      try simp only [List.setIfInBounds_toArray, List.set_cons_zero, List.set_cons_succ]
      refine wpAnyH_ready (rs := [11]) (by kernel_rfl) (by simp) ?_
      refine AllReadyH.cons (o := { dst := some 128, op := _, type := _, pos := _, after := _, guard := _ }) rfl (fun K hK => ?_) AllReadyH.nil
      go_simp
      with_reducible refine (HR.out z2 HBz2.out).mono ?_
      rintro e z3 ⟨vr, rfl, ho, hb⟩
      obtain ⟨vra, vrc, hv⟩ := ho.form
      obtain ⟨vrn, hn⟩ : ∃ mm, (RS N E fr).length = mm := ⟨_, rfl⟩
      rw [hn] at hv
      subst hv
      clear hn
      have Hvr : Hid (OwnL z2.heap.size z3 (.slice vra vrn vrc) (RS N E fr) ∧ Below z2.heap.size z2 z3) := ⟨ho, hb⟩
      have HBz3 : Hid (Below W1.heap.size W1 z3) := bstep HBz2.out hb
      clear ho hb
      refine hK.out _ _ (HSD.out z3 HBz3.out) (fun hHeld => ?_)
      clear hK K
      try simp only [List.setIfInBounds_toArray, List.set_cons_zero, List.set_cons_succ]
      refine wpAnyH_ready (rs := [13]) (by kernel_rfl) (by simp) ?_
      refine AllReadyH.cons (o := { dst := some 130, op := _, type := _, pos := _, after := _, guard := _ }) rfl (fun K hK => ?_) AllReadyH.nil
      go_simp
      refine hK.out _ _ (HSD.out (z3.alloc (.cells #[.slice vna vnn vnc, .slice voa von voc, .slice vra vrn vrc, .slice oa on oc] 28)) (bstep HBz3.out (balloc _ _))) (fun hHeld => ?_)
      clear hK K
      try simp only [List.setIfInBounds_toArray, List.set_cons_zero, List.set_cons_succ]
      refine wpAnyH_ready (rs := [14]) (by kernel_rfl) (by simp) ?_
      refine AllReadyH.cons (o := { dst := some 131, op := _, type := _, pos := _, after := _, guard := _ }) rfl (fun K hK => ?_) AllReadyH.nil
      have HZ : Hid (Below wr.heap.size wr (z3.alloc (.cells #[.slice vna vnn vnc, .slice voa von voc, .slice vra vrn vrc, .slice oa on oc] 28))) := bstep (bstep (bstep (bstep (bstep HO1.out.2 (bd w1 1)) Hvn.out.2) Hvo.out.2) Hvr.out.2) (balloc _ _)
      have hrow := row_later X5.out.row HZ.out
      refine step_app_S rfl (.tmp 117) (.tmp 130) rfl W1.heap.size ((List.range (4 * t)).map V) [.slice vna vnn vnc, .slice voa von voc, .slice vra vrn vrc, .slice oa on oc] (.slice aa an ac) _ rfl rfl (by rw [List.length_map, List.length_range, HAN.out]; rw [HAN.out] at hrow; exact hrow) (src_S4 z3 _ _ _ _ _ _ _ _ _ _ _ _) (by simp; omega) (Nat.le_trans X5.out.bel.size HZ.out.size) ?_
      clear hrow
      intro v6 w6 ho6 hon6 hw6
      have XN : Hid (AQ W1 w6 (Lx N E ⟨p, m⟩ fr) (t + 1) v6 (fun j => if j < 4 * t then V j else xs (.slice vna vnn vnc) (.slice voa von voc) (.slice vra vrn vrc) (.slice oa on oc) (j - 4 * t))) := by
        have hs1 := HO1.out.2.size
        have hs2 := Hvn.out.2.size
        have hs3 := Hvo.out.2.size
        have hs4 := Hvr.out.2.size
        have hd0 : w1.drew.heap.size = w1.heap.size := rfl
        refine X5.out.add HZ.out (fun j hj => ?_) (fun i j g hi hj h1 h2 => ?_) (by rw [xs_list, show 4 * (t + 1) = 4 * t + 4 from by omega]; simpa using ho6) hon6 (hw6.elim .inl (fun e => .inr ⟨_, e, Nat.le_refl _⟩))
        · have hj' : j = 0 ∨ j = 1 ∨ j = 2 ∨ j = 3 := by omega
          rcases hj' with rfl | rfl | rfl | rfl
          · exact ((Hvn.out.1.later Hvo.out.2).later (bstep Hvr.out.2 (balloc _ _))).mono (by omega)
          · exact (Hvo.out.1.later (bstep Hvr.out.2 (balloc _ _))).mono (by omega)
          · exact (Hvr.out.1.later (balloc _ _)).mono (by omega)
          · exact HO1.out.1.later (bstep (bstep (bstep (bstep (bd w1 1) Hvn.out.2) Hvo.out.2) Hvr.out.2) (balloc _ _))
        · have b0 : ∀ g, (Value.slice vna vnn vnc).ownBlock = some g → w1.heap.size ≤ g ∧ g < z1.heap.size := fun g h => Hvn.out.1.lt h
          have b1 : ∀ g, (Value.slice voa von voc).ownBlock = some g → z1.heap.size ≤ g ∧ g < z2.heap.size := fun g h => Hvo.out.1.lt h
          have b2 : ∀ g, (Value.slice vra vrn vrc).ownBlock = some g → z2.heap.size ≤ g ∧ g < z3.heap.size := fun g h => Hvr.out.1.lt h
          have b3 : ∀ g, (Value.slice oa on oc).ownBlock = some g → wr.heap.size ≤ g ∧ g < w1.heap.size := fun g h => HO1.out.1.lt h
          have key : ∀ j, j < 4 → ∀ g, (xs (.slice vna vnn vnc) (.slice voa von voc) (.slice vra vrn vrc) (.slice oa on oc) j).ownBlock = some g → (j = 0 ∧ w1.heap.size ≤ g ∧ g < z1.heap.size) ∨ (j = 1 ∧ z1.heap.size ≤ g ∧ g < z2.heap.size) ∨ (j = 2 ∧ z2.heap.size ≤ g ∧ g < z3.heap.size) ∨ (j = 3 ∧ wr.heap.size ≤ g ∧ g < w1.heap.size) := fun j hj g hg => by
            have hj' : j = 0 ∨ j = 1 ∨ j = 2 ∨ j = 3 := by omega
            rcases hj' with rfl | rfl | rfl | rfl
            · exact .inl ⟨rfl, b0 g hg⟩
            · exact .inr (.inl ⟨rfl, b1 g hg⟩)
            · exact .inr (.inr (.inl ⟨rfl, b2 g hg⟩))
            · exact .inr (.inr (.inr ⟨rfl, b3 g hg⟩))
          have k1 := key i hi g h1
          have k2 := key j hj g h2
          omega
      obtain ⟨a6, c6, hv6⟩ := row_form ho6
      have hl6 : ((List.range (4 * t)).map V ++ [Value.slice vna vnn vnc, .slice voa von voc, .slice vra vrn vrc, .slice oa on oc]).length = an + 4 := by simp [HAN.out]
      rw [hl6] at hv6
      subst hv6
      clear ho6 hon6 hw6 hl6
      refine hK.out _ _ (HSD.out w6 XN.out.bel) (fun hHeld => ?_)
      clear hK K
      try simp only [Act.put, List.setIfInBounds_toArray, List.set_cons_zero, List.set_cons_succ]
      refine wpAnyH_take (i := 15) (oi := { dst := some 13, op := _, type := _, pos := _, after := _, guard := _ }) (v := ?vx11) rfl (by kernel_rfl) (by kernel_rfl) (by kernel_rfl) (fun _ _ _ h => h) (Or.inl ⟨by rfl, ?hyx11⟩) (by assumption) ?restx11
      case hyx11 => (intro w hSw; (try dsimp only at hSw); go_simp; try with_reducible rfl)
      try simp only [Act.put, List.setIfInBounds_toArray, List.set_cons_zero, List.set_cons_succ]
      refine wpAnyH_done (by kernel_rfl) ?_ _
      refine NoPanic.normal ?_
      go_wp2_with fail
      go_roundw
      case rel => exact ⟨t + 1, _, by omega, by go_num, XN.out⟩
      case measure => simp [intOf]; omega
    · obtain rfl : t = 2 := by omega
      have han := HAN.out
      obtain rfl : an = 8 := by omega
      obtain ⟨ag, ac2, hve, _, hagl, hagw⟩ := row_place X5.out.row (by omega)
      injection hve with e1 _ e3
      subst e1 e3
      go_wp2_with fail
      refine HK.out _ _ ?_
      clear HK
      have HA : Hid (AL W1 wr ag V (fun j => (Lx N E ⟨p, m⟩ fr (j % 4)).length) (fun j => lc (Lx N E ⟨p, m⟩ fr (j % 4))) (fun j gg => j < 8 ∧ (V j).ownBlock = some gg)) :=
        ⟨X5.out.bel, fun j hj => row_cells X5.out.row (by rw [List.getElem?_map, List.getElem?_range hj]; rfl), fun j hj => X5.out.ra ag rfl j hj.1 hj.2, hagl, fun j hj => by rw [lc_length], fun j hj => X.out.lens _⟩
      have HQ : Hid (QM W1 wr wr V (fun j => (Lx N E ⟨p, m⟩ fr (j % 4)).length) (fun j => lc (Lx N E ⟨p, m⟩ fr (j % 4))) (fun j gg => j < 8 ∧ (V j).ownBlock = some gg) (fun j gg => j < 8 ∧ (V j).ownBlock = some gg)) :=
        ⟨fun j hj => X5.out.own j hj, fun j hj gg hg => ⟨hj, hg⟩, fun i j gg h1 h2 => X5.out.dis i j gg h1.1 h2.1 h1.2 h2.2, fun j gg h1 => (X5.out.own j h1.1).lt h1.2, fun j gg h1 _ => h1, X5.out.bel.size, Below.refl _ _, fun gg _ _ => rfl⟩
      exact f22 X HA HQ (fun j hj => ⟨rfl, rfl⟩)
end Go.Proofs.Ytjohhmfncemknaa
