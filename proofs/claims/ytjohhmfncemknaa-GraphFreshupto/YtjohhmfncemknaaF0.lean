/-
  The law of new memory: the graphs are made.
-/
import Derived.Test.YtjohhmfncemknaaJSp
import Derived.Test.YtjohhmfncemknaaGa
namespace Go.Proofs.Ytjohhmfncemknaa
open Go.RowKit Go.Maps

/-- both graphs and the label, while they are made -/
structure FB (w W : World) (g d ab c : Nat) (a : Lb) : Prop where
  bel : Below w.heap.size w W
  pr : ∃ X : Nat → Prop, Pr W X g d c ∧ ∀ k, X k → w.heap.size ≤ k ∧ k ≠ ab ∧ k < W.heap.size
  bx : RB W ab a
  lu : Lu a
  ge : w.heap.size ≤ ab
section
variable {w W W' : World} {g d ab c : Nat} {a : Lb}
theorem FB.edge (h : FB w W g d ab c a) (x y : Lb) (hx : Lu x) (hy : Lu y) (hc : c ≤ 1000) (hW : Below W.heap.size W W') :
    Calls Try.prog 9 #[.pointer (some ⟨g, 0, none⟩), x.val, y.val] W' fun e w1 => e = .returned (.tuple #[]) ∧ Below w.heap.size w w1 ∧ ∀ W2, Below w1.heap.size w1 W2 →
      Calls Try.prog 16 #[.pointer (some ⟨d, 0, none⟩), x.val, y.val] W2 fun e w2 => e = .returned (.tuple #[]) ∧ FB w w2 g d ab (c + 1) a := by
  obtain ⟨X, hp, hX⟩ := h.pr
  have hab := h.bx.lt
  have hs := h.bel.size
  have hsW := hW.size
  refine ((hp.later hW).edge x y hx hy hc).mono fun e w1 ⟨k1, k2, k3⟩ => ⟨k1, below_trans (bstep h.bel hW) (k2.below (by omega) (fun k hk => (hX k hk).1)), fun W2 hW2 => ?_⟩
  have hs1 := k2.size
  have hs2 := hW2.size
  have bx1 : RB w1 ab a := (h.bx.later hW).onlyP k2 (fun e => (hX _ e).2.1 rfl)
  have b1 : Below w.heap.size w w1 := below_trans (bstep h.bel hW) (k2.below (by omega) (fun k hk => (hX k hk).1))
  refine (k3 W2 hW2).mono fun e w2 ⟨m1, m2, m3⟩ => ⟨m1, below_trans (bstep b1 hW2) (m2.below (by omega) (fun k hk => (hX k hk).1)), ⟨_, m3, fun k hk => ?_⟩, (bx1.later hW2).onlyP m2 (fun e => (hX _ e).2.1 rfl), h.lu, h.ge⟩
  have hs3 := m2.size
  rcases hk with hk | hk
  · have := hX k hk
    exact ⟨this.1, this.2.1, by omega⟩
  · exact ⟨by omega, by omega, hk.2⟩
theorem FB.node (h : FB w W g d ab c a) (x : Lb) (hx : Lu x) (hc : c ≤ 1000) (hW : Below W.heap.size W W') :
    Calls Try.prog 8 #[.pointer (some ⟨g, 0, none⟩), x.val] W' fun e w1 => e = .returned (.tuple #[]) ∧ RB w1 ab a ∧ ∀ W2, Below w1.heap.size w1 W2 →
      Calls Try.prog 17 #[.pointer (some ⟨d, 0, none⟩), x.val] W2 fun e w2 => e = .returned (.tuple #[]) ∧ FB w w2 g d ab (c + 1) a := by
  obtain ⟨X, hp, hX⟩ := h.pr
  have hab := h.bx.lt
  have hs := h.bel.size
  have hsW := hW.size
  refine ((hp.later hW).node x hx hc).mono fun e w1 ⟨k1, k2, k3⟩ => ⟨k1, (h.bx.later hW).onlyP k2 (fun e => (hX _ e).2.1 rfl), fun W2 hW2 => ?_⟩
  have hs1 := k2.size
  have hs2 := hW2.size
  have bx1 : RB w1 ab a := (h.bx.later hW).onlyP k2 (fun e => (hX _ e).2.1 rfl)
  have b1 : Below w.heap.size w w1 := below_trans (bstep h.bel hW) (k2.below (by omega) (fun k hk => (hX k hk).1))
  refine (k3 W2 hW2).mono fun e w2 ⟨m1, m2, m3⟩ => ⟨m1, below_trans (bstep b1 hW2) (m2.below (by omega) (fun k hk => (hX k hk).1)), ⟨_, m3, fun k hk => ?_⟩, (bx1.later hW2).onlyP m2 (fun e => (hX _ e).2.1 rfl), h.lu, h.ge⟩
  have hs3 := m2.size
  rcases hk with hk | hk
  · have := hX k hk
    exact ⟨this.1, this.2.1, by omega⟩
  · exact ⟨by omega, by omega, hk.2⟩
theorem FB.set (h : FB w W g d ab c a) (x : Lb) (hx : Lu x) : FB w ((W.setCell ⟨ab, 0, none⟩ (.string (bs x.pkg))).setCell ⟨ab, 1, none⟩ (.string (bs x.name))) g d ab c x := by
  obtain ⟨X, hp, hX⟩ := h.pr
  have hon := only_set2 W ab 0 1 (.string (bs x.pkg)) (.string (bs x.name))
  refine ⟨bset2 h.bel h.ge _ _, ⟨X, hp.stay hon.size (fun k hk hl => hon.block k hl (fun e => (hX k hk).2.1 (List.mem_singleton.1 e))), fun k hk => ?_⟩, h.bx.set x, hx, h.ge⟩
  have := hX k hk
  have := hon.size
  exact ⟨by omega, by omega, by omega⟩
theorem FB.fy (h : FB w W g d ab c a) {fn fc : Nat} {fa : Option Addr} {fr : List Lb} (hl : LS w (.slice fa fn fc) fr) (hn : fr.length = fn) (hm : fr.length ≤ 1048576) (hu : ∀ x ∈ fr, Lu x) : ∃ N E, FY w W g d ab fa fn fc N E a fr := by
  obtain ⟨X, ⟨F, D, ns, out, N, E, bt, _⟩, _⟩ := h.pr
  exact ⟨N, E, h.bel, ⟨F, D, ns, out, bt⟩, h.bx, h.lu, hn, hl.later h.bel, hm, hu⟩
theorem FB.start {w1 u : World} (hb : Below w.heap.size w w1) (hg : GR w1 (fun k => w.heap.size ≤ k ∧ k < w1.heap.size) g [] (fun _ => [])) (hu : Below (w1.alloc (.cells #[.slice none 0 0, .slice none 0 0] 48)).heap.size (w1.alloc (.cells #[.slice none 0 0, .slice none 0 0] 48)) u) :
    FB w (u.alloc (.cells #[.string { data := #[] }, .string { data := #[97] }] 31)) g w1.heap.size u.heap.size 0 ⟨[], [97]⟩ := by
  have s0 := hb.size
  have z0 : (w1.alloc (.cells #[.slice none 0 0, .slice none 0 0] 48)).heap.size = w1.heap.size + 1 := by simp
  have s1 := hu.size
  have b1 : Below (w1.alloc (.cells #[.slice none 0 0, .slice none 0 0] 48)).heap.size (w1.alloc (.cells #[.slice none 0 0, .slice none 0 0] 48)) (u.alloc (.cells #[.string { data := #[] }, .string { data := #[97] }] 31)) := bstep hu (balloc _ _)
  have b0 : Below w1.heap.size w1 (u.alloc (.cells #[.string { data := #[] }, .string { data := #[97] }] 31)) := bstep (balloc _ _) b1
  have z1 : (u.alloc (.cells #[.string { data := #[] }, .string { data := #[97] }] 31)).heap.size = u.heap.size + 1 := by simp
  refine ⟨bstep hb b0, ⟨fun k => w.heap.size ≤ k ∧ k < w1.heap.size ∨ k = w1.heap.size, ⟨_, _, _, _, _, _, ⟨hg.later b0, (DG.new w1).later b1, Lnk.new, by simp⟩, fun k hk hd => by omega, fun k hk => .inl hk, fun k hk => .inr hk, by simp, by simp⟩, fun k hk => ?_⟩, RB.new u ⟨[], [97]⟩, lu_small (by decide) (by decide), by omega⟩
  exact ⟨by omega, by omega, by omega⟩
end

set_option maxRecDepth 100000 in
set_option maxHeartbeats 16000000 in
theorem f7 {w W : World} {g d ab fn fc ns sc : Nat} {fa sa : Option Addr} {L : List Stp} {a : Lb} {fr : List Lb} {lv2 lv3 lv4 lv8 lv9 lv10 lv11 lv12 lv13 lv14 lv15 lv16 lv17 lv18 lv19 lv20 lv21 lv22 lv23 lv24 lv25 lv26 lv27 lv28 lv29 lv30 lv31 lv32 lv33 lv34 lv35 lv36 lv37 lv38 lv39 lv40 lv41 lv42 lv43 lv44 lv45 lv46 lv47 lv48 lv49 lv50 lv51 lv52 lv53 lv54 lv55 lv56 lv57 lv58 lv59 lv60 lv61 lv62 lv63 lv64 lv65 lv66 lv67 lv68 lv69 lv70 lv71 lv72 lv73 lv74 lv75 lv76 lv77 lv78 lv79 lv80 lv81 lv82 lv83 lv84 lv85 lv86 lv87 lv88 lv89 lv90 lv91 lv92 lv93 lv94 lv95 lv96 lv97 lv98 lv99 lv100 lv101 lv102 lv103 lv104 lv105 lv106 lv107 lv108 lv109 lv110 lv111 lv112 lv113 lv114 lv115 lv116 lv117 lv118 lv119 lv120 lv121 lv122 lv123 lv124 lv125 lv126 lv127 lv128 lv129 lv130 lv131 lv132 lv133 lv134 lv135 lv136 lv137 lv138 lv139 lv140 lv141 lv142 lv143 lv144 lv145 lv146 lv147 lv148 lv149 lv150 lv151 lv152 lv153 lv154 lv155 lv156 lv157 lv158 lv159 lv160 lv161 lv162 lv163 lv164 lv165 lv166 lv167 lv168 lv169 lv170 lv171 lv172 lv173 lv174 lv175 lv176 lv177 lv178 lv179 lv180 lv181 lv182 lv183 lv184 lv185 lv186 lv187 lv188 lv189 lv190 lv191 lv192 lv193 lv194 lv195 lv196 lv197 lv198 lv199 lv200 lv201 lv202 lv203 lv204 lv205 lv206 lv207 lv208 lv209 lv210 lv211 lv212 lv213 lv214 lv215 lv216 lv217 lv218 lv219 lv220 lv221 lv222 lv223 lv224 lv225 lv226 lv227 lv228 lv229 lv230 lv231 lv232 lv233 lv234 lv235 lv236 lv237 lv238 lv239 lv240 lv241 lv242 lv243 lv244 lv245 lv246 lv247 lv248 lv249 lv250 lv251 lv252 lv253 lv254 lv255 lv256 lv257 lv258 lv259 lv260 lv261 lv262 lv263 lv264 lv265 lv266 lv267 lv268 lv269 lv270 lv271 lv272 lv273 lv274 lv275 lv276 lv277 lv278 lv279 lv280 lv281 lv282 lv283 lv284 lv285 lv286 lv287 lv288 lv289 lv290 lv291 lv292 lv293 lv294 lv295 lv296 lv297 lv298 lv299 lv300 lv301 lv302 lv303 lv304 lv305 lv306 lv307 lv308 lv309 lv310 lv311 lv312 lv313 lv314 lv315 lv316 lv317 lv318 lv319 lv320 : Value} (X : Hid (FB w W g d ab 1 a)) (HP : Hid (TS6 w (.slice sa ns sc) L ∧ SSm L ∧ L.length = ns)) (HF : Hid (LS w (.slice fa fn fc) fr ∧ fr.length = fn ∧ fr.length ≤ 1048576 ∧ ∀ x ∈ fr, Lu x)) :
    Code.wp Try.prog (suff 7 (Try.f5.body.getD .skip)) (bodyPost Try.prog Try.f5 (GoodE w)) ⟨#[.slice sa ns sc, .slice fa fn fc, lv2, lv3, lv4, .pointer (some ⟨g, 0, none⟩), .pointer (some ⟨d, 0, none⟩), .pointer (some ⟨ab, 0, none⟩), lv8, lv9, lv10, lv11, lv12, lv13, lv14, lv15, lv16, lv17, lv18, lv19, lv20, lv21, lv22, lv23, lv24, lv25, lv26, lv27, lv28, lv29, lv30, lv31, lv32, lv33, lv34, lv35, lv36, lv37, lv38, lv39, lv40, lv41, lv42, lv43, lv44, lv45, lv46, lv47, lv48, lv49, lv50, lv51, lv52, lv53, lv54, lv55, lv56, lv57, lv58, lv59, lv60, lv61, lv62, lv63, lv64, lv65, lv66, lv67, lv68, lv69, lv70, lv71, lv72, lv73, lv74, lv75, lv76, lv77, lv78, lv79, lv80, lv81, lv82, lv83, lv84, lv85, lv86, lv87, lv88, lv89, lv90, lv91, lv92, lv93, lv94, lv95, lv96, lv97, lv98, lv99, lv100, lv101, lv102, lv103, lv104, lv105, lv106, lv107, lv108, lv109, lv110, lv111, lv112, lv113, lv114, lv115, lv116, lv117, lv118, lv119, lv120, lv121, lv122, lv123, lv124, lv125, lv126, lv127, lv128, lv129, lv130, lv131, lv132, lv133, lv134, lv135, lv136, lv137, lv138, lv139, lv140, lv141, lv142, lv143, lv144, lv145, lv146, lv147, lv148, lv149, lv150, lv151, lv152, lv153, lv154, lv155, lv156, lv157, lv158, lv159, lv160, lv161, lv162, lv163, lv164, lv165, lv166, lv167, lv168, lv169, lv170, lv171, lv172, lv173, lv174, lv175, lv176, lv177, lv178, lv179, lv180, lv181, lv182, lv183, lv184, lv185, lv186, lv187, lv188, lv189, lv190, lv191, lv192, lv193, lv194, lv195, lv196, lv197, lv198, lv199, lv200, lv201, lv202, lv203, lv204, lv205, lv206, lv207, lv208, lv209, lv210, lv211, lv212, lv213, lv214, lv215, lv216, lv217, lv218, lv219, lv220, lv221, lv222, lv223, lv224, lv225, lv226, lv227, lv228, lv229, lv230, lv231, lv232, lv233, lv234, lv235, lv236, lv237, lv238, lv239, lv240, lv241, lv242, lv243, lv244, lv245, lv246, lv247, lv248, lv249, lv250, lv251, lv252, lv253, lv254, lv255, lv256, lv257, lv258, lv259, lv260, lv261, lv262, lv263, lv264, lv265, lv266, lv267, lv268, lv269, lv270, lv271, lv272, lv273, lv274, lv275, lv276, lv277, lv278, lv279, lv280, lv281, lv282, lv283, lv284, lv285, lv286, lv287, lv288, lv289, lv290, lv291, lv292, lv293, lv294, lv295, lv296, lv297, lv298, lv299, lv300, lv301, lv302, lv303, lv304, lv305, lv306, lv307, lv308, lv309, lv310, lv311, lv312, lv313, lv314, lv315, lv316, lv317, lv318, lv319, lv320], []⟩ W := by
  conv => arg 2; whnf
  have hns : ns ≤ 4194304 := by rw [← HP.out.2.2]; exact HP.out.2.1.len
  refine wp_seq_k fun K hK => ?_
  have HK : Hid _ := hK
  clear hK
  go_wp2_with fail
  go_loopw [8] (fun iv wr => ∃ (k : Nat) (a : Lb), k ≤ ns ∧ k ≤ 40 ∧ iv = .int .i64 k ∧ FB w wr g d ab (k + 1) a) (fun iv _ => 40 - (intOf iv).toNat)
  case atStart => exact ⟨0, _, by omega, by omega, rfl, X.out⟩
  case round =>
    clear X
    clear a
    obtain ⟨k, a, hk, hk4, rfl, hfb⟩ := hrel
    have X5 : Hid (FB w wr g d ab (k + 1) a) := hfb
    clear hfb
    by_cases hlt : k < ns
    · by_cases h40 : k < 40
      · have hkl : k < L.length := by have := HP.out.2.2; omega
        obtain ⟨b, off, ea, hbw, hcs⟩ := TS6.at HP.out.1 hkl
        subst ea
        have hlab := HP.out.2.1.each _ (List.getElem_mem hkl)
        have hla := hlab.1
        have hlb := hlab.2.1
        clear hlab
        obtain ⟨stp, hst⟩ : ∃ st, L[k] = st := ⟨_, rfl⟩
        rw [hst] at hla hlb
        simp only [hst] at hcs
        clear hst hkl
        obtain ⟨kd, wh, ⟨p, n⟩, ⟨q, m⟩⟩ := stp
        simp only at hcs hla hlb
        have HSC : Hid (∀ W', Below w.heap.size w W' → W'.cell? ⟨b, off + k * 6 + 2, none⟩ = some (.string (bs p)) ∧ W'.cell? ⟨b, off + k * 6 + 3, none⟩ = some (.string (bs n)) ∧ W'.cell? ⟨b, off + k * 6 + 4, none⟩ = some (.string (bs q)) ∧ W'.cell? ⟨b, off + k * 6 + 5, none⟩ = some (.string (bs m))) := fun W' hW => (hcs W' hW).2.2
        obtain ⟨s2, s3, s4, s5⟩ := HSC.out wr X5.out.bel
        have HLU : Hid (Lu ⟨p, n⟩ ∧ Lu ⟨q, m⟩) := ⟨hla, hlb⟩
        clear hcs hla hlb hbw
        have k1 : (k : Int) < (ns : Int) := by omega
        have k2 : (k : Int) < 40 := by omega
        have k3 : (0 : Int) ≤ (k : Int) := by omega
        have HE : Hid (Calls Try.prog 9 #[.pointer (some ⟨g, 0, none⟩), .agg #[.string (bs p), .string (bs n)], .agg #[.string (bs q), .string (bs m)]] wr.drew fun e w1 => e = .returned (.tuple #[]) ∧ Below w.heap.size w w1 ∧ ∀ W2, Below w1.heap.size w1 W2 → Calls Try.prog 16 #[.pointer (some ⟨d, 0, none⟩), .agg #[.string (bs p), .string (bs n)], .agg #[.string (bs q), .string (bs m)]] W2 fun e w2 => e = .returned (.tuple #[]) ∧ FB w w2 g d ab (k + 1 + 1) a) := X5.out.edge ⟨p, n⟩ ⟨q, m⟩ HLU.out.1 HLU.out.2 (by omega) (bd wr 1)
        go_wp2_with fail
        go_region_held3 (fun W' => W'.cell? ⟨b, off + k * 6 + 2, none⟩ = some (.string (bs p)) ∧ W'.cell? ⟨b, off + k * 6 + 3, none⟩ = some (.string (bs n)) ∧ W'.cell? ⟨b, off + k * 6 + 4, none⟩ = some (.string (bs q)) ∧ W'.cell? ⟨b, off + k * 6 + 5, none⟩ = some (.string (bs m))) (first | (with_reducible exact K7.out) | go_keep) (first | (go_at_call 9; (with_reducible refine HE.out.mono ?_); rintro e w7 ⟨rfl, hb7, hnx⟩; have H7 : Hid (Below w.heap.size w w7 ∧ ∀ W2, Below w7.heap.size w7 W2 → Calls Try.prog 16 #[.pointer (some ⟨d, 0, none⟩), .agg #[.string (bs p), .string (bs n)], .agg #[.string (bs q), .string (bs m)]] W2 fun e w2 => e = .returned (.tuple #[]) ∧ FB w w2 g d ab (k + 1 + 1) a) := ⟨hb7, hnx⟩; have K7 : Hid (w7.cell? ⟨b, off + k * 6 + 2, none⟩ = some (.string (bs p)) ∧ w7.cell? ⟨b, off + k * 6 + 3, none⟩ = some (.string (bs n)) ∧ w7.cell? ⟨b, off + k * 6 + 4, none⟩ = some (.string (bs q)) ∧ w7.cell? ⟨b, off + k * 6 + 5, none⟩ = some (.string (bs m))) := HSC.out w7 hb7; clear hb7 hnx))
        clear s2 s3 s4 s5 HE
        obtain ⟨s2, s3, s4, s5⟩ := HSC.out w7 H7.out.1
        have HE2 : Hid (Calls Try.prog 16 #[.pointer (some ⟨d, 0, none⟩), .agg #[.string (bs p), .string (bs n)], .agg #[.string (bs q), .string (bs m)]] w7.drew fun e w2 => e = .returned (.tuple #[]) ∧ FB w w2 g d ab (k + 1 + 1) a) := H7.out.2 w7.drew (bd w7 1)
        go_wp2_with fail
        go_region_held3 (fun W' => W'.cell? ⟨b, off + k * 6 + 2, none⟩ = some (.string (bs p)) ∧ W'.cell? ⟨b, off + k * 6 + 3, none⟩ = some (.string (bs n)) ∧ W'.cell? ⟨b, off + k * 6 + 4, none⟩ = some (.string (bs q)) ∧ W'.cell? ⟨b, off + k * 6 + 5, none⟩ = some (.string (bs m))) (first | (with_reducible exact K8.out) | go_keep) (first | (go_at_call 16; (with_reducible refine HE2.out.mono ?_); rintro e w8 ⟨rfl, hfb⟩; have H8 : Hid (FB w w8 g d ab (k + 1 + 1) a) := hfb; have K8 : Hid (w8.cell? ⟨b, off + k * 6 + 2, none⟩ = some (.string (bs p)) ∧ w8.cell? ⟨b, off + k * 6 + 3, none⟩ = some (.string (bs n)) ∧ w8.cell? ⟨b, off + k * 6 + 4, none⟩ = some (.string (bs q)) ∧ w8.cell? ⟨b, off + k * 6 + 5, none⟩ = some (.string (bs m))) := HSC.out w8 hfb.bel; clear hfb))
        clear s2 s3 s4 s5 HE2
        obtain ⟨s2, s3, s4, s5⟩ := HSC.out w8 H8.out.bel
        obtain ⟨b0, b1, b2, b3⟩ := H8.out.bx.cells
        have H9 : Hid (FB w ((w8.setCell ⟨ab, 0, none⟩ (.string (bs p))).setCell ⟨ab, 1, none⟩ (.string (bs n))) g d ab (k + 1 + 1) ⟨p, n⟩) := H8.out.set ⟨p, n⟩ HLU.out.1
        go_wp2_with fail
        go_roundw
        case rel => exact ⟨k + 1, _, by omega, by omega, by go_num, H9.out⟩
        case measure => simp [intOf]; omega
      · obtain rfl : k = 40 := by omega
        obtain ⟨N, E, hfy⟩ := X5.out.fy HF.out.1 HF.out.2.1 HF.out.2.2.1 HF.out.2.2.2
        go_wp2_with fail
        refine HK.out _ _ ?_
        clear HK
        exact f13 hfy
    · obtain rfl : ns = k := by omega
      obtain ⟨N, E, hfy⟩ := X5.out.fy HF.out.1 HF.out.2.1 HF.out.2.2.1 HF.out.2.2.2
      go_wp2_with fail
      refine HK.out _ _ ?_
      clear HK
      exact f13 hfy

set_option maxRecDepth 100000 in
set_option maxHeartbeats 16000000 in
theorem gf_law {w : World} {vs vf : Value} {L : List Stp} {fr : List Lb} (hs : TS6 w vs L) (ss : SSm L) (hf : LS w vf fr) (hu : ∀ x ∈ fr, Lu x) (hm : fr.length ≤ 1048576) : Calls Try.prog 5 #[vs, vf] w (GoodE w) := by
  obtain ⟨sa, sc, rfl⟩ := hs.form
  obtain ⟨ns, hn⟩ : ∃ ns, L.length = ns := ⟨_, rfl⟩
  rw [hn] at hs ⊢
  have HP : Hid (TS6 w (.slice sa ns sc) L ∧ SSm L ∧ L.length = ns) := ⟨hs, ss, hn⟩
  clear hs ss hn
  obtain ⟨fa, fc, rfl, _⟩ := hf.form
  obtain ⟨fn, hn⟩ : ∃ fn, fr.length = fn := ⟨_, rfl⟩
  rw [hn] at hf ⊢
  have HF : Hid (LS w (.slice fa fn fc) fr ∧ fr.length = fn ∧ fr.length ≤ 1048576 ∧ ∀ x ∈ fr, Lu x) := ⟨hf, hn, hm, hu⟩
  clear hf hn hm hu
  go_enter Try.func5, Try.ntmps5
  refine wp_seq_k fun K hK => ?_
  have HK : Hid _ := hK
  clear hK
  go_wp2_with fail
  refine HK.out _ _ ?_
  clear HK K
  refine wp_seq_k fun K hK => ?_
  have HK : Hid _ := hK
  clear hK
  go_wp2_with fail
  refine (new_any w).mono ?_
  rintro e w1 ⟨g, rfl, hg, hb⟩
  have H1 : Hid (GR w1 (fun k => w.heap.size ≤ k ∧ k < w1.heap.size) g [] (fun _ => []) ∧ Below w.heap.size w w1) := ⟨hg, hb⟩
  clear hg hb
  go_wp2_with fail
  refine HK.out _ _ ?_
  clear HK K
  refine wp_seq_k fun K hK => ?_
  have HK : Hid _ := hK
  clear hK
  go_wp2_with fail
  refine (head_any (w1.alloc (.cells #[.slice none 0 0, .slice none 0 0] 48))).mono ?_
  rintro e u ⟨rfl, hb⟩
  have X2 : Hid (FB w (u.alloc (.cells #[.string { data := #[] }, .string { data := #[97] }] 31)) g w1.heap.size u.heap.size 0 ⟨[], [97]⟩) := FB.start H1.out.2 H1.out.1 hb
  clear hb H1
  go_wp2_with fail
  refine HK.out _ _ ?_
  clear HK K
  refine wp_seq_k fun K hK => ?_
  have HK : Hid _ := hK
  clear hK
  go_wp2_with fail
  refine HK.out _ _ ?_
  clear HK K
  obtain ⟨W, hW⟩ : ∃ W, u.alloc (.cells #[.string { data := #[] }, .string { data := #[97] }] 31) = W := ⟨_, rfl⟩
  rw [hW] at X2 ⊢
  clear hW
  obtain ⟨d, hd⟩ : ∃ d, w1.heap.size = d := ⟨_, rfl⟩
  rw [hd] at X2 ⊢
  clear hd
  obtain ⟨ab, hab⟩ : ∃ ab, u.heap.size = ab := ⟨_, rfl⟩
  rw [hab] at X2 ⊢
  clear hab
  have HA := hid_of (X2.out.node ⟨[], [97]⟩ X2.out.lu (by omega) (Below.refl _ _))
  obtain ⟨b0, b1, _, _⟩ := X2.out.bx.cells
  have c0 : W.cell? ⟨ab, 0, none⟩ = some (.string { data := #[] }) := b0
  have c1 : W.cell? ⟨ab, 1, none⟩ = some (.string { data := #[97] }) := b1
  clear b0 b1
  refine wp_seq_k fun K hK => ?_
  have HK : Hid _ := hK
  clear hK
  go_wp2_with fail
  refine HA.out.mono ?_
  rintro e w3 ⟨rfl, hb3, hnx⟩
  have H3 : Hid (RB w3 ab ⟨[], [97]⟩ ∧ ∀ W2, Below w3.heap.size w3 W2 → Calls Try.prog 17 #[.pointer (some ⟨d, 0, none⟩), .agg #[.string { data := #[] }, .string { data := #[97] }]] W2 fun e w2 => e = .returned (.tuple #[]) ∧ FB w w2 g d ab 1 ⟨[], [97]⟩) := ⟨hb3, hnx⟩
  clear hb3 hnx c0 c1 HA
  obtain ⟨b0, b1, _, _⟩ := H3.out.1.cells
  have c0 : w3.cell? ⟨ab, 0, none⟩ = some (.string { data := #[] }) := b0
  have c1 : w3.cell? ⟨ab, 1, none⟩ = some (.string { data := #[97] }) := b1
  clear b0 b1
  go_wp2_with fail
  refine HK.out _ _ ?_
  clear HK K
  refine wp_seq_k fun K hK => ?_
  have HK : Hid _ := hK
  clear hK
  go_wp2_with fail
  refine (H3.out.2 w3 (Below.refl _ _)).mono ?_
  rintro e w4 ⟨rfl, hfb⟩
  have X4 : Hid (FB w w4 g d ab 1 ⟨[], [97]⟩) := hfb
  clear hfb c0 c1 H3 X2
  go_wp2_with fail
  refine HK.out _ _ ?_
  clear HK K
  exact f7 X4 HP HF
end Go.Proofs.Ytjohhmfncemknaa
