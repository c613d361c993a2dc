/-
  The law MergeKeeps: the turns.
  The law MergeKeeps: what is wanted, in memory of its own.
  The law MergeKeeps: what is wanted.
-/
import Derived.Test.YtbaheiimcnfaaaaGreatJOv
namespace Go.Proofs.YtbaheiimcnfaaaaGreat
open Go.RowKit Go.Maps
attribute [local go_sem] Oper.semAt_some

structure QX (W1 : World) (dq : Nat) (p : List UInt8) (b : Int) (B : Nat) (l : List Fl) (k : List (List UInt8)) (R : Nat → List (List UInt8)) : Prop where
  c0 : W1.cell? ⟨dq, 0, none⟩ = some (.string (bs p))
  c1 : W1.cell? ⟨dq, 1, none⟩ = some (.int .i64 b)
  pl : p.length ≤ 4194304
  wb : wrap64 (1 + bits .and .i64 b 7) = (B : Int)
  b8 : B ≤ 8
  r0 : R 0 = (mat k p).1
  r2 : R 2 = (mdwn l k B).1
  r3 : R 3 = (mdwn l k 5000).1

set_option maxRecDepth 100000 in
set_option maxHeartbeats 16000000 in
theorem p12 {w W1 : World} {la ka : Option Addr} {nl nk lc kc gm cm gf cf dw : Nat} {l : List Fl} {k : List (List UInt8)} {Wv : Nat → Value} {R : Nat → List (List UInt8)} {dq : Nat} {p : List UInt8} {b : Int} {B : Nat} {W : World} {lv2 lv3 lv4 lv6 lv12 lv13 lv14 lv15 lv16 lv17 lv18 lv19 lv20 lv21 lv22 lv23 lv24 lv25 lv26 lv27 lv28 lv29 lv30 lv31 lv32 lv33 lv34 lv35 lv36 lv37 lv38 lv39 lv40 lv41 lv42 lv43 lv44 lv45 lv46 lv47 lv48 lv49 lv50 lv51 lv52 lv53 lv54 lv55 lv56 lv57 lv58 lv59 lv60 lv61 lv62 lv63 lv64 lv65 lv66 lv67 lv68 lv69 lv70 lv71 lv72 lv73 lv74 lv75 lv76 lv77 lv78 lv79 lv80 lv81 lv82 lv83 lv84 lv85 lv86 lv87 lv88 lv89 lv90 lv91 lv92 lv93 lv94 lv95 lv96 lv97 lv98 lv99 lv100 lv101 lv102 lv103 lv104 lv105 lv106 lv107 lv108 lv109 lv110 lv111 lv112 lv113 lv114 lv115 lv116 lv117 lv118 lv119 lv120 lv121 lv122 lv123 lv124 lv125 lv126 lv127 lv128 lv129 lv130 lv131 lv132 lv133 lv134 lv135 lv136 lv137 lv138 lv139 lv140 lv141 lv142 lv143 lv144 lv145 lv146 lv147 lv148 lv149 lv150 lv151 lv152 lv153 lv154 lv155 lv156 lv157 lv158 lv159 lv160 lv161 lv162 lv163 lv164 lv165 lv166 lv167 lv168 lv169 lv170 lv171 lv172 lv173 lv174 lv175 lv176 lv177 lv178 lv179 lv180 lv181 lv182 lv183 lv184 lv185 lv186 lv187 lv188 lv189 lv190 lv191 lv192 lv193 lv194 lv195 lv196 lv197 lv198 lv199 lv200 lv201 lv202 lv203 lv204 lv205 lv206 lv207 lv208 lv209 lv210 lv211 lv212 lv213 lv214 lv215 lv216 lv217 lv218 lv219 lv220 lv221 lv222 lv223 lv224 lv225 lv226 lv227 lv228 lv229 lv230 lv231 lv232 lv233 lv234 lv235 lv236 lv237 lv238 lv239 lv240 lv241 lv242 lv243 lv244 lv245 lv246 lv247 lv248 lv249 lv250 lv251 lv252 lv253 lv254 lv255 lv256 lv257 lv258 lv259 lv260 lv261 lv262 lv263 lv264 lv265 lv266 lv267 lv268 lv269 lv270 lv271 lv272 lv273 lv274 lv275 lv276 lv277 lv278 lv279 lv280 lv281 lv282 lv283 lv284 lv285 lv286 lv287 lv288 lv289 lv290 lv291 lv292 lv293 lv294 lv295 lv296 lv297 lv298 lv299 lv300 lv301 lv302 lv303 lv304 lv305 lv306 lv307 lv308 lv309 lv310 lv311 lv312 lv313 : Value} (X : Hid (MX w W1 la ka nl nk lc kc gm cm gf cf dw l k Wv R)) (HQ : Hid (QX W1 dq p b B l k R)) (HB : Hid (Below W1.heap.size W1 W)) :
    Code.wp Tryz.prog (suff 12 (Tryz.f4.body.getD .skip)) (bodyPost Tryz.prog Tryz.f4 (GoodK w)) ⟨#[.slice la nl lc, .slice ka nk kc, lv2, lv3, lv4, .pointer (some ⟨dq, 0, none⟩), lv6, .slice (some ⟨gm, 0, none⟩) (nk + 2) cm, .slice (some ⟨gf, 0, none⟩) (nl + 1) cf, .slice (some ⟨gm, 0, none⟩) nk cm, .slice (some ⟨gf, 0, none⟩) nl cf, .pointer (some ⟨dw, 0, none⟩), lv12, lv13, lv14, lv15, lv16, lv17, lv18, lv19, lv20, lv21, lv22, lv23, lv24, lv25, lv26, lv27, lv28, lv29, lv30, lv31, lv32, lv33, lv34, lv35, lv36, lv37, lv38, lv39, lv40, lv41, lv42, lv43, lv44, lv45, lv46, lv47, lv48, lv49, lv50, lv51, lv52, lv53, lv54, lv55, lv56, lv57, lv58, lv59, lv60, lv61, lv62, lv63, lv64, lv65, lv66, lv67, lv68, lv69, lv70, lv71, lv72, lv73, lv74, lv75, lv76, lv77, lv78, lv79, lv80, lv81, lv82, lv83, lv84, lv85, lv86, lv87, lv88, lv89, lv90, lv91, lv92, lv93, lv94, lv95, lv96, lv97, lv98, lv99, lv100, lv101, lv102, lv103, lv104, lv105, lv106, lv107, lv108, lv109, lv110, lv111, lv112, lv113, lv114, lv115, lv116, lv117, lv118, lv119, lv120, lv121, lv122, lv123, lv124, lv125, lv126, lv127, lv128, lv129, lv130, lv131, lv132, lv133, lv134, lv135, lv136, lv137, lv138, lv139, lv140, lv141, lv142, lv143, lv144, lv145, lv146, lv147, lv148, lv149, lv150, lv151, lv152, lv153, lv154, lv155, lv156, lv157, lv158, lv159, lv160, lv161, lv162, lv163, lv164, lv165, lv166, lv167, lv168, lv169, lv170, lv171, lv172, lv173, lv174, lv175, lv176, lv177, lv178, lv179, lv180, lv181, lv182, lv183, lv184, lv185, lv186, lv187, lv188, lv189, lv190, lv191, lv192, lv193, lv194, lv195, lv196, lv197, lv198, lv199, lv200, lv201, lv202, lv203, lv204, lv205, lv206, lv207, lv208, lv209, lv210, lv211, lv212, lv213, lv214, lv215, lv216, lv217, lv218, lv219, lv220, lv221, lv222, lv223, lv224, lv225, lv226, lv227, lv228, lv229, lv230, lv231, lv232, lv233, lv234, lv235, lv236, lv237, lv238, lv239, lv240, lv241, lv242, lv243, lv244, lv245, lv246, lv247, lv248, lv249, lv250, lv251, lv252, lv253, lv254, lv255, lv256, lv257, lv258, lv259, lv260, lv261, lv262, lv263, lv264, lv265, lv266, lv267, lv268, lv269, lv270, lv271, lv272, lv273, lv274, lv275, lv276, lv277, lv278, lv279, lv280, lv281, lv282, lv283, lv284, lv285, lv286, lv287, lv288, lv289, lv290, lv291, lv292, lv293, lv294, lv295, lv296, lv297, lv298, lv299, lv300, lv301, lv302, lv303, lv304, lv305, lv306, lv307, lv308, lv309, lv310, lv311, lv312, lv313], []⟩ W := by
  conv => arg 2; whnf
  have HRL : Hid (∀ j, j < 4 → (R j).length ≤ 1000000) := fun j hj => by
    have z1 := X.out.kn
    have z2 := X.out.kl
    rcases (show j = 0 ∨ j = 1 ∨ j = 2 ∨ j = 3 by omega) with rfl | rfl | rfl | rfl
    · rw [HQ.out.r0]; have := mat_len k p; omega
    · rw [X.out.r1]; have := mstp_len l k; omega
    · rw [HQ.out.r2]; have := mdwn_len l k B; omega
    · rw [HQ.out.r3]; have := mdwn_len l k 5000; omega
  refine wp_seq_k fun K hK => ?_
  have HK : Hid _ := hK
  clear hK
  go_wp2_with fail
  refine HK.out _ _ ?_
  clear HK K
  refine wp_seq_k fun K hK => ?_
  have HK : Hid _ := hK
  clear hK
  go_wp2_with fail
  go_loopw [12, 14] (fun av tv wr => ∃ (t : Nat) (Vs : List Value), t ≤ 2 ∧ tv = .int .i64 t ∧ AT W1 wr av t R Vs) (fun _ tv _ => 2 - (intOf tv).toNat)
  case atStart => exact ⟨0, [], by omega, rfl, AT.start HB.out⟩
  case round =>
    rename World => w0
    obtain ⟨t, Vs, ht0, rfl, hat⟩ := hrel
    obtain ⟨aa, ac, hav⟩ := row_form hat.row
    obtain ⟨nv, hnv⟩ : ∃ nv, Vs.length = nv := ⟨_, rfl⟩
    rw [hnv] at hav
    subst hav
    have X5 : Hid (AT W1 w0 (.slice aa nv ac) t R Vs ∧ Vs.length = nv) := ⟨hat, hnv⟩
    clear hat hnv
    have HB0 : Hid (Below W1.heap.size W1 w0) := X5.out.1.bel
    clear HB
    by_cases ht : t < 2
    · have t1 : (t : Int) < 2 := by omega
      have HP : Hid (∀ W', Below W1.heap.size W1 W' → W'.cell? ⟨dq, 0, none⟩ = some (.string (bs p)) ∧ W'.cell? ⟨dq, 1, none⟩ = some (.int .i64 b)) := fun W' hW => by
        refine ⟨?_, ?_⟩
        · rw [hW.cell (World.block_lt_of_cell? W1 ⟨dq, 0, none⟩ HQ.out.c0)]; exact HQ.out.c0
        · rw [hW.cell (World.block_lt_of_cell? W1 ⟨dq, 1, none⟩ HQ.out.c1)]; exact HQ.out.c1
      have hwb := HQ.out.wb
      have hb8 := HQ.out.b8
      have p0 := (HP.out w0 HB0.out).1
      go_wp2_with fail
      refine (mat_big p (X.out.m.later HB0.out) X.out.sk HQ.out.pl).mono ?_
      rintro e w1 ⟨x1, rfl, ho, hb⟩
      have HB1 : Hid (Below W1.heap.size W1 w1) := bstep HB0.out hb
      have HO1 : Hid (Below w0.heap.size w0 w1 ∧ Own w0.heap.size w1 x1 (mat k p).1) := ⟨hb, ho⟩
      obtain ⟨a1, c1, hv⟩ := ho.len
      obtain ⟨n1, hn⟩ : ∃ n1, ((mat k p).1).length = n1 := ⟨_, rfl⟩
      rw [hn] at hv
      subst hv
      clear ho hb hn
      clear p0
      go_wp2_with fail
      refine (mStep_any (X.out.n.later HB1.out) X.out.sl (X.out.m.later HB1.out) X.out.sk).mono ?_
      rintro e w2 ⟨x2, rfl, ho, hb⟩
      have HB2 : Hid (Below W1.heap.size W1 w2) := bstep HB1.out hb
      have HO2 : Hid (Below w1.heap.size w1 w2 ∧ Own w1.heap.size w2 x2 (mstp l k).1) := ⟨hb, ho⟩
      obtain ⟨a2, c2, hv⟩ := ho.len
      obtain ⟨n2, hn⟩ : ∃ n2, ((mstp l k).1).length = n2 := ⟨_, rfl⟩
      rw [hn] at hv
      subst hv
      clear ho hb hn
      have p1 := (HP.out w2 HB2.out).2
      go_wp2_with fail
      rw [hwb]
      refine (mDown_any (B : Int) (X.out.n.later HB2.out) X.out.sl (X.out.m.later HB2.out) X.out.sk (by omega) (by omega)).mono ?_
      rintro e w3 ⟨x3, rfl, ho, hb⟩
      have HB3 : Hid (Below W1.heap.size W1 w3) := bstep HB2.out hb
      have HO3 : Hid (Below w2.heap.size w2 w3 ∧ Own w2.heap.size w3 x3 (mdwn l k (B : Int)).1) := ⟨hb, ho⟩
      obtain ⟨a3, c3, hv⟩ := ho.len
      obtain ⟨n3, hn⟩ : ∃ n3, ((mdwn l k (B : Int)).1).length = n3 := ⟨_, rfl⟩
      rw [hn] at hv
      subst hv
      clear ho hb hn
      clear p1
      go_wp2_with fail
      refine (mDown_any 5000 (X.out.n.later HB3.out) X.out.sl (X.out.m.later HB3.out) X.out.sk (by omega) (by omega)).mono ?_
      rintro e w4 ⟨x4, rfl, ho, hb⟩
      have HB4 : Hid (Below W1.heap.size W1 w4) := bstep HB3.out hb
      have HO4 : Hid (Below w3.heap.size w3 w4 ∧ Own w3.heap.size w4 x4 (mdwn l k 5000).1) := ⟨hb, ho⟩
      obtain ⟨a4, c4, hv⟩ := ho.len
      obtain ⟨n4, hn⟩ : ∃ n4, ((mdwn l k 5000).1).length = n4 := ⟨_, rfl⟩
      rw [hn] at hv
      subst hv
      clear ho hb hn
      go_wp2_with fail
      refine (mcost_any (X.out.n.later HB4.out) X.out.sl (X.out.m.later HB4.out) X.out.sk).mono ?_
      rintro e w5 ⟨rfl, hb5⟩
      have HB5 : Hid (Below w4.heap.size w4 w5) := hb5
      clear hb5
      have HB6 : Hid (Below w4.heap.size w4 (w5.alloc (.cells #[Value.slice a1 n1 c1, Value.slice a2 n2 c2, Value.slice a3 n3 c3, Value.slice a4 n4 c4] 23))) := bstep HB5.out (balloc _ _)
      have HB06 : Hid (Below w0.heap.size w0 (w5.alloc (.cells #[Value.slice a1 n1 c1, Value.slice a2 n2 c2, Value.slice a3 n3 c3, Value.slice a4 n4 c4] 23))) := bstep (bstep (bstep (bstep HO1.out.1 HO2.out.1) HO3.out.1) HO4.out.1) HB6.out
      have HROW : Hid ((w5.alloc (.cells #[Value.slice a1 n1 c1, Value.slice a2 n2 c2, Value.slice a3 n3 c3, Value.slice a4 n4 c4] 23)).ownsRow W1.heap.size 23 1 (.slice aa nv ac) Vs.length Vs) := row_later X5.out.1.row HB06.out
      have HSRC : Hid (Src Tryz.prog 1 51 (.slice (some ⟨w5.heap.size, 0, none⟩) 4 4) [Value.slice a1 n1 c1, Value.slice a2 n2 c2, Value.slice a3 n3 c3, Value.slice a4 n4 c4].length [Value.slice a1 n1 c1, Value.slice a2 n2 c2, Value.slice a3 n3 c3, Value.slice a4 n4 c4] (w5.alloc (.cells #[Value.slice a1 n1 c1, Value.slice a2 n2 c2, Value.slice a3 n3 c3, Value.slice a4 n4 c4] 23))) := src_four w5 _ _ _ _ (fun u hu => by
        simp only [List.mem_cons, List.mem_nil_iff, or_false] at hu
        rcases hu with rfl | rfl | rfl | rfl <;> rfl)
      have HSZ : Hid (Vs.length + [Value.slice a1 n1 c1, Value.slice a2 n2 c2, Value.slice a3 n3 c3, Value.slice a4 n4 c4].length ≤ 1000000 ∧ W1.heap.size ≤ (w5.alloc (.cells #[Value.slice a1 n1 c1, Value.slice a2 n2 c2, Value.slice a3 n3 c3, Value.slice a4 n4 c4] 23)).heap.size) := by
        refine ⟨?_, Nat.le_trans HB0.out.size HB06.out.size⟩
        have := X5.out.1.len
        simp only [List.length_cons, List.length_nil]
        omega
      go_wp2_with (first | (at_builtin; refine app_T2 HROW.out HSRC.out HSZ.out.1 HSZ.out.2 rfl (.tmp 130) (.tmp 135) rfl rfl rfl ?_; intro v7 w7 hr7 hg7 hw7; have XN : Hid (AT W1 w7 v7 (t + 1) R (Vs ++ [Value.slice a1 n1 c1, Value.slice a2 n2 c2, Value.slice a3 n3 c3, Value.slice a4 n4 c4])) := X5.out.1.step HO1.out.1 (by rw [HQ.out.r0]; exact HO1.out.2) HO2.out.1 (by rw [X.out.r1]; exact HO2.out.2) HO3.out.1 (by rw [HQ.out.r2]; exact HO3.out.2) HO4.out.1 (by rw [HQ.out.r3]; exact HO4.out.2) HB6.out hg7 hr7 hw7; clear hr7 hg7 hw7))
      go_roundw
      case rel => exact ⟨t + 1, _, by omega, by go_num, XN.out⟩
      case measure => simp [intOf]; omega
    · obtain rfl : t = 2 := by omega
      obtain ⟨ag, ac', hav, hal, hqm, hss⟩ := X5.out.1.fin HRL.out
      injection hav with e1 e2 e3
      subst e1 e2 e3
      have HAL := hid_of hal
      have HQM := hid_of hqm
      have HSS := hid_of hss
      clear hal hqm hss X5
      go_wp2_with fail
      refine HK.out _ _ ?_
      clear HK
      exact p22 X (by omega) (by omega) HAL HQM HSS (Below.refl _ _)
end Go.Proofs.YtbaheiimcnfaaaaGreat

namespace Go.Proofs.YtbaheiimcnfaaaaGreat
open Go.RowKit Go.Maps

theorem SS.onlyK {w w' : World} {v : Value} {l : List (List UInt8)} {S : List Nat} (h : SS w v l) (ho : Only S w w') (hn : ∀ g, v.ownBlock = some g → l ≠ [] → g ∉ S) : SS w' v l := by
  rcases h with h | ⟨b, off, cap, rfl, h1, h2, h3⟩
  · exact .inl h
  · have hs := ho.size
    refine .inr ⟨b, off, cap, rfl, h1, by omega, fun i u hu => ?_⟩
    have hl : l ≠ [] := fun e => by subst e; simp [sc] at hu
    rw [World.cell?_of_block (w := w) (ho.block b h2 (hn b rfl hl))]
    exact h3 i u hu
/-- four lists laid in one block -/
structure WT (W wr : World) (dw : Nat) (xs : List Value) : Prop where
  bel : Below W.heap.size W wr
  row : wr.ownsRow W.heap.size 46 1 (.slice (some ⟨dw, 0, none⟩) 4 4) 4 xs
  sl : ∀ u ∈ xs, ∃ a n c, u = .slice a n c
section
variable {W wr w' : World} {dw : Nat} {xs : List Value}
theorem WT.later (h : WT W wr dw xs) (hb : Below wr.heap.size wr w') : WT W w' dw xs := ⟨bstep h.bel hb, row_later h.row hb, h.sl⟩
theorem WT.put (h : WT W wr dw xs) (o : Nat) (a : Option Addr) (n c : Nat) : WT W (wr.setCell ⟨dw, o, none⟩ (.slice a n c)) dw (xs.set o (.slice a n c)) := by
  have hd := World.ownsRow.lt h.row dw rfl
  refine ⟨below_trans h.bel ((Only.set wr dw o _).below h.bel.size (fun x hx => by simp at hx; subst hx; exact hd.1)), (h.row.stored o _).1, fun u hu => ?_⟩
  rcases List.mem_or_eq_of_mem_set hu with e | e
  · exact h.sl u e
  · exact ⟨_, _, _, e⟩
theorem WT.ne (h : WT W wr dw xs) {v : Value} {L : List (List UInt8)} (hs : SS wr v L) : ∀ g, v.ownBlock = some g → L ≠ [] → g ≠ dw := by
  intro g hg hL e
  subst e
  rcases hs with ⟨_, h0⟩ | ⟨b, off, cap, rfl, h1, h2, h3⟩
  · exact hL h0
  · simp only [Value.ownBlock, Option.some.injEq] at hg
    subst hg
    obtain ⟨x, r, rfl⟩ : ∃ x r, L = x :: r := by
      cases L with
      | nil => exact absurd rfl hL
      | cons x r => exact ⟨x, r, rfl⟩
    have hc := h3 0 _ rfl
    rcases h.row.2 with ⟨e, _⟩ | ⟨g', cap', cur, e, _, hh, _, _, hsz, htk⟩
    · cases e
    · injection e with e1 _ e3
      injection e1 with e1
      injection e1 with e1 _ _
      subst e1 e3
      have hx : cur.toList = xs := by
        rw [← htk, List.take_of_length_le (by rw [Array.length_toList]; omega)]
      have hm : cur[off]? = some (.string (bs x)) := by simpa [World.cell?, hh] using hc
      have hm2 : (Value.string (bs x)) ∈ xs := by
        rw [← hx]
        obtain ⟨q1, q2⟩ := Array.getElem?_eq_some_iff.1 hm
        rw [← q2]
        exact Array.mem_toList_iff.2 (Array.getElem_mem q1)
      obtain ⟨_, _, _, e⟩ := h.sl _ hm2
      cases e
theorem WT.keep (h : WT W wr dw xs) {v : Value} {L : List (List UInt8)} (hs : SS wr v L) (o : Nat) (c : Value) : SS (wr.setCell ⟨dw, o, none⟩ c) v L :=
  hs.onlyK (Only.set wr dw o c) (fun g hg hl => by simp only [List.mem_singleton]; exact h.ne hs g hg hl)
theorem WT.cell (h : WT W wr dw xs) {j : Nat} {u : Value} (hj : xs[j]? = some u) : wr.cell? ⟨dw, j, none⟩ = some u := row_cell h.row hj
theorem WT.soft (h : WT W wr dw xs) (o : Nat) : wr.frozen? ⟨dw, o, none⟩ = false := by
  rcases h.row.2 with ⟨e, _⟩ | ⟨g', cap', cur, e, _, hh, _⟩
  · cases e
  · injection e with e1 _ _
    injection e1 with e1
    injection e1 with e1 _ _
    subst e1
    simp [World.frozen?, hh]
theorem WT.new (W : World) : WT W (W.alloc (.cells #[.slice none 0 0, .slice none 0 0, .slice none 0 0, .slice none 0 0] 46)) W.heap.size [.slice none 0 0, .slice none 0 0, .slice none 0 0, .slice none 0 0] := by
  refine ⟨balloc _ _, ⟨rfl, .inr ⟨W.heap.size, 4, _, rfl, Nat.le_refl _, heap_alloc_new W _, Nat.le_refl _, by decide, rfl, rfl⟩⟩, fun u hu => ?_⟩
  simp only [List.mem_cons, List.mem_nil_iff, or_false] at hu
  rcases hu with rfl | rfl | rfl | rfl <;> exact ⟨_, _, _, rfl⟩
end
end Go.Proofs.YtbaheiimcnfaaaaGreat

namespace Go.Proofs.YtbaheiimcnfaaaaGreat
open Go.RowKit Go.Maps
attribute [local go_sem] Oper.semAt_some

structure MY (w W : World) (la ka : Option Addr) (nl nk lc kc gm cm gf cf : Nat) (l : List Fl) (k : List (List UInt8)) : Prop where
  bel : Below w.heap.size w W
  ln : l.length = nl
  kn : k.length = nk
  ll : nl ≤ 120
  kl : nk ≤ 16
  fl : FS W (.slice la nl lc) l
  ks : SS W (.slice ka nk kc) k
  mi : SS W (.slice (some ⟨gm, 0, none⟩) (nk + 2) cm) (k ++ [[109, 49], [109, 50]])
  m : SS W (.slice (some ⟨gm, 0, none⟩) nk cm) k
  fi : FS W (.slice (some ⟨gf, 0, none⟩) (nl + 1) cf) (l ++ [m3F])
  n : FS W (.slice (some ⟨gf, 0, none⟩) nl cf) l
  sl : FSm l
  sk : Sm k
/-- what was asked for, in a block -/
structure QY (W : World) (dq : Nat) (p : List UInt8) (b : Int) (B : Nat) : Prop where
  c0 : W.cell? ⟨dq, 0, none⟩ = some (.string (bs p))
  c1 : W.cell? ⟨dq, 1, none⟩ = some (.int .i64 b)
  pl : p.length ≤ 4194304
  wb : wrap64 (1 + bits .and .i64 b 7) = (B : Int)
  b8 : B ≤ 8
theorem QY.later {W W' : World} {dq : Nat} {p : List UInt8} {b : Int} {B : Nat} (h : QY W dq p b B) (hb : Below W.heap.size W W') : QY W' dq p b B :=
  ⟨by rw [hb.cell (World.block_lt_of_cell? W ⟨dq, 0, none⟩ h.c0)]; exact h.c0, by rw [hb.cell (World.block_lt_of_cell? W ⟨dq, 1, none⟩ h.c1)]; exact h.c1, h.pl, h.wb, h.b8⟩

set_option maxRecDepth 100000 in
set_option maxHeartbeats 16000000 in
theorem p7 {w : World} {la ka : Option Addr} {nl nk lc kc gm cm gf cf : Nat} {l : List Fl} {k : List (List UInt8)} {dq : Nat} {p : List UInt8} {b : Int} {B : Nat} {W : World} {lv2 lv3 lv4 lv6 lv11 lv12 lv13 lv14 lv15 lv16 lv17 lv18 lv19 lv20 lv21 lv22 lv23 lv24 lv25 lv26 lv27 lv28 lv29 lv30 lv31 lv32 lv33 lv34 lv35 lv36 lv37 lv38 lv39 lv40 lv41 lv42 lv43 lv44 lv45 lv46 lv47 lv48 lv49 lv50 lv51 lv52 lv53 lv54 lv55 lv56 lv57 lv58 lv59 lv60 lv61 lv62 lv63 lv64 lv65 lv66 lv67 lv68 lv69 lv70 lv71 lv72 lv73 lv74 lv75 lv76 lv77 lv78 lv79 lv80 lv81 lv82 lv83 lv84 lv85 lv86 lv87 lv88 lv89 lv90 lv91 lv92 lv93 lv94 lv95 lv96 lv97 lv98 lv99 lv100 lv101 lv102 lv103 lv104 lv105 lv106 lv107 lv108 lv109 lv110 lv111 lv112 lv113 lv114 lv115 lv116 lv117 lv118 lv119 lv120 lv121 lv122 lv123 lv124 lv125 lv126 lv127 lv128 lv129 lv130 lv131 lv132 lv133 lv134 lv135 lv136 lv137 lv138 lv139 lv140 lv141 lv142 lv143 lv144 lv145 lv146 lv147 lv148 lv149 lv150 lv151 lv152 lv153 lv154 lv155 lv156 lv157 lv158 lv159 lv160 lv161 lv162 lv163 lv164 lv165 lv166 lv167 lv168 lv169 lv170 lv171 lv172 lv173 lv174 lv175 lv176 lv177 lv178 lv179 lv180 lv181 lv182 lv183 lv184 lv185 lv186 lv187 lv188 lv189 lv190 lv191 lv192 lv193 lv194 lv195 lv196 lv197 lv198 lv199 lv200 lv201 lv202 lv203 lv204 lv205 lv206 lv207 lv208 lv209 lv210 lv211 lv212 lv213 lv214 lv215 lv216 lv217 lv218 lv219 lv220 lv221 lv222 lv223 lv224 lv225 lv226 lv227 lv228 lv229 lv230 lv231 lv232 lv233 lv234 lv235 lv236 lv237 lv238 lv239 lv240 lv241 lv242 lv243 lv244 lv245 lv246 lv247 lv248 lv249 lv250 lv251 lv252 lv253 lv254 lv255 lv256 lv257 lv258 lv259 lv260 lv261 lv262 lv263 lv264 lv265 lv266 lv267 lv268 lv269 lv270 lv271 lv272 lv273 lv274 lv275 lv276 lv277 lv278 lv279 lv280 lv281 lv282 lv283 lv284 lv285 lv286 lv287 lv288 lv289 lv290 lv291 lv292 lv293 lv294 lv295 lv296 lv297 lv298 lv299 lv300 lv301 lv302 lv303 lv304 lv305 lv306 lv307 lv308 lv309 lv310 lv311 lv312 lv313 : Value} (Y : Hid (MY w W la ka nl nk lc kc gm cm gf cf l k)) (HQ : Hid (QY W dq p b B)) :
    Code.wp Tryz.prog (suff 7 (Tryz.f4.body.getD .skip)) (bodyPost Tryz.prog Tryz.f4 (GoodK w)) ⟨#[.slice la nl lc, .slice ka nk kc, lv2, lv3, lv4, .pointer (some ⟨dq, 0, none⟩), lv6, .slice (some ⟨gm, 0, none⟩) (nk + 2) cm, .slice (some ⟨gf, 0, none⟩) (nl + 1) cf, .slice (some ⟨gm, 0, none⟩) nk cm, .slice (some ⟨gf, 0, none⟩) nl cf, lv11, lv12, lv13, lv14, lv15, lv16, lv17, lv18, lv19, lv20, lv21, lv22, lv23, lv24, lv25, lv26, lv27, lv28, lv29, lv30, lv31, lv32, lv33, lv34, lv35, lv36, lv37, lv38, lv39, lv40, lv41, lv42, lv43, lv44, lv45, lv46, lv47, lv48, lv49, lv50, lv51, lv52, lv53, lv54, lv55, lv56, lv57, lv58, lv59, lv60, lv61, lv62, lv63, lv64, lv65, lv66, lv67, lv68, lv69, lv70, lv71, lv72, lv73, lv74, lv75, lv76, lv77, lv78, lv79, lv80, lv81, lv82, lv83, lv84, lv85, lv86, lv87, lv88, lv89, lv90, lv91, lv92, lv93, lv94, lv95, lv96, lv97, lv98, lv99, lv100, lv101, lv102, lv103, lv104, lv105, lv106, lv107, lv108, lv109, lv110, lv111, lv112, lv113, lv114, lv115, lv116, lv117, lv118, lv119, lv120, lv121, lv122, lv123, lv124, lv125, lv126, lv127, lv128, lv129, lv130, lv131, lv132, lv133, lv134, lv135, lv136, lv137, lv138, lv139, lv140, lv141, lv142, lv143, lv144, lv145, lv146, lv147, lv148, lv149, lv150, lv151, lv152, lv153, lv154, lv155, lv156, lv157, lv158, lv159, lv160, lv161, lv162, lv163, lv164, lv165, lv166, lv167, lv168, lv169, lv170, lv171, lv172, lv173, lv174, lv175, lv176, lv177, lv178, lv179, lv180, lv181, lv182, lv183, lv184, lv185, lv186, lv187, lv188, lv189, lv190, lv191, lv192, lv193, lv194, lv195, lv196, lv197, lv198, lv199, lv200, lv201, lv202, lv203, lv204, lv205, lv206, lv207, lv208, lv209, lv210, lv211, lv212, lv213, lv214, lv215, lv216, lv217, lv218, lv219, lv220, lv221, lv222, lv223, lv224, lv225, lv226, lv227, lv228, lv229, lv230, lv231, lv232, lv233, lv234, lv235, lv236, lv237, lv238, lv239, lv240, lv241, lv242, lv243, lv244, lv245, lv246, lv247, lv248, lv249, lv250, lv251, lv252, lv253, lv254, lv255, lv256, lv257, lv258, lv259, lv260, lv261, lv262, lv263, lv264, lv265, lv266, lv267, lv268, lv269, lv270, lv271, lv272, lv273, lv274, lv275, lv276, lv277, lv278, lv279, lv280, lv281, lv282, lv283, lv284, lv285, lv286, lv287, lv288, lv289, lv290, lv291, lv292, lv293, lv294, lv295, lv296, lv297, lv298, lv299, lv300, lv301, lv302, lv303, lv304, lv305, lv306, lv307, lv308, lv309, lv310, lv311, lv312, lv313], []⟩ W := by
  conv => arg 2; whnf
  have HKL : Hid (k.length ≤ 1000000) := by have := Y.out.kn; have := Y.out.kl; show k.length ≤ 1000000; omega
  refine wp_seq_k fun K hK => ?_
  have HK : Hid _ := hK
  clear hK
  go_wp2_with fail
  refine HK.out _ _ ?_
  clear HK K
  have HT0 := hid_of (WT.new W)
  generalize W.alloc (.cells #[.slice none 0 0, .slice none 0 0, .slice none 0 0, .slice none 0 0] 46) = v0 at HT0 ⊢
  obtain ⟨dw, hdw⟩ : ∃ dw, W.heap.size = dw := ⟨_, rfl⟩
  have HT0 : Hid (WT W v0 dw [Value.slice none 0 0, Value.slice none 0 0, Value.slice none 0 0, Value.slice none 0 0]) := by rw [← hdw]; exact HT0.out
  rw [hdw]
  clear hdw
  refine wp_seq_k fun K hK => ?_
  have HK : Hid _ := hK
  clear hK
  have p0 := (HQ.out.later HT0.out.bel).c0
  go_wp2_with fail
  clear p0
  refine (rat_big mc_any (fun p w hp => rvalid_any p w (by omega)) p (Y.out.ks.later HT0.out.bel) Y.out.sk HQ.out.pl HKL.out).mono ?_
  intro e w1 h
  unfold TwoS at h
  obtain ⟨x, rfl, ho, hb⟩ := h
  replace ho := ho.ss
  obtain ⟨a1, c1, hv⟩ := ho.len
  obtain ⟨n1, hn⟩ : ∃ n1, ((mat k p).1).length = n1 := ⟨_, rfl⟩
  rw [hn] at hv
  subst hv
  clear hn
  have HBa := hid_of hb
  have HTa : Hid (WT W w1 dw [Value.slice none 0 0, Value.slice none 0 0, Value.slice none 0 0, Value.slice none 0 0]) := HT0.out.later hb
  have HSa := hid_of ho
  clear ho hb
  have d1 := HTa.out.cell (j := 0) rfl
  have d2 := HTa.out.soft 0
  go_wp2_with fail
  refine HK.out _ _ ?_
  clear HK K
  clear d1 d2
  obtain ⟨v1, hw⟩ : ∃ v1, w1.setCell ⟨dw, 0, none⟩ (.slice a1 n1 c1) = v1 := ⟨_, rfl⟩
  rw [hw]
  have HT1 : Hid (WT W v1 dw [Value.slice a1 n1 c1, Value.slice none 0 0, Value.slice none 0 0, Value.slice none 0 0]) := by show WT W v1 dw _; rw [← hw]; exact HTa.out.put 0 a1 n1 c1
  have HS1_1 : Hid (SS v1 (.slice a1 n1 c1) (mat k p).1) := by show SS v1 _ _; rw [← hw]; exact HTa.out.keep HSa.out _ _
  clear hw HTa HSa HBa
  refine wp_seq_k fun K hK => ?_
  have HK : Hid _ := hK
  clear hK
  go_wp2_with fail
  refine (rStep_any (Y.out.fl.later HT1.out.bel) Y.out.sl (Y.out.ks.later HT1.out.bel) Y.out.sk HKL.out).mono ?_
  intro e w2 h
  unfold TwoR at h
  obtain ⟨x, rfl, ho, hb⟩ := h
  obtain ⟨a2, c2, hv⟩ := ho.len
  obtain ⟨n2, hn⟩ : ∃ n2, ((mstp l k).1).length = n2 := ⟨_, rfl⟩
  rw [hn] at hv
  subst hv
  clear hn
  have HBa := hid_of hb
  have HTa : Hid (WT W w2 dw [Value.slice a1 n1 c1, Value.slice none 0 0, Value.slice none 0 0, Value.slice none 0 0]) := HT1.out.later hb
  have HSa := hid_of ho
  clear ho hb
  have d1 := HTa.out.cell (j := 1) rfl
  have d2 := HTa.out.soft 1
  go_wp2_with fail
  refine HK.out _ _ ?_
  clear HK K
  clear d1 d2
  obtain ⟨v2, hw⟩ : ∃ v2, w2.setCell ⟨dw, 1, none⟩ (.slice a2 n2 c2) = v2 := ⟨_, rfl⟩
  rw [hw]
  have HT2 : Hid (WT W v2 dw [Value.slice a1 n1 c1, Value.slice a2 n2 c2, Value.slice none 0 0, Value.slice none 0 0]) := by show WT W v2 dw _; rw [← hw]; exact HTa.out.put 1 a2 n2 c2
  have HS2_2 : Hid (SS v2 (.slice a2 n2 c2) (mstp l k).1) := by show SS v2 _ _; rw [← hw]; exact HTa.out.keep HSa.out _ _
  have HS1_2 : Hid (SS v2 (.slice a1 n1 c1) (mat k p).1) := by show SS v2 _ _; rw [← hw]; exact HTa.out.keep (HS1_1.out.later HBa.out) _ _
  clear hw HTa HSa HBa
  refine wp_seq_k fun K hK => ?_
  have HK : Hid _ := hK
  clear hK
  have p1 := (HQ.out.later HT2.out.bel).c1
  have hwb := HQ.out.wb
  go_wp2_with fail
  rw [hwb]
  clear p1 hwb
  refine (rDown_any (B : Int) (Y.out.fl.later HT2.out.bel) Y.out.sl (Y.out.ks.later HT2.out.bel) Y.out.sk HKL.out).mono ?_
  intro e w3 h
  unfold TwoR at h
  obtain ⟨x, rfl, ho, hb⟩ := h
  obtain ⟨a3, c3, hv⟩ := ho.len
  obtain ⟨n3, hn⟩ : ∃ n3, ((mdwn l k (B : Int)).1).length = n3 := ⟨_, rfl⟩
  rw [hn] at hv
  subst hv
  clear hn
  have HBa := hid_of hb
  have HTa : Hid (WT W w3 dw [Value.slice a1 n1 c1, Value.slice a2 n2 c2, Value.slice none 0 0, Value.slice none 0 0]) := HT2.out.later hb
  have HSa := hid_of ho
  clear ho hb
  have d1 := HTa.out.cell (j := 2) rfl
  have d2 := HTa.out.soft 2
  go_wp2_with fail
  refine HK.out _ _ ?_
  clear HK K
  clear d1 d2
  obtain ⟨v3, hw⟩ : ∃ v3, w3.setCell ⟨dw, 2, none⟩ (.slice a3 n3 c3) = v3 := ⟨_, rfl⟩
  rw [hw]
  have HT3 : Hid (WT W v3 dw [Value.slice a1 n1 c1, Value.slice a2 n2 c2, Value.slice a3 n3 c3, Value.slice none 0 0]) := by show WT W v3 dw _; rw [← hw]; exact HTa.out.put 2 a3 n3 c3
  have HS3_3 : Hid (SS v3 (.slice a3 n3 c3) (mdwn l k (B : Int)).1) := by show SS v3 _ _; rw [← hw]; exact HTa.out.keep HSa.out _ _
  have HS1_3 : Hid (SS v3 (.slice a1 n1 c1) (mat k p).1) := by show SS v3 _ _; rw [← hw]; exact HTa.out.keep (HS1_2.out.later HBa.out) _ _
  have HS2_3 : Hid (SS v3 (.slice a2 n2 c2) (mstp l k).1) := by show SS v3 _ _; rw [← hw]; exact HTa.out.keep (HS2_2.out.later HBa.out) _ _
  clear hw HTa HSa HBa
  refine wp_seq_k fun K hK => ?_
  have HK : Hid _ := hK
  clear hK
  go_wp2_with fail
  refine (rDown_any 5000 (Y.out.fl.later HT3.out.bel) Y.out.sl (Y.out.ks.later HT3.out.bel) Y.out.sk HKL.out).mono ?_
  intro e w4 h
  unfold TwoR at h
  obtain ⟨x, rfl, ho, hb⟩ := h
  obtain ⟨a4, c4, hv⟩ := ho.len
  obtain ⟨n4, hn⟩ : ∃ n4, ((mdwn l k 5000).1).length = n4 := ⟨_, rfl⟩
  rw [hn] at hv
  subst hv
  clear hn
  have HBa := hid_of hb
  have HTa : Hid (WT W w4 dw [Value.slice a1 n1 c1, Value.slice a2 n2 c2, Value.slice a3 n3 c3, Value.slice none 0 0]) := HT3.out.later hb
  have HSa := hid_of ho
  clear ho hb
  have d1 := HTa.out.cell (j := 3) rfl
  have d2 := HTa.out.soft 3
  go_wp2_with fail
  refine HK.out _ _ ?_
  clear HK K
  clear d1 d2
  obtain ⟨v4, hw⟩ : ∃ v4, w4.setCell ⟨dw, 3, none⟩ (.slice a4 n4 c4) = v4 := ⟨_, rfl⟩
  rw [hw]
  have HT4 : Hid (WT W v4 dw [Value.slice a1 n1 c1, Value.slice a2 n2 c2, Value.slice a3 n3 c3, Value.slice a4 n4 c4]) := by show WT W v4 dw _; rw [← hw]; exact HTa.out.put 3 a4 n4 c4
  have HS4_4 : Hid (SS v4 (.slice a4 n4 c4) (mdwn l k 5000).1) := by show SS v4 _ _; rw [← hw]; exact HTa.out.keep HSa.out _ _
  have HS1_4 : Hid (SS v4 (.slice a1 n1 c1) (mat k p).1) := by show SS v4 _ _; rw [← hw]; exact HTa.out.keep (HS1_3.out.later HBa.out) _ _
  have HS2_4 : Hid (SS v4 (.slice a2 n2 c2) (mstp l k).1) := by show SS v4 _ _; rw [← hw]; exact HTa.out.keep (HS2_3.out.later HBa.out) _ _
  have HS3_4 : Hid (SS v4 (.slice a3 n3 c3) (mdwn l k (B : Int)).1) := by show SS v4 _ _; rw [← hw]; exact HTa.out.keep (HS3_3.out.later HBa.out) _ _
  clear hw HTa HSa HBa
  have X : Hid (MX w v4 la ka nl nk lc kc gm cm gf cf dw l k (fun j => [Value.slice a1 n1 c1, Value.slice a2 n2 c2, Value.slice a3 n3 c3, Value.slice a4 n4 c4].getD j (.slice none 0 0)) (fun j => [(mat k p).1, (mstp l k).1, (mdwn l k (B : Int)).1, (mdwn l k 5000).1].getD j [])) := by
    have hb := HT4.out.bel
    refine ⟨bstep Y.out.bel hb, Y.out.ln, Y.out.kn, Y.out.ll, Y.out.kl, Y.out.fl.later hb, Y.out.ks.later hb, Y.out.mi.later hb, Y.out.m.later hb, Y.out.fi.later hb, Y.out.n.later hb, fun j hj => ?_, Y.out.sl, Y.out.sk, rfl⟩
    rcases (show j = 0 ∨ j = 1 ∨ j = 2 ∨ j = 3 by omega) with rfl | rfl | rfl | rfl
    · exact ⟨HT4.out.cell rfl, HS1_4.out⟩
    · exact ⟨HT4.out.cell rfl, HS2_4.out⟩
    · exact ⟨HT4.out.cell rfl, HS3_4.out⟩
    · exact ⟨HT4.out.cell rfl, HS4_4.out⟩
  have HQ4 := HQ.out.later HT4.out.bel
  have HQX : Hid (QX v4 dq p b B l k (fun j => [(mat k p).1, (mstp l k).1, (mdwn l k (B : Int)).1, (mdwn l k 5000).1].getD j [])) := ⟨HQ4.c0, HQ4.c1, HQ4.pl, HQ4.wb, HQ4.b8, rfl, rfl, rfl⟩
  exact p12 X HQX (Below.refl _ _)
end Go.Proofs.YtbaheiimcnfaaaaGreat
