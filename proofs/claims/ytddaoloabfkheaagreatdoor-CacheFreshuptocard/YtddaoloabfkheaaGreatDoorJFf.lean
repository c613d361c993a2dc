/-
  The law CacheFresh: the bytes are lengthened.
  The law CacheFresh: bytes are written over.
-/
import Derived.Test.YtddaoloabfkheaaGreatDoorJFd
namespace Go.Proofs.YtddaoloabfkheaaGreatDoor
open Go.RowKit
attribute [local go_sem] Oper.semAt_some

theorem OwnB.row {base : Nat} {w : World} {v : Value} {n : Nat} {y : UInt8} (h : OwnB base w v (List.replicate n y)) : w.ownsRow base 5 1 v n (bc (List.replicate n y)) := by
  unfold OwnB at h; rwa [List.length_replicate] at h
theorem OwnB.of_row {base : Nat} {w : World} {v : Value} {n : Nat} {y : UInt8} (h : w.ownsRow base 5 1 v n (bc (List.replicate n y))) : OwnB base w v (List.replicate n y) := by
  unfold OwnB; rwa [List.length_replicate]
theorem bc_more (n : Nat) (y : UInt8) : bc (List.replicate n y) ++ bc [y] = bc (List.replicate (n + 1) y) := by
  rw [← bc_append, List.replicate_succ']
/-- bytes that were marked, and longer ones: behind j rounds -/
structure LQ (Ma : Nat) (W wr : World) (ga gb N ca cb j : Nat) (ap : Option Addr) (cp : Nat) (aq : Option Addr) (cq : Nat) : Prop where
  a : OwnB Ma wr (.slice (some ⟨ga, 0, none⟩) N ca) (List.replicate N 1)
  b : OwnB Ma wr (.slice (some ⟨gb, 0, none⟩) N cb) (List.replicate N 2)
  p : wr.ownsRow Ma 5 1 (.slice ap (N + j) cp) (N + j) (bc (List.replicate (N + j) 1))
  q : wr.ownsRow Ma 5 1 (.slice aq (N + j) cq) (N + j) (bc (List.replicate (N + j) 2))
  pq : ∀ k, (Value.slice ap (N + j) cp).ownBlock = some k → (Value.slice aq (N + j) cq).ownBlock ≠ some k
  pb : (Value.slice ap (N + j) cp).ownBlock = some ga ∨ ∃ k, (Value.slice ap (N + j) cp).ownBlock = some k ∧ W.heap.size ≤ k
  qb : (Value.slice aq (N + j) cq).ownBlock = some gb ∨ ∃ k, (Value.slice aq (N + j) cq).ownBlock = some k ∧ W.heap.size ≤ k
  fr : OnlyP (fun k => k = ga ∨ k = gb) W wr
  sz : Ma ≤ wr.heap.size
theorem LQ.more {Ma : Nat} {W wr w1 w2 : World} {ga gb N ca cb j cp cq c1 c2 : Nat} {ap aq a1 a2 : Option Addr} {o1 o2 : Obj} (h : LQ Ma W wr ga gb N ca cb j ap cp aq cq)
    (ho1 : w1.ownsRow Ma 5 1 (.slice a1 (N + j + 1) c1) (N + j + 1) (bc (List.replicate (N + j) 1) ++ bc [1])) (hg1 : (wr.alloc o1).grownBy w1 (Value.slice ap (N + j) cp).ownBlock) (hv1 : (Value.slice a1 (N + j + 1) c1).ownBlock = (Value.slice ap (N + j) cp).ownBlock ∨ (Value.slice a1 (N + j + 1) c1).ownBlock = some (wr.alloc o1).heap.size) (hk1 : ∀ b' u k ys, (wr.alloc o1).ownsRow b' 5 1 u k ys → k ≤ N + j → w1.ownsRow b' 5 1 u k ys)
    (ho2 : w2.ownsRow Ma 5 1 (.slice a2 (N + j + 1) c2) (N + j + 1) (bc (List.replicate (N + j) 2) ++ bc [2])) (hg2 : (w1.alloc o2).grownBy w2 (Value.slice aq (N + j) cq).ownBlock) (hv2 : (Value.slice a2 (N + j + 1) c2).ownBlock = (Value.slice aq (N + j) cq).ownBlock ∨ (Value.slice a2 (N + j + 1) c2).ownBlock = some (w1.alloc o2).heap.size) (hk2 : ∀ b' u k ys, (w1.alloc o2).ownsRow b' 5 1 u k ys → k ≤ N + j → w2.ownsRow b' 5 1 u k ys) :
    LQ Ma W w2 ga gb N ca cb (j + 1) a1 c1 a2 c2 := by
  have s1 : (wr.alloc o1).heap.size = wr.heap.size + 1 := by simp
  have s2 : (w1.alloc o2).heap.size = w1.heap.size + 1 := by simp
  have z1 := hg1.size
  have z2 := hg2.size
  have zf := h.fr.size
  have hsz := h.sz
  have hql : ∀ k, (Value.slice aq (N + j) cq).ownBlock = some k → k < wr.heap.size := fun k hk => (World.ownsRow.lt h.q k hk).2
  have hpl : ∀ k, (Value.slice ap (N + j) cp).ownBlock = some k → k < wr.heap.size := fun k hk => (World.ownsRow.lt h.p k hk).2
  have hp1 : ∀ k, (Value.slice a1 (N + j + 1) c1).ownBlock = some k → k < w1.heap.size := fun k hk => (World.ownsRow.lt ho1 k hk).2
  have hpq : ∀ k, (Value.slice a1 (N + j + 1) c1).ownBlock = some k → (Value.slice aq (N + j) cq).ownBlock ≠ some k := fun k hk e => by
    rcases hv1 with hv | hv
    · exact h.pq k (hv ▸ hk) e
    · rw [hv] at hk; injection hk with hk; have := hql k e; omega
  have ha1 := hk1 Ma _ N _ (row_later (OwnB.row h.a) (balloc wr o1)) (by omega)
  have hb1 := hk1 Ma _ N _ (row_later (OwnB.row h.b) (balloc wr o1)) (by omega)
  have ha2 := hk2 Ma _ N _ (row_later ha1 (balloc w1 o2)) (by omega)
  have hb2 := hk2 Ma _ N _ (row_later hb1 (balloc w1 o2)) (by omega)
  have f1 : OnlyP (fun k => k = ga ∨ k = gb) W w1 := by
    refine h.fr.trans (OnlyP.of_only (only_grown hg1) (F := fun k => (Value.slice ap (N + j) cp).ownBlock = some k) (fun k hk _ => by
      cases e : (Value.slice ap (N + j) cp).ownBlock with
      | none => rw [e] at hk; simp at hk
      | some i => rw [e] at hk; simp at hk; rw [hk])) (fun k hk e => ?_)
    rcases h.pb with hp | ⟨i, hp, hi⟩
    · rw [hp] at e; injection e with e; exact .inl e.symm
    · rw [hp] at e; injection e with e; omega
  have f2 : OnlyP (fun k => k = ga ∨ k = gb) W w2 := by
    refine f1.trans (OnlyP.of_only (only_grown hg2) (F := fun k => (Value.slice aq (N + j) cq).ownBlock = some k) (fun k hk _ => by
      cases e : (Value.slice aq (N + j) cq).ownBlock with
      | none => rw [e] at hk; simp at hk
      | some i => rw [e] at hk; simp at hk; rw [hk])) (fun k hk e => ?_)
    rcases h.qb with hp | ⟨i, hp, hi⟩
    · rw [hp] at e; injection e with e; exact .inr e.symm
    · rw [hp] at e; injection e with e; omega
  refine ⟨OwnB.of_row ha2, OwnB.of_row hb2, ?_, ?_, ?_, ?_, ?_, f2, by omega⟩
  · rw [bc_more] at ho1
    exact row_stay ho1 (fun k hk => (hg2.block k (by have := hp1 k hk; omega) (fun e => hpq k hk e.symm)).trans ((balloc w1 o2).block k (hp1 k hk)))
  · rw [bc_more] at ho2
    exact ho2
  · intro k hk e
    rcases hv2 with hv | hv
    · exact hpq k hk (hv ▸ e)
    · have e2 : (Value.slice a2 (N + j + 1) c2).ownBlock = some k := e
      rw [hv] at e2; injection e2 with e2; have := hp1 k hk; omega
  · rcases hv1 with hv | hv
    · rcases h.pb with hp | ⟨i, hp, hi⟩
      · exact .inl (hv.trans hp)
      · exact .inr ⟨i, hv.trans hp, hi⟩
    · exact .inr ⟨_, hv, by omega⟩
  · rcases hv2 with hv | hv
    · rcases h.qb with hp | ⟨i, hp, hi⟩
      · exact .inl (hv.trans hp)
      · exact .inr ⟨i, hv.trans hp, hi⟩
    · exact .inr ⟨_, hv, by omega⟩
set_option maxRecDepth 100000 in
set_option maxHeartbeats 16000000 in
theorem c31 {CA : World → (Nat → Prop) → Nat → List Lb → Prop} (C : CcP CA) {w W : World} {av : Option Addr} {n cv kk c d N ga gb ca cb Ma Mr Bl ml Mm : Nat} {L : List Stp} {p t b0 : List UInt8} {K : List Lb} {vw v14 v17 : Value} {a0 a1 : List Tv} {G : List Tg} {A : List Tg} {ze : Int} {is : Bool} {lv1 lv2 lv3 lv4 lv6 lv7 lv15 lv18 lv19 lv20 lv22 lv23 lv24 lv25 lv26 lv27 lv28 lv29 lv30 lv31 lv32 lv33 lv34 lv35 lv36 lv37 lv38 lv39 lv40 lv41 lv42 lv43 lv44 lv45 lv46 lv47 lv48 lv49 lv50 lv51 lv52 lv53 lv54 lv55 lv56 lv57 lv58 lv59 lv60 lv61 lv62 lv63 lv64 lv65 lv66 lv67 lv68 lv69 lv70 lv71 lv72 lv73 lv74 lv75 lv76 lv77 lv78 lv79 lv80 lv81 lv82 lv83 lv84 lv85 lv86 lv87 lv88 lv89 lv90 lv91 lv92 lv93 lv94 lv95 lv96 lv97 lv98 lv99 lv100 lv101 lv102 lv103 lv104 lv105 lv106 lv107 lv108 lv109 lv110 lv111 lv112 lv113 lv114 lv115 lv116 lv117 lv118 lv119 lv120 lv121 lv122 lv123 lv124 lv125 lv126 lv127 lv128 lv129 lv130 lv131 lv132 lv133 lv134 lv135 lv136 lv137 lv138 lv139 lv140 lv141 lv142 lv143 lv144 lv145 lv146 lv147 lv148 lv149 lv150 lv151 lv152 lv153 lv154 lv155 lv156 lv157 lv158 lv159 lv160 lv161 lv162 lv163 lv164 lv165 lv166 lv167 lv168 lv169 lv170 lv171 lv172 lv173 lv174 lv175 lv176 lv177 lv178 lv179 lv180 lv181 lv182 lv183 lv184 lv185 lv186 lv187 lv188 lv189 lv190 lv191 lv192 lv193 lv194 lv195 lv196 lv197 lv198 lv199 lv200 lv201 lv202 lv203 lv204 lv205 lv206 lv207 lv208 lv209 lv210 lv211 lv212 lv213 lv214 lv215 lv216 lv217 lv218 lv219 lv220 lv221 lv222 lv223 lv224 lv225 lv226 lv227 lv228 lv229 lv230 lv231 lv232 lv233 lv234 lv235 lv236 lv237 lv238 lv239 lv240 lv241 lv242 lv243 lv244 lv245 lv246 lv247 lv248 lv249 lv250 lv251 lv252 lv253 lv254 lv255 lv256 lv257 lv258 lv259 lv260 lv261 lv262 lv263 lv264 lv265 lv266 lv267 lv268 lv269 lv270 lv271 lv272 lv273 lv274 lv275 lv276 lv277 lv278 lv279 lv280 lv281 lv282 lv283 lv284 lv285 lv286 lv287 lv288 lv289 lv290 lv291 lv292 lv293 lv294 lv295 lv296 lv297 lv298 lv299 lv300 lv301 lv302 lv303 lv304 lv305 lv306 lv307 lv308 lv309 lv310 lv311 lv312 lv313 lv314 lv315 lv316 lv317 : Value} (HI : Hid (FIn w av n cv L kk p t)) (HE : Hid (Ev w)) (HV : Hid (b0 = savB K ∧ prsM (dir p) t = (A, ze) ∧ is = (gtK K p t).2.2)) (X : Hid (FQ CA w W Ma Mr c d K vw A)) (Y : Hid (G2 W Bl ml v14 v17 a0 a1 G)) (HM : Hid (∀ u ∈ v17 :: a1.flatMap Tv.vals, ∀ k, u.ownBlock = some k → k < Mm)) (HN : Hid (Ma ≤ Bl ∧ ml ≤ Mm ∧ Mm ≤ Mr)) (Z : Hid (OwnB Ma W (.slice (some ⟨ga, 0, none⟩) N ca) (List.replicate N 1) ∧ OwnB Ma W (.slice (some ⟨gb, 0, none⟩) N cb) (List.replicate N 2) ∧ ga < gb ∧ gb < Bl)) (hN : N ≤ 3400000000) :
    Code.wp Tryz.prog (suff 31 (Tryz.f5.body.getD .skip)) (bodyPost Tryz.prog Tryz.f5 (Good w)) ⟨#[.slice av n cv, lv1, lv2, lv3, lv4, .pointer (some ⟨c, 0, none⟩), lv6, lv7, .int .i64 (kk : Int), vw, .int .i64 ze, .slice (some ⟨ga, 0, none⟩) N ca, .slice (some ⟨gb, 0, none⟩) N cb, .string (bs b0), v14, lv15, .bool is, v17, lv18, lv19, lv20, .pointer (some ⟨d, 0, none⟩), lv22, lv23, lv24, lv25, lv26, lv27, lv28, lv29, lv30, lv31, lv32, lv33, lv34, lv35, lv36, lv37, lv38, lv39, lv40, lv41, lv42, lv43, lv44, lv45, lv46, lv47, lv48, lv49, lv50, lv51, lv52, lv53, lv54, lv55, lv56, lv57, lv58, lv59, lv60, lv61, lv62, lv63, lv64, lv65, lv66, lv67, lv68, lv69, lv70, lv71, lv72, lv73, lv74, lv75, lv76, lv77, lv78, lv79, lv80, lv81, lv82, lv83, lv84, lv85, lv86, lv87, lv88, lv89, lv90, lv91, lv92, lv93, lv94, lv95, lv96, lv97, lv98, lv99, lv100, lv101, lv102, lv103, lv104, lv105, lv106, lv107, lv108, lv109, lv110, lv111, lv112, lv113, lv114, lv115, lv116, lv117, lv118, lv119, lv120, lv121, lv122, lv123, lv124, lv125, lv126, lv127, lv128, lv129, lv130, lv131, lv132, lv133, lv134, lv135, lv136, lv137, lv138, lv139, lv140, lv141, lv142, lv143, lv144, lv145, lv146, lv147, lv148, lv149, lv150, lv151, lv152, lv153, lv154, lv155, lv156, lv157, lv158, lv159, lv160, lv161, lv162, lv163, lv164, lv165, lv166, lv167, lv168, lv169, lv170, lv171, lv172, lv173, lv174, lv175, lv176, lv177, lv178, lv179, lv180, lv181, lv182, lv183, lv184, lv185, lv186, lv187, lv188, lv189, lv190, lv191, lv192, lv193, lv194, lv195, lv196, lv197, lv198, lv199, lv200, lv201, lv202, lv203, lv204, lv205, lv206, lv207, lv208, lv209, lv210, lv211, lv212, lv213, lv214, lv215, lv216, lv217, lv218, lv219, lv220, lv221, lv222, lv223, lv224, lv225, lv226, lv227, lv228, lv229, lv230, lv231, lv232, lv233, lv234, lv235, lv236, lv237, lv238, lv239, lv240, lv241, lv242, lv243, lv244, lv245, lv246, lv247, lv248, lv249, lv250, lv251, lv252, lv253, lv254, lv255, lv256, lv257, lv258, lv259, lv260, lv261, lv262, lv263, lv264, lv265, lv266, lv267, lv268, lv269, lv270, lv271, lv272, lv273, lv274, lv275, lv276, lv277, lv278, lv279, lv280, lv281, lv282, lv283, lv284, lv285, lv286, lv287, lv288, lv289, lv290, lv291, lv292, lv293, lv294, lv295, lv296, lv297, lv298, lv299, lv300, lv301, lv302, lv303, lv304, lv305, lv306, lv307, lv308, lv309, lv310, lv311, lv312, lv313, lv314, lv315, lv316, lv317], []⟩ W := by
  conv => arg 2; whnf
  refine wp_seq_k fun K9 hK => ?_
  have HK : Hid _ := hK
  clear hK
  go_wp2_with fail
  refine HK.out _ _ ?_
  clear HK K9
  refine wp_seq_k fun K9 hK => ?_
  have HK : Hid _ := hK
  clear hK
  go_wp2_with fail
  refine HK.out _ _ ?_
  clear HK K9
  refine wp_seq_k fun K9 hK => ?_
  have HK : Hid _ := hK
  clear hK
  obtain ⟨i0, hi, hz0, hz1, hz2⟩ := info_parts info5
  have HI5 : Hid (Tryz.prog.info? 5 = some i0 ∧ i0.zero = some (.int .u8 0) ∧ i0.size = 1 ∧ i0.bytes = 1) := ⟨hi, hz0, hz1, hz2⟩
  clear hi hz0 hz1 hz2
  go_wp2_with fail
  go_loopw [25, 26, 27] (fun s25 s26 s27 wr => ∃ (j : Nat) (ap : Option Addr) (cp : Nat) (aq : Option Addr) (cq : Nat), s25 = .slice ap (N + j) cp ∧ s26 = .slice aq (N + j) cq ∧ s27 = .int .i64 j ∧ j ≤ 16 ∧ LQ Ma W wr ga gb N ca cb j ap cp aq cq) (fun _ _ s27 _ => 16 - (intOf s27).toNat)
  case atStart =>
    refine ⟨0, _, _, _, _, rfl, rfl, rfl, by omega, ?_⟩
    obtain ⟨z1, z2, z3, z4⟩ := Z.out
    exact ⟨z1, z2, OwnB.row z1, OwnB.row z2, fun k h1 h2 => by simp [Value.ownBlock] at h1 h2; omega, .inl rfl, .inl rfl, OnlyP.refl _ _, by have := (World.ownsRow.lt z1 ga rfl); omega⟩
  case round =>
    obtain ⟨j, ap, cp, aq, cq, rfl, rfl, rfl, hj, hL⟩ := hrel
    by_cases hlt : j < 16
    · obtain ⟨hi, hz0, hz1, hz2⟩ := HI5.out
      have hsz := hL.sz
      obtain ⟨a1, c1, w1, hr1, ho1, hg1, hv1, hk1⟩ := run_append_keep (P := Tryz.prog) (wr.alloc (.cells #[.int .u8 1] 5)) Ma 41 41 41 5 i0 (.int .u8 0) und41 hi hz0 (by rw [hz1]; rfl) (by rw [hz1]; omega) (.slice ap (N + j) cp) (N + j) (bc (List.replicate (N + j) 1)) (by rw [hz1]; exact row_later hL.p (balloc _ _)) (.slice (some ⟨wr.heap.size, 0, none⟩) 1 1) 1 (bc [1]) (by rw [hz1]; exact src_oneB wr 1 1 rfl) (by omega) (by simp only [maxLen]; omega) (by rw [hz2]; omega) (by simp; omega)
      rw [hz1] at ho1 hk1
      have ha1 := only_grown hg1
      have hq1 := hk1 Ma (.slice aq (N + j) cq) (N + j) (bc (List.replicate (N + j) 2)) (row_later hL.q (balloc _ _)) (Nat.le_refl _)
      have hz1s := ha1.size
      obtain ⟨a2, c2, w2, hr2, ho2, hg2, hv2, hk2⟩ := run_append_keep (P := Tryz.prog) (w1.alloc (.cells #[.int .u8 2] 5)) Ma 41 41 41 5 i0 (.int .u8 0) und41 hi hz0 (by rw [hz1]; rfl) (by rw [hz1]; omega) (.slice aq (N + j) cq) (N + j) (bc (List.replicate (N + j) 2)) (by rw [hz1]; exact row_later hq1 (balloc _ _)) (.slice (some ⟨w1.heap.size, 0, none⟩) 1 1) 1 (bc [2]) (by rw [hz1]; exact src_oneB w1 2 2 rfl) (by omega) (by simp only [maxLen]; omega) (by rw [hz2]; omega) (by simp; omega)
      rw [hz1] at ho2 hk2
      have ha2 := only_grown hg2
      have H2 : Hid (LQ Ma W w2 ga gb N ca cb (j + 1) a1 c1 a2 c2) := hL.more ho1 hg1 hv1 hk1 ho2 hg2 hv2 hk2
      have HR1 : Hid ((Builtin.append_ #[41, 41] 41 #[.slice ap (N + j) cp, .slice (some ⟨wr.heap.size, 0, none⟩) 1 1]).run Tryz.prog (wr.alloc (.cells #[.int .u8 1] 5)) = .ok (.slice a1 (N + j + 1) c1) w1) := hr1
      have HR2 : Hid ((Builtin.append_ #[41, 41] 41 #[.slice aq (N + j) cq, .slice (some ⟨w1.heap.size, 0, none⟩) 1 1]).run Tryz.prog (w1.alloc (.cells #[.int .u8 2] 5)) = .ok (.slice a2 (N + j + 1) c2) w2) := hr2
      clear hr1 ho1 hg1 hv1 hk1 hr2 ho2 hg2 hv2 hk2 ha1 ha2 hq1 hz1s hi hz0 hz1 hz2 hsz hL
      have k1 : (j : Int) < 16 := by omega
      go_wp2_with (first | (at_builtin; refine wpList_app_run rfl (.tmp 225) (.tmp 226) 41 41 rfl _ _ rfl rfl HR1.out ?_) | (at_builtin; refine wpList_app_run rfl (.tmp 228) (.tmp 229) 41 41 rfl _ _ rfl rfl HR2.out ?_))
      go_roundw
      case rel => exact ⟨j + 1, _, _, _, _, rfl, rfl, by go_num, by omega, H2.out⟩
      case measure => simp [intOf]; omega
    · obtain rfl : j = 16 := by omega
      have k1 : ¬ ((16 : Nat) : Int) < 16 := by omega
      have HL : Hid (LQ Ma W wr ga gb N ca cb 16 ap cp aq cq) := hL
      have HX : Hid (FQ CA w wr Ma Mr c d K vw A) := X.out.stay C hL.fr.size (below_trans X.out.bel (hL.fr.below X.out.bel.size (fun k hk => by have h1 := (World.ownsRow.lt Z.out.1 ga rfl).1; have h2 := X.out.ma; have h3 := Z.out.2.2.1; rcases hk with rfl | rfl <;> omega))) (fun k hk hor => hL.fr.block k hk (fun e => by
        have h1 := (World.ownsRow.lt Z.out.1 ga rfl).1
        have h3 := Z.out.2.2
        have h4 := HN.out
        have h5 := Y.out.bm
        rcases e with rfl | rfl <;> omega))
      have HY : Hid (G2 wr Bl ml v14 v17 a0 a1 G) := Y.out.stay HM.out HN.out.2.1 hL.fr.size (fun k hkw h1 _ => hL.fr.block k hkw (fun e => by have h3 := Z.out.2.2; rcases e with rfl | rfl <;> omega))
      have HZ : Hid (BS wr (.slice (some ⟨ga, 0, none⟩) N ca) (List.replicate N 1) ∧ BS wr (.slice (some ⟨gb, 0, none⟩) N cb) (List.replicate N 2) ∧ BS wr (.slice ap (N + 16) cp) (List.replicate (N + 16) 1) ∧ BS wr (.slice aq (N + 16) cq) (List.replicate (N + 16) 2)) := ⟨hL.a.bs, hL.b.bs, (OwnB.of_row hL.p).bs, (OwnB.of_row hL.q).bs⟩
      clear hL
      go_wp2_with fail
      refine HK.out _ _ ?_
      exact c38 C HI HE HV HX HY HM HN HZ (by omega)
end Go.Proofs.YtddaoloabfkheaaGreatDoor

namespace Go.Proofs.YtddaoloabfkheaaGreatDoor
open Go.RowKit
attribute [local go_sem] Oper.semAt_some

theorem rep_set {k : Nat} {y : UInt8} {X : List UInt8} (hk : k < X.length) : (List.replicate k y ++ X.drop k).set k y = List.replicate (k + 1) y ++ X.drop (k + 1) := by
  rw [List.set_append_right _ _ (by simp), List.length_replicate, Nat.sub_self, List.drop_eq_getElem_cons hk, List.set_cons_zero, List.replicate_succ']
  simp
set_option maxRecDepth 100000 in
set_option maxHeartbeats 16000000 in
theorem c26 {CA : World → (Nat → Prop) → Nat → List Lb → Prop} (C : CcP CA) {w W : World} {av : Option Addr} {n cv kk c d N ga gb ca cb Ma Mr Bl ml Mm : Nat} {L : List Stp} {p t b0 Xb : List UInt8} {K : List Lb} {vw v14 v17 : Value} {a0 a1 : List Tv} {G : List Tg} {A : List Tg} {ze : Int} {is : Bool} {lv1 lv2 lv3 lv4 lv6 lv7 lv15 lv18 lv19 lv20 lv22 lv23 lv24 lv25 lv26 lv27 lv28 lv29 lv30 lv31 lv32 lv33 lv34 lv35 lv36 lv37 lv38 lv39 lv40 lv41 lv42 lv43 lv44 lv45 lv46 lv47 lv48 lv49 lv50 lv51 lv52 lv53 lv54 lv55 lv56 lv57 lv58 lv59 lv60 lv61 lv62 lv63 lv64 lv65 lv66 lv67 lv68 lv69 lv70 lv71 lv72 lv73 lv74 lv75 lv76 lv77 lv78 lv79 lv80 lv81 lv82 lv83 lv84 lv85 lv86 lv87 lv88 lv89 lv90 lv91 lv92 lv93 lv94 lv95 lv96 lv97 lv98 lv99 lv100 lv101 lv102 lv103 lv104 lv105 lv106 lv107 lv108 lv109 lv110 lv111 lv112 lv113 lv114 lv115 lv116 lv117 lv118 lv119 lv120 lv121 lv122 lv123 lv124 lv125 lv126 lv127 lv128 lv129 lv130 lv131 lv132 lv133 lv134 lv135 lv136 lv137 lv138 lv139 lv140 lv141 lv142 lv143 lv144 lv145 lv146 lv147 lv148 lv149 lv150 lv151 lv152 lv153 lv154 lv155 lv156 lv157 lv158 lv159 lv160 lv161 lv162 lv163 lv164 lv165 lv166 lv167 lv168 lv169 lv170 lv171 lv172 lv173 lv174 lv175 lv176 lv177 lv178 lv179 lv180 lv181 lv182 lv183 lv184 lv185 lv186 lv187 lv188 lv189 lv190 lv191 lv192 lv193 lv194 lv195 lv196 lv197 lv198 lv199 lv200 lv201 lv202 lv203 lv204 lv205 lv206 lv207 lv208 lv209 lv210 lv211 lv212 lv213 lv214 lv215 lv216 lv217 lv218 lv219 lv220 lv221 lv222 lv223 lv224 lv225 lv226 lv227 lv228 lv229 lv230 lv231 lv232 lv233 lv234 lv235 lv236 lv237 lv238 lv239 lv240 lv241 lv242 lv243 lv244 lv245 lv246 lv247 lv248 lv249 lv250 lv251 lv252 lv253 lv254 lv255 lv256 lv257 lv258 lv259 lv260 lv261 lv262 lv263 lv264 lv265 lv266 lv267 lv268 lv269 lv270 lv271 lv272 lv273 lv274 lv275 lv276 lv277 lv278 lv279 lv280 lv281 lv282 lv283 lv284 lv285 lv286 lv287 lv288 lv289 lv290 lv291 lv292 lv293 lv294 lv295 lv296 lv297 lv298 lv299 lv300 lv301 lv302 lv303 lv304 lv305 lv306 lv307 lv308 lv309 lv310 lv311 lv312 lv313 lv314 lv315 lv316 lv317 : Value} (HI : Hid (FIn w av n cv L kk p t)) (HE : Hid (Ev w)) (HV : Hid (b0 = savB K ∧ prsM (dir p) t = (A, ze) ∧ is = (gtK K p t).2.2)) (X : Hid (FQ CA w W Ma Mr c d K vw A)) (Y : Hid (G2 W Bl ml v14 v17 a0 a1 G)) (HM : Hid (∀ u ∈ v17 :: a1.flatMap Tv.vals, ∀ k, u.ownBlock = some k → k < Mm)) (HN : Hid (Ma ≤ Bl ∧ ml ≤ Mm ∧ Mm ≤ Mr)) (Z : Hid (OwnB Ma W (.slice (some ⟨ga, 0, none⟩) N ca) Xb ∧ OwnB Ma W (.slice (some ⟨gb, 0, none⟩) N cb) Xb ∧ ga < gb ∧ gb < Bl)) (hX : Xb.length = N) (hN : N ≤ 3400000000) :
    Code.wp Tryz.prog (suff 26 (Tryz.f5.body.getD .skip)) (bodyPost Tryz.prog Tryz.f5 (Good w)) ⟨#[.slice av n cv, lv1, lv2, lv3, lv4, .pointer (some ⟨c, 0, none⟩), lv6, lv7, .int .i64 (kk : Int), vw, .int .i64 ze, .slice (some ⟨ga, 0, none⟩) N ca, .slice (some ⟨gb, 0, none⟩) N cb, .string (bs b0), v14, lv15, .bool is, v17, lv18, lv19, lv20, .pointer (some ⟨d, 0, none⟩), lv22, lv23, lv24, lv25, lv26, lv27, lv28, lv29, lv30, lv31, lv32, lv33, lv34, lv35, lv36, lv37, lv38, lv39, lv40, lv41, lv42, lv43, lv44, lv45, lv46, lv47, lv48, lv49, lv50, lv51, lv52, lv53, lv54, lv55, lv56, lv57, lv58, lv59, lv60, lv61, lv62, lv63, lv64, lv65, lv66, lv67, lv68, lv69, lv70, lv71, lv72, lv73, lv74, lv75, lv76, lv77, lv78, lv79, lv80, lv81, lv82, lv83, lv84, lv85, lv86, lv87, lv88, lv89, lv90, lv91, lv92, lv93, lv94, lv95, lv96, lv97, lv98, lv99, lv100, lv101, lv102, lv103, lv104, lv105, lv106, lv107, lv108, lv109, lv110, lv111, lv112, lv113, lv114, lv115, lv116, lv117, lv118, lv119, lv120, lv121, lv122, lv123, lv124, lv125, lv126, lv127, lv128, lv129, lv130, lv131, lv132, lv133, lv134, lv135, lv136, lv137, lv138, lv139, lv140, lv141, lv142, lv143, lv144, lv145, lv146, lv147, lv148, lv149, lv150, lv151, lv152, lv153, lv154, lv155, lv156, lv157, lv158, lv159, lv160, lv161, lv162, lv163, lv164, lv165, lv166, lv167, lv168, lv169, lv170, lv171, lv172, lv173, lv174, lv175, lv176, lv177, lv178, lv179, lv180, lv181, lv182, lv183, lv184, lv185, lv186, lv187, lv188, lv189, lv190, lv191, lv192, lv193, lv194, lv195, lv196, lv197, lv198, lv199, lv200, lv201, lv202, lv203, lv204, lv205, lv206, lv207, lv208, lv209, lv210, lv211, lv212, lv213, lv214, lv215, lv216, lv217, lv218, lv219, lv220, lv221, lv222, lv223, lv224, lv225, lv226, lv227, lv228, lv229, lv230, lv231, lv232, lv233, lv234, lv235, lv236, lv237, lv238, lv239, lv240, lv241, lv242, lv243, lv244, lv245, lv246, lv247, lv248, lv249, lv250, lv251, lv252, lv253, lv254, lv255, lv256, lv257, lv258, lv259, lv260, lv261, lv262, lv263, lv264, lv265, lv266, lv267, lv268, lv269, lv270, lv271, lv272, lv273, lv274, lv275, lv276, lv277, lv278, lv279, lv280, lv281, lv282, lv283, lv284, lv285, lv286, lv287, lv288, lv289, lv290, lv291, lv292, lv293, lv294, lv295, lv296, lv297, lv298, lv299, lv300, lv301, lv302, lv303, lv304, lv305, lv306, lv307, lv308, lv309, lv310, lv311, lv312, lv313, lv314, lv315, lv316, lv317], []⟩ W := by
  conv => arg 2; whnf
  refine wp_seq_k fun K9 hK => ?_
  have HK : Hid _ := hK
  clear hK
  go_wp2_with fail
  go_loopw [24] (fun s24 wr => ∃ k : Nat, s24 = .int .i64 k ∧ k ≤ N ∧ OwnB Ma wr (.slice (some ⟨ga, 0, none⟩) N ca) (List.replicate k 1 ++ Xb.drop k) ∧ OwnB Ma wr (.slice (some ⟨gb, 0, none⟩) N cb) (List.replicate k 2 ++ Xb.drop k) ∧ OnlyP (fun k => k = ga ∨ k = gb) W wr) (fun s24 _ => N - (intOf s24).toNat)
  case atStart => exact ⟨0, rfl, by omega, by simpa using Z.out.1, by simpa using Z.out.2.1, OnlyP.refl _ _⟩
  case round =>
    obtain ⟨k, rfl, hk, h1, h2, hf⟩ := hrel
    by_cases hlt : k < N
    · obtain ⟨s1, s2, s3⟩ := h1.set k (by rw [List.length_append, List.length_replicate, List.length_drop]; omega) 1
      have hne : gb ≠ ga := by have := Z.out.2.2.1; omega
      have h2' : OwnB Ma (wr.setCell ⟨ga, k, none⟩ (.int .u8 1)) (.slice (some ⟨gb, 0, none⟩) N cb) (List.replicate k 2 ++ Xb.drop k) := row_stay h2 (fun g hg => hset_ne wr (fun e => by simp [Value.ownBlock] at hg; omega) _ _)
      obtain ⟨r1, r2, r3⟩ := h2'.set k (by rw [List.length_append, List.length_replicate, List.length_drop]; omega) 2
      have s1' : OwnB Ma ((wr.setCell ⟨ga, k, none⟩ (.int .u8 1)).setCell ⟨gb, k, none⟩ (.int .u8 2)) (.slice (some ⟨ga, 0, none⟩) N ca) ((List.replicate k 1 ++ Xb.drop k).set k 1) := row_stay (show OwnB Ma (wr.setCell ⟨ga, k, none⟩ (.int .u8 1)) _ _ from s1) (fun g hg => hset_ne _ (fun e => by simp [Value.ownBlock] at hg; omega) _ _)
      rw [rep_set (by omega)] at s1' r1
      have H2 : Hid (OwnB Ma ((wr.setCell ⟨ga, k, none⟩ (.int .u8 1)).setCell ⟨gb, k, none⟩ (.int .u8 2)) (.slice (some ⟨ga, 0, none⟩) N ca) (List.replicate (k + 1) 1 ++ Xb.drop (k + 1)) ∧ OwnB Ma ((wr.setCell ⟨ga, k, none⟩ (.int .u8 1)).setCell ⟨gb, k, none⟩ (.int .u8 2)) (.slice (some ⟨gb, 0, none⟩) N cb) (List.replicate (k + 1) 2 ++ Xb.drop (k + 1)) ∧ OnlyP (fun k => k = ga ∨ k = gb) W ((wr.setCell ⟨ga, k, none⟩ (.int .u8 1)).setCell ⟨gb, k, none⟩ (.int .u8 2))) := by
        refine ⟨s1', r1, ?_⟩
        refine (hf.trans (OnlyP.of_only (Only.set wr ga k (.int .u8 1)) (F := fun k => k = ga) (fun i hi _ => by simpa using hi)) (fun i _ e => .inl e)).trans (OnlyP.of_only (Only.set _ gb k (.int .u8 2)) (F := fun k => k = gb) (fun i hi _ => by simpa using hi)) (fun i _ e => .inr e)
      obtain ⟨u1, hu1⟩ : ∃ u, wr.cell? ⟨ga, k, none⟩ = some u := ⟨_, s2⟩
      obtain ⟨u2, hu2⟩ : ∃ u, (wr.setCell ⟨ga, k, none⟩ (.int .u8 1)).cell? ⟨gb, k, none⟩ = some u := ⟨_, r2⟩
      have fz1 : wr.frozen? ⟨ga, k, none⟩ = false := s3
      have fz2 : (wr.setCell ⟨ga, k, none⟩ (.int .u8 1)).frozen? ⟨gb, k, none⟩ = false := r3
      have k1 : (k : Int) < (N : Int) := by omega
      have k2 : (0 : Int) ≤ (k : Int) := by omega
      clear s1 s2 s3 h2' r1 r2 r3 s1' h1 h2 hf
      go_wp2_with fail
      go_roundw
      case rel => exact ⟨k + 1, by go_num, by omega, H2.out.1, H2.out.2.1, H2.out.2.2⟩
      case measure => simp [intOf]; omega
    · obtain rfl : k = N := by omega
      have k1 : ¬ (k : Int) < (k : Int) := by omega
      rw [List.drop_of_length_le (by omega), List.append_nil] at h1 h2
      have HX : Hid (FQ CA w wr Ma Mr c d K vw A) := X.out.stay C hf.size (below_trans X.out.bel (hf.below X.out.bel.size (fun i hi => by have e1 := (World.ownsRow.lt Z.out.1 ga rfl).1; have e2 := X.out.ma; have e3 := Z.out.2.2.1; rcases hi with rfl | rfl <;> omega))) (fun i hi hor => hf.block i hi (fun e => by
        have e1 := (World.ownsRow.lt Z.out.1 ga rfl).1
        have e3 := Z.out.2.2
        have e4 := HN.out
        have e5 := Y.out.bm
        rcases e with rfl | rfl <;> omega))
      have HY : Hid (G2 wr Bl ml v14 v17 a0 a1 G) := Y.out.stay HM.out HN.out.2.1 hf.size (fun i hiw g1 _ => hf.block i hiw (fun e => by have e3 := Z.out.2.2; rcases e with rfl | rfl <;> omega))
      have HZ : Hid (OwnB Ma wr (.slice (some ⟨ga, 0, none⟩) k ca) (List.replicate k 1) ∧ OwnB Ma wr (.slice (some ⟨gb, 0, none⟩) k cb) (List.replicate k 2) ∧ ga < gb ∧ gb < Bl) := ⟨h1, h2, Z.out.2.2⟩
      clear h1 h2 hf
      go_wp2_with fail
      refine HK.out _ _ ?_
      exact c31 C HI HE HV HX HY HM HN HZ hN
set_option maxRecDepth 100000 in
set_option maxHeartbeats 16000000 in
theorem c22 {CA : World → (Nat → Prop) → Nat → List Lb → Prop} (C : CcP CA) {w W : World} {gr nr cr : Nat} {lr : List UInt8} {av : Option Addr} {n cv kk c d N ga gb ca cb Ma Mr Bl ml Mm : Nat} {L : List Stp} {p t b0 Xb : List UInt8} {K : List Lb} {vw v14 v17 : Value} {a0 a1 : List Tv} {G : List Tg} {A : List Tg} {ze : Int} {is : Bool} {lv1 lv2 lv3 lv4 lv6 lv7 lv15 lv18 lv19 lv22 lv23 lv24 lv25 lv26 lv27 lv28 lv29 lv30 lv31 lv32 lv33 lv34 lv35 lv36 lv37 lv38 lv39 lv40 lv41 lv42 lv43 lv44 lv45 lv46 lv47 lv48 lv49 lv50 lv51 lv52 lv53 lv54 lv55 lv56 lv57 lv58 lv59 lv60 lv61 lv62 lv63 lv64 lv65 lv66 lv67 lv68 lv69 lv70 lv71 lv72 lv73 lv74 lv75 lv76 lv77 lv78 lv79 lv80 lv81 lv82 lv83 lv84 lv85 lv86 lv87 lv88 lv89 lv90 lv91 lv92 lv93 lv94 lv95 lv96 lv97 lv98 lv99 lv100 lv101 lv102 lv103 lv104 lv105 lv106 lv107 lv108 lv109 lv110 lv111 lv112 lv113 lv114 lv115 lv116 lv117 lv118 lv119 lv120 lv121 lv122 lv123 lv124 lv125 lv126 lv127 lv128 lv129 lv130 lv131 lv132 lv133 lv134 lv135 lv136 lv137 lv138 lv139 lv140 lv141 lv142 lv143 lv144 lv145 lv146 lv147 lv148 lv149 lv150 lv151 lv152 lv153 lv154 lv155 lv156 lv157 lv158 lv159 lv160 lv161 lv162 lv163 lv164 lv165 lv166 lv167 lv168 lv169 lv170 lv171 lv172 lv173 lv174 lv175 lv176 lv177 lv178 lv179 lv180 lv181 lv182 lv183 lv184 lv185 lv186 lv187 lv188 lv189 lv190 lv191 lv192 lv193 lv194 lv195 lv196 lv197 lv198 lv199 lv200 lv201 lv202 lv203 lv204 lv205 lv206 lv207 lv208 lv209 lv210 lv211 lv212 lv213 lv214 lv215 lv216 lv217 lv218 lv219 lv220 lv221 lv222 lv223 lv224 lv225 lv226 lv227 lv228 lv229 lv230 lv231 lv232 lv233 lv234 lv235 lv236 lv237 lv238 lv239 lv240 lv241 lv242 lv243 lv244 lv245 lv246 lv247 lv248 lv249 lv250 lv251 lv252 lv253 lv254 lv255 lv256 lv257 lv258 lv259 lv260 lv261 lv262 lv263 lv264 lv265 lv266 lv267 lv268 lv269 lv270 lv271 lv272 lv273 lv274 lv275 lv276 lv277 lv278 lv279 lv280 lv281 lv282 lv283 lv284 lv285 lv286 lv287 lv288 lv289 lv290 lv291 lv292 lv293 lv294 lv295 lv296 lv297 lv298 lv299 lv300 lv301 lv302 lv303 lv304 lv305 lv306 lv307 lv308 lv309 lv310 lv311 lv312 lv313 lv314 lv315 lv316 lv317 : Value} (HI : Hid (FIn w av n cv L kk p t)) (HE : Hid (Ev w)) (HV : Hid (b0 = savB K ∧ prsM (dir p) t = (A, ze) ∧ is = (gtK K p t).2.2)) (X : Hid (FQ CA w W Ma Mr c d K vw A)) (Y : Hid (G2 W Bl ml v14 v17 a0 a1 G)) (HM : Hid (∀ u ∈ v17 :: a1.flatMap Tv.vals, ∀ k, u.ownBlock = some k → k < Mm)) (HN : Hid (Ma ≤ Bl ∧ ml ≤ Mm ∧ Mm ≤ Mr)) (Z : Hid (OwnB Ma W (.slice (some ⟨ga, 0, none⟩) N ca) Xb ∧ OwnB Ma W (.slice (some ⟨gb, 0, none⟩) N cb) Xb ∧ ga < gb ∧ gb < Bl)) (hX : Xb.length = N) (hN : N ≤ 3400000000) (R : Hid (RmB W gr cr lr ∧ Mm ≤ gr ∧ gr < Mr ∧ Ma ≤ gr)) (hnr : nr ≤ cr) (hnr2 : nr ≤ 4000000000) :
    Code.wp Tryz.prog (suff 22 (Tryz.f5.body.getD .skip)) (bodyPost Tryz.prog Tryz.f5 (Good w)) ⟨#[.slice av n cv, lv1, lv2, lv3, lv4, .pointer (some ⟨c, 0, none⟩), lv6, lv7, .int .i64 (kk : Int), vw, .int .i64 ze, .slice (some ⟨ga, 0, none⟩) N ca, .slice (some ⟨gb, 0, none⟩) N cb, .string (bs b0), v14, lv15, .bool is, v17, lv18, lv19, .slice (some ⟨gr, 0, none⟩) nr cr, .pointer (some ⟨d, 0, none⟩), lv22, lv23, lv24, lv25, lv26, lv27, lv28, lv29, lv30, lv31, lv32, lv33, lv34, lv35, lv36, lv37, lv38, lv39, lv40, lv41, lv42, lv43, lv44, lv45, lv46, lv47, lv48, lv49, lv50, lv51, lv52, lv53, lv54, lv55, lv56, lv57, lv58, lv59, lv60, lv61, lv62, lv63, lv64, lv65, lv66, lv67, lv68, lv69, lv70, lv71, lv72, lv73, lv74, lv75, lv76, lv77, lv78, lv79, lv80, lv81, lv82, lv83, lv84, lv85, lv86, lv87, lv88, lv89, lv90, lv91, lv92, lv93, lv94, lv95, lv96, lv97, lv98, lv99, lv100, lv101, lv102, lv103, lv104, lv105, lv106, lv107, lv108, lv109, lv110, lv111, lv112, lv113, lv114, lv115, lv116, lv117, lv118, lv119, lv120, lv121, lv122, lv123, lv124, lv125, lv126, lv127, lv128, lv129, lv130, lv131, lv132, lv133, lv134, lv135, lv136, lv137, lv138, lv139, lv140, lv141, lv142, lv143, lv144, lv145, lv146, lv147, lv148, lv149, lv150, lv151, lv152, lv153, lv154, lv155, lv156, lv157, lv158, lv159, lv160, lv161, lv162, lv163, lv164, lv165, lv166, lv167, lv168, lv169, lv170, lv171, lv172, lv173, lv174, lv175, lv176, lv177, lv178, lv179, lv180, lv181, lv182, lv183, lv184, lv185, lv186, lv187, lv188, lv189, lv190, lv191, lv192, lv193, lv194, lv195, lv196, lv197, lv198, lv199, lv200, lv201, lv202, lv203, lv204, lv205, lv206, lv207, lv208, lv209, lv210, lv211, lv212, lv213, lv214, lv215, lv216, lv217, lv218, lv219, lv220, lv221, lv222, lv223, lv224, lv225, lv226, lv227, lv228, lv229, lv230, lv231, lv232, lv233, lv234, lv235, lv236, lv237, lv238, lv239, lv240, lv241, lv242, lv243, lv244, lv245, lv246, lv247, lv248, lv249, lv250, lv251, lv252, lv253, lv254, lv255, lv256, lv257, lv258, lv259, lv260, lv261, lv262, lv263, lv264, lv265, lv266, lv267, lv268, lv269, lv270, lv271, lv272, lv273, lv274, lv275, lv276, lv277, lv278, lv279, lv280, lv281, lv282, lv283, lv284, lv285, lv286, lv287, lv288, lv289, lv290, lv291, lv292, lv293, lv294, lv295, lv296, lv297, lv298, lv299, lv300, lv301, lv302, lv303, lv304, lv305, lv306, lv307, lv308, lv309, lv310, lv311, lv312, lv313, lv314, lv315, lv316, lv317], []⟩ W := by
  conv => arg 2; whnf
  refine wp_seq_k fun K9 hK => ?_
  have HK : Hid _ := hK
  clear hK
  go_wp2_with fail
  go_loopw [23] (fun s23 wr => ∃ (k : Nat) (lk : List UInt8), s23 = .int .i64 k ∧ k ≤ nr ∧ RmB wr gr cr lk ∧ OnlyP (fun k => k = gr) W wr) (fun s23 _ => nr - (intOf s23).toNat)
  case atStart => exact ⟨0, lr, rfl, by omega, R.out.1, OnlyP.refl _ _⟩
  case round =>
    obtain ⟨k, lk, rfl, hk, h1, hf⟩ := hrel
    by_cases hlt : k < nr
    · obtain ⟨⟨u1, hu1⟩, fz1⟩ := h1.free k (by omega)
      have H2 : Hid (RmB (wr.setCell ⟨gr, k, none⟩ (.int .u8 9)) gr cr [] ∧ OnlyP (fun k => k = gr) W (wr.setCell ⟨gr, k, none⟩ (.int .u8 9))) := ⟨h1.wipe k _, hf.trans (OnlyP.of_only (Only.set wr gr k (.int .u8 9)) (F := fun k => k = gr) (fun i hi _ => by simpa using hi)) (fun i _ e => e)⟩
      have k1 : (k : Int) < (nr : Int) := by omega
      have k2 : (0 : Int) ≤ (k : Int) := by omega
      clear h1 hf
      go_wp2_with fail
      go_roundw
      case rel => exact ⟨k + 1, _, by go_num, by omega, H2.out.1, H2.out.2⟩
      case measure => simp [intOf]; omega
    · obtain rfl : k = nr := by omega
      have k1 : ¬ (k : Int) < (k : Int) := by omega
      obtain ⟨q1, q2, q3, q4⟩ := R.out
      have hma := X.out.ma
      have HX : Hid (FQ CA w wr Ma Mr c d K vw A) := X.out.stay C hf.size (below_trans X.out.bel (hf.below X.out.bel.size (fun i hi => by rw [hi]; omega))) (fun i hi hor => hf.block i hi (fun e => by rw [e] at hor; omega))
      have HY : Hid (G2 wr Bl ml v14 v17 a0 a1 G) := Y.out.stay HM.out HN.out.2.1 hf.size (fun i hiw g1 g2 => hf.block i hiw (fun e => by rw [e] at g2; omega))
      have hbg : gb < gr := by have e1 := Z.out.2.2.2; have e2 := HN.out; have e3 := Y.out.bm; omega
      have hag := Z.out.2.2.1
      have HZ : Hid (OwnB Ma wr (.slice (some ⟨ga, 0, none⟩) N ca) Xb ∧ OwnB Ma wr (.slice (some ⟨gb, 0, none⟩) N cb) Xb ∧ ga < gb ∧ gb < Bl) := ⟨row_stay Z.out.1 (fun g hg => hf.block g (World.ownsRow.lt Z.out.1 g hg).2 (fun e => by simp [Value.ownBlock] at hg; omega)), row_stay Z.out.2.1 (fun g hg => hf.block g (World.ownsRow.lt Z.out.2.1 g hg).2 (fun e => by simp [Value.ownBlock] at hg; omega)), Z.out.2.2⟩
      clear h1 hf
      go_wp2_with fail
      refine HK.out _ _ ?_
      exact c26 C HI HE HV HX HY HM HN HZ hX hN
end Go.Proofs.YtddaoloabfkheaaGreatDoor
