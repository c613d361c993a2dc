/-
  The law of new memory: the ring and the chain are laid.
-/
import Derived.Test.YtclbnjfmipifnaaJK48
namespace Go.Proofs.Ytclbnjfmipifnaa
open Go.RowKit Go.Maps

structure TY (w W : World) (r c s i : Nat) : Prop where
  bel : Below w.heap.size w W
  it : ∃ N E M D, Tw w.heap.size W r c N E M D ∧ RF s i N E ∧ CF s i M D
theorem RB.kept {w w' : World} {g : Nat} {f : Lb} (h : RB w g f) (e : w'.heap[g]? = w.heap[g]?) : RB w' g f := ⟨e.trans h.blk⟩
/-- both graphs, one edge later -/
theorem TY.ring {w wr w5 : World} {r c s i j xb yb : Nat} {nx ny : List UInt8} (h : TY w wr r c s i) (hi : i < s) (hs : s ≤ 513) (hb : Below wr.heap.size wr w5) (hx : (⟨[112], nx⟩ : Lb) = nmN i) (hy : (⟨[112], ny⟩ : Lb) = nmN j) (hj : (i + 1) % s = j) (rx : RB w5 xb ⟨[112], nx⟩) (ry : RB w5 yb ⟨[112], ny⟩) (gx : wr.heap.size ≤ xb) (gy : wr.heap.size ≤ yb) :
    Calls Try.prog 24 #[.pointer (some ⟨r, 0, none⟩), .agg #[.string { data := #[112] }, .string (bs nx)], .agg #[.string { data := #[112] }, .string (bs ny)]] w5 fun e w6 => e = .returned (.tuple #[]) ∧ RB w6 xb ⟨[112], nx⟩ ∧ RB w6 yb ⟨[112], ny⟩ ∧ (s ≤ i + 1 → TY w w6 r c s (i + 1)) ∧ (i + 1 < s → 
      Calls Try.prog 24 #[.pointer (some ⟨c, 0, none⟩), .agg #[.string { data := #[112] }, .string (bs nx)], .agg #[.string { data := #[112] }, .string (bs ny)]] w6 fun e w7 => e = .returned (.tuple #[]) ∧ TY w w7 r c s (i + 1)) := by
  obtain ⟨N, E, M, D, ht, hr, hc⟩ := h.it
  have hn := hr.nf.len
  have hm := hc.nf.len
  have lx : Lu ⟨[112], nx⟩ := by rw [hx]; exact nm_lu i
  have ly : Lu ⟨[112], ny⟩ := by rw [hy]; exact nm_lu j
  refine (ht.edge2 hb h.bel.size ⟨[112], nx⟩ ⟨[112], ny⟩ lx ly (by omega)).mono fun e w6 ⟨k1, k2, k3, k4⟩ => ⟨k1, rx.kept (k4 xb gx rx.lt), ry.kept (k4 yb gy ry.lt), fun hs1 => ?_, fun hs1 => ?_⟩
  · refine ⟨below_trans (bstep h.bel hb) k3, _, _, _, _, k2, ?_, hc.skip hs1⟩
    rw [hx, hy, ← hj]
    exact hr.step hi
  · have b6 : Below w.heap.size w w6 := below_trans (bstep h.bel hb) k3
    refine (k2.swap.edge2 (Below.refl _ _) b6.size ⟨[112], nx⟩ ⟨[112], ny⟩ lx ly (by omega)).mono fun e w7 ⟨m1, m2, m3, m4⟩ => ⟨m1, below_trans b6 m3, _, _, _, _, m2.swap, ?_, ?_⟩
    · rw [hx, hy, ← hj]
      exact hr.step hi
    · rw [hx, hy, ← hj, Nat.mod_eq_of_lt hs1]
      exact hc.step hs1

set_option maxRecDepth 100000 in
set_option maxHeartbeats 16000000 in
theorem f40 {w W : World} {r c s : Nat} {lv0 lv1 lv2 lv3 lv4 lv5 lv6 lv7 lv8 lv9 lv10 lv11 lv12 lv13 lv14 lv15 lv16 lv17 lv18 lv19 lv20 lv21 lv25 lv26 lv27 lv28 lv29 lv30 lv31 lv32 lv33 lv34 lv35 lv36 lv37 lv38 lv39 lv40 lv41 lv42 lv43 lv44 lv45 lv46 lv47 lv48 lv49 lv50 lv51 lv52 lv53 lv54 lv55 lv56 lv57 lv58 lv59 lv60 lv61 lv62 lv63 lv64 lv65 lv66 lv67 lv68 lv69 lv70 lv71 lv72 lv73 lv74 lv75 lv76 lv77 lv78 lv79 lv80 lv81 lv82 lv83 lv84 lv85 lv86 lv87 lv88 lv89 lv90 lv91 lv92 lv93 lv94 lv95 lv96 lv97 lv98 lv99 lv100 lv101 lv102 lv103 lv104 lv105 lv106 lv107 lv108 lv109 lv110 lv111 lv112 lv113 lv114 lv115 lv116 lv117 lv118 lv119 lv120 lv121 lv122 lv123 lv124 lv125 lv126 lv127 lv128 lv129 lv130 lv131 lv132 lv133 lv134 lv135 lv136 lv137 lv138 lv139 lv140 lv141 lv142 lv143 lv144 lv145 lv146 lv147 lv148 lv149 lv150 lv151 lv152 lv153 lv154 lv155 lv156 lv157 lv158 lv159 lv160 lv161 lv162 lv163 lv164 lv165 lv166 lv167 lv168 lv169 lv170 lv171 lv172 lv173 lv174 lv175 lv176 lv177 lv178 lv179 lv180 lv181 lv182 lv183 lv184 lv185 lv186 lv187 lv188 lv189 lv190 lv191 lv192 lv193 lv194 lv195 lv196 lv197 lv198 lv199 lv200 lv201 lv202 lv203 lv204 lv205 lv206 lv207 lv208 lv209 lv210 lv211 lv212 lv213 lv214 lv215 lv216 lv217 lv218 lv219 lv220 lv221 lv222 lv223 lv224 lv225 lv226 lv227 lv228 lv229 lv230 lv231 lv232 lv233 lv234 lv235 lv236 lv237 lv238 lv239 lv240 lv241 lv242 lv243 lv244 lv245 lv246 lv247 lv248 lv249 lv250 lv251 lv252 lv253 lv254 lv255 lv256 lv257 lv258 lv259 lv260 lv261 lv262 lv263 lv264 lv265 lv266 lv267 lv268 lv269 lv270 lv271 lv272 lv273 lv274 lv275 lv276 lv277 lv278 lv279 lv280 lv281 lv282 lv283 : Value} (hs2 : 2 ≤ s) (hs : s ≤ 513) (X : Hid (TY w W r c s 0)) :
    Code.wp Try.prog (suff 40 (Try.f5.body.getD .skip)) (bodyPost Try.prog Try.f5 (GoodE w)) ⟨#[lv0, lv1, lv2, lv3, lv4, lv5, lv6, lv7, lv8, lv9, lv10, lv11, lv12, lv13, lv14, lv15, lv16, lv17, lv18, lv19, lv20, lv21, .int .i64 (s : Int), .pointer (some ⟨r, 0, none⟩), .pointer (some ⟨c, 0, none⟩), lv25, lv26, lv27, lv28, lv29, lv30, lv31, lv32, lv33, lv34, lv35, lv36, lv37, lv38, lv39, lv40, lv41, lv42, lv43, lv44, lv45, lv46, lv47, lv48, lv49, lv50, lv51, lv52, lv53, lv54, lv55, lv56, lv57, lv58, lv59, lv60, lv61, lv62, lv63, lv64, lv65, lv66, lv67, lv68, lv69, lv70, lv71, lv72, lv73, lv74, lv75, lv76, lv77, lv78, lv79, lv80, lv81, lv82, lv83, lv84, lv85, lv86, lv87, lv88, lv89, lv90, lv91, lv92, lv93, lv94, lv95, lv96, lv97, lv98, lv99, lv100, lv101, lv102, lv103, lv104, lv105, lv106, lv107, lv108, lv109, lv110, lv111, lv112, lv113, lv114, lv115, lv116, lv117, lv118, lv119, lv120, lv121, lv122, lv123, lv124, lv125, lv126, lv127, lv128, lv129, lv130, lv131, lv132, lv133, lv134, lv135, lv136, lv137, lv138, lv139, lv140, lv141, lv142, lv143, lv144, lv145, lv146, lv147, lv148, lv149, lv150, lv151, lv152, lv153, lv154, lv155, lv156, lv157, lv158, lv159, lv160, lv161, lv162, lv163, lv164, lv165, lv166, lv167, lv168, lv169, lv170, lv171, lv172, lv173, lv174, lv175, lv176, lv177, lv178, lv179, lv180, lv181, lv182, lv183, lv184, lv185, lv186, lv187, lv188, lv189, lv190, lv191, lv192, lv193, lv194, lv195, lv196, lv197, lv198, lv199, lv200, lv201, lv202, lv203, lv204, lv205, lv206, lv207, lv208, lv209, lv210, lv211, lv212, lv213, lv214, lv215, lv216, lv217, lv218, lv219, lv220, lv221, lv222, lv223, lv224, lv225, lv226, lv227, lv228, lv229, lv230, lv231, lv232, lv233, lv234, lv235, lv236, lv237, lv238, lv239, lv240, lv241, lv242, lv243, lv244, lv245, lv246, lv247, lv248, lv249, lv250, lv251, lv252, lv253, lv254, lv255, lv256, lv257, lv258, lv259, lv260, lv261, lv262, lv263, lv264, lv265, lv266, lv267, lv268, lv269, lv270, lv271, lv272, lv273, lv274, lv275, lv276, lv277, lv278, lv279, lv280, lv281, lv282, lv283], []⟩ W := by
  conv => arg 2; whnf
  refine wp_seq_k fun K hK => ?_
  have HK : Hid _ := hK
  clear hK
  go_wp2_with fail
  go_loopw [25] (fun iv wr => ∃ i : Nat, i ≤ s ∧ iv = .int .i64 i ∧ TY w wr r c s i) (fun iv _ => s - (intOf iv).toNat)
  case atStart => exact ⟨0, by omega, rfl, X.out⟩
  case round =>
    clear X
    obtain ⟨i, hi0, rfl, hx⟩ := hrel
    have X5 : Hid (TY w wr r c s i) := hx
    clear hx
    by_cases hi : i < s
    · have i1 : (i : Int) < (s : Int) := by omega
      have i2 : (0 : Int) ≤ (i : Int) := by omega
      have s0 : (s : Int) ≠ 0 := by omega
      have s00 : ¬ (s = 0) := by omega
      have hwi : IntKind.i64.wrap ((i : Int) + 1) = (i : Int) + 1 := sm_i64s (by omega)
      have i4096 : i < 4096 := by omega
      obtain ⟨j, hj⟩ : ∃ j, (i + 1) % s = j := ⟨_, rfl⟩
      have hjs : j < s := by rw [← hj]; exact Nat.mod_lt _ (by omega)
      have j4096 : j < 4096 := by omega
      have j1 : Int.tmod ((i : Int) + 1) (s : Int) = (j : Int) := by rw [← hj]; exact tm_nat (i + 1) s
      obtain ⟨qr, hqr⟩ : ∃ qr, i / 16 = qr := ⟨_, rfl⟩
      obtain ⟨q1, hq1⟩ : ∃ q1, i / 256 = q1 := ⟨_, rfl⟩
      obtain ⟨q2, hq2⟩ : ∃ q2, i / 16 % 16 = q2 := ⟨_, rfl⟩
      obtain ⟨q3, hq3⟩ : ∃ q3, i % 16 = q3 := ⟨_, rfl⟩
      have ql1 : q1 ≤ 100 := by omega
      have ql2 : q2 ≤ 100 := by omega
      have ql3 : q3 ≤ 100 := by omega
      have ql4 : qr ≤ 4096 := by omega
      have qa1 : Int.tdiv (i : Int) 256 = (q1 : Int) := by rw [← hq1]; exact td_nat i 256
      have qa2 : Int.tdiv (i : Int) 16 = (qr : Int) := by rw [← hqr]; exact td_nat i 16
      have qa3 : Int.tmod (qr : Int) 16 = (q2 : Int) := by rw [← hq2, ← hqr]; exact tm_nat (i / 16) 16
      have qa4 : Int.tmod (i : Int) 16 = (q3 : Int) := by rw [← hq3]; exact tm_nat i 16
      obtain ⟨qx, qy, qz, hqn, hqx, hqy, hqz⟩ := nm_bytes i4096
      rw [hq1] at hqx
      rw [hq2] at hqy
      rw [hq3] at hqz
      have qw1 := sm_u8 ql1
      have qw2 := sm_u8 ql2
      have qw3 := sm_u8 ql3
      have qv1 := sm_u97 ql1
      have qv2 := sm_u97 ql2
      have qv3 := sm_u97 ql3
      have qm1 := sm_m97 ql1
      have qm2 := sm_m97 ql2
      have qm3 := sm_m97 ql3
      have qo1 := sm_i64 (n := q1) (by omega)
      have qo2 := sm_i64 (n := qr) (by omega)
      have qn1 := sm_64 (n := q1) (by omega)
      have qn2 := sm_64 (n := qr) (by omega)
      obtain ⟨kr, hkr⟩ : ∃ kr, j / 16 = kr := ⟨_, rfl⟩
      obtain ⟨k1, hk1⟩ : ∃ k1, j / 256 = k1 := ⟨_, rfl⟩
      obtain ⟨k2, hk2⟩ : ∃ k2, j / 16 % 16 = k2 := ⟨_, rfl⟩
      obtain ⟨k3, hk3⟩ : ∃ k3, j % 16 = k3 := ⟨_, rfl⟩
      have kl1 : k1 ≤ 100 := by omega
      have kl2 : k2 ≤ 100 := by omega
      have kl3 : k3 ≤ 100 := by omega
      have kl4 : kr ≤ 4096 := by omega
      have ka1 : Int.tdiv (j : Int) 256 = (k1 : Int) := by rw [← hk1]; exact td_nat j 256
      have ka2 : Int.tdiv (j : Int) 16 = (kr : Int) := by rw [← hkr]; exact td_nat j 16
      have ka3 : Int.tmod (kr : Int) 16 = (k2 : Int) := by rw [← hk2, ← hkr]; exact tm_nat (j / 16) 16
      have ka4 : Int.tmod (j : Int) 16 = (k3 : Int) := by rw [← hk3]; exact tm_nat j 16
      obtain ⟨kx, ky, kz, hkn, hkx, hky, hkz⟩ := nm_bytes j4096
      rw [hk1] at hkx
      rw [hk2] at hky
      rw [hk3] at hkz
      have kw1 := sm_u8 kl1
      have kw2 := sm_u8 kl2
      have kw3 := sm_u8 kl3
      have kv1 := sm_u97 kl1
      have kv2 := sm_u97 kl2
      have kv3 := sm_u97 kl3
      have km1 := sm_m97 kl1
      have km2 := sm_m97 kl2
      have km3 := sm_m97 kl3
      have ko1 := sm_i64 (n := k1) (by omega)
      have ko2 := sm_i64 (n := kr) (by omega)
      have kn1 := sm_64 (n := k1) (by omega)
      have kn2 := sm_64 (n := kr) (by omega)
      obtain ⟨nx, hnx⟩ : ∃ nx, [qx, qy, qz] = nx := ⟨_, rfl⟩
      obtain ⟨ny, hny⟩ : ∃ ny, [kx, ky, kz] = ny := ⟨_, rfl⟩
      have hc : (convert 50 9 (.slice (some ⟨wr.heap.size, 0, none⟩) 3 3)).run Try.prog (wr.alloc (.cells #[.int .u8 (97 + (q1 : Int)), .int .u8 (97 + (q2 : Int)), .int .u8 (97 + (q3 : Int))] 5)) = .ok (.string (bs nx)) (wr.alloc (.cells #[.int .u8 (97 + (q1 : Int)), .int .u8 (97 + (q2 : Int)), .int .u8 (97 + (q3 : Int))] 5)) := by
        rw [← hnx]; exact conv3 (by rw [hqx]; simp) (by rw [hqy]; simp) (by rw [hqz]; simp)
      obtain ⟨w4, hw4⟩ : ∃ w4, (wr.alloc (.cells #[.int .u8 (97 + (q1 : Int)), .int .u8 (97 + (q2 : Int)), .int .u8 (97 + (q3 : Int))] 5)).alloc (.cells #[.string { data := #[112] }, .string (bs nx)] 35) = w4 := ⟨_, rfl⟩
      obtain ⟨xb, hxb⟩ : ∃ xb, wr.heap.size + 1 = xb := ⟨_, rfl⟩
      have X6 : Hid (RB w4 xb ⟨[112], nx⟩ ∧ Below wr.heap.size wr w4 ∧ wr.heap.size ≤ xb) := by
        rw [← hw4, ← hxb]
        refine ⟨?_, bstep (balloc _ _) (balloc _ _), by omega⟩
        have h := RB.new (wr.alloc (.cells #[.int .u8 (97 + (q1 : Int)), .int .u8 (97 + (q2 : Int)), .int .u8 (97 + (q3 : Int))] 5)) ⟨[112], nx⟩
        have hz : (wr.alloc (.cells #[.int .u8 (97 + (q1 : Int)), .int .u8 (97 + (q2 : Int)), .int .u8 (97 + (q3 : Int))] 5)).heap.size = wr.heap.size + 1 := by simp
        rw [hz] at h
        exact h
      have hcA : (convert 50 9 (.slice (some ⟨w4.heap.size, 0, none⟩) 3 3)).run Try.prog (w4.alloc (.cells #[.int .u8 (97 + (k1 : Int)), .int .u8 (97 + (k2 : Int)), .int .u8 (97 + (k3 : Int))] 5)).drew = .ok (.string (bs ny)) (w4.alloc (.cells #[.int .u8 (97 + (k1 : Int)), .int .u8 (97 + (k2 : Int)), .int .u8 (97 + (k3 : Int))] 5)).drew := by
        rw [← hny]; exact conv3 (by rw [hkx]; simp) (by rw [hky]; simp) (by rw [hkz]; simp)
      have hcA2 : (convert 50 9 (.slice (some ⟨w4.heap.size, 0, none⟩) 3 3)).run Try.prog ((w4.alloc (.cells #[.int .u8 (97 + (k1 : Int)), .int .u8 (97 + (k2 : Int)), .int .u8 (97 + (k3 : Int))] 5)).alloc (.cells #[.string { data := #[] }, .string { data := #[] }] 35)).drew = .ok (.string (bs ny)) ((w4.alloc (.cells #[.int .u8 (97 + (k1 : Int)), .int .u8 (97 + (k2 : Int)), .int .u8 (97 + (k3 : Int))] 5)).alloc (.cells #[.string { data := #[] }, .string { data := #[] }] 35)).drew := by
        have ho := fun j => (balloc (w4.alloc (.cells #[.int .u8 (97 + (k1 : Int)), .int .u8 (97 + (k2 : Int)), .int .u8 (97 + (k3 : Int))] 5)) (.cells #[.string { data := #[] }, .string { data := #[] }] 35)).cell (p := ⟨w4.heap.size, j, none⟩) (by simp)
        rw [← hny]; exact conv3 ((ho 0).trans (by rw [hkx]; simp)) ((ho 1).trans (by rw [hky]; simp)) ((ho 2).trans (by rw [hkz]; simp))
      have hcB : (convert 50 9 (.slice (some ⟨w4.heap.size + 1, 0, none⟩) 3 3)).run Try.prog ((w4.alloc (.cells #[.string { data := #[] }, .string { data := #[] }] 35)).alloc (.cells #[.int .u8 (97 + (k1 : Int)), .int .u8 (97 + (k2 : Int)), .int .u8 (97 + (k3 : Int))] 5)).drew = .ok (.string (bs ny)) ((w4.alloc (.cells #[.string { data := #[] }, .string { data := #[] }] 35)).alloc (.cells #[.int .u8 (97 + (k1 : Int)), .int .u8 (97 + (k2 : Int)), .int .u8 (97 + (k3 : Int))] 5)).drew := by
        have hz : (w4.alloc (.cells #[.string { data := #[] }, .string { data := #[] }] 35)).heap.size = w4.heap.size + 1 := by simp
        rw [← hny, ← hz]; exact conv3 (by rw [hkx]; simp) (by rw [hky]; simp) (by rw [hkz]; simp)
      have HZA : Hid (RB (((w4.alloc (.cells #[.int .u8 (97 + (k1 : Int)), .int .u8 (97 + (k2 : Int)), .int .u8 (97 + (k3 : Int))] 5)).alloc (.cells #[.string { data := #[] }, .string { data := #[] }] 35)).drew) (w4.heap.size + 1) ⟨[], []⟩ ∧ RB (((w4.alloc (.cells #[.int .u8 (97 + (k1 : Int)), .int .u8 (97 + (k2 : Int)), .int .u8 (97 + (k3 : Int))] 5)).alloc (.cells #[.string { data := #[112] }, .string (bs ny)] 35)).drew) (w4.heap.size + 1) ⟨[112], ny⟩ ∧ Below w4.heap.size w4 (((w4.alloc (.cells #[.int .u8 (97 + (k1 : Int)), .int .u8 (97 + (k2 : Int)), .int .u8 (97 + (k3 : Int))] 5)).alloc (.cells #[.string { data := #[112] }, .string (bs ny)] 35)).drew)) := by
        have hz : (w4.alloc (.cells #[.int .u8 (97 + (k1 : Int)), .int .u8 (97 + (k2 : Int)), .int .u8 (97 + (k3 : Int))] 5)).heap.size = w4.heap.size + 1 := by simp
        have h := RB.new (w4.alloc (.cells #[.int .u8 (97 + (k1 : Int)), .int .u8 (97 + (k2 : Int)), .int .u8 (97 + (k3 : Int))] 5)) ⟨[], []⟩
        have h3 := RB.new (w4.alloc (.cells #[.int .u8 (97 + (k1 : Int)), .int .u8 (97 + (k2 : Int)), .int .u8 (97 + (k3 : Int))] 5)) ⟨[112], ny⟩
        rw [hz] at h h3
        exact ⟨h.later (bd _ 1), h3.later (bd _ 1), (bstep (balloc _ _) (balloc _ _)).drew⟩
      have HZB : Hid (RB (((w4.alloc (.cells #[.string { data := #[] }, .string { data := #[] }] 35)).alloc (.cells #[.int .u8 (97 + (k1 : Int)), .int .u8 (97 + (k2 : Int)), .int .u8 (97 + (k3 : Int))] 5)).drew) w4.heap.size ⟨[], []⟩ ∧ RB (((w4.alloc (.cells #[.string { data := #[112] }, .string (bs ny)] 35)).alloc (.cells #[.int .u8 (97 + (k1 : Int)), .int .u8 (97 + (k2 : Int)), .int .u8 (97 + (k3 : Int))] 5)).drew) w4.heap.size ⟨[112], ny⟩ ∧ Below w4.heap.size w4 (((w4.alloc (.cells #[.string { data := #[112] }, .string (bs ny)] 35)).alloc (.cells #[.int .u8 (97 + (k1 : Int)), .int .u8 (97 + (k2 : Int)), .int .u8 (97 + (k3 : Int))] 5)).drew)) :=
        ⟨(RB.new w4 ⟨[], []⟩).later (balloc _ (.cells #[.int .u8 (97 + (k1 : Int)), .int .u8 (97 + (k2 : Int)), .int .u8 (97 + (k3 : Int))] 5)).drew, (RB.new w4 ⟨[112], ny⟩).later (balloc _ (.cells #[.int .u8 (97 + (k1 : Int)), .int .u8 (97 + (k2 : Int)), .int .u8 (97 + (k3 : Int))] 5)).drew, (bstep (balloc _ _) (balloc _ _)).drew⟩
      have HNM : Hid ((⟨[112], nx⟩ : Lb) = nmN i ∧ (⟨[112], ny⟩ : Lb) = nmN j ∧ (i + 1) % s = j) := by
        refine ⟨?_, ?_, hj⟩
        · rw [← hnx, ← hqn]; rfl
        · rw [← hny, ← hkn]; rfl
      clear hqr hq1 hq2 hq3 hkr hk1 hk2 hk3 hqn hqx hqy hqz hkn hkx hky hkz hnx hny hj
      go_upto_region 44 with fail
      try rw [hw4]
      try rw [hxb]
      clear hw4 hxb hc
      go_wp2_with fail
      refine wp_region_noPanic ?_
      refine wp_region_held_drew (S := fun _ => True) (by kernel_rfl) trivial (fun hHeld => ?_)
      refine wpAnyH_take (i := 0) (oi := { dst := some 213, op := _, type := _, pos := _, after := _, guard := _ }) (v := ?vx1) rfl (by kernel_rfl) (by kernel_rfl) (by kernel_rfl) (fun _ _ _ h => h) (Or.inl ⟨by rfl, ?hyx1⟩) (by assumption) ?restx1
      case hyx1 => (intro w hSw; (try dsimp only at hSw); go_simp; try with_reducible rfl)
      try simp only [Act.put, List.setIfInBounds_toArray, List.set_cons_zero, List.set_cons_succ]
      refine wpAnyH_take (i := 1) (oi := { dst := some 214, op := _, type := _, pos := _, after := _, guard := _ }) (v := ?vx2) rfl (by kernel_rfl) (by kernel_rfl) (by kernel_rfl) (fun _ _ _ h => h) (Or.inl ⟨by rfl, ?hyx2⟩) (by assumption) ?restx2
      case hyx2 => (intro w hSw; (try dsimp only at hSw); go_simp; try with_reducible rfl)
      try simp only [Act.put, List.setIfInBounds_toArray, List.set_cons_zero, List.set_cons_succ]
      refine wpAnyH_take (i := 2) (oi := { dst := some 215, op := _, type := _, pos := _, after := _, guard := _ }) (v := ?vx3) rfl (by kernel_rfl) (by kernel_rfl) (by kernel_rfl) (fun _ _ _ h => h) (Or.inl ⟨by rfl, ?hyx3⟩) (by assumption) ?restx3
      case hyx3 => (intro w hSw; (try dsimp only at hSw); go_simp; try with_reducible rfl)
      try simp only [Act.put, List.setIfInBounds_toArray, List.set_cons_zero, List.set_cons_succ]
      refine wpAnyH_take (i := 3) (oi := { dst := some 216, op := _, type := _, pos := _, after := _, guard := _ }) (v := ?vx4) rfl (by kernel_rfl) (by kernel_rfl) (by kernel_rfl) (fun _ _ _ h => h) (Or.inl ⟨by rfl, ?hyx4⟩) (by assumption) ?restx4
      case hyx4 => (intro w hSw; (try dsimp only at hSw); go_simp; try with_reducible rfl)
      try simp only [Act.put, List.setIfInBounds_toArray, List.set_cons_zero, List.set_cons_succ]
      refine wpAnyH_take (i := 4) (oi := { dst := some 217, op := _, type := _, pos := _, after := _, guard := _ }) (v := ?vx5) rfl (by kernel_rfl) (by kernel_rfl) (by kernel_rfl) (fun _ _ _ h => h) (Or.inl ⟨by rfl, ?hyx5⟩) (by assumption) ?restx5
      case hyx5 => (intro w hSw; (try dsimp only at hSw); go_simp; try with_reducible rfl)
      try simp only [Act.put, List.setIfInBounds_toArray, List.set_cons_zero, List.set_cons_succ]
      refine wpAnyH_take (i := 5) (oi := { dst := some 218, op := _, type := _, pos := _, after := _, guard := _ }) (v := ?vx6) rfl (by kernel_rfl) (by kernel_rfl) (by kernel_rfl) (fun _ _ _ h => h) (Or.inl ⟨by rfl, ?hyx6⟩) (by assumption) ?restx6
      case hyx6 => (intro w hSw; (try dsimp only at hSw); go_simp; try with_reducible rfl)
      try simp only [Act.put, List.setIfInBounds_toArray, List.set_cons_zero, List.set_cons_succ]
      refine wpAnyH_take (i := 6) (oi := { dst := some 219, op := _, type := _, pos := _, after := _, guard := _ }) (v := ?vx7) rfl (by kernel_rfl) (by kernel_rfl) (by kernel_rfl) (fun _ _ _ h => h) (Or.inl ⟨by rfl, ?hyx7⟩) (by assumption) ?restx7
      case hyx7 => (intro w hSw; (try dsimp only at hSw); go_simp; try with_reducible rfl)
      try simp only [Act.put, List.setIfInBounds_toArray, List.set_cons_zero, List.set_cons_succ]
      refine wpAnyH_take (i := 7) (oi := { dst := some 220, op := _, type := _, pos := _, after := _, guard := _ }) (v := ?vx8) rfl (by kernel_rfl) (by kernel_rfl) (by kernel_rfl) (fun _ _ _ h => h) (Or.inl ⟨by rfl, ?hyx8⟩) (by assumption) ?restx8
      case hyx8 => (intro w hSw; (try dsimp only at hSw); go_simp; try with_reducible rfl)
      try simp only [Act.put, List.setIfInBounds_toArray, List.set_cons_zero, List.set_cons_succ]
      refine wpAnyH_take (i := 8) (oi := { dst := some 221, op := _, type := _, pos := _, after := _, guard := _ }) (v := ?vx9) rfl (by kernel_rfl) (by kernel_rfl) (by kernel_rfl) (fun _ _ _ h => h) (Or.inl ⟨by rfl, ?hyx9⟩) (by assumption) ?restx9
      case hyx9 => (intro w hSw; (try dsimp only at hSw); go_simp; try with_reducible rfl)
      try simp only [Act.put, List.setIfInBounds_toArray, List.set_cons_zero, List.set_cons_succ]
      refine wpAnyH_take (i := 9) (oi := { dst := some 222, op := _, type := _, pos := _, after := _, guard := _ }) (v := ?vx10) rfl (by kernel_rfl) (by kernel_rfl) (by kernel_rfl) (fun _ _ _ h => h) (Or.inl ⟨by rfl, ?hyx10⟩) (by assumption) ?restx10
      case hyx10 => (intro w hSw; (try dsimp only at hSw); go_simp; try with_reducible rfl)
      try simp only [Act.put, List.setIfInBounds_toArray, List.set_cons_zero, List.set_cons_succ]
      refine wpAnyH_take (i := 10) (oi := { dst := some 223, op := _, type := _, pos := _, after := _, guard := _ }) (v := ?vx11) rfl (by kernel_rfl) (by kernel_rfl) (by kernel_rfl) (fun _ _ _ h => h) (Or.inl ⟨by rfl, ?hyx11⟩) (by assumption) ?restx11
      case hyx11 => (intro w hSw; (try dsimp only at hSw); go_simp; try with_reducible rfl)
      try simp only [Act.put, List.setIfInBounds_toArray, List.set_cons_zero, List.set_cons_succ]
      refine wpAnyH_take (i := 11) (oi := { dst := some 224, op := _, type := _, pos := _, after := _, guard := _ }) (v := ?vx12) rfl (by kernel_rfl) (by kernel_rfl) (by kernel_rfl) (fun _ _ _ h => h) (Or.inl ⟨by rfl, ?hyx12⟩) (by assumption) ?restx12
      case hyx12 => (intro w hSw; (try dsimp only at hSw); go_simp; try with_reducible rfl)
      try simp only [Act.put, List.setIfInBounds_toArray, List.set_cons_zero, List.set_cons_succ]
      refine wpAnyH_take (i := 12) (oi := { dst := some 225, op := _, type := _, pos := _, after := _, guard := _ }) (v := ?vx13) rfl (by kernel_rfl) (by kernel_rfl) (by kernel_rfl) (fun _ _ _ h => h) (Or.inl ⟨by rfl, ?hyx13⟩) (by assumption) ?restx13
      case hyx13 => (intro w hSw; (try dsimp only at hSw); go_simp; try with_reducible rfl)
      try simp only [Act.put, List.setIfInBounds_toArray, List.set_cons_zero, List.set_cons_succ]
      refine wpAnyH_take (i := 13) (oi := { dst := some 226, op := _, type := _, pos := _, after := _, guard := _ }) (v := ?vx14) rfl (by kernel_rfl) (by kernel_rfl) (by kernel_rfl) (fun _ _ _ h => h) (Or.inl ⟨by rfl, ?hyx14⟩) (by assumption) ?restx14
      case hyx14 => (intro w hSw; (try dsimp only at hSw); go_simp; try with_reducible rfl)
      try simp only [Act.put, List.setIfInBounds_toArray, List.set_cons_zero, List.set_cons_succ]
      refine wpAnyH_take (i := 14) (oi := { dst := some 227, op := _, type := _, pos := _, after := _, guard := _ }) (v := ?vx15) rfl (by kernel_rfl) (by kernel_rfl) (by kernel_rfl) (fun _ _ _ h => h) (Or.inl ⟨by rfl, ?hyx15⟩) (by assumption) ?restx15
      case hyx15 => (intro w hSw; (try dsimp only at hSw); go_simp; try with_reducible rfl)
      try simp only [Act.put, List.setIfInBounds_toArray, List.set_cons_zero, List.set_cons_succ]
      refine wpAnyH_take (i := 15) (oi := { dst := some 228, op := _, type := _, pos := _, after := _, guard := _ }) (v := ?vx16) rfl (by kernel_rfl) (by kernel_rfl) (by kernel_rfl) (fun _ _ _ h => h) (Or.inl ⟨by rfl, ?hyx16⟩) (by assumption) ?restx16
      case hyx16 => (intro w hSw; (try dsimp only at hSw); go_simp; try with_reducible rfl)
      try simp only [Act.put, List.setIfInBounds_toArray, List.set_cons_zero, List.set_cons_succ]
      refine wpAnyH_take (i := 16) (oi := { dst := some 229, op := _, type := _, pos := _, after := _, guard := _ }) (v := ?vx17) rfl (by kernel_rfl) (by kernel_rfl) (by kernel_rfl) (fun _ _ _ h => h) (Or.inl ⟨by rfl, ?hyx17⟩) (by assumption) ?restx17
      case hyx17 => (intro w hSw; (try dsimp only at hSw); go_simp; try with_reducible rfl)
      try simp only [Act.put, List.setIfInBounds_toArray, List.set_cons_zero, List.set_cons_succ]
      refine wpAnyH_take (i := 17) (oi := { dst := some 230, op := _, type := _, pos := _, after := _, guard := _ }) (v := ?vx18) rfl (by kernel_rfl) (by kernel_rfl) (by kernel_rfl) (fun _ _ _ h => h) (Or.inl ⟨by rfl, ?hyx18⟩) (by assumption) ?restx18
      case hyx18 => (intro w hSw; (try dsimp only at hSw); go_simp; try with_reducible rfl)
      try simp only [Act.put, List.setIfInBounds_toArray, List.set_cons_zero, List.set_cons_succ]
      refine wpAnyH_take (i := 18) (oi := { dst := some 231, op := _, type := _, pos := _, after := _, guard := _ }) (v := ?vx19) rfl (by kernel_rfl) (by kernel_rfl) (by kernel_rfl) (fun _ _ _ h => h) (Or.inl ⟨by rfl, ?hyx19⟩) (by assumption) ?restx19
      case hyx19 => (intro w hSw; (try dsimp only at hSw); go_simp; try with_reducible rfl)
      try simp only [Act.put, List.setIfInBounds_toArray, List.set_cons_zero, List.set_cons_succ]
      refine wpAnyH_take (i := 19) (oi := { dst := some 232, op := _, type := _, pos := _, after := _, guard := _ }) (v := ?vx20) rfl (by kernel_rfl) (by kernel_rfl) (by kernel_rfl) (fun _ _ _ h => h) (Or.inl ⟨by rfl, ?hyx20⟩) (by assumption) ?restx20
      case hyx20 => (intro w hSw; (try dsimp only at hSw); go_simp; try with_reducible rfl)
      try simp only [Act.put, List.setIfInBounds_toArray, List.set_cons_zero, List.set_cons_succ]
      refine wpAnyH_take (i := 20) (oi := { dst := some 233, op := _, type := _, pos := _, after := _, guard := _ }) (v := ?vx21) rfl (by kernel_rfl) (by kernel_rfl) (by kernel_rfl) (fun _ _ _ h => h) (Or.inl ⟨by rfl, ?hyx21⟩) (by assumption) ?restx21
      case hyx21 => (intro w hSw; (try dsimp only at hSw); go_simp; try with_reducible rfl)
      try simp only [Act.put, List.setIfInBounds_toArray, List.set_cons_zero, List.set_cons_succ]
      refine wpAnyH_take (i := 21) (oi := { dst := some 234, op := _, type := _, pos := _, after := _, guard := _ }) (v := ?vx22) rfl (by kernel_rfl) (by kernel_rfl) (by kernel_rfl) (fun _ _ _ h => h) (Or.inl ⟨by rfl, ?hyx22⟩) (by assumption) ?restx22
      case hyx22 => (intro w hSw; (try dsimp only at hSw); go_simp; try with_reducible rfl)
      try simp only [Act.put, List.setIfInBounds_toArray, List.set_cons_zero, List.set_cons_succ]
      refine wpAnyH_ready (rs := [22, 25]) (by kernel_rfl) (by simp) ?_
      refine AllReadyH.cons (o := { dst := some 235, op := _, type := _, pos := _, after := _, guard := _ }) rfl (fun K hK => ?_) (AllReadyH.cons (o := { dst := some 27, op := _, type := _, pos := _, after := _, guard := _ }) rfl (fun K hK => ?_) AllReadyH.nil)
      · go_simp
        refine hK.out _ _ trivial (fun hHeld => ?_)
        clear hK K
        try simp only [List.setIfInBounds_toArray, List.set_cons_zero, List.set_cons_succ]
        refine wpAnyH_ready (rs := [23, 25]) (by kernel_rfl) (by simp) ?_
        refine AllReadyH.cons (o := { dst := some 236, op := _, type := _, pos := _, after := _, guard := _ }) rfl (fun K hK => ?_) (AllReadyH.cons (o := { dst := some 27, op := _, type := _, pos := _, after := _, guard := _ }) rfl (fun K hK => ?_) AllReadyH.nil)
        · go_simp
          refine hK.out _ _ trivial (fun hHeld => ?_)
          clear hK K
          try simp only [List.setIfInBounds_toArray, List.set_cons_zero, List.set_cons_succ]
          refine wpAnyH_take (i := 24) (oi := { dst := some 237, op := _, type := _, pos := _, after := _, guard := _ }) (v := ?vx23) rfl (by kernel_rfl) (by kernel_rfl) (by kernel_rfl) (fun _ _ _ h => h) (Or.inl ⟨by rfl, ?hyx23⟩) (by assumption) ?restx23
          case hyx23 => (intro w hSw; (try dsimp only at hSw); go_simp; try with_reducible rfl)
          try simp only [Act.put, List.setIfInBounds_toArray, List.set_cons_zero, List.set_cons_succ]
          refine wpAnyH_ready (rs := [25]) (by kernel_rfl) (by simp) ?_
          refine AllReadyH.cons (o := { dst := some 27, op := _, type := _, pos := _, after := _, guard := _ }) rfl (fun K hK => ?_) AllReadyH.nil
          go_simp
          refine hK.out _ _ trivial (fun hHeld => ?_)
          clear hK K
          try simp only [List.setIfInBounds_toArray, List.set_cons_zero, List.set_cons_succ]
          obtain ⟨c0, c1, e0, e1⟩ := HZA.out.1.cells
          refine wpAnyH_ready (rs := [26]) (by kernel_rfl) (by simp) ?_
          refine AllReadyH.cons (o := { dst := none, op := _, type := _, pos := _, after := _, guard := _ }) rfl (fun K hK => ?_) AllReadyH.nil
          go_simp
          refine hK.out _ _ trivial (fun hHeld => ?_)
          clear hK K
          try simp only [List.setIfInBounds_toArray, List.set_cons_zero, List.set_cons_succ]
          refine wpAnyH_done (by kernel_rfl) ?_ _
          refine NoPanic.normal ?_
          obtain ⟨w5, hw5⟩ : ∃ w5, ((w4.alloc (.cells #[.int .u8 (97 + (k1 : Int)), .int .u8 (97 + (k2 : Int)), .int .u8 (97 + (k3 : Int))] 5)).alloc (.cells #[.string { data := #[112] }, .string (bs ny)] 35)).drew = w5 := ⟨_, rfl⟩
          obtain ⟨yb, hyb⟩ : ∃ yb, w4.heap.size + 1 = yb := ⟨_, rfl⟩
          have HY : Hid (RB w5 yb ⟨[112], ny⟩ ∧ Below w4.heap.size w4 w5) := by
            rw [← hw5, ← hyb]
            exact HZA.out.2
          rw [hw5, hyb]
          have HYB : Hid (wr.heap.size ≤ yb) := by
            have h1 := X6.out.2.1.size
            show wr.heap.size ≤ yb
            omega
          clear hw5 hyb c0 c1 e0 e1 HZA HZB hcA hcA2 hcB hHeld
          have HE := hid_of (X5.out.ring hi hs (bstep X6.out.2.1 HY.out.2) HNM.out.1 HNM.out.2.1 HNM.out.2.2 (X6.out.1.later HY.out.2) HY.out.1 X6.out.2.2 HYB.out)
          have HXY : Hid (RB w5 xb ⟨[112], nx⟩ ∧ RB w5 yb ⟨[112], ny⟩) := ⟨X6.out.1.later HY.out.2, HY.out.1⟩
          obtain ⟨b0, b1, _, _⟩ := HXY.out.1.cells
          obtain ⟨b2, b3, _, _⟩ := HXY.out.2.cells
          have d0 : w5.cell? ⟨xb, 0, none⟩ = some (.string { data := #[112] }) := b0
          have d2 : w5.cell? ⟨yb, 0, none⟩ = some (.string { data := #[112] }) := b2
          simp only at b1 b3
          clear b0 b2
          go_wp2_with fail
          refine HE.out.mono ?_
          rintro e w6 ⟨rfl, hrx, hry, hsk, hgo⟩
          have H6 : Hid (RB w6 xb ⟨[112], nx⟩ ∧ RB w6 yb ⟨[112], ny⟩) := ⟨hrx, hry⟩
          have HSK := hid_of hsk
          have HGO := hid_of hgo
          clear hrx hry hsk hgo b1 b3 d0 d2 HE HXY
          by_cases hlast : i + 1 < s
          · have i5 : (i : Int) + 1 < (s : Int) := by omega
            obtain ⟨b0, b1, _, _⟩ := H6.out.1.cells
            obtain ⟨b2, b3, _, _⟩ := H6.out.2.cells
            have d0 : w6.cell? ⟨xb, 0, none⟩ = some (.string { data := #[112] }) := b0
            have d2 : w6.cell? ⟨yb, 0, none⟩ = some (.string { data := #[112] }) := b2
            simp only at b1 b3
            clear b0 b2
            go_wp2_with fail
            refine (HGO.out hlast).mono ?_
            rintro e w7 ⟨rfl, hty⟩
            have HTY : Hid (TY w w7 r c s (i + 1)) := hty
            clear hty b1 b3 d0 d2
            go_wp2_with fail
            go_roundw
            case rel => exact ⟨i + 1, by omega, by go_num, HTY.out⟩
            case measure => simp [intOf]; omega
          · have i5 : ¬ ((i : Int) + 1 < (s : Int)) := by omega
            have HTY := hid_of (HSK.out (by omega))
            go_wp2_with fail
            go_roundw
            case rel => exact ⟨i + 1, by omega, by go_num, HTY.out⟩
            case measure => simp [intOf]; omega
        · go_simp
          refine hK.out _ _ trivial (fun hHeld => ?_)
          clear hK K
          try simp only [List.setIfInBounds_toArray, List.set_cons_zero, List.set_cons_succ]
          refine wpAnyH_ready (rs := [23]) (by kernel_rfl) (by simp) ?_
          refine AllReadyH.cons (o := { dst := some 236, op := _, type := _, pos := _, after := _, guard := _ }) rfl (fun K hK => ?_) AllReadyH.nil
          go_simp
          refine hK.out _ _ trivial (fun hHeld => ?_)
          clear hK K
          try simp only [List.setIfInBounds_toArray, List.set_cons_zero, List.set_cons_succ]
          refine wpAnyH_take (i := 24) (oi := { dst := some 237, op := _, type := _, pos := _, after := _, guard := _ }) (v := ?vx24) rfl (by kernel_rfl) (by kernel_rfl) (by kernel_rfl) (fun _ _ _ h => h) (Or.inl ⟨by rfl, ?hyx24⟩) (by assumption) ?restx24
          case hyx24 => (intro w hSw; (try dsimp only at hSw); go_simp; try with_reducible rfl)
          try simp only [Act.put, List.setIfInBounds_toArray, List.set_cons_zero, List.set_cons_succ]
          obtain ⟨c0, c1, e0, e1⟩ := HZA.out.1.cells
          refine wpAnyH_ready (rs := [26]) (by kernel_rfl) (by simp) ?_
          refine AllReadyH.cons (o := { dst := none, op := _, type := _, pos := _, after := _, guard := _ }) rfl (fun K hK => ?_) AllReadyH.nil
          go_simp
          refine hK.out _ _ trivial (fun hHeld => ?_)
          clear hK K
          try simp only [List.setIfInBounds_toArray, List.set_cons_zero, List.set_cons_succ]
          refine wpAnyH_done (by kernel_rfl) ?_ _
          refine NoPanic.normal ?_
          obtain ⟨w5, hw5⟩ : ∃ w5, ((w4.alloc (.cells #[.int .u8 (97 + (k1 : Int)), .int .u8 (97 + (k2 : Int)), .int .u8 (97 + (k3 : Int))] 5)).alloc (.cells #[.string { data := #[112] }, .string (bs ny)] 35)).drew = w5 := ⟨_, rfl⟩
          obtain ⟨yb, hyb⟩ : ∃ yb, w4.heap.size + 1 = yb := ⟨_, rfl⟩
          have HY : Hid (RB w5 yb ⟨[112], ny⟩ ∧ Below w4.heap.size w4 w5) := by
            rw [← hw5, ← hyb]
            exact HZA.out.2
          rw [hw5, hyb]
          have HYB : Hid (wr.heap.size ≤ yb) := by
            have h1 := X6.out.2.1.size
            show wr.heap.size ≤ yb
            omega
          clear hw5 hyb c0 c1 e0 e1 HZA HZB hcA hcA2 hcB hHeld
          have HE := hid_of (X5.out.ring hi hs (bstep X6.out.2.1 HY.out.2) HNM.out.1 HNM.out.2.1 HNM.out.2.2 (X6.out.1.later HY.out.2) HY.out.1 X6.out.2.2 HYB.out)
          have HXY : Hid (RB w5 xb ⟨[112], nx⟩ ∧ RB w5 yb ⟨[112], ny⟩) := ⟨X6.out.1.later HY.out.2, HY.out.1⟩
          obtain ⟨b0, b1, _, _⟩ := HXY.out.1.cells
          obtain ⟨b2, b3, _, _⟩ := HXY.out.2.cells
          have d0 : w5.cell? ⟨xb, 0, none⟩ = some (.string { data := #[112] }) := b0
          have d2 : w5.cell? ⟨yb, 0, none⟩ = some (.string { data := #[112] }) := b2
          simp only at b1 b3
          clear b0 b2
          go_wp2_with fail
          refine HE.out.mono ?_
          rintro e w6 ⟨rfl, hrx, hry, hsk, hgo⟩
          have H6 : Hid (RB w6 xb ⟨[112], nx⟩ ∧ RB w6 yb ⟨[112], ny⟩) := ⟨hrx, hry⟩
          have HSK := hid_of hsk
          have HGO := hid_of hgo
          clear hrx hry hsk hgo b1 b3 d0 d2 HE HXY
          by_cases hlast : i + 1 < s
          · have i5 : (i : Int) + 1 < (s : Int) := by omega
            obtain ⟨b0, b1, _, _⟩ := H6.out.1.cells
            obtain ⟨b2, b3, _, _⟩ := H6.out.2.cells
            have d0 : w6.cell? ⟨xb, 0, none⟩ = some (.string { data := #[112] }) := b0
            have d2 : w6.cell? ⟨yb, 0, none⟩ = some (.string { data := #[112] }) := b2
            simp only at b1 b3
            clear b0 b2
            go_wp2_with fail
            refine (HGO.out hlast).mono ?_
            rintro e w7 ⟨rfl, hty⟩
            have HTY : Hid (TY w w7 r c s (i + 1)) := hty
            clear hty b1 b3 d0 d2
            go_wp2_with fail
            go_roundw
            case rel => exact ⟨i + 1, by omega, by go_num, HTY.out⟩
            case measure => simp [intOf]; omega
          · have i5 : ¬ ((i : Int) + 1 < (s : Int)) := by omega
            have HTY := hid_of (HSK.out (by omega))
            go_wp2_with fail
            go_roundw
            case rel => exact ⟨i + 1, by omega, by go_num, HTY.out⟩
            case measure => simp [intOf]; omega
      · go_simp
        refine hK.out _ _ trivial (fun hHeld => ?_)
        clear hK K
        try simp only [List.setIfInBounds_toArray, List.set_cons_zero, List.set_cons_succ]
        refine wpAnyH_ready (rs := [22]) (by kernel_rfl) (by simp) ?_
        refine AllReadyH.cons (o := { dst := some 235, op := _, type := _, pos := _, after := _, guard := _ }) rfl (fun K hK => ?_) AllReadyH.nil
        go_simp
        refine hK.out _ _ trivial (fun hHeld => ?_)
        clear hK K
        try simp only [List.setIfInBounds_toArray, List.set_cons_zero, List.set_cons_succ]
        refine wpAnyH_ready (rs := [23]) (by kernel_rfl) (by simp) ?_
        refine AllReadyH.cons (o := { dst := some 236, op := _, type := _, pos := _, after := _, guard := _ }) rfl (fun K hK => ?_) AllReadyH.nil
        go_simp
        refine hK.out _ _ trivial (fun hHeld => ?_)
        clear hK K
        try simp only [List.setIfInBounds_toArray, List.set_cons_zero, List.set_cons_succ]
        refine wpAnyH_take (i := 24) (oi := { dst := some 237, op := _, type := _, pos := _, after := _, guard := _ }) (v := ?vx25) rfl (by kernel_rfl) (by kernel_rfl) (by kernel_rfl) (fun _ _ _ h => h) (Or.inl ⟨by rfl, ?hyx25⟩) (by assumption) ?restx25
        case hyx25 => (intro w hSw; (try dsimp only at hSw); go_simp; try with_reducible rfl)
        try simp only [Act.put, List.setIfInBounds_toArray, List.set_cons_zero, List.set_cons_succ]
        obtain ⟨c0, c1, e0, e1⟩ := HZB.out.1.cells
        refine wpAnyH_ready (rs := [26]) (by kernel_rfl) (by simp) ?_
        refine AllReadyH.cons (o := { dst := none, op := _, type := _, pos := _, after := _, guard := _ }) rfl (fun K hK => ?_) AllReadyH.nil
        go_simp
        refine hK.out _ _ trivial (fun hHeld => ?_)
        clear hK K
        try simp only [List.setIfInBounds_toArray, List.set_cons_zero, List.set_cons_succ]
        refine wpAnyH_done (by kernel_rfl) ?_ _
        refine NoPanic.normal ?_
        obtain ⟨w5, hw5⟩ : ∃ w5, ((w4.alloc (.cells #[.string { data := #[112] }, .string (bs ny)] 35)).alloc (.cells #[.int .u8 (97 + (k1 : Int)), .int .u8 (97 + (k2 : Int)), .int .u8 (97 + (k3 : Int))] 5)).drew = w5 := ⟨_, rfl⟩
        obtain ⟨yb, hyb⟩ : ∃ yb, w4.heap.size = yb := ⟨_, rfl⟩
        have HY : Hid (RB w5 yb ⟨[112], ny⟩ ∧ Below w4.heap.size w4 w5) := by
          rw [← hw5, ← hyb]
          exact HZB.out.2
        rw [hw5, hyb]
        have HYB : Hid (wr.heap.size ≤ yb) := by
          have h1 := X6.out.2.1.size
          show wr.heap.size ≤ yb
          omega
        clear hw5 hyb c0 c1 e0 e1 HZA HZB hcA hcA2 hcB hHeld
        have HE := hid_of (X5.out.ring hi hs (bstep X6.out.2.1 HY.out.2) HNM.out.1 HNM.out.2.1 HNM.out.2.2 (X6.out.1.later HY.out.2) HY.out.1 X6.out.2.2 HYB.out)
        have HXY : Hid (RB w5 xb ⟨[112], nx⟩ ∧ RB w5 yb ⟨[112], ny⟩) := ⟨X6.out.1.later HY.out.2, HY.out.1⟩
        obtain ⟨b0, b1, _, _⟩ := HXY.out.1.cells
        obtain ⟨b2, b3, _, _⟩ := HXY.out.2.cells
        have d0 : w5.cell? ⟨xb, 0, none⟩ = some (.string { data := #[112] }) := b0
        have d2 : w5.cell? ⟨yb, 0, none⟩ = some (.string { data := #[112] }) := b2
        simp only at b1 b3
        clear b0 b2
        go_wp2_with fail
        refine HE.out.mono ?_
        rintro e w6 ⟨rfl, hrx, hry, hsk, hgo⟩
        have H6 : Hid (RB w6 xb ⟨[112], nx⟩ ∧ RB w6 yb ⟨[112], ny⟩) := ⟨hrx, hry⟩
        have HSK := hid_of hsk
        have HGO := hid_of hgo
        clear hrx hry hsk hgo b1 b3 d0 d2 HE HXY
        by_cases hlast : i + 1 < s
        · have i5 : (i : Int) + 1 < (s : Int) := by omega
          obtain ⟨b0, b1, _, _⟩ := H6.out.1.cells
          obtain ⟨b2, b3, _, _⟩ := H6.out.2.cells
          have d0 : w6.cell? ⟨xb, 0, none⟩ = some (.string { data := #[112] }) := b0
          have d2 : w6.cell? ⟨yb, 0, none⟩ = some (.string { data := #[112] }) := b2
          simp only at b1 b3
          clear b0 b2
          go_wp2_with fail
          refine (HGO.out hlast).mono ?_
          rintro e w7 ⟨rfl, hty⟩
          have HTY : Hid (TY w w7 r c s (i + 1)) := hty
          clear hty b1 b3 d0 d2
          go_wp2_with fail
          go_roundw
          case rel => exact ⟨i + 1, by omega, by go_num, HTY.out⟩
          case measure => simp [intOf]; omega
        · have i5 : ¬ ((i : Int) + 1 < (s : Int)) := by omega
          have HTY := hid_of (HSK.out (by omega))
          go_wp2_with fail
          go_roundw
          case rel => exact ⟨i + 1, by omega, by go_num, HTY.out⟩
          case measure => simp [intOf]; omega
    · obtain rfl : i = s := by omega
      go_wp2_with fail
      refine HK.out _ _ ?_
      clear HK
      exact f48 ⟨X5.out.bel, X5.out.it, hs2, hs⟩
end Go.Proofs.Ytclbnjfmipifnaa
