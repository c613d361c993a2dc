/-
  Steps of a script; bits.
  The law of ways: the edges.
-/
import Derived.Test.YtjohhmfncemknaaJPg
import Derived.Test.YtjohhmfncemknaaW21
namespace Go.Proofs.Ytjohhmfncemknaa
open Go.RowKit Go.Maps

theorem and_one_i (x : Int) : bits .and .i64 x 1 = 0 ∨ bits .and .i64 x 1 = 1 := by
  have h : bits .and .i64 x 1 = ((((BitVec.ofInt 64 x).toNat % 2 : Nat) : Int)) := by
    unfold bits
    show IntKind.wrap .i64 ((BitVec.ofInt 64 x &&& BitVec.ofInt 64 1).toNat : Int) = _
    rw [BitVec.toNat_and, show (BitVec.ofInt 64 1).toNat = 1 from rfl, Nat.and_one_is_mod, IntKind.wrap_i64]
    omega
  omega
theorem and_15_i (x : Int) : 0 ≤ bits .and .i64 x 15 ∧ bits .and .i64 x 15 ≤ 15 := by
  have h : bits .and .i64 x 15 = ((((BitVec.ofInt 64 x).toNat % 16 : Nat) : Int)) := by
    unfold bits
    show IntKind.wrap .i64 ((BitVec.ofInt 64 x &&& BitVec.ofInt 64 15).toNat : Int) = _
    rw [BitVec.toNat_and, show (BitVec.ofInt 64 15).toNat = 2 ^ 4 - 1 from rfl, Nat.and_two_pow_sub_one_eq_mod, IntKind.wrap_i64]
    omega
  omega

/-- a step -/
structure Stp where
  kind : Int
  which : Int
  a : Lb
  b : Lb
def stc : List Stp → List Value
  | [] => []
  | s :: r => .int .i64 s.kind :: .int .i64 s.which :: .string (bs s.a.pkg) :: .string (bs s.a.name) :: .string (bs s.b.pkg) :: .string (bs s.b.name) :: stc r
theorem stc_length : ∀ l, (stc l).length = l.length * 6
  | [] => rfl
  | f :: r => by simp only [stc, List.length_cons, stc_length r]; omega
theorem stc_get : ∀ (l : List Stp) (k : Nat) (h : k < l.length), (stc l)[k * 6]? = some (.int .i64 l[k].kind) ∧ (stc l)[k * 6 + 1]? = some (.int .i64 l[k].which) ∧ (stc l)[k * 6 + 2]? = some (.string (bs l[k].a.pkg)) ∧ (stc l)[k * 6 + 3]? = some (.string (bs l[k].a.name)) ∧ (stc l)[k * 6 + 4]? = some (.string (bs l[k].b.pkg)) ∧ (stc l)[k * 6 + 5]? = some (.string (bs l[k].b.name))
  | f :: r, 0, _ => ⟨rfl, rfl, rfl, rfl, rfl, rfl⟩
  | f :: r, k + 1, h => by
    have ih := stc_get r k (by simpa using h)
    rw [show (k + 1) * 6 = k * 6 + 6 by omega]
    simp only [stc, List.getElem_cons_succ]
    exact ⟨ih.1, ih.2.1, ih.2.2.1, ih.2.2.2.1, ih.2.2.2.2.1, ih.2.2.2.2.2⟩
/-- a slice of steps reads as a list -/
def TS6 (w : World) (v : Value) (l : List Stp) : Prop :=
  ((∃ a c, v = .slice a 0 c) ∧ l = []) ∨
  ∃ b off cap, v = .slice (some ⟨b, off, none⟩) l.length cap ∧ l.length ≤ cap ∧ b < w.heap.size ∧ ∀ i u, (stc l)[i]? = some u → w.cell? ⟨b, off + i, none⟩ = some u
theorem TS6.form {w : World} {v : Value} {l : List Stp} (h : TS6 w v l) : ∃ a c, v = .slice a l.length c := by
  rcases h with ⟨⟨a, c, rfl⟩, rfl⟩ | ⟨b, off, cap, rfl, hc, hlt, hcell⟩
  · exact ⟨a, c, rfl⟩
  · exact ⟨_, cap, rfl⟩
theorem TS6.at {w : World} {a : Option Addr} {c n : Nat} {l : List Stp} (h : TS6 w (.slice a n c) l) {k : Nat} (hk : k < l.length) : ∃ b off, a = some ⟨b, off, none⟩ ∧ b < w.heap.size ∧ ∀ wr, Below w.heap.size w wr →
    wr.cell? ⟨b, off + k * 6, none⟩ = some (.int .i64 l[k].kind) ∧ wr.cell? ⟨b, off + k * 6 + 1, none⟩ = some (.int .i64 l[k].which) ∧ wr.cell? ⟨b, off + k * 6 + 2, none⟩ = some (.string (bs l[k].a.pkg)) ∧ wr.cell? ⟨b, off + k * 6 + 3, none⟩ = some (.string (bs l[k].a.name)) ∧ wr.cell? ⟨b, off + k * 6 + 4, none⟩ = some (.string (bs l[k].b.pkg)) ∧ wr.cell? ⟨b, off + k * 6 + 5, none⟩ = some (.string (bs l[k].b.name)) := by
  rcases h with ⟨_, rfl⟩ | ⟨b, off, cap, e, hc, hlt, hcell⟩
  · simp at hk
  · injection e with e1 e2 e3
    subst e1
    refine ⟨b, off, rfl, hlt, fun wr hb => ?_⟩
    have hr : ∀ o, wr.cell? ⟨b, o, none⟩ = w.cell? ⟨b, o, none⟩ := fun o => hb.cell (p := ⟨b, o, none⟩) hlt
    obtain ⟨c0, c1, c2, c3, c4, c5⟩ := stc_get l k hk
    simp only [hr, Nat.add_assoc]
    exact ⟨hcell _ _ c0, hcell _ _ c1, hcell _ _ c2, hcell _ _ c3, hcell _ _ c4, hcell _ _ c5⟩
/-- what a machine has -/
structure SSm (l : List Stp) : Prop where
  len : l.length ≤ 4194304
  each : ∀ s ∈ l, Lu s.a ∧ Lu s.b ∧ -9223372036854775808 ≤ s.kind ∧ s.kind ≤ 9223372036854775807
end Go.Proofs.Ytjohhmfncemknaa

namespace Go.Proofs.Ytjohhmfncemknaa
open Go.RowKit Go.Maps

/-- pairs that came in -/
def pc : List (Int × Int) → List Value
  | [] => []
  | t :: r => .int .i64 t.1 :: .int .i64 t.2 :: pc r
theorem pc_length : ∀ l, (pc l).length = l.length * 2
  | [] => rfl
  | f :: r => by simp only [pc, List.length_cons, pc_length r]; omega
theorem pc_get : ∀ (l : List (Int × Int)) (k : Nat) (h : k < l.length), (pc l)[k * 2]? = some (.int .i64 l[k].1) ∧ (pc l)[k * 2 + 1]? = some (.int .i64 l[k].2)
  | f :: r, 0, _ => ⟨rfl, rfl⟩
  | f :: r, k + 1, h => by
    have ih := pc_get r k (by simpa using h)
    rw [show (k + 1) * 2 = k * 2 + 2 by omega]
    simp only [pc, List.getElem_cons_succ]
    exact ih
def PS (w : World) (v : Value) (l : List (Int × Int)) : Prop :=
  ((∃ a c, v = .slice a 0 c) ∧ l = []) ∨
  ∃ b off cap, v = .slice (some ⟨b, off, none⟩) l.length cap ∧ l.length ≤ cap ∧ b < w.heap.size ∧ ∀ i u, (pc l)[i]? = some u → w.cell? ⟨b, off + i, none⟩ = some u
theorem PS.form {w : World} {v : Value} {l : List (Int × Int)} (h : PS w v l) : ∃ a c, v = .slice a l.length c := by
  rcases h with ⟨⟨a, c, rfl⟩, rfl⟩ | ⟨b, off, cap, rfl, hc, hlt, hcell⟩
  · exact ⟨a, c, rfl⟩
  · exact ⟨_, cap, rfl⟩
theorem PS.at {w : World} {a : Option Addr} {c n : Nat} {l : List (Int × Int)} (h : PS w (.slice a n c) l) {k : Nat} (hk : k < l.length) : ∃ b off, a = some ⟨b, off, none⟩ ∧ b < w.heap.size ∧ ∀ wr, Below w.heap.size w wr →
    wr.cell? ⟨b, off + k * 2, none⟩ = some (.int .i64 l[k].1) ∧ wr.cell? ⟨b, off + k * 2 + 1, none⟩ = some (.int .i64 l[k].2) := by
  rcases h with ⟨_, rfl⟩ | ⟨b, off, cap, e, hc, hlt, hcell⟩
  · simp at hk
  · injection e with e1 e2 e3
    subst e1
    refine ⟨b, off, rfl, hlt, fun wr hb => ?_⟩
    have hr : ∀ o, wr.cell? ⟨b, o, none⟩ = w.cell? ⟨b, o, none⟩ := fun o => hb.cell (p := ⟨b, o, none⟩) hlt
    obtain ⟨c0, c1⟩ := pc_get l k hk
    simp only [hr, Nat.add_assoc]
    exact ⟨hcell _ _ c0, hcell _ _ c1⟩
theorem mod12 (x : Int) : ∃ a : Nat, a < 12 ∧ Int.tmod (bits .and .i64 x 15) 12 = (a : Int) := by
  obtain ⟨h1, h2⟩ := and_15_i x
  refine ⟨(bits .and .i64 x 15 % 12).toNat, by omega, ?_⟩
  rw [Int.tmod_eq_emod_of_nonneg h1]
  omega
/-- the graph, the list and one table -/
structure GY (w W : World) (g : Nat) (lv : Value) (rb : Nat) (N : List Lb) : Prop where
  bel : Below w.heap.size w W
  it : ∃ F ns out, GR W F g ns out ∧ Lnk ns out N [] ∧ (∀ k, F k → w.heap.size ≤ k ∧ k ≠ rb ∧ lv.ownBlock ≠ some k)
  ls : OwnL w.heap.size W lv N
  tr : TB W rb (fun _ _ => false)
  ge : w.heap.size ≤ rb ∧ lv.ownBlock ≠ some rb
theorem GY.gx {w W : World} {g : Nat} {lv : Value} {rb : Nat} (h : GY w W g lv rb LL) : GX w (W.alloc (.cells Try.zeroCells27 27)) g lv rb W.heap.size LL [] (fun _ _ => false) (fun _ _ => false) := by
  obtain ⟨F, ns, out, h1, h2, h3⟩ := h.it
  have hb := balloc W (.cells Try.zeroCells27 27)
  have hs := h.bel.size
  have hl := h.tr.lt
  refine ⟨bstep h.bel hb, ⟨F, ns, out, h1.later hb, h2, fun k hk => ?_⟩, by simp, h.ls.later hb, h.tr.later hb, TB.new W, h.ge.1, hs, by omega, h.ge.2, fun e => ?_⟩
  · obtain ⟨z1, z2, z3⟩ := h3 k hk
    have := h1.lt k hk
    exact ⟨z1, z2, by omega, z3⟩
  · have := (h.ls.lt e).2; omega

set_option maxRecDepth 100000 in
set_option maxHeartbeats 16000000 in
theorem w13 {w W : World} {g lb lo lc0 rb ns sc : Nat} {sa : Option Addr} {L : List (Int × Int)} {lv1 lv2 lv6 lv7 lv8 lv9 lv10 lv11 lv12 lv13 lv14 lv15 lv16 lv17 lv18 lv19 lv20 lv21 lv22 lv23 lv24 lv25 lv26 lv27 lv28 lv29 lv30 lv31 lv32 lv33 lv34 lv35 lv36 lv37 lv38 lv39 lv40 lv41 lv42 lv43 lv44 lv45 lv46 lv47 lv48 lv49 lv50 lv51 lv52 lv53 lv54 lv55 lv56 lv57 lv58 lv59 lv60 lv61 lv62 lv63 lv64 lv65 lv66 lv67 lv68 lv69 lv70 lv71 lv72 lv73 lv74 lv75 lv76 lv77 lv78 lv79 lv80 lv81 lv82 lv83 lv84 lv85 lv86 lv87 lv88 lv89 lv90 lv91 lv92 lv93 lv94 lv95 lv96 lv97 lv98 lv99 lv100 lv101 lv102 lv103 lv104 lv105 lv106 lv107 lv108 lv109 lv110 lv111 lv112 lv113 lv114 lv115 lv116 lv117 lv118 lv119 lv120 lv121 lv122 lv123 lv124 lv125 lv126 lv127 lv128 lv129 lv130 lv131 lv132 lv133 lv134 lv135 lv136 lv137 lv138 lv139 lv140 lv141 lv142 lv143 lv144 lv145 lv146 lv147 lv148 lv149 lv150 lv151 lv152 lv153 lv154 lv155 lv156 lv157 lv158 lv159 lv160 lv161 lv162 lv163 lv164 lv165 lv166 lv167 lv168 lv169 lv170 lv171 lv172 lv173 lv174 lv175 lv176 lv177 lv178 lv179 lv180 lv181 lv182 lv183 lv184 lv185 lv186 lv187 lv188 lv189 lv190 lv191 lv192 lv193 lv194 lv195 lv196 lv197 lv198 lv199 lv200 lv201 lv202 lv203 lv204 lv205 lv206 lv207 lv208 lv209 lv210 lv211 lv212 lv213 lv214 lv215 lv216 lv217 lv218 lv219 lv220 lv221 lv222 lv223 lv224 lv225 lv226 lv227 lv228 lv229 lv230 lv231 lv232 lv233 lv234 lv235 lv236 lv237 lv238 lv239 lv240 lv241 lv242 lv243 lv244 lv245 lv246 lv247 lv248 lv249 lv250 lv251 lv252 lv253 lv254 lv255 lv256 lv257 lv258 lv259 lv260 lv261 lv262 lv263 lv264 lv265 lv266 lv267 lv268 lv269 lv270 lv271 lv272 lv273 lv274 lv275 lv276 lv277 lv278 lv279 lv280 lv281 lv282 lv283 lv284 lv285 lv286 lv287 lv288 lv289 lv290 lv291 lv292 lv293 lv294 lv295 lv296 lv297 lv298 lv299 lv300 lv301 lv302 lv303 lv304 lv305 lv306 lv307 lv308 lv309 lv310 lv311 lv312 lv313 lv314 lv315 lv316 lv317 lv318 lv319 lv320 lv321 lv322 lv323 lv324 lv325 lv326 lv327 lv328 lv329 lv330 : Value} (X : Hid (GY w W g (.slice (some ⟨lb, lo, none⟩) 12 lc0) rb LL)) (HP : Hid (PS w (.slice sa ns sc) L ∧ L.length = ns)) :
    Code.wp Try.prog (suff 13 (Try.f3.body.getD .skip)) (bodyPost Try.prog Try.f3 (GoodE w)) ⟨#[.slice sa ns sc, lv1, lv2, .pointer (some ⟨g, 0, none⟩), .pointer (some ⟨rb, 0, none⟩), .slice (some ⟨lb, lo, none⟩) 12 lc0, lv6, lv7, lv8, lv9, lv10, lv11, lv12, lv13, lv14, lv15, lv16, lv17, lv18, lv19, lv20, lv21, lv22, lv23, lv24, lv25, lv26, lv27, lv28, lv29, lv30, lv31, lv32, lv33, lv34, lv35, lv36, lv37, lv38, lv39, lv40, lv41, lv42, lv43, lv44, lv45, lv46, lv47, lv48, lv49, lv50, lv51, lv52, lv53, lv54, lv55, lv56, lv57, lv58, lv59, lv60, lv61, lv62, lv63, lv64, lv65, lv66, lv67, lv68, lv69, lv70, lv71, lv72, lv73, lv74, lv75, lv76, lv77, lv78, lv79, lv80, lv81, lv82, lv83, lv84, lv85, lv86, lv87, lv88, lv89, lv90, lv91, lv92, lv93, lv94, lv95, lv96, lv97, lv98, lv99, lv100, lv101, lv102, lv103, lv104, lv105, lv106, lv107, lv108, lv109, lv110, lv111, lv112, lv113, lv114, lv115, lv116, lv117, lv118, lv119, lv120, lv121, lv122, lv123, lv124, lv125, lv126, lv127, lv128, lv129, lv130, lv131, lv132, lv133, lv134, lv135, lv136, lv137, lv138, lv139, lv140, lv141, lv142, lv143, lv144, lv145, lv146, lv147, lv148, lv149, lv150, lv151, lv152, lv153, lv154, lv155, lv156, lv157, lv158, lv159, lv160, lv161, lv162, lv163, lv164, lv165, lv166, lv167, lv168, lv169, lv170, lv171, lv172, lv173, lv174, lv175, lv176, lv177, lv178, lv179, lv180, lv181, lv182, lv183, lv184, lv185, lv186, lv187, lv188, lv189, lv190, lv191, lv192, lv193, lv194, lv195, lv196, lv197, lv198, lv199, lv200, lv201, lv202, lv203, lv204, lv205, lv206, lv207, lv208, lv209, lv210, lv211, lv212, lv213, lv214, lv215, lv216, lv217, lv218, lv219, lv220, lv221, lv222, lv223, lv224, lv225, lv226, lv227, lv228, lv229, lv230, lv231, lv232, lv233, lv234, lv235, lv236, lv237, lv238, lv239, lv240, lv241, lv242, lv243, lv244, lv245, lv246, lv247, lv248, lv249, lv250, lv251, lv252, lv253, lv254, lv255, lv256, lv257, lv258, lv259, lv260, lv261, lv262, lv263, lv264, lv265, lv266, lv267, lv268, lv269, lv270, lv271, lv272, lv273, lv274, lv275, lv276, lv277, lv278, lv279, lv280, lv281, lv282, lv283, lv284, lv285, lv286, lv287, lv288, lv289, lv290, lv291, lv292, lv293, lv294, lv295, lv296, lv297, lv298, lv299, lv300, lv301, lv302, lv303, lv304, lv305, lv306, lv307, lv308, lv309, lv310, lv311, lv312, lv313, lv314, lv315, lv316, lv317, lv318, lv319, lv320, lv321, lv322, lv323, lv324, lv325, lv326, lv327, lv328, lv329, lv330], []⟩ W := by
  conv => arg 2; whnf
  refine wp_seq_k fun K hK => ?_
  have HK : Hid _ := hK
  clear hK
  go_wp2_with fail
  refine HK.out _ _ ?_
  clear HK K
  have X1 : Hid (GX w (W.alloc (.cells Try.zeroCells27 27)) g (.slice (some ⟨lb, lo, none⟩) 12 lc0) rb W.heap.size LL [] (fun _ _ => false) (fun _ _ => false)) := X.out.gx
  generalize W.alloc (.cells Try.zeroCells27 27) = W1 at *
  generalize W.heap.size = db at *
  refine wp_seq_k fun K hK => ?_
  have HK : Hid _ := hK
  clear hK X
  go_wp2_with fail
  go_loopw [8] (fun iv wr => ∃ (k : Nat) (E : List Ee) (D : Nat → Nat → Bool), k ≤ ns ∧ k ≤ 100 ∧ iv = .int .i64 k ∧ GX w wr g (.slice (some ⟨lb, lo, none⟩) 12 lc0) rb db LL E D D ∧ ED E D) (fun iv _ => 100 - (intOf iv).toNat)
  case atStart => exact ⟨0, [], fun _ _ => false, by omega, by omega, rfl, X1.out, ED.new⟩
  case round =>
    obtain ⟨k, E, D, hk, hk1, rfl, hgx, hed⟩ := hrel
    have X5 : Hid (GX w wr g (.slice (some ⟨lb, lo, none⟩) 12 lc0) rb db LL E D D ∧ ED E D) := ⟨hgx, hed⟩
    clear hgx hed X1
    by_cases hlt : k < ns
    · have k1 : (k : Int) < (ns : Int) := by omega
      have k2 : (0 : Int) ≤ (k : Int) := by omega
      by_cases h100 : k < 100
      · have k3 : (k : Int) < 100 := by omega
        obtain ⟨eb, eo, ee, hebw, hcs⟩ := PS.at HP.out.1 (k := k) (by rw [HP.out.2]; exact hlt)
        subst ee
        obtain ⟨A, hA⟩ : ∃ A, (L[k]'(by rw [HP.out.2]; exact hlt)).1 = A := ⟨_, rfl⟩
        obtain ⟨B, hB⟩ : ∃ B, (L[k]'(by rw [HP.out.2]; exact hlt)).2 = B := ⟨_, rfl⟩
        rw [hA, hB] at hcs
        clear hA hB
        obtain ⟨c0, c1⟩ := hcs wr X5.out.1.bel
        clear hcs
        obtain ⟨a, ha, hae⟩ := mod12 A
        obtain ⟨b, hb, hbe⟩ := mod12 B
        go_wp2_with fail
        go_quiet (fail)
        clear c0 c1 hae hbe
        have HB4 : Hid (Below wr.heap.size wr (wr.drewN nq)) := bd wr nq
        generalize wr.drewN nq = w4 at *
        have X6 : Hid (GX w w4 g (.slice (some ⟨lb, lo, none⟩) 12 lc0) rb db LL E D D) := X5.out.1.later HB4.out
        obtain ⟨p, n, hpn⟩ : ∃ p n, lab a = ⟨p, n⟩ := ⟨_, _, rfl⟩
        obtain ⟨q, m, hqm⟩ : ∃ q m, lab b = ⟨q, m⟩ := ⟨_, _, rfl⟩
        have HSD : Hid (∀ W', LS W' (.slice (some ⟨lb, lo, none⟩) 12 lc0) LL → W'.cell? ⟨lb, lo + a * 2, none⟩ = some (.string (bs p)) ∧ W'.cell? ⟨lb, lo + a * 2 + 1, none⟩ = some (.string (bs n)) ∧ W'.cell? ⟨lb, lo + b * 2, none⟩ = some (.string (bs q)) ∧ W'.cell? ⟨lb, lo + b * 2 + 1, none⟩ = some (.string (bs m))) := fun W' h => by
          obtain ⟨b1, o1, e1, _, h1, h2⟩ := LS.at h (Below.refl _ _) (k := a) (by rw [LL_len]; exact ha)
          obtain ⟨b2, o2, e2, _, h3, h4⟩ := LS.at h (Below.refl _ _) (k := b) (by rw [LL_len]; exact hb)
          injection e1 with e1
          injection e1 with e11 e12 _
          injection e2 with e2
          injection e2 with e21 e22 _
          subst e11 e12 e21 e22
          rw [LL_get, hpn] at h1 h2
          rw [LL_get, hqm] at h3 h4
          exact ⟨h1, h2, h3, h4⟩
        have HC : Hid (Calls Try.prog 9 #[.pointer (some ⟨g, 0, none⟩), (.agg #[.string (bs p), .string (bs n)]), (.agg #[.string (bs q), .string (bs m)])] w4.drew fun e w1 => e = .returned (.tuple #[]) ∧ GX w w1 g (.slice (some ⟨lb, lo, none⟩) 12 lc0) rb db LL (addE E (lab a, lab b)) D D) := by
          have h := X6.out.edge (bd w4 1) ha hb
          rw [hpn, hqm] at h ⊢
          exact h
        have HED : Hid (ED (addE E (lab a, lab b)) (upd D a b true)) := X5.out.2.add ha hb
        clear hpn hqm
        obtain ⟨s1, s2, s3, s4⟩ := HSD.out w4 X6.out.ls.rs
        have a1 : (a : Int) < 12 := by omega
        have a2 : (0 : Int) ≤ (a : Int) := by omega
        have b1 : (b : Int) < 12 := by omega
        have b2 : (0 : Int) ≤ (b : Int) := by omega
        go_wp2_with fail
        go_region_held3 (fun W' => W'.cell? ⟨lb, lo + a * 2, none⟩ = some (.string (bs p)) ∧ W'.cell? ⟨lb, lo + a * 2 + 1, none⟩ = some (.string (bs n)) ∧ W'.cell? ⟨lb, lo + b * 2, none⟩ = some (.string (bs q)) ∧ W'.cell? ⟨lb, lo + b * 2 + 1, none⟩ = some (.string (bs m))) (first | (with_reducible exact S5.out) | go_keep) (first | (go_at_call 9; (with_reducible refine HC.out.mono ?_); rintro e w5 ⟨rfl, hg5⟩; have X7 : Hid (GX w w5 g (.slice (some ⟨lb, lo, none⟩) 12 lc0) rb db LL (addE E (lab a, lab b)) D D) := hg5; have S5 : Hid (w5.cell? ⟨lb, lo + a * 2, none⟩ = some (.string (bs p)) ∧ w5.cell? ⟨lb, lo + a * 2 + 1, none⟩ = some (.string (bs n)) ∧ w5.cell? ⟨lb, lo + b * 2, none⟩ = some (.string (bs q)) ∧ w5.cell? ⟨lb, lo + b * 2 + 1, none⟩ = some (.string (bs m))) := HSD.out w5 hg5.ls.rs; clear hg5))
        clear s1 s2 s3 s4
        have d1 := X7.out.td.cell ha hb
        have d2 := X7.out.td.soft (a * 12 + b)
        have d3 := (X7.out.setD ha hb true).tr.cell ha hb
        have d4 := (X7.out.setD ha hb true).tr.soft (a * 12 + b)
        go_wp2_with fail
        go_roundw
        case rel => exact ⟨k + 1, _, _, by omega, by omega, by go_num, (X7.out.setD ha hb true).setR ha hb true, HED.out⟩
        case measure => simp [intOf]; omega
      · obtain rfl : k = 100 := by omega
        go_wp2_with fail
        refine HK.out _ _ ?_
        clear HK
        exact w21 X5.out.1 X5.out.2
    · obtain rfl : ns = k := by omega
      go_wp2_with fail
      refine HK.out _ _ ?_
      clear HK
      exact w21 X5.out.1 X5.out.2
end Go.Proofs.Ytjohhmfncemknaa
