/-
  The law of ways: from its beginning.
-/
import Derived.Test.YtjohhmfncemknaaJW13
import Derived.Laws.BytesArg
namespace Go.Proofs.Ytjohhmfncemknaa
open Go.RowKit Go.Maps

theorem und29 : Try.prog.underlying 29 = some (.slice 5) := by kernel_rfl
theorem und5 : Try.prog.underlying 5 = some (.int .u8) := by kernel_rfl
theorem und9b : Try.prog.underlying 9 = some .string := by kernel_rfl
theorem conv1 (w : World) (x : UInt8) : (convert 29 9 (.slice (some ⟨w.heap.size, 0, none⟩) 1 1)).run Try.prog (w.alloc (.cells #[.int .u8 x.toNat] 5)) = .ok (.string (bs [x])) (w.alloc (.cells #[.int .u8 x.toNat] 5)) := by
  have e : strOfNums ([x].map fun b => (b.toNat : Int)) = bs [x] := by
    unfold strOfNums bs
    congr 1
    simp
  rw [← e]
  refine run_convert_bytes_arg (P := Try.prog) _ 29 5 und29 und5 w.heap.size 0 1 1 ([x].map fun b => (b.toNat : Int)) (by simp) (fun i hi => ?_) 9 und9b
  rcases i with _ | i
  · simp
  · omega
/-- the graph, a list, a table -/
structure GZ (w W : World) (g : Nat) (lv : Value) (rb : Nat) (N l : List Lb) : Prop where
  bel : Below w.heap.size w W
  it : ∃ F ns out, GR W F g ns out ∧ Lnk ns out N [] ∧ (∀ k, F k → w.heap.size ≤ k ∧ k ≠ rb ∧ lv.ownBlock ≠ some k)
  ls : OwnL w.heap.size W lv l
  tr : TB W rb (fun _ _ => false)
  ge : w.heap.size ≤ rb ∧ lv.ownBlock ≠ some rb
section
variable {w W W' : World} {g : Nat} {lv v' : Value} {rb : Nat} {N l : List Lb} {x : Lb}
theorem GZ.gy (h : GZ w W g lv rb N N) : GY w W g lv rb N := ⟨h.bel, h.it, h.ls, h.tr, h.ge⟩
theorem GZ.later (h : GZ w W g lv rb N l) (hb : Below W.heap.size W W') : GZ w W' g lv rb N l := by
  obtain ⟨F, ns, out, h1, h2, h3⟩ := h.it
  exact ⟨bstep h.bel hb, ⟨F, ns, out, h1.later hb, h2, h3⟩, h.ls.later hb, h.tr.later hb, h.ge⟩
theorem GZ.start {w1 w2 : World} (hb : Below w.heap.size w w1) (h : GR w2 (fun k => w1.heap.size ≤ k ∧ k < w2.heap.size) g [] (fun _ => [])) (hb2 : Below w1.heap.size w1 w2) : GZ w (w2.alloc (.cells Try.zeroCells27 27)) g (.slice none 0 0) w2.heap.size [] [] := by
  have h3 := balloc w2 (.cells Try.zeroCells27 27)
  have s1 := hb.size
  have s2 := hb2.size
  exact ⟨bstep (bstep hb hb2) h3, ⟨_, _, _, h.later h3, Lnk.new, fun k hk => ⟨by omega, by omega, by simp [Value.ownBlock]⟩⟩, OwnL.nil _ _, TB.new w2, by omega, by simp [Value.ownBlock]⟩
theorem GZ.app (h : GZ w W g lv rb N l) (ho : OwnL w.heap.size W' v' (l ++ [x])) (hb : Below w.heap.size W W') (hon : Only lv.ownBlock.toList W W') (hw : v'.ownBlock = lv.ownBlock ∨ ∃ k, v'.ownBlock = some k ∧ W.heap.size ≤ k) : GZ w W' g v' rb N (l ++ [x]) := by
  obtain ⟨F, ns, out, h1, h2, h3⟩ := h.it
  have hst : ∀ k, k < W.heap.size → lv.ownBlock ≠ some k → W'.heap[k]? = W.heap[k]? := fun k hk hn => hon.block k hk (by simpa using hn)
  have hlr := h.tr.lt
  refine ⟨below_trans h.bel hb, ⟨F, ns, out, h1.stay hon.size (fun k hk => hst k (h1.lt k hk) (h3 k hk).2.2), h2, fun k hk => ⟨(h3 k hk).1, (h3 k hk).2.1, ?_⟩⟩, ho, h.tr.stay (hst rb hlr h.ge.2), h.ge.1, ?_⟩
  · rcases hw with e | ⟨j, e, hj⟩
    · rw [e]; exact (h3 k hk).2.2
    · rw [e]
      intro e2
      injection e2 with e2
      have := h1.lt k hk
      omega
  · rcases hw with e | ⟨j, e, hj⟩
    · rw [e]; exact h.ge.2
    · rw [e]
      intro e2
      injection e2 with e2
      omega
theorem GZ.node (h : GZ w W g lv rb N l) (a : Lb) (ha : Lu a) (hz : N.length + 2 ≤ 1000000) :
    Calls Try.prog 8 #[.pointer (some ⟨g, 0, none⟩), a.val] W fun e w1 => e = .returned (.tuple #[]) ∧ GZ w w1 g lv rb (addN N a) l := by
  obtain ⟨F, ns, out, h1, h2, h3⟩ := h.it
  have hl := h1.nlen h2
  have hbs := h.bel.size
  have hlr := h.tr.lt
  refine (node_any h1 a ha (by omega)).mono fun e w1 ⟨k1, k2, k3⟩ => ⟨k1, below_trans h.bel (k3.below hbs (fun k hk => (h3 k hk).1)), ⟨_, _, _, k2, h2.node a, fun k hk => ?_⟩, h.ls.stay (fun k hk => k3.block k (h.ls.lt hk).2 (fun hf => (h3 k hf).2.2 hk)), h.tr.stay (k3.block rb hlr (fun hf => (h3 rb hf).2.1 rfl)), h.ge⟩
  rcases hk with hk | hk
  · exact h3 k hk
  · exact ⟨by omega, by omega, fun e => by have := (h.ls.lt e).2; omega⟩
end

set_option maxRecDepth 100000 in
set_option maxHeartbeats 16000000 in
theorem w8 {w W : World} {g rb ns sc : Nat} {sa : Option Addr} {L : List (Int × Int)} {lv1 lv2 lv6 lv7 lv8 lv9 lv10 lv11 lv12 lv13 lv14 lv15 lv16 lv17 lv18 lv19 lv20 lv21 lv22 lv23 lv24 lv25 lv26 lv27 lv28 lv29 lv30 lv31 lv32 lv33 lv34 lv35 lv36 lv37 lv38 lv39 lv40 lv41 lv42 lv43 lv44 lv45 lv46 lv47 lv48 lv49 lv50 lv51 lv52 lv53 lv54 lv55 lv56 lv57 lv58 lv59 lv60 lv61 lv62 lv63 lv64 lv65 lv66 lv67 lv68 lv69 lv70 lv71 lv72 lv73 lv74 lv75 lv76 lv77 lv78 lv79 lv80 lv81 lv82 lv83 lv84 lv85 lv86 lv87 lv88 lv89 lv90 lv91 lv92 lv93 lv94 lv95 lv96 lv97 lv98 lv99 lv100 lv101 lv102 lv103 lv104 lv105 lv106 lv107 lv108 lv109 lv110 lv111 lv112 lv113 lv114 lv115 lv116 lv117 lv118 lv119 lv120 lv121 lv122 lv123 lv124 lv125 lv126 lv127 lv128 lv129 lv130 lv131 lv132 lv133 lv134 lv135 lv136 lv137 lv138 lv139 lv140 lv141 lv142 lv143 lv144 lv145 lv146 lv147 lv148 lv149 lv150 lv151 lv152 lv153 lv154 lv155 lv156 lv157 lv158 lv159 lv160 lv161 lv162 lv163 lv164 lv165 lv166 lv167 lv168 lv169 lv170 lv171 lv172 lv173 lv174 lv175 lv176 lv177 lv178 lv179 lv180 lv181 lv182 lv183 lv184 lv185 lv186 lv187 lv188 lv189 lv190 lv191 lv192 lv193 lv194 lv195 lv196 lv197 lv198 lv199 lv200 lv201 lv202 lv203 lv204 lv205 lv206 lv207 lv208 lv209 lv210 lv211 lv212 lv213 lv214 lv215 lv216 lv217 lv218 lv219 lv220 lv221 lv222 lv223 lv224 lv225 lv226 lv227 lv228 lv229 lv230 lv231 lv232 lv233 lv234 lv235 lv236 lv237 lv238 lv239 lv240 lv241 lv242 lv243 lv244 lv245 lv246 lv247 lv248 lv249 lv250 lv251 lv252 lv253 lv254 lv255 lv256 lv257 lv258 lv259 lv260 lv261 lv262 lv263 lv264 lv265 lv266 lv267 lv268 lv269 lv270 lv271 lv272 lv273 lv274 lv275 lv276 lv277 lv278 lv279 lv280 lv281 lv282 lv283 lv284 lv285 lv286 lv287 lv288 lv289 lv290 lv291 lv292 lv293 lv294 lv295 lv296 lv297 lv298 lv299 lv300 lv301 lv302 lv303 lv304 lv305 lv306 lv307 lv308 lv309 lv310 lv311 lv312 lv313 lv314 lv315 lv316 lv317 lv318 lv319 lv320 lv321 lv322 lv323 lv324 lv325 lv326 lv327 lv328 lv329 lv330 : Value} (X : Hid (GZ w W g (.slice none 0 0) rb [] [])) (HP : Hid (PS w (.slice sa ns sc) L ∧ L.length = ns)) :
    Code.wp Try.prog (suff 8 (Try.f3.body.getD .skip)) (bodyPost Try.prog Try.f3 (GoodE w)) ⟨#[.slice sa ns sc, lv1, lv2, .pointer (some ⟨g, 0, none⟩), .pointer (some ⟨rb, 0, none⟩), .slice none 0 0, lv6, lv7, lv8, lv9, lv10, lv11, lv12, lv13, lv14, lv15, lv16, lv17, lv18, lv19, lv20, lv21, lv22, lv23, lv24, lv25, lv26, lv27, lv28, lv29, lv30, lv31, lv32, lv33, lv34, lv35, lv36, lv37, lv38, lv39, lv40, lv41, lv42, lv43, lv44, lv45, lv46, lv47, lv48, lv49, lv50, lv51, lv52, lv53, lv54, lv55, lv56, lv57, lv58, lv59, lv60, lv61, lv62, lv63, lv64, lv65, lv66, lv67, lv68, lv69, lv70, lv71, lv72, lv73, lv74, lv75, lv76, lv77, lv78, lv79, lv80, lv81, lv82, lv83, lv84, lv85, lv86, lv87, lv88, lv89, lv90, lv91, lv92, lv93, lv94, lv95, lv96, lv97, lv98, lv99, lv100, lv101, lv102, lv103, lv104, lv105, lv106, lv107, lv108, lv109, lv110, lv111, lv112, lv113, lv114, lv115, lv116, lv117, lv118, lv119, lv120, lv121, lv122, lv123, lv124, lv125, lv126, lv127, lv128, lv129, lv130, lv131, lv132, lv133, lv134, lv135, lv136, lv137, lv138, lv139, lv140, lv141, lv142, lv143, lv144, lv145, lv146, lv147, lv148, lv149, lv150, lv151, lv152, lv153, lv154, lv155, lv156, lv157, lv158, lv159, lv160, lv161, lv162, lv163, lv164, lv165, lv166, lv167, lv168, lv169, lv170, lv171, lv172, lv173, lv174, lv175, lv176, lv177, lv178, lv179, lv180, lv181, lv182, lv183, lv184, lv185, lv186, lv187, lv188, lv189, lv190, lv191, lv192, lv193, lv194, lv195, lv196, lv197, lv198, lv199, lv200, lv201, lv202, lv203, lv204, lv205, lv206, lv207, lv208, lv209, lv210, lv211, lv212, lv213, lv214, lv215, lv216, lv217, lv218, lv219, lv220, lv221, lv222, lv223, lv224, lv225, lv226, lv227, lv228, lv229, lv230, lv231, lv232, lv233, lv234, lv235, lv236, lv237, lv238, lv239, lv240, lv241, lv242, lv243, lv244, lv245, lv246, lv247, lv248, lv249, lv250, lv251, lv252, lv253, lv254, lv255, lv256, lv257, lv258, lv259, lv260, lv261, lv262, lv263, lv264, lv265, lv266, lv267, lv268, lv269, lv270, lv271, lv272, lv273, lv274, lv275, lv276, lv277, lv278, lv279, lv280, lv281, lv282, lv283, lv284, lv285, lv286, lv287, lv288, lv289, lv290, lv291, lv292, lv293, lv294, lv295, lv296, lv297, lv298, lv299, lv300, lv301, lv302, lv303, lv304, lv305, lv306, lv307, lv308, lv309, lv310, lv311, lv312, lv313, lv314, lv315, lv316, lv317, lv318, lv319, lv320, lv321, lv322, lv323, lv324, lv325, lv326, lv327, lv328, lv329, lv330], []⟩ W := by
  conv => arg 2; whnf
  refine wp_seq_k fun K hK => ?_
  have HK : Hid _ := hK
  clear hK
  go_wp2_with fail
  go_loopw [5, 6] (fun lv iv wr => ∃ k : Nat, k ≤ 12 ∧ iv = .int .i64 k ∧ GZ w wr g lv rb (LL.take k) (LL.take k)) (fun _ iv _ => 12 - (intOf iv).toNat)
  case atStart => exact ⟨0, by omega, rfl, X.out⟩
  case round =>
    obtain ⟨k, hk, rfl, hgz⟩ := hrel
    obtain ⟨la, lc0, hle⟩ := hgz.ls.form
    rw [List.length_take, LL_len, Nat.min_eq_left hk] at hle
    subst hle
    have X5 : Hid (GZ w wr g (.slice la k lc0) rb (LL.take k) (LL.take k)) := hgz
    clear hgz X
    by_cases hlt : k < 12
    · have k1 : (k : Int) < 12 := by omega
      have k2 : (0 : Int) ≤ (k : Int) := by omega
      have HTK : Hid (LL.take k ++ [lab k] = LL.take (k + 1) ∧ addN (LL.take k) (lab k) = LL.take (k + 1)) := by
        refine ⟨?_, addN_take k hlt⟩
        rw [List.take_succ_eq_append_getElem (by rw [LL_len]; exact hlt), LL_get]
      obtain ⟨q, hq⟩ : ∃ q, k / 4 = q := ⟨_, rfl⟩
      obtain ⟨r, hr⟩ : ∃ r, k % 4 = r := ⟨_, rfl⟩
      have q1 : Int.tdiv (k : Int) 4 = (q : Int) := by rw [← hq, Int.tdiv_eq_ediv_of_nonneg (by omega)]; omega
      have r1 : Int.tmod (k : Int) 4 = (r : Int) := by rw [← hr, Int.tmod_eq_emod_of_nonneg (by omega)]; omega
      have q2 : q < 4 := by omega
      have r2 : r < 4 := by omega
      obtain ⟨x, hxe⟩ : ∃ x, UInt8.ofNat (97 + q) = x := ⟨_, rfl⟩
      obtain ⟨y, hye⟩ : ∃ y, UInt8.ofNat (97 + r) = y := ⟨_, rfl⟩
      have hx : x.toNat = 97 + q := by rw [← hxe]; simp; omega
      have hy : y.toNat = 97 + r := by rw [← hye]; simp; omega
      have hlab : lab k = ⟨[x], [y]⟩ := by unfold lab; rw [hq, hr, hxe, hye]
      rw [hlab] at HTK
      have hc1 := conv1 wr x
      have hc2 := conv1 (wr.alloc (.cells #[.int .u8 (97 + (q : Int))] 5)) y
      rw [hx] at hc1
      rw [hy] at hc2
      simp only [Int.natCast_add, Int.cast_ofNat_Int] at hc1 hc2
      have hsz : (wr.alloc (.cells #[.int .u8 (97 + (q : Int))] 5)).heap.size = wr.heap.size + 1 := by simp
      rw [hsz] at hc2
      have HLX : Hid (Lu ⟨[x], [y]⟩) := lu_small (by simp) (by simp)
      clear hlab hq hr hxe hye hx hy hsz
      have HB6 : Hid (Below wr.heap.size wr ((wr.alloc (.cells #[.int .u8 (97 + (q : Int))] 5)).alloc (.cells #[.int .u8 (97 + (r : Int))] 5))) := bstep (balloc _ _) (balloc _ _)
      have X6 : Hid (GZ w ((wr.alloc (.cells #[.int .u8 (97 + (q : Int))] 5)).alloc (.cells #[.int .u8 (97 + (r : Int))] 5)) g (.slice la k lc0) rb (LL.take k) (LL.take k)) := X5.out.later HB6.out
      have HSZ2 : Hid (((wr.alloc (.cells #[.int .u8 (97 + (q : Int))] 5)).alloc (.cells #[.int .u8 (97 + (r : Int))] 5)).heap.size = wr.heap.size + 1 + 1) := by
        show ((wr.alloc (.cells #[.int .u8 (97 + (q : Int))] 5)).alloc (.cells #[.int .u8 (97 + (r : Int))] 5)).heap.size = wr.heap.size + 1 + 1
        simp
      have HLEN : Hid ((LL.take k).length + 1 ≤ 100000000) := by
        show (LL.take k).length + 1 ≤ 100000000
        rw [List.length_take, LL_len]; omega
      go_upto_region 12 with (first | (at_builtin; refine app_L1 und_L ⟨[x], [y]⟩ X6.out.ls HLEN.out X6.out.bel.size rfl (.tmp 38) (.tmp 52) rfl rfl (by rw [HSZ2.out]; rfl) ?_; intro v1 w7 ho7 hb7 hon7 hs7 hwh7))
      have hgz := X6.out.app ho7 hb7 hon7 hwh7
      clear ho7 hb7 hon7 hs7 hwh7 hc1 hc2
      rw [HTK.out.1] at hgz
      obtain ⟨a1, cc1, hve⟩ := hgz.ls.form
      have hl2 : (LL.take (k + 1)).length = k + 1 := by rw [List.length_take, LL_len]; omega
      rw [hl2] at hve
      subst hve
      have X7 : Hid (GZ w w7 g (.slice a1 (k + 1) cc1) rb (LL.take k) (LL.take (k + 1))) := hgz
      clear hgz
      obtain ⟨b2, o2, e2, _, s1, s2⟩ := LS.at X7.out.ls.rs (Below.refl _ _) (k := k) (by rw [hl2]; omega)
      subst e2
      have hge : (LL.take (k + 1))[k]'(by rw [hl2]; omega) = ⟨[x], [y]⟩ := by
        have h := HTK.out.1
        have : (LL.take k ++ [(⟨[x], [y]⟩ : Lb)])[k]'(by rw [h, hl2]; omega) = ⟨[x], [y]⟩ := by
          rw [List.getElem_append_right (by rw [List.length_take, LL_len]; omega)]
          simp [List.length_take, LL_len]
        simpa only [h] using this
      rw [hge] at s1 s2
      simp only at s1 s2
      clear hge hl2
      have HN : Hid (Calls Try.prog 8 #[.pointer (some ⟨g, 0, none⟩), .agg #[.string (bs [x]), .string (bs [y])]] w7 fun e w1 => e = .returned (.tuple #[]) ∧ GZ w w1 g (.slice (some ⟨b2, o2, none⟩) (k + 1) cc1) rb (LL.take (k + 1)) (LL.take (k + 1))) := by
        have h := X7.out.node ⟨[x], [y]⟩ HLX.out (by rw [List.length_take, LL_len]; omega)
        rw [HTK.out.2] at h
        exact h
      have k3 : (k : Int) < (k : Int) + 1 := by omega
      go_wp2_with fail
      with_reducible refine HN.out.mono ?_
      rintro e w8 ⟨rfl, hg8⟩
      have X8 : Hid (GZ w w8 g (.slice (some ⟨b2, o2, none⟩) (k + 1) cc1) rb (LL.take (k + 1)) (LL.take (k + 1))) := hg8
      clear hg8 s1 s2
      go_wp2_with fail
      go_roundw
      case rel => exact ⟨k + 1, by omega, by go_num, X8.out⟩
      case measure => simp [intOf]; omega
    · obtain rfl : k = 12 := by omega
      have h12 : LL.take 12 = LL := List.take_of_length_le (by rw [LL_len]; omega)
      rw [h12] at X5
      obtain ⟨b2, o2, e2, _, _, _⟩ := LS.at X5.out.ls.rs (Below.refl _ _) (k := 0) (by rw [LL_len]; omega)
      subst e2
      clear h12
      go_wp2_with fail
      refine HK.out _ _ ?_
      clear HK
      exact w13 X5.out.gy HP

set_option maxRecDepth 100000 in
set_option maxHeartbeats 16000000 in
theorem gw_law {w : World} {vs : Value} {L : List (Int × Int)} (hp : PS w vs L) : Calls Try.prog 3 #[vs] w (GoodE w) := by
  obtain ⟨sa, sc, rfl⟩ := hp.form
  obtain ⟨ns, hn⟩ : ∃ ns, L.length = ns := ⟨_, rfl⟩
  rw [hn] at hp ⊢
  have HP : Hid (PS w (.slice sa ns sc) L ∧ L.length = ns) := ⟨hp, hn⟩
  clear hp hn
  go_enter Try.func3, Try.ntmps3
  refine wp_seq_k fun K hK => ?_
  have HK : Hid _ := hK
  clear hK
  go_wp2_with fail
  refine HK.out _ _ ?_
  clear HK K
  refine wp_seq_k fun K hK => ?_
  have HK : Hid _ := hK
  clear hK
  go_wp2_with fail
  refine (head_any w).mono ?_
  rintro e w1 ⟨rfl, hb⟩
  have HB1 : Hid (Below w.heap.size w w1) := hb
  clear hb
  go_wp2_with fail
  refine HK.out _ _ ?_
  clear HK K
  refine wp_seq_k fun K hK => ?_
  have HK : Hid _ := hK
  clear hK
  go_wp2_with fail
  refine (new_any w1).mono ?_
  rintro e w2 ⟨g, rfl, hg, hb⟩
  have X2 : Hid (GZ w (w2.alloc (.cells Try.zeroCells27 27)) g (.slice none 0 0) w2.heap.size [] []) := GZ.start HB1.out hg hb
  clear hg hb HB1
  go_wp2_with fail
  refine HK.out _ _ ?_
  clear HK K
  refine wp_seq_k fun K hK => ?_
  have HK : Hid _ := hK
  clear hK
  go_wp2_with fail
  refine HK.out _ _ ?_
  clear HK K
  refine wp_seq_k fun K hK => ?_
  have HK : Hid _ := hK
  clear hK
  go_wp2_with fail
  refine HK.out _ _ ?_
  clear HK K
  refine wp_seq_k fun K hK => ?_
  have HK : Hid _ := hK
  clear hK
  go_wp2_with fail
  refine HK.out _ _ ?_
  clear HK K
  exact w8 X2 HP
end Go.Proofs.Ytjohhmfncemknaa
