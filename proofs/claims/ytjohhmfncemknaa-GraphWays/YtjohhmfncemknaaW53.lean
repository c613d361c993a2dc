/-
  The law of ways: the order, one by one.
-/
import Derived.Test.YtjohhmfncemknaaWm
namespace Go.Proofs.Ytjohhmfncemknaa
open Go.RowKit Go.Maps

theorem TW.congr {W : World} {b : Nat} {t t' : Nat → Bool} (h : TW W b t) (e : ∀ j, j < 12 → t j = t' j) : TW W b t' := by
  obtain ⟨cs, h1, h2, h3⟩ := h
  exact ⟨cs, h1, h2, fun j hj => by rw [← e j hj]; exact h3 j hj⟩
/-- the best that was found from m on -/
def Bst (D : Nat → Nat → Bool) (t : Nat → Bool) (m : Nat) (v : Value) : Prop :=
  (v = .int .i64 (-1) ∧ ∀ j, m ≤ j → j < 12 → rdyT D t j 12 = false) ∨ ∃ b : Nat, v = .int .i64 b ∧ m ≤ b ∧ b < 12 ∧ rdyT D t b 12 = true ∧ ∀ j, m ≤ j → j < b → rdyT D t j 12 = false
theorem Bst.hit {D : Nat → Nat → Bool} {t : Nat → Bool} {m : Nat} (hm : m < 12) (h : rdyT D t m 12 = true) : Bst D t m (.int .i64 m) := .inr ⟨m, rfl, Nat.le_refl _, hm, h, fun j h1 h2 => by omega⟩
theorem Bst.miss {D : Nat → Nat → Bool} {t : Nat → Bool} {m : Nat} {v : Value} (h : rdyT D t m 12 = false) (hb : Bst D t (m + 1) v) : Bst D t m v := by
  rcases hb with ⟨rfl, hb⟩ | ⟨b, rfl, h1, h2, h3, h4⟩
  · refine .inl ⟨rfl, fun j hj h12 => ?_⟩
    by_cases e : j = m
    · subst e; exact h
    · exact hb j (by omega) h12
  · refine .inr ⟨b, rfl, by omega, h2, h3, fun j hj hjb => ?_⟩
    by_cases e : j = m
    · subst e; exact h
    · exact h4 j (by omega) hjb
theorem Bst.least {D : Nat → Nat → Bool} {t : Nat → Bool} {v : Value} {b : Nat} (hb : Bst D t 0 v) (h1 : b < 12) (h2 : rdyT D t b 12 = true) (h3 : ∀ j, j < b → rdyT D t j 12 = false) : v = .int .i64 b := by
  rcases hb with ⟨rfl, hb⟩ | ⟨c, rfl, h4, h5, h6, h7⟩
  · rw [hb b (by omega) h1] at h2; cases h2
  · have : b = c := by
      rcases Nat.lt_trichotomy b c with h | h | h
      · rw [h7 b (by omega) h] at h2; cases h2
      · exact h
      · rw [h3 c h] at h6; cases h6
    rw [this]
theorem told_next {L : List Lb} {i b : Nat} (hi : i < L.length) (hb : b < 12) (e : L[i] = lab b) {j : Nat} (hj : j < 12) : (if j = b then true else decide (lab j ∈ L.take i)) = decide (lab j ∈ L.take (i + 1)) := by
  rw [List.take_succ_eq_append_getElem hi, e]
  by_cases h : j = b
  · subst h; simp
  · have : lab j ≠ lab b := fun k => h (lab_inj j hj b hb k)
    rw [if_neg h]
    simp [this]

set_option maxRecDepth 100000 in
set_option maxHeartbeats 16000000 in
theorem w53 {w W : World} {la oa : Option Addr} {lc0 on oc db : Nat} {ok : Bool} {E : List Ee} {D : Nat → Nat → Bool} {lv0 lv1 lv2 lv3 lv4 lv6 lv8 lv9 lv10 lv11 lv12 lv13 lv14 lv15 lv16 lv17 lv18 lv19 lv20 lv23 lv24 lv25 lv26 lv27 lv28 lv29 lv30 lv31 lv32 lv33 lv34 lv35 lv36 lv37 lv38 lv39 lv40 lv41 lv42 lv43 lv44 lv45 lv46 lv47 lv48 lv49 lv50 lv51 lv52 lv53 lv54 lv55 lv56 lv57 lv58 lv59 lv60 lv61 lv62 lv63 lv64 lv65 lv66 lv67 lv68 lv69 lv70 lv71 lv72 lv73 lv74 lv75 lv76 lv77 lv78 lv79 lv80 lv81 lv82 lv83 lv84 lv85 lv86 lv87 lv88 lv89 lv90 lv91 lv92 lv93 lv94 lv95 lv96 lv97 lv98 lv99 lv100 lv101 lv102 lv103 lv104 lv105 lv106 lv107 lv108 lv109 lv110 lv111 lv112 lv113 lv114 lv115 lv116 lv117 lv118 lv119 lv120 lv121 lv122 lv123 lv124 lv125 lv126 lv127 lv128 lv129 lv130 lv131 lv132 lv133 lv134 lv135 lv136 lv137 lv138 lv139 lv140 lv141 lv142 lv143 lv144 lv145 lv146 lv147 lv148 lv149 lv150 lv151 lv152 lv153 lv154 lv155 lv156 lv157 lv158 lv159 lv160 lv161 lv162 lv163 lv164 lv165 lv166 lv167 lv168 lv169 lv170 lv171 lv172 lv173 lv174 lv175 lv176 lv177 lv178 lv179 lv180 lv181 lv182 lv183 lv184 lv185 lv186 lv187 lv188 lv189 lv190 lv191 lv192 lv193 lv194 lv195 lv196 lv197 lv198 lv199 lv200 lv201 lv202 lv203 lv204 lv205 lv206 lv207 lv208 lv209 lv210 lv211 lv212 lv213 lv214 lv215 lv216 lv217 lv218 lv219 lv220 lv221 lv222 lv223 lv224 lv225 lv226 lv227 lv228 lv229 lv230 lv231 lv232 lv233 lv234 lv235 lv236 lv237 lv238 lv239 lv240 lv241 lv242 lv243 lv244 lv245 lv246 lv247 lv248 lv249 lv250 lv251 lv252 lv253 lv254 lv255 lv256 lv257 lv258 lv259 lv260 lv261 lv262 lv263 lv264 lv265 lv266 lv267 lv268 lv269 lv270 lv271 lv272 lv273 lv274 lv275 lv276 lv277 lv278 lv279 lv280 lv281 lv282 lv283 lv284 lv285 lv286 lv287 lv288 lv289 lv290 lv291 lv292 lv293 lv294 lv295 lv296 lv297 lv298 lv299 lv300 lv301 lv302 lv303 lv304 lv305 lv306 lv307 lv308 lv309 lv310 lv311 lv312 lv313 lv314 lv315 lv316 lv317 lv318 lv319 lv320 lv321 lv322 lv323 lv324 lv325 lv326 lv327 lv328 lv329 lv330 : Value} (HB : Hid (Below w.heap.size w W)) (HL : Hid (LS W (.slice la 12 lc0) LL)) (HO : Hid (LS W (.slice oa on oc) ((Gs.ord (rs LL) E).getD []))) (HOK : Hid ((Gs.ord (rs LL) E).isSome = ok ∧ ((Gs.ord (rs LL) E).getD []).length = on)) (HD : Hid (TB W db D)) (HE : Hid (ED E D)) :
    Code.wp Try.prog (suff 53 (Try.f3.body.getD .skip)) (bodyPost Try.prog Try.f3 (GoodE w)) ⟨#[lv0, lv1, lv2, lv3, lv4, .slice la 12 lc0, lv6, .pointer (some ⟨db, 0, none⟩), lv8, lv9, lv10, lv11, lv12, lv13, lv14, lv15, lv16, lv17, lv18, lv19, lv20, .slice oa on oc, .bool ok, lv23, lv24, lv25, lv26, lv27, lv28, lv29, lv30, lv31, lv32, lv33, lv34, lv35, lv36, lv37, lv38, lv39, lv40, lv41, lv42, lv43, lv44, lv45, lv46, lv47, lv48, lv49, lv50, lv51, lv52, lv53, lv54, lv55, lv56, lv57, lv58, lv59, lv60, lv61, lv62, lv63, lv64, lv65, lv66, lv67, lv68, lv69, lv70, lv71, lv72, lv73, lv74, lv75, lv76, lv77, lv78, lv79, lv80, lv81, lv82, lv83, lv84, lv85, lv86, lv87, lv88, lv89, lv90, lv91, lv92, lv93, lv94, lv95, lv96, lv97, lv98, lv99, lv100, lv101, lv102, lv103, lv104, lv105, lv106, lv107, lv108, lv109, lv110, lv111, lv112, lv113, lv114, lv115, lv116, lv117, lv118, lv119, lv120, lv121, lv122, lv123, lv124, lv125, lv126, lv127, lv128, lv129, lv130, lv131, lv132, lv133, lv134, lv135, lv136, lv137, lv138, lv139, lv140, lv141, lv142, lv143, lv144, lv145, lv146, lv147, lv148, lv149, lv150, lv151, lv152, lv153, lv154, lv155, lv156, lv157, lv158, lv159, lv160, lv161, lv162, lv163, lv164, lv165, lv166, lv167, lv168, lv169, lv170, lv171, lv172, lv173, lv174, lv175, lv176, lv177, lv178, lv179, lv180, lv181, lv182, lv183, lv184, lv185, lv186, lv187, lv188, lv189, lv190, lv191, lv192, lv193, lv194, lv195, lv196, lv197, lv198, lv199, lv200, lv201, lv202, lv203, lv204, lv205, lv206, lv207, lv208, lv209, lv210, lv211, lv212, lv213, lv214, lv215, lv216, lv217, lv218, lv219, lv220, lv221, lv222, lv223, lv224, lv225, lv226, lv227, lv228, lv229, lv230, lv231, lv232, lv233, lv234, lv235, lv236, lv237, lv238, lv239, lv240, lv241, lv242, lv243, lv244, lv245, lv246, lv247, lv248, lv249, lv250, lv251, lv252, lv253, lv254, lv255, lv256, lv257, lv258, lv259, lv260, lv261, lv262, lv263, lv264, lv265, lv266, lv267, lv268, lv269, lv270, lv271, lv272, lv273, lv274, lv275, lv276, lv277, lv278, lv279, lv280, lv281, lv282, lv283, lv284, lv285, lv286, lv287, lv288, lv289, lv290, lv291, lv292, lv293, lv294, lv295, lv296, lv297, lv298, lv299, lv300, lv301, lv302, lv303, lv304, lv305, lv306, lv307, lv308, lv309, lv310, lv311, lv312, lv313, lv314, lv315, lv316, lv317, lv318, lv319, lv320, lv321, lv322, lv323, lv324, lv325, lv326, lv327, lv328, lv329, lv330], []⟩ W := by
  unfold GoodE
  conv => arg 2; whnf
  obtain ⟨O, hO⟩ : ∃ O, Gs.ord (rs LL) E = O := ⟨_, rfl⟩
  rw [hO] at HO HOK
  rw [LL_rs] at hO
  have HORD : Hid (Gs.ord LL E = O) := hO
  clear hO
  obtain ⟨ok1, ok2⟩ := HOK.out
  cases O with
  | none =>
    simp only [Option.isSome_none, Option.getD_none, List.length_nil] at ok1 ok2
    subst ok1 ok2
    go_wp2_with fail
    go_loopw [24] (fun i wr => i = .int .i64 0 ∧ Below w.heap.size w wr) (fun _ _ => 0)
    case atStart => exact ⟨rfl, bstep HB.out (balloc _ _)⟩
    case round =>
      obtain ⟨rfl, hb⟩ := hrel
      have HB2 : Hid (Below w.heap.size w wr) := hb
      clear hb
      go_wp2_with fail
      go_ret
      exact ⟨rfl, HB2.out⟩
  | some L =>
    simp only [Option.isSome_some, Option.getD_some] at ok1 ok2
    simp only [Option.getD_some] at HO
    have hlen : L.length = 12 := by have := ord_length HORD.out; rw [LL_len] at this; exact this
    rw [hlen] at ok2
    subst ok1 ok2
    have HT : Hid (TW (W.alloc (.cells #[.bool false, .bool false, .bool false, .bool false, .bool false, .bool false, .bool false, .bool false, .bool false, .bool false, .bool false, .bool false] 26)) W.heap.size (fun j => decide (lab j ∈ L.take 0))) := (TW.new W).congr (fun j hj => by simp)
    go_wp2_with fail
    obtain ⟨tb, htb⟩ : ∃ tb, W.heap.size = tb := ⟨_, rfl⟩
    have HTB : Hid (W.heap.size = tb) := htb
    rw [htb] at HT
    rw [htb]
    clear htb
    go_loopw [24] (fun i wr => ∃ k : Nat, i = .int .i64 k ∧ k ≤ 12 ∧ Below W.heap.size W wr ∧ TW wr tb (fun j => decide (lab j ∈ L.take k))) (fun i _ => 12 - (intOf i).toNat)
    case atStart => exact ⟨0, rfl, by omega, balloc _ _, HT.out⟩
    case round =>
      obtain ⟨k, rfl, hk, hb, ht⟩ := hrel
      obtain ⟨t, hte⟩ : ∃ t : Nat → Bool, (fun j => decide (lab j ∈ L.take k)) = t := ⟨_, rfl⟩
      rw [hte] at ht
      have HX : Hid (Below W.heap.size W wr ∧ TW wr tb t ∧ (fun j => decide (lab j ∈ L.take k)) = t) := ⟨hb, ht, hte⟩
      clear hb ht hte HT
      by_cases hlt : k < 12
      · have k1 : (k : Int) < 12 := by omega
        have HNX : Hid (∃ b, b < 12 ∧ L[k]'(by omega) = lab b ∧ rdyT D t b 12 = true ∧ ∀ j, j < b → rdyT D t j 12 = false) := HE.out.least (T := L.take k) (fun j hj => by rw [← HX.out.2.2]; simp) (ord_at HORD.out k (by omega))
        go_wp2_with fail
        go_loopw [25, 26] (fun bv jv wq => ∃ m : Nat, m ≤ 12 ∧ jv = .int .i64 ((m : Int) - 1) ∧ Bst D t m bv ∧ wq = wr) (fun _ jv _ => (intOf jv + 1).toNat)
        case atStart => exact ⟨12, by omega, rfl, .inl ⟨rfl, fun j h1 h2 => by omega⟩, rfl⟩
        case round =>
          obtain ⟨m, hm, rfl, hbst, rfl⟩ := hrel
          have HBS : Hid (Bst D t m u25) := hbst
          clear hbst
          by_cases hm0 : m = 0
          · subst hm0
            obtain ⟨bb, hb12, hLb, hr1, hr2⟩ := HNX.out
            have hbv : u25 = .int .i64 bb := HBS.out.least hb12 hr1 hr2
            subst hbv
            have HFIN : Hid (∀ wz, Below wr.heap.size wr wz → Below W.heap.size W (wz.setCell ⟨tb, bb, none⟩ (.bool true)) ∧ TW (wz.setCell ⟨tb, bb, none⟩ (.bool true)) tb (fun j => decide (lab j ∈ L.take (k + 1)))) := fun wz hz => by
              have h1 := bstep HX.out.1 hz
              refine ⟨below_trans h1 ((Only.set wz tb bb (.bool true)).below h1.size (fun x hx => ?_)), ((HX.out.2.1.later hz).set hb12 true).congr (fun j hj => ?_)⟩
              · have : x = tb := by simpa using hx
                rw [this, ← HTB.out]; exact Nat.le_refl _
              · rw [← told_next (by omega) hb12 hLb hj, ← HX.out.2.2]
            obtain ⟨ob, oo, oe, obw, oc0, oc1⟩ := LS.at HO.out HX.out.1 (k := k) (by omega)
            subst oe
            obtain ⟨lb, lo, le, lbw, l0, l1⟩ := LS.at HL.out HX.out.1 (k := bb) (by rw [LL_len]; exact hb12)
            subst le
            rw [hLb] at oc0 oc1
            rw [LL_get] at l0 l1
            have tc := HX.out.2.1.cell hb12
            have ts := HX.out.2.1.soft bb
            have b1 : ¬ ((bb : Int) < 0) := by omega
            have b2 : (0 : Int) ≤ (bb : Int) := by omega
            have b3 : (bb : Int) < 12 := by omega
            have k2 : (0 : Int) ≤ (k : Int) := by omega
            clear hr1 hr2 hLb
            generalize lab bb = x at oc0 oc1 l0 l1
            obtain ⟨p, n⟩ := x
            simp only at oc0 oc1 l0 l1
            have hq := neq_run'
            have hl : leq ⟨p, n⟩ ⟨p, n⟩ = true := by unfold leq; simp
            go_wp2_with fail
            go_quiet (fail)
            go_wp2_with fail
            go_roundw
            case rel => exact ⟨k + 1, by go_num, by omega, (HFIN.out _ (bd _ _)).1, (HFIN.out _ (bd _ _)).2⟩
            case measure => simp [intOf]; omega
          · obtain ⟨j, rfl⟩ : ∃ j, m = j + 1 := ⟨m - 1, by omega⟩
            have e1 : ((j + 1 : Nat) : Int) - 1 = (j : Int) := by omega
            rw [e1]
            have j1 : ¬ ((j : Int) < 0) := by omega
            have j2 : (0 : Int) ≤ (j : Int) := by omega
            have j3 : (j : Int) < 12 := by omega
            have tc := HX.out.2.1.cell (j := j) (by omega)
            go_wp2_with fail
            go_loopw [27, 28] (fun rv nv wq => ∃ n : Nat, n ≤ 12 ∧ nv = .int .i64 n ∧ rv = .bool (rdyT D t j n) ∧ wq = wr) (fun _ nv _ => 12 - (intOf nv).toNat)
            case atStart => exact ⟨0, by omega, rfl, by rw [rdyT_zero], rfl⟩
            case round =>
              obtain ⟨n, hn, rfl, rfl, rfl⟩ := hrel
              by_cases hn12 : n < 12
              · have n1 : (n : Int) < 12 := by omega
                have n2 : (0 : Int) ≤ (n : Int) := by omega
                have dc := (HD.out.later HX.out.1).cell (i := j) (j := n) (by omega) hn12
                have tc2 := HX.out.2.1.cell (j := n) hn12
                have hs := rdyT_succ D t j n
                clear tc
                have HS : Hid (rdyT D t j (n + 1) = (rdyT D t j n && (!D j n || t n))) := hs
                clear hs
                obtain ⟨r1, h1⟩ : ∃ r1, rdyT D t j n = r1 := ⟨_, rfl⟩
                obtain ⟨r2, h2⟩ : ∃ r2, D j n = r2 := ⟨_, rfl⟩
                obtain ⟨r3, h3⟩ : ∃ r3, t n = r3 := ⟨_, rfl⟩
                rw [h2] at dc
                rw [h3] at tc2
                rw [h1, h2, h3] at HS
                rw [h1]
                clear h1 h2 h3
                cases r1 <;> cases r2 <;> cases r3
                all_goals (go_wp2_with fail; go_roundw)
                all_goals first
                  | (exact ⟨n + 1, by omega, by go_num, by rw [HS.out]; rfl, by first | rfl | trivial⟩)
                  | (simp [intOf]; omega)
                  | (simp [intOf]; done)
              · obtain rfl : n = 12 := by omega
                clear tc
                have HS : Hid (∀ b, rdyT D t j 12 = b → if b = true then Bst D t j (.int .i64 j) else Bst D t j u25) := by
                  intro b hb
                  cases b with
                  | true => rw [if_pos rfl]; exact Bst.hit (by omega) hb
                  | false => rw [if_neg (by simp)]; exact Bst.miss hb HBS.out
                obtain ⟨r1, h1⟩ : ∃ r1, rdyT D t j 12 = r1 := ⟨_, rfl⟩
                have HS1 := HS.out r1 h1
                rw [h1]
                clear h1 HS
                cases r1
                · have HS2 : Hid (Bst D t j u25) := (by simpa using HS1 : Bst D t j u25)
                  clear HS1
                  go_wp2_with fail
                  go_roundw
                  case rel => exact ⟨j, by omega, by go_num, HS2.out, by first | rfl | trivial⟩
                  case measure => first | (simp [intOf]; done) | (simp [intOf]; omega)
                · have HS2 : Hid (Bst D t j (.int .i64 j)) := (by simpa using HS1 : Bst D t j (.int .i64 j))
                  clear HS1
                  go_wp2_with fail
                  go_roundw
                  case rel => exact ⟨j, by omega, by go_num, HS2.out, by first | rfl | trivial⟩
                  case measure => first | (simp [intOf]; done) | (simp [intOf]; omega)
      · obtain rfl : k = 12 := by omega
        go_wp2_with fail
        go_ret
        exact ⟨rfl, bstep HB.out HX.out.1⟩
end Go.Proofs.Ytjohhmfncemknaa
