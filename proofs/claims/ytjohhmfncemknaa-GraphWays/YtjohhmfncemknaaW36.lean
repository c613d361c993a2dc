/-
  The law of ways: what is reached from each.
-/
import Derived.Test.YtjohhmfncemknaaW50
import Derived.Deep.DeepCutAuto
namespace Go.Proofs.Ytjohhmfncemknaa
open Go.RowKit Go.Maps

/-- all that there is when the ways are known -/
structure WS (w W : World) (g bk tw lb lo lc0 rb db : Nat) (E : List Ee) (R D : Nat → Nat → Bool) : Prop where
  bel : Below w.heap.size w W
  pg : PG w.heap.size W g LL E
  pb : ∃ B, PG B W bk LL (Gs.flp E)
  pt : ∃ B, PG B W tw LL E
  ls : LS W (.slice (some ⟨lb, lo, none⟩) 12 lc0) LL
  tr : TB W rb R
  td : TB W db D
theorem WS.later {w W W' : World} {g bk tw lb lo lc0 rb db : Nat} {E : List Ee} {R D : Nat → Nat → Bool} (h : WS w W g bk tw lb lo lc0 rb db E R D) (hb : Below W.heap.size W W') : WS w W' g bk tw lb lo lc0 rb db E R D :=
  ⟨bstep h.bel hb, h.pg.later hb, by obtain ⟨B, k⟩ := h.pb; exact ⟨B, k.later hb⟩, by obtain ⟨B, k⟩ := h.pt; exact ⟨B, k.later hb⟩, h.ls.later hb, h.tr.later hb, h.td.later hb⟩
theorem WS.lcell {w W : World} {g bk tw lb lo lc0 rb db : Nat} {E : List Ee} {R D : Nat → Nat → Bool} (h : WS w W g bk tw lb lo lc0 rb db E R D) {k : Nat} (hk : k < 12) : W.cell? ⟨lb, lo + k * 2, none⟩ = some (.string (bs (lab k).pkg)) ∧ W.cell? ⟨lb, lo + k * 2 + 1, none⟩ = some (.string (bs (lab k).name)) := by
  obtain ⟨b, off, e, _, h1, h2⟩ := LS.at h.ls (Below.refl _ _) (k := k) (by rw [LL_len]; exact hk)
  injection e with e
  injection e with e1 e2 _
  subst e1 e2
  rw [LL_get] at h1 h2
  exact ⟨h1, h2⟩
/-- two rows of the round's own -/
structure TF (w0 wq : World) (tv fv : Value) (A B : List Lb) : Prop where
  bel : Below w0.heap.size w0 wq
  ot : OwnL w0.heap.size wq tv A
  of : OwnL w0.heap.size wq fv B
  ne : ∀ g, tv.ownBlock = some g → fv.ownBlock ≠ some g
section
variable {w0 wq w' : World} {tv fv v' : Value} {A B : List Lb} {x : Lb}
theorem TF.to (h : TF w0 wq tv fv A B) (ho : OwnL w0.heap.size w' v' (A ++ [x])) (hb : Below w0.heap.size wq w') (hon : Only tv.ownBlock.toList wq w') (hw : v'.ownBlock = tv.ownBlock ∨ ∃ k, v'.ownBlock = some k ∧ wq.heap.size ≤ k) : TF w0 w' v' fv (A ++ [x]) B := by
  refine ⟨below_trans h.bel hb, ho, h.of.only hon (fun k hk hm => h.ne k (by simpa using hm) hk), fun g hg hf => ?_⟩
  rcases hw with e | ⟨k, e, hk⟩
  · exact h.ne g (e ▸ hg) hf
  · rw [e] at hg
    injection hg with hg
    subst hg
    have := (h.of.lt hf).2
    omega
theorem TF.fr (h : TF w0 wq tv fv A B) (ho : OwnL w0.heap.size w' v' (B ++ [x])) (hb : Below w0.heap.size wq w') (hon : Only fv.ownBlock.toList wq w') (hw : v'.ownBlock = fv.ownBlock ∨ ∃ k, v'.ownBlock = some k ∧ wq.heap.size ≤ k) : TF w0 w' tv v' A (B ++ [x]) := by
  refine ⟨below_trans h.bel hb, h.ot.only hon (fun k hk hm => h.ne k hk (by simpa using hm)), ho, fun g hg hf => ?_⟩
  rcases hw with e | ⟨k, e, hk⟩
  · exact h.ne g hg (e ▸ hf)
  · rw [e] at hf
    injection hf with hf
    subst hf
    have := (h.ot.lt hg).2
    omega
end

set_option maxRecDepth 100000 in
set_option maxHeartbeats 16000000 in
theorem w36 {w W : World} {g bk tw lb lo lc0 rb db : Nat} {E : List Ee} {R D : Nat → Nat → Bool} {lv0 lv1 lv2 lv6 lv8 lv9 lv10 lv11 lv12 lv13 lv17 lv18 lv19 lv20 lv21 lv22 lv23 lv24 lv25 lv26 lv27 lv28 lv29 lv30 lv31 lv32 lv33 lv34 lv35 lv36 lv37 lv38 lv39 lv40 lv41 lv42 lv43 lv44 lv45 lv46 lv47 lv48 lv49 lv50 lv51 lv52 lv53 lv54 lv55 lv56 lv57 lv58 lv59 lv60 lv61 lv62 lv63 lv64 lv65 lv66 lv67 lv68 lv69 lv70 lv71 lv72 lv73 lv74 lv75 lv76 lv77 lv78 lv79 lv80 lv81 lv82 lv83 lv84 lv85 lv86 lv87 lv88 lv89 lv90 lv91 lv92 lv93 lv94 lv95 lv96 lv97 lv98 lv99 lv100 lv101 lv102 lv103 lv104 lv105 lv106 lv107 lv108 lv109 lv110 lv111 lv112 lv113 lv114 lv115 lv116 lv117 lv118 lv119 lv120 lv121 lv122 lv123 lv124 lv125 lv126 lv127 lv128 lv129 lv130 lv131 lv132 lv133 lv134 lv135 lv136 lv137 lv138 lv139 lv140 lv141 lv142 lv143 lv144 lv145 lv146 lv147 lv148 lv149 lv150 lv151 lv152 lv153 lv154 lv155 lv156 lv157 lv158 lv159 lv160 lv161 lv162 lv163 lv164 lv165 lv166 lv167 lv168 lv169 lv170 lv171 lv172 lv173 lv174 lv175 lv176 lv177 lv178 lv179 lv180 lv181 lv182 lv183 lv184 lv185 lv186 lv187 lv188 lv189 lv190 lv191 lv192 lv193 lv194 lv195 lv196 lv197 lv198 lv199 lv200 lv201 lv202 lv203 lv204 lv205 lv206 lv207 lv208 lv209 lv210 lv211 lv212 lv213 lv214 lv215 lv216 lv217 lv218 lv219 lv220 lv221 lv222 lv223 lv224 lv225 lv226 lv227 lv228 lv229 lv230 lv231 lv232 lv233 lv234 lv235 lv236 lv237 lv238 lv239 lv240 lv241 lv242 lv243 lv244 lv245 lv246 lv247 lv248 lv249 lv250 lv251 lv252 lv253 lv254 lv255 lv256 lv257 lv258 lv259 lv260 lv261 lv262 lv263 lv264 lv265 lv266 lv267 lv268 lv269 lv270 lv271 lv272 lv273 lv274 lv275 lv276 lv277 lv278 lv279 lv280 lv281 lv282 lv283 lv284 lv285 lv286 lv287 lv288 lv289 lv290 lv291 lv292 lv293 lv294 lv295 lv296 lv297 lv298 lv299 lv300 lv301 lv302 lv303 lv304 lv305 lv306 lv307 lv308 lv309 lv310 lv311 lv312 lv313 lv314 lv315 lv316 lv317 lv318 lv319 lv320 lv321 lv322 lv323 lv324 lv325 lv326 lv327 lv328 lv329 lv330 : Value} (X : Hid (WS w W g bk tw lb lo lc0 rb db E R D)) (HE : Hid (ED E D)) (HR : Hid (TR R D)) :
    Code.wp Try.prog (suff 36 (Try.f3.body.getD .skip)) (bodyPost Try.prog Try.f3 (GoodE w)) ⟨#[lv0, lv1, lv2, .pointer (some ⟨g, 0, none⟩), .pointer (some ⟨rb, 0, none⟩), .slice (some ⟨lb, lo, none⟩) 12 lc0, lv6, .pointer (some ⟨db, 0, none⟩), lv8, lv9, lv10, lv11, lv12, lv13, .bool false, .pointer (some ⟨bk, 0, none⟩), .pointer (some ⟨tw, 0, none⟩), lv17, lv18, lv19, lv20, lv21, lv22, lv23, lv24, lv25, lv26, lv27, lv28, lv29, lv30, lv31, lv32, lv33, lv34, lv35, lv36, lv37, lv38, lv39, lv40, lv41, lv42, lv43, lv44, lv45, lv46, lv47, lv48, lv49, lv50, lv51, lv52, lv53, lv54, lv55, lv56, lv57, lv58, lv59, lv60, lv61, lv62, lv63, lv64, lv65, lv66, lv67, lv68, lv69, lv70, lv71, lv72, lv73, lv74, lv75, lv76, lv77, lv78, lv79, lv80, lv81, lv82, lv83, lv84, lv85, lv86, lv87, lv88, lv89, lv90, lv91, lv92, lv93, lv94, lv95, lv96, lv97, lv98, lv99, lv100, lv101, lv102, lv103, lv104, lv105, lv106, lv107, lv108, lv109, lv110, lv111, lv112, lv113, lv114, lv115, lv116, lv117, lv118, lv119, lv120, lv121, lv122, lv123, lv124, lv125, lv126, lv127, lv128, lv129, lv130, lv131, lv132, lv133, lv134, lv135, lv136, lv137, lv138, lv139, lv140, lv141, lv142, lv143, lv144, lv145, lv146, lv147, lv148, lv149, lv150, lv151, lv152, lv153, lv154, lv155, lv156, lv157, lv158, lv159, lv160, lv161, lv162, lv163, lv164, lv165, lv166, lv167, lv168, lv169, lv170, lv171, lv172, lv173, lv174, lv175, lv176, lv177, lv178, lv179, lv180, lv181, lv182, lv183, lv184, lv185, lv186, lv187, lv188, lv189, lv190, lv191, lv192, lv193, lv194, lv195, lv196, lv197, lv198, lv199, lv200, lv201, lv202, lv203, lv204, lv205, lv206, lv207, lv208, lv209, lv210, lv211, lv212, lv213, lv214, lv215, lv216, lv217, lv218, lv219, lv220, lv221, lv222, lv223, lv224, lv225, lv226, lv227, lv228, lv229, lv230, lv231, lv232, lv233, lv234, lv235, lv236, lv237, lv238, lv239, lv240, lv241, lv242, lv243, lv244, lv245, lv246, lv247, lv248, lv249, lv250, lv251, lv252, lv253, lv254, lv255, lv256, lv257, lv258, lv259, lv260, lv261, lv262, lv263, lv264, lv265, lv266, lv267, lv268, lv269, lv270, lv271, lv272, lv273, lv274, lv275, lv276, lv277, lv278, lv279, lv280, lv281, lv282, lv283, lv284, lv285, lv286, lv287, lv288, lv289, lv290, lv291, lv292, lv293, lv294, lv295, lv296, lv297, lv298, lv299, lv300, lv301, lv302, lv303, lv304, lv305, lv306, lv307, lv308, lv309, lv310, lv311, lv312, lv313, lv314, lv315, lv316, lv317, lv318, lv319, lv320, lv321, lv322, lv323, lv324, lv325, lv326, lv327, lv328, lv329, lv330], []⟩ W := by
  conv => arg 2; whnf
  refine wp_seq_k fun K hK => ?_
  have HK : Hid _ := hK
  clear hK
  go_wp2_with fail
  go_loopw [14, 17] (fun cv iv wr => ∃ k : Nat, k ≤ 12 ∧ iv = .int .i64 k ∧ cv = .bool (circ R k) ∧ WS w wr g bk tw lb lo lc0 rb db E R D) (fun _ iv _ => 12 - (intOf iv).toNat)
  case atStart => exact ⟨0, by omega, rfl, rfl, X.out⟩
  case round =>
    obtain ⟨k, hk, rfl, rfl, hws⟩ := hrel
    have X5 : Hid (WS w wr g bk tw lb lo lc0 rb db E R D) := hws
    clear hws X
    by_cases hlt : k < 12
    · have k1 : (k : Int) < 12 := by omega
      have k2 : (0 : Int) ≤ (k : Int) := by omega
      have HLB : Hid (∃ p n, lab k = ⟨p, n⟩) := ⟨_, _, rfl⟩
      have HCS : Hid (circ R (k + 1) = (circ R k || R k k)) := circ_succ R k
      go_upto_region 39 with fail
      go_cut [14] (fun cv wx => cv = .bool (circ R (k + 1)) ∧ wr = wx)
      case first =>
        have cc := X5.out.tr.cell hlt hlt
        obtain ⟨r1, h1⟩ : ∃ r1, circ R k = r1 := ⟨_, rfl⟩
        obtain ⟨r2, h2⟩ : ∃ r2, R k k = r2 := ⟨_, rfl⟩
        rw [h2] at cc
        rw [h1, h2] at HCS
        rw [h1]
        clear h1 h2
        cases r1 <;> cases r2
        all_goals (go_wp2_with fail; go_meet; exact ⟨by rw [HCS.out]; rfl, rfl⟩)
      case rest =>
        obtain ⟨rfl, rfl⟩ := hcut
        have HRS : Hid (OwnL wr.heap.size wr (.slice none 0 0) []) := OwnL.nil _ _
        go_wp2_with fail
        go_loopw [18, 19, 20] (fun tv fv jv wq => ∃ j : Nat, j ≤ 12 ∧ jv = .int .i64 j ∧ TF wr wq tv fv (toL R k j) (toL (fun a b => R b a) k j)) (fun _ _ jv _ => 12 - (intOf jv).toNat)
        case atStart => exact ⟨0, by omega, rfl, ⟨Below.refl _ _, OwnL.nil _ _, OwnL.nil _ _, fun g hg => by cases hg⟩⟩
        case round =>
          rename World => wq
          obtain ⟨j, hj, rfl, htf⟩ := hrel
          obtain ⟨ta, tc, hte⟩ := htf.ot.form
          obtain ⟨fa, fc, hfe⟩ := htf.of.form
          obtain ⟨tl, htl⟩ : ∃ tl, (toL R k j).length = tl := ⟨_, rfl⟩
          obtain ⟨fl, hfl⟩ : ∃ fl, (toL (fun a b => R b a) k j).length = fl := ⟨_, rfl⟩
          rw [htl] at hte
          rw [hfl] at hfe
          clear htl hfl
          subst hte hfe
          have HTF : Hid (TF wr wq (.slice ta tl tc) (.slice fa fl fc) (toL R k j) (toL (fun a b => R b a) k j)) := htf
          clear htf
          by_cases hj12 : j < 12
          · have j1 : (j : Int) < 12 := by omega
            have j2 : (0 : Int) ≤ (j : Int) := by omega
            have HSZ : Hid (wr.heap.size ≤ wq.heap.size) := HTF.out.bel.size
            have XW := X5.out.later HTF.out.bel
            have rc1 := XW.tr.cell (i := k) (j := j) hlt hj12
            have rc2 := XW.tr.cell (i := j) (j := k) hj12 hlt
            obtain ⟨p, n, hpn⟩ : ∃ p n, lab j = ⟨p, n⟩ := ⟨_, _, rfl⟩
            have HLC : Hid (∀ W', WS w W' g bk tw lb lo lc0 rb db E R D → W'.cell? ⟨lb, lo + j * 2, none⟩ = some (.string (bs p)) ∧ W'.cell? ⟨lb, lo + j * 2 + 1, none⟩ = some (.string (bs n))) := fun W' h => by
              have := h.lcell hj12
              rw [hpn] at this; exact this
            obtain ⟨lc1, lc2⟩ := HLC.out wq XW
            clear XW
            have HTS : Hid (toL R k (j + 1) = (if (decide (k = j) || R k j) = true then toL R k j ++ [⟨p, n⟩] else toL R k j) ∧ toL (fun a b => R b a) k (j + 1) = (if (decide (k = j) || R j k) = true then toL (fun a b => R b a) k j ++ [⟨p, n⟩] else toL (fun a b => R b a) k j)) := by
              rw [← hpn]; exact ⟨toL_succ _ _ _, toL_succ _ _ _⟩
            clear hpn
            by_cases hkj : k = j
            · subst hkj
              have HN : Hid (toL R k (k + 1) = toL R k k ++ [⟨p, n⟩] ∧ toL (fun a b => R b a) k (k + 1) = toL (fun a b => R b a) k k ++ [⟨p, n⟩]) := by
                have := HTS.out
                exact (by simpa using this : toL R k (k + 1) = toL R k k ++ [⟨p, n⟩] ∧ toL (fun a b => R b a) k (k + 1) = toL (fun a b => R b a) k k ++ [⟨p, n⟩])
              clear HTS
              go_upto_region 46 with (first | (at_builtin; refine app_L1 und_L ⟨p, n⟩ HTF.out.ot (by have := toL_len R k k; omega) HSZ.out rfl (.tmp 174) (.tmp 179) rfl rfl rfl ?_; intro v1 q1 hoq1 hbq1 honq1 hsq1 hwhq1))
              have HTF1 : Hid (TF wr q1 v1 (.slice fa fl fc) (toL R k k ++ [⟨p, n⟩]) (toL (fun a b => R b a) k k)) := HTF.out.to hoq1 hbq1 honq1 hwhq1
              clear hoq1 hbq1 honq1 hsq1 hwhq1
              have XQ := X5.out.later HTF1.out.bel
              have g1 := XQ.tr.cell (i := k) (j := k) hlt hlt
              have g2 := (HLC.out _ XQ).1
              have g3 := (HLC.out _ XQ).2
              clear XQ rc1 rc2 lc1 lc2
              have HSZ1 : Hid (wr.heap.size ≤ q1.heap.size) := HTF1.out.bel.size
              go_wp2_with (first | (at_builtin; refine app_L1 und_L ⟨p, n⟩ HTF1.out.of (by have := toL_len (fun a b => R b a) k k; omega) HSZ1.out rfl (.tmp 191) (.tmp 196) rfl rfl rfl ?_; intro v2 q2 hoq2 hbq2 honq2 hsq2 hwhq2))
              have HTF2 : Hid (TF wr q2 v1 v2 (toL R k k ++ [⟨p, n⟩]) (toL (fun a b => R b a) k k ++ [⟨p, n⟩])) := HTF1.out.fr hoq2 hbq2 honq2 hwhq2
              clear hoq2 hbq2 honq2 hsq2 hwhq2
              go_roundw
              case rel => exact ⟨k + 1, by omega, by go_num, by rw [HN.out.1, HN.out.2]; exact HTF2.out⟩
              case measure => simp [intOf]; omega
            · have hkj2 : ¬ ((k : Int) = (j : Int)) := by omega
              obtain ⟨r1, hr1⟩ : ∃ r1, R k j = r1 := ⟨_, rfl⟩
              obtain ⟨r2, hr2⟩ : ∃ r2, R j k = r2 := ⟨_, rfl⟩
              rw [hr1] at rc1
              rw [hr2] at rc2
              have HN0 := HTS.out
              rw [hr1, hr2] at HN0
              simp only [hkj, decide_false, Bool.false_or] at HN0
              clear HTS hr1
              cases r1
              · cases r2
                · have HN : Hid (toL R k (j + 1) = toL R k j ∧ toL (fun a b => R b a) k (j + 1) = toL (fun a b => R b a) k j) := (by simpa using HN0 : toL R k (j + 1) = toL R k j ∧ toL (fun a b => R b a) k (j + 1) = toL (fun a b => R b a) k j)
                  clear HN0
                  go_upto_region 46 with fail
                  have HTF1 : Hid (TF wr wq (.slice ta tl tc) (.slice fa fl fc) (toL R k j) (toL (fun a b => R b a) k j)) := HTF.out
                  have XQ := X5.out.later HTF1.out.bel
                  have g1 := XQ.tr.cell (i := j) (j := k) (by omega) hlt
                  have g2 := (HLC.out _ XQ).1
                  have g3 := (HLC.out _ XQ).2
                  clear XQ rc1 rc2 lc1 lc2
                  have HSZ1 : Hid (wr.heap.size ≤ wq.heap.size) := HTF1.out.bel.size
                  rw [hr2] at g1
                  go_wp2_with fail
                  have HTF2 : Hid (TF wr wq (.slice ta tl tc) (.slice fa fl fc) (toL R k j) (toL (fun a b => R b a) k j)) := HTF1.out
                  go_roundw
                  case rel => exact ⟨j + 1, by omega, by go_num, by rw [HN.out.1, HN.out.2]; exact HTF2.out⟩
                  case measure => simp [intOf]; omega
                · have HN : Hid (toL R k (j + 1) = toL R k j ∧ toL (fun a b => R b a) k (j + 1) = toL (fun a b => R b a) k j ++ [⟨p, n⟩]) := (by simpa using HN0 : toL R k (j + 1) = toL R k j ∧ toL (fun a b => R b a) k (j + 1) = toL (fun a b => R b a) k j ++ [⟨p, n⟩])
                  clear HN0
                  go_upto_region 46 with fail
                  have HTF1 : Hid (TF wr wq (.slice ta tl tc) (.slice fa fl fc) (toL R k j) (toL (fun a b => R b a) k j)) := HTF.out
                  have XQ := X5.out.later HTF1.out.bel
                  have g1 := XQ.tr.cell (i := j) (j := k) (by omega) hlt
                  have g2 := (HLC.out _ XQ).1
                  have g3 := (HLC.out _ XQ).2
                  clear XQ rc1 rc2 lc1 lc2
                  have HSZ1 : Hid (wr.heap.size ≤ wq.heap.size) := HTF1.out.bel.size
                  rw [hr2] at g1
                  go_wp2_with (first | (at_builtin; refine app_L1 und_L ⟨p, n⟩ HTF1.out.of (by have := toL_len (fun a b => R b a) k j; omega) HSZ1.out rfl (.tmp 191) (.tmp 196) rfl rfl rfl ?_; intro v2 q2 hoq2 hbq2 honq2 hsq2 hwhq2))
                  have HTF2 : Hid (TF wr q2 (.slice ta tl tc) v2 (toL R k j) (toL (fun a b => R b a) k j ++ [⟨p, n⟩])) := HTF1.out.fr hoq2 hbq2 honq2 hwhq2
                  clear hoq2 hbq2 honq2 hsq2 hwhq2
                  go_roundw
                  case rel => exact ⟨j + 1, by omega, by go_num, by rw [HN.out.1, HN.out.2]; exact HTF2.out⟩
                  case measure => simp [intOf]; omega
              · cases r2
                · have HN : Hid (toL R k (j + 1) = toL R k j ++ [⟨p, n⟩] ∧ toL (fun a b => R b a) k (j + 1) = toL (fun a b => R b a) k j) := (by simpa using HN0 : toL R k (j + 1) = toL R k j ++ [⟨p, n⟩] ∧ toL (fun a b => R b a) k (j + 1) = toL (fun a b => R b a) k j)
                  clear HN0
                  go_upto_region 46 with (first | (at_builtin; refine app_L1 und_L ⟨p, n⟩ HTF.out.ot (by have := toL_len R k j; omega) HSZ.out rfl (.tmp 174) (.tmp 179) rfl rfl rfl ?_; intro v1 q1 hoq1 hbq1 honq1 hsq1 hwhq1))
                  have HTF1 : Hid (TF wr q1 v1 (.slice fa fl fc) (toL R k j ++ [⟨p, n⟩]) (toL (fun a b => R b a) k j)) := HTF.out.to hoq1 hbq1 honq1 hwhq1
                  clear hoq1 hbq1 honq1 hsq1 hwhq1
                  have XQ := X5.out.later HTF1.out.bel
                  have g1 := XQ.tr.cell (i := j) (j := k) (by omega) hlt
                  have g2 := (HLC.out _ XQ).1
                  have g3 := (HLC.out _ XQ).2
                  clear XQ rc1 rc2 lc1 lc2
                  have HSZ1 : Hid (wr.heap.size ≤ q1.heap.size) := HTF1.out.bel.size
                  rw [hr2] at g1
                  go_wp2_with fail
                  have HTF2 : Hid (TF wr q1 v1 (.slice fa fl fc) (toL R k j ++ [⟨p, n⟩]) (toL (fun a b => R b a) k j)) := HTF1.out
                  go_roundw
                  case rel => exact ⟨j + 1, by omega, by go_num, by rw [HN.out.1, HN.out.2]; exact HTF2.out⟩
                  case measure => simp [intOf]; omega
                · have HN : Hid (toL R k (j + 1) = toL R k j ++ [⟨p, n⟩] ∧ toL (fun a b => R b a) k (j + 1) = toL (fun a b => R b a) k j ++ [⟨p, n⟩]) := (by simpa using HN0 : toL R k (j + 1) = toL R k j ++ [⟨p, n⟩] ∧ toL (fun a b => R b a) k (j + 1) = toL (fun a b => R b a) k j ++ [⟨p, n⟩])
                  clear HN0
                  go_upto_region 46 with (first | (at_builtin; refine app_L1 und_L ⟨p, n⟩ HTF.out.ot (by have := toL_len R k j; omega) HSZ.out rfl (.tmp 174) (.tmp 179) rfl rfl rfl ?_; intro v1 q1 hoq1 hbq1 honq1 hsq1 hwhq1))
                  have HTF1 : Hid (TF wr q1 v1 (.slice fa fl fc) (toL R k j ++ [⟨p, n⟩]) (toL (fun a b => R b a) k j)) := HTF.out.to hoq1 hbq1 honq1 hwhq1
                  clear hoq1 hbq1 honq1 hsq1 hwhq1
                  have XQ := X5.out.later HTF1.out.bel
                  have g1 := XQ.tr.cell (i := j) (j := k) (by omega) hlt
                  have g2 := (HLC.out _ XQ).1
                  have g3 := (HLC.out _ XQ).2
                  clear XQ rc1 rc2 lc1 lc2
                  have HSZ1 : Hid (wr.heap.size ≤ q1.heap.size) := HTF1.out.bel.size
                  rw [hr2] at g1
                  go_wp2_with (first | (at_builtin; refine app_L1 und_L ⟨p, n⟩ HTF1.out.of (by have := toL_len (fun a b => R b a) k j; omega) HSZ1.out rfl (.tmp 191) (.tmp 196) rfl rfl rfl ?_; intro v2 q2 hoq2 hbq2 honq2 hsq2 hwhq2))
                  have HTF2 : Hid (TF wr q2 v1 v2 (toL R k j ++ [⟨p, n⟩]) (toL (fun a b => R b a) k j ++ [⟨p, n⟩])) := HTF1.out.fr hoq2 hbq2 honq2 hwhq2
                  clear hoq2 hbq2 honq2 hsq2 hwhq2
                  go_roundw
                  case rel => exact ⟨j + 1, by omega, by go_num, by rw [HN.out.1, HN.out.2]; exact HTF2.out⟩
                  case measure => simp [intOf]; omega
          · obtain rfl : j = 12 := by omega
            obtain ⟨p, n, hpn⟩ : ∃ p n, lab k = ⟨p, n⟩ := ⟨_, _, rfl⟩
            have Y0 : Hid (WS w wq g bk tw lb lo lc0 rb db E R D ∧ LS wq (.slice ta tl tc) (toL R k 12) ∧ LS wq (.slice fa fl fc) (toL (fun a b => R b a) k 12)) := ⟨X5.out.later HTF.out.bel, HTF.out.ot.rs, HTF.out.of.rs⟩
            have HSD : Hid (∀ W', WS w W' g bk tw lb lo lc0 rb db E R D → W'.cell? ⟨lb, lo + k * 2, none⟩ = some (.string (bs p)) ∧ W'.cell? ⟨lb, lo + k * 2 + 1, none⟩ = some (.string (bs n))) := fun W' h => by
              have := h.lcell hlt
              rw [hpn] at this; exact this
            have hlu : Lu ⟨p, n⟩ := hpn ▸ lab_lu k
            have hlu1 : ∀ x ∈ [(⟨p, n⟩ : Lb)], Lu x := fun x hx => by
              have e : x = ⟨p, n⟩ := by simpa using hx
              rw [e]; exact hlu
            have HCg : Hid (∀ W', WS w W' g bk tw lb lo lc0 rb db E R D → ∀ v, LS W' v [⟨p, n⟩] → Gv 12 #[.pointer (some ⟨g, 0, none⟩), v] W' (toL R k 12)) := fun W' h v hv => by
              have h1 := h.pg.reach (by rw [LL_len]; omega) hv (by simp) hlu1
              rw [← hpn, HE.out.reach1 HR.out hlt] at h1
              exact h1.mono fun _ _ ⟨v, k1, k2, k3⟩ => ⟨v, k1, k2.rs, k3⟩
            have HCb : Hid (∀ W', WS w W' g bk tw lb lo lc0 rb db E R D → ∀ v, LS W' v [⟨p, n⟩] → Gv 12 #[.pointer (some ⟨bk, 0, none⟩), v] W' (toL (fun a b => R b a) k 12)) := fun W' h v hv => by
              obtain ⟨B, hB⟩ := h.pb
              have h1 := hB.reach (by rw [LL_len]; omega) hv (by simp) hlu1
              rw [← hpn, HE.out.flip.reach1 HR.out.flip hlt] at h1
              exact h1.mono fun _ _ ⟨v, k1, k2, k3⟩ => ⟨v, k1, k2.rs, k3⟩
            have HCt : Hid (∀ W', WS w W' g bk tw lb lo lc0 rb db E R D → ∀ v, LS W' v (toL R k 12) → Gv 12 #[.pointer (some ⟨g, 0, none⟩), v] W' (toL R k 12)) := fun W' h v hv => by
              have h1 := h.pg.reach (by rw [LL_len]; omega) hv (Nat.le_trans (toL_len _ _ _) (by omega)) (toL_lu _ _ _)
              rw [HE.out.reach2 HR.out hlt] at h1
              exact h1.mono fun _ _ ⟨v, k1, k2, k3⟩ => ⟨v, k1, k2.rs, k3⟩
            have HU : Hid (∀ W', WS w W' g bk tw lb lo lc0 rb db E R D → Gv 13 #[.pointer (some ⟨tw, 0, none⟩), (.agg #[.string (bs p), .string (bs n)])] W' (rs (oE E ⟨p, n⟩))) := fun W' h => by
              obtain ⟨B, hB⟩ := h.pt
              exact (hB.outs ⟨p, n⟩ hlu).mono fun _ _ ⟨v, k1, k2, k3⟩ => ⟨v, k1, k2.rs, k3⟩
            have HV : Hid (∀ W', WS w W' g bk tw lb lo lc0 rb db E R D → Gv 13 #[.pointer (some ⟨g, 0, none⟩), (.agg #[.string (bs p), .string (bs n)])] W' (rs (oE E ⟨p, n⟩))) := fun W' h => (h.pg.outs ⟨p, n⟩ hlu).mono fun _ _ ⟨v, k1, k2, k3⟩ => ⟨v, k1, k2.rs, k3⟩
            have HLE : Hid ((rs (oE E ⟨p, n⟩)).length ≤ 100000000) := by
              have h1 : (rs (oE E ⟨p, n⟩)).length ≤ LL.length := Gs.nodup_sub _ _ (Gs.Ris.nodup stoL (Gs.ris_up stoL _)) (fun b hb => (HE.out.sub _ (mem_oE.1 ((Gs.mem_ris _ _).1 hb))).2)
              rw [LL_len] at h1
              exact Nat.le_trans h1 (by omega)
            obtain ⟨s1, s2⟩ := HSD.out wq (X5.out.later HTF.out.bel)
            clear hpn hlu hlu1 HTF
            go_wp2_with fail
            go_region_held3 (fun W' => W'.cell? ⟨lb, lo + k * 2, none⟩ = some (.string (bs p)) ∧ W'.cell? ⟨lb, lo + k * 2 + 1, none⟩ = some (.string (bs n))) (first | (with_reducible exact HSD.out (wq.alloc (.cells #[.string (bs p), .string (bs n)] 31)).drew ((Y0.out.1.later (balloc wq (.cells #[.string (bs p), .string (bs n)] 31))).later (Below.refl _ (wq.alloc (.cells #[.string (bs p), .string (bs n)] 31))).drew)) | (with_reducible exact S1.out) | (with_reducible exact S2.out) | (with_reducible exact HSD.out (z2.alloc (.cells #[.string (bs p), .string (bs n)] 31)) (Y2.out.1.later (balloc _ _))) | (with_reducible exact S3.out) | (with_reducible exact S4.out) | (with_reducible exact S5.out) | (with_reducible exact S6.out) | (with_reducible exact S7.out) | (with_reducible exact S8.out) | (with_reducible exact S9.out) | go_keep) (first | (go_at_call 11; (with_reducible refine (same_true Hve.out.2 Hve.out.1 HLE.out).mono ?_); rintro e z9 ⟨rfl, hb⟩; have Y9 : Hid (WS w z9 g bk tw lb lo lc0 rb db E R D ∧ LS z9 (.slice ta tl tc) (toL R k 12) ∧ LS z9 (.slice fa fl fc) (toL (fun a b => R b a) k 12)) := ⟨Y8.out.1.later hb, Y8.out.2.1.later hb, Y8.out.2.2.later hb⟩; have S9 : Hid (z9.cell? ⟨lb, lo + k * 2, none⟩ = some (.string (bs p)) ∧ z9.cell? ⟨lb, lo + k * 2 + 1, none⟩ = some (.string (bs n))) := HSD.out z9 Y9.out.1; clear hb) | (go_at_call 13; (with_reducible refine (HV.out z7 Y7.out.1).mono ?_); rintro e z8 ⟨ve, rfl, hl, hb⟩; have Hve : Hid (LS z8 ve (rs (oE E ⟨p, n⟩)) ∧ LS z8 vd (rs (oE E ⟨p, n⟩))) := ⟨hl, Hvd.out.later hb⟩; clear hl; have Y8 : Hid (WS w z8 g bk tw lb lo lc0 rb db E R D ∧ LS z8 (.slice ta tl tc) (toL R k 12) ∧ LS z8 (.slice fa fl fc) (toL (fun a b => R b a) k 12)) := ⟨Y7.out.1.later hb, Y7.out.2.1.later hb, Y7.out.2.2.later hb⟩; have S8 : Hid (z8.cell? ⟨lb, lo + k * 2, none⟩ = some (.string (bs p)) ∧ z8.cell? ⟨lb, lo + k * 2 + 1, none⟩ = some (.string (bs n))) := HSD.out z8 Y8.out.1; clear hb) | (go_at_call 13; (with_reducible refine (HU.out z6 Y6.out.1).mono ?_); rintro e z7 ⟨vd, rfl, hl, hb⟩; have Hvd : Hid (LS z7 vd (rs (oE E ⟨p, n⟩))) := hl; clear hl; have Y7 : Hid (WS w z7 g bk tw lb lo lc0 rb db E R D ∧ LS z7 (.slice ta tl tc) (toL R k 12) ∧ LS z7 (.slice fa fl fc) (toL (fun a b => R b a) k 12)) := ⟨Y6.out.1.later hb, Y6.out.2.1.later hb, Y6.out.2.2.later hb⟩; have S7 : Hid (z7.cell? ⟨lb, lo + k * 2, none⟩ = some (.string (bs p)) ∧ z7.cell? ⟨lb, lo + k * 2 + 1, none⟩ = some (.string (bs n))) := HSD.out z7 Y7.out.1; clear hb) | (go_at_call 11; (with_reducible refine (same_true Hvc.out Y5.out.2.1 (Nat.le_trans (toL_len _ _ _) (by omega))).mono ?_); rintro e z6 ⟨rfl, hb⟩; have Y6 : Hid (WS w z6 g bk tw lb lo lc0 rb db E R D ∧ LS z6 (.slice ta tl tc) (toL R k 12) ∧ LS z6 (.slice fa fl fc) (toL (fun a b => R b a) k 12)) := ⟨Y5.out.1.later hb, Y5.out.2.1.later hb, Y5.out.2.2.later hb⟩; have S6 : Hid (z6.cell? ⟨lb, lo + k * 2, none⟩ = some (.string (bs p)) ∧ z6.cell? ⟨lb, lo + k * 2 + 1, none⟩ = some (.string (bs n))) := HSD.out z6 Y6.out.1; clear hb) | (go_at_call 12; (with_reducible refine (HCt.out z4 Y4.out.1 (.slice ta tl tc) Y4.out.2.1).mono ?_); rintro e z5 ⟨vc, rfl, hl, hb⟩; have Hvc : Hid (LS z5 vc (toL R k 12)) := hl; clear hl; have Y5 : Hid (WS w z5 g bk tw lb lo lc0 rb db E R D ∧ LS z5 (.slice ta tl tc) (toL R k 12) ∧ LS z5 (.slice fa fl fc) (toL (fun a b => R b a) k 12)) := ⟨Y4.out.1.later hb, Y4.out.2.1.later hb, Y4.out.2.2.later hb⟩; have S5 : Hid (z5.cell? ⟨lb, lo + k * 2, none⟩ = some (.string (bs p)) ∧ z5.cell? ⟨lb, lo + k * 2 + 1, none⟩ = some (.string (bs n))) := HSD.out z5 Y5.out.1; clear hb) | (go_at_call 11; (with_reducible refine (same_true Hvb.out Y3.out.2.2 (Nat.le_trans (toL_len _ _ _) (by omega))).mono ?_); rintro e z4 ⟨rfl, hb⟩; have Y4 : Hid (WS w z4 g bk tw lb lo lc0 rb db E R D ∧ LS z4 (.slice ta tl tc) (toL R k 12) ∧ LS z4 (.slice fa fl fc) (toL (fun a b => R b a) k 12)) := ⟨Y3.out.1.later hb, Y3.out.2.1.later hb, Y3.out.2.2.later hb⟩; have S4 : Hid (z4.cell? ⟨lb, lo + k * 2, none⟩ = some (.string (bs p)) ∧ z4.cell? ⟨lb, lo + k * 2 + 1, none⟩ = some (.string (bs n))) := HSD.out z4 Y4.out.1; clear hb) | (go_at_call 12; (with_reducible refine (HCb.out (z2.alloc (.cells #[.string (bs p), .string (bs n)] 31)) (Y2.out.1.later (balloc _ _)) (.slice (some ⟨z2.heap.size, 0, none⟩) 1 1) (ls_one z2 ⟨p, n⟩)).mono ?_); rintro e z3 ⟨vb, rfl, hl, hb0⟩; have hb : Below z2.heap.size z2 z3 := bstep (balloc _ _) hb0; clear hb0; have Hvb : Hid (LS z3 vb (toL (fun a b => R b a) k 12)) := hl; clear hl; have Y3 : Hid (WS w z3 g bk tw lb lo lc0 rb db E R D ∧ LS z3 (.slice ta tl tc) (toL R k 12) ∧ LS z3 (.slice fa fl fc) (toL (fun a b => R b a) k 12)) := ⟨Y2.out.1.later hb, Y2.out.2.1.later hb, Y2.out.2.2.later hb⟩; have S3 : Hid (z3.cell? ⟨lb, lo + k * 2, none⟩ = some (.string (bs p)) ∧ z3.cell? ⟨lb, lo + k * 2 + 1, none⟩ = some (.string (bs n))) := HSD.out z3 Y3.out.1; clear hb) | (go_at_call 11; (with_reducible refine (same_true Hva.out Y1.out.2.1 (Nat.le_trans (toL_len _ _ _) (by omega))).mono ?_); rintro e z2 ⟨rfl, hb⟩; have Y2 : Hid (WS w z2 g bk tw lb lo lc0 rb db E R D ∧ LS z2 (.slice ta tl tc) (toL R k 12) ∧ LS z2 (.slice fa fl fc) (toL (fun a b => R b a) k 12)) := ⟨Y1.out.1.later hb, Y1.out.2.1.later hb, Y1.out.2.2.later hb⟩; have S2 : Hid (z2.cell? ⟨lb, lo + k * 2, none⟩ = some (.string (bs p)) ∧ z2.cell? ⟨lb, lo + k * 2 + 1, none⟩ = some (.string (bs n))) := HSD.out z2 Y2.out.1; clear hb) | (go_at_call 12; (with_reducible refine (HCg.out (wq.alloc (.cells #[.string (bs p), .string (bs n)] 31)).drew ((Y0.out.1.later (balloc wq (.cells #[.string (bs p), .string (bs n)] 31))).later (Below.refl _ (wq.alloc (.cells #[.string (bs p), .string (bs n)] 31))).drew) (.slice (some ⟨wq.heap.size, 0, none⟩) 1 1) ((ls_one wq ⟨p, n⟩).later (Below.refl _ (wq.alloc (.cells #[.string (bs p), .string (bs n)] 31))).drew)).mono ?_); rintro e z1 ⟨va, rfl, hl, hb0⟩; have hb : Below wq.heap.size wq z1 := bstep (bstep (balloc wq (.cells #[.string (bs p), .string (bs n)] 31)) (bd _ 1)) hb0; clear hb0; have Hva : Hid (LS z1 va (toL R k 12)) := hl; clear hl; have Y1 : Hid (WS w z1 g bk tw lb lo lc0 rb db E R D ∧ LS z1 (.slice ta tl tc) (toL R k 12) ∧ LS z1 (.slice fa fl fc) (toL (fun a b => R b a) k 12)) := ⟨Y0.out.1.later hb, Y0.out.2.1.later hb, Y0.out.2.2.later hb⟩; have S1 : Hid (z1.cell? ⟨lb, lo + k * 2, none⟩ = some (.string (bs p)) ∧ z1.cell? ⟨lb, lo + k * 2 + 1, none⟩ = some (.string (bs n))) := HSD.out z1 Y1.out.1; clear hb))
            go_wp2_with fail
            go_roundw
            case rel => exact ⟨k + 1, by omega, by go_num, rfl, Y9.out.1⟩
            case measure => simp [intOf]; omega
    · obtain rfl : k = 12 := by omega
      go_wp2_with fail
      refine HK.out _ _ ?_
      clear HK
      exact w50 X5.out.bel X5.out.pg X5.out.pt X5.out.ls X5.out.td HE (HE.out.order HR.out)
end Go.Proofs.Ytjohhmfncemknaa
