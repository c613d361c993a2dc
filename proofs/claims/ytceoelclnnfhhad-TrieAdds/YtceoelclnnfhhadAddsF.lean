/-
  The law of sums: the script.
-/
import Derived.Test.YtceoelclnnfhhadAddsE
namespace Go.Proofs.Ytceoelclnnfhhad
open Go.RowKit

set_option maxRecDepth 100000 in
set_option maxHeartbeats 8000000 in
theorem a7 {lv0 lv3 lv4 lv5 lv6 lv8 lv10 lv11 lv12 lv13 lv14 lv15 lv16 lv17 lv18 lv19 lv20 lv21 lv22 lv23 lv24 lv25 lv26 lv27 lv28 lv29 lv30 lv31 lv32 lv33 lv34 lv35 lv36 lv37 lv38 lv39 lv40 lv41 lv42 lv43 lv44 lv45 lv46 lv47 lv48 lv49 lv50 lv51 lv52 lv53 lv54 lv55 lv56 lv57 lv58 lv59 lv60 lv61 lv62 lv63 lv64 lv65 lv66 lv67 lv68 lv69 lv70 lv71 lv72 lv73 lv74 lv75 lv76 lv77 lv78 lv79 lv80 lv81 lv82 lv83 lv84 lv85 lv86 lv87 lv88 lv89 lv90 lv91 lv92 lv93 lv94 lv95 lv96 lv97 lv98 lv99 lv100 lv101 lv102 lv103 lv104 lv105 lv106 lv107 lv108 lv109 lv110 lv111 lv112 lv113 lv114 lv115 lv116 lv117 lv118 lv119 lv120 lv121 lv122 lv123 lv124 lv125 lv126 lv127 lv128 lv129 lv130 lv131 lv132 lv133 lv134 lv135 lv136 lv137 lv138 lv139 lv140 lv141 lv142 lv143 lv144 lv145 lv146 lv147 lv148 lv149 lv150 lv151 lv152 lv153 lv154 lv155 lv156 lv157 lv158 lv159 lv160 lv161 lv162 lv163 lv164 lv165 lv166 lv167 lv168 lv169 lv170 lv171 lv172 lv173 lv174 lv175 lv176 lv177 lv178 lv179 lv180 lv181 lv182 lv183 lv184 lv185 lv186 lv187 lv188 lv189 lv190 lv191 lv192 lv193 lv194 lv195 lv196 lv197 lv198 lv199 lv200 lv201 lv202 lv203 lv204 lv205 lv206 lv207 lv208 lv209 lv210 lv211 lv212 lv213 lv214 lv215 lv216 lv217 lv218 lv219 lv220 lv221 lv222 lv223 lv224 lv225 lv226 lv227 lv228 lv229 lv230 lv231 lv232 lv233 lv234 lv235 lv236 lv237 lv238 lv239 lv240 lv241 lv242 lv243 lv244 lv245 lv246 lv247 lv248 lv249 lv250 lv251 lv252 lv253 lv254 lv255 lv256 lv257 lv258 lv259 lv260 lv261 lv262 : Value} {w wc : World} {t no co ns sc1 : Nat} {ao sa : Option Addr} {O0 : List Fl} {S : List Stp} {d : List UInt8} (X : Hid (AS w wc t 12000 O0 (.slice ao no co) O0 ∧ O0.length = no ∧ d.length ≤ 140737488355328 ∧ TS6 w (.slice sa ns sc1) S ∧ S.length = ns ∧ SSm S)) (hns : ns ≤ 140737488355328) :
    Code.wp Try.prog (suff 7 (Try.f3.body.getD .skip)) (bodyPost Try.prog Try.f3 (GoodE w)) ⟨(lv0 :: .slice sa ns sc1 :: .string (bs d) :: lv3 :: lv4 :: lv5 :: lv6 :: .pointer (some ⟨t, 0, none⟩) :: lv8 :: .slice ao no co :: lv10 :: lv11 :: lv12 :: lv13 :: lv14 :: lv15 :: lv16 :: lv17 :: lv18 :: lv19 :: lv20 :: lv21 :: lv22 :: lv23 :: lv24 :: lv25 :: lv26 :: lv27 :: lv28 :: lv29 :: lv30 :: lv31 :: lv32 :: lv33 :: lv34 :: lv35 :: lv36 :: lv37 :: lv38 :: lv39 :: lv40 :: lv41 :: lv42 :: lv43 :: lv44 :: lv45 :: lv46 :: lv47 :: lv48 :: lv49 :: lv50 :: lv51 :: lv52 :: lv53 :: lv54 :: lv55 :: lv56 :: lv57 :: lv58 :: lv59 :: lv60 :: lv61 :: lv62 :: lv63 :: lv64 :: lv65 :: lv66 :: lv67 :: lv68 :: lv69 :: lv70 :: lv71 :: lv72 :: lv73 :: lv74 :: lv75 :: lv76 :: lv77 :: lv78 :: lv79 :: lv80 :: lv81 :: lv82 :: lv83 :: lv84 :: lv85 :: lv86 :: lv87 :: lv88 :: lv89 :: lv90 :: lv91 :: lv92 :: lv93 :: lv94 :: lv95 :: lv96 :: lv97 :: lv98 :: lv99 :: lv100 :: lv101 :: lv102 :: lv103 :: lv104 :: lv105 :: lv106 :: lv107 :: lv108 :: lv109 :: lv110 :: lv111 :: lv112 :: lv113 :: lv114 :: lv115 :: lv116 :: lv117 :: lv118 :: lv119 :: lv120 :: lv121 :: lv122 :: lv123 :: lv124 :: lv125 :: lv126 :: lv127 :: lv128 :: lv129 :: lv130 :: lv131 :: lv132 :: lv133 :: lv134 :: lv135 :: lv136 :: lv137 :: lv138 :: lv139 :: lv140 :: lv141 :: lv142 :: lv143 :: lv144 :: lv145 :: lv146 :: lv147 :: lv148 :: lv149 :: lv150 :: lv151 :: lv152 :: lv153 :: lv154 :: lv155 :: lv156 :: lv157 :: lv158 :: lv159 :: lv160 :: lv161 :: lv162 :: lv163 :: lv164 :: lv165 :: lv166 :: lv167 :: lv168 :: lv169 :: lv170 :: lv171 :: lv172 :: lv173 :: lv174 :: lv175 :: lv176 :: lv177 :: lv178 :: lv179 :: lv180 :: lv181 :: lv182 :: lv183 :: lv184 :: lv185 :: lv186 :: lv187 :: lv188 :: lv189 :: lv190 :: lv191 :: lv192 :: lv193 :: lv194 :: lv195 :: lv196 :: lv197 :: lv198 :: lv199 :: lv200 :: lv201 :: lv202 :: lv203 :: lv204 :: lv205 :: lv206 :: lv207 :: lv208 :: lv209 :: lv210 :: lv211 :: lv212 :: lv213 :: lv214 :: lv215 :: lv216 :: lv217 :: lv218 :: lv219 :: lv220 :: lv221 :: lv222 :: lv223 :: lv224 :: lv225 :: lv226 :: lv227 :: lv228 :: lv229 :: lv230 :: lv231 :: lv232 :: lv233 :: lv234 :: lv235 :: lv236 :: lv237 :: lv238 :: lv239 :: lv240 :: lv241 :: lv242 :: lv243 :: lv244 :: lv245 :: lv246 :: lv247 :: lv248 :: lv249 :: lv250 :: lv251 :: lv252 :: lv253 :: lv254 :: lv255 :: lv256 :: lv257 :: lv258 :: lv259 :: lv260 :: lv261 :: lv262 :: []).toArray, []⟩ wc := by
  conv => arg 2; whnf

  refine wp_seq_k fun K hK => ?_
  have HK : Hid _ := hK
  clear hK

  go_wp2_with fail
  go_loopw [9, 10] (fun u i wr => ∃ (k N n c : Nat) (a : Option Addr) (O : List Fl), k ≤ ns ∧ i = .int .i64 k ∧ u = .slice a n c ∧ O.length = n ∧ N ≤ 12000 + 20 * k ∧ AS w wr t N O (.slice a n c) O) (fun _ i _ => ns - (intOf i).toNat)
  case atStart => exact ⟨0, 12000, no, co, ao, O0, by omega, rfl, rfl, X.out.2.1, by omega, X.out.1⟩
  case round =>
    rename World => w1
    obtain ⟨k, N, n, c, a, O, hk, rfl, rfl, hn, hN, hls⟩ := hrel
    have H1 : Hid (O.length = n ∧ N ≤ 12000 + 20 * k ∧ AS w w1 t N O (.slice a n c) O) := ⟨hn, hN, hls⟩
    clear hn hN hls
    by_cases hlt : k < ns
    · have hkl : k < S.length := by have := X.out.2.2.2.2.1; omega
      obtain ⟨b, off, ea, hbw, d0, d1, d2, d3, d4, d5⟩ := TS6.at X.out.2.2.2.1 H1.out.2.2.below hkl
      subst ea
      obtain ⟨hfk, hpl, hk0, hk1⟩ := X.out.2.2.2.2.2.each _ (List.getElem_mem hkl)
      obtain ⟨st, hst⟩ : ∃ st, S[k] = st := ⟨_, rfl⟩
      rw [hst] at d0 d1 d2 d3 d4 d5 hfk hpl hk0 hk1
      clear hst hkl hbw
      obtain ⟨kd, ⟨p, tx, bl, s⟩, q⟩ := st
      simp only at d0 d1 d2 d3 d4 d5 hfk hpl hk0 hk1
      have HF : Hid (Fok ⟨p, tx, bl, s⟩ ∧ q.length ≤ 140737488355328) := ⟨hfk, hpl⟩
      clear hfk
      have k1 : (0 : Int) ≤ (k : Int) := by omega
      have k2 : (k : Int) < (ns : Int) := by omega
      obtain ⟨g, hg⟩ : ∃ g, w1.heap.size = g := ⟨_, rfl⟩
      obtain ⟨w2, hw2⟩ : ∃ w2, w1.alloc (.cells #[.int .i64 kd, .string (bs p), .string (bs tx), .int .i64 bl, .int .i64 s, .string (bs q)] 32) = w2 := ⟨_, rfl⟩
      have H2 : Hid (AS w w2 t N O (.slice a n c) O ∧ X6 w2 g kd p tx bl s q) := by
        rw [← hw2, ← hg]
        exact ⟨H1.out.2.2.later (balloc _ _), ⟨heap_alloc_new _ _⟩⟩
      have HW : Hid (w1.alloc (.cells #[.int .i64 kd, .string (bs p), .string (bs tx), .int .i64 bl, .int .i64 s, .string (bs q)] 32) = w2 ∧ w1.heap.size = g) := ⟨hw2, hg⟩
      clear hw2 hg
      by_cases h0 : kd = 0
      · have h0b : (kd == 0) = true := by simpa using h0
        have h1b : (kd == 1) = false := by rw [h0]; rfl
        clear h0
        go_wp2_with fail

        rw [HW.out.1, HW.out.2]
        clear d0 d1 d2 d3 d4 d5
        refine (as_add H2.out.1 HF.out.1 (by have := H1.out.2.1; omega)).mono ?_
        rintro e w3 ⟨rfl, has, hak⟩
        have H3 : Hid (AS w w3 t (N + 20) (addL O ⟨p, tx, bl, s⟩) (.slice a n c) O ∧ X6 w3 g kd p tx bl s q) := ⟨has, H2.out.2.ak hak⟩
        clear has hak
        obtain ⟨d0, d1, d2, d3, d4, d5⟩ := H3.out.2.cells
        by_cases hA : addE O ⟨p, tx, bl, s⟩ = 0
        · rw [hA]
          have HA : Hid (addE O ⟨p, tx, bl, s⟩ = 0 ∧ addL O ⟨p, tx, bl, s⟩ = ⟨p, tx, bl, s⟩ :: O) := ⟨hA, by unfold addL; rw [if_pos hA]⟩
          clear hA
          have hn5 : O.length < 512 := (addE_zero.1 HA.out.1).2.1
          have HL3 : Hid (AS w (w3.alloc (.cells #[.string (bs p), .string (bs tx), .int .i64 bl, .int .i64 s] 30)) t (N + 20) (⟨p, tx, bl, s⟩ :: O) (.slice a n c) O ∧ X6 (w3.alloc (.cells #[.string (bs p), .string (bs tx), .int .i64 bl, .int .i64 s] 30)) g kd p tx bl s q) := by
            have h1 := H3.out.1
            rw [HA.out.2] at h1
            exact ⟨h1.later (balloc _ _), H3.out.2.later (balloc _ _)⟩
          go_wp2_with (first | (at_builtin; refine app_files (base := w.heap.size) (l := O) (k := [⟨p, tx, bl, s⟩]) HL3.out.1.own (src_file w3 ⟨p, tx, bl, s⟩) (by simp; omega) HL3.out.1.below.size rfl (.tmp 66) (.tmp 69) rfl rfl rfl ?_; intro v4 w4 ho4 hg4 hv4; have H4 : Hid (AS w w4 t (N + 20) (O ++ [⟨p, tx, bl, s⟩]) v4 (O ++ [⟨p, tx, bl, s⟩]) ∧ X6 w4 g kd p tx bl s q) := ⟨(HL3.out.1.grown ho4 hg4 hv4 (fun f hf => by rcases List.mem_append.1 hf with hf | hf; exact HL3.out.1.fok.2 f hf; simp at hf; rw [hf]; exact HF.out.1)).perm (snoc_perm _ _), HL3.out.2.grown HL3.out.1.own hg4⟩; obtain ⟨a4, c4, e4⟩ := ho4.form; subst e4; clear ho4 hg4 hv4 d0 d1 d2 d3 d4 d5; obtain ⟨d0, d1, d2, d3, d4, d5⟩ := H4.out.2.cells))
          go_roundw
          case rel => exact ⟨k + 1, N + 20, O.length + 1, c4, a4, O ++ [⟨p, tx, bl, s⟩], by omega, by go_num, rfl, by simp, by have := H1.out.2.1; omega, by have h := H4.out.1; rw [List.length_append] at h; exact h⟩
          case measure => simp [intOf]; omega
        · have hAb : (addE O ⟨p, tx, bl, s⟩ == 0) = false := by simpa using hA
          have HA : Hid (addL O ⟨p, tx, bl, s⟩ = O) := by show _ = _; unfold addL; rw [if_neg hA]
          obtain ⟨E, hE⟩ : ∃ E, addE O ⟨p, tx, bl, s⟩ = E := ⟨_, rfl⟩
          rw [hE] at hAb ⊢
          clear hA hE
          go_wp2_with fail
          go_roundw
          case rel => exact ⟨k + 1, N + 20, n, c, a, O, by omega, by go_num, rfl, H1.out.1, by have := H1.out.2.1; omega, by have h := H3.out.1; rw [HA.out] at h; exact h⟩
          case measure => simp [intOf]; omega

      · have h0b : (kd == 0) = false := by simpa using h0
        by_cases h1 : kd = 1
        · have h1b : (kd == 1) = true := by simpa using h1
          clear h0 h1
          go_wp2_with fail
          rw [HW.out.1, HW.out.2]
          clear d0 d1 d2 d3 d4 d5
          refine (as_drop H2.out.1 q HF.out.2).mono ?_
          rintro e w3 ⟨rfl, has, hak⟩
          have H3 : Hid (AS w w3 t N (outF q O) (.slice a n c) O ∧ X6 w3 g kd p tx bl s q) := ⟨has, H2.out.2.ak hak⟩
          clear has hak

          rcases dropE_cases O q with h0 | h20
          · have HE : Hid (dropE O q = 0) := h0
            rw [h0]
            clear h0
            have hO5 : n ≤ 512 := by have h1 := H1.out.2.2.good.len; have h2 := H1.out.1; omega
            go_wp2_with fail
            go_loopw [14, 15] (fun u i wr => ∃ j : Nat, j ≤ n ∧ i = .int .i64 j ∧ OwnF w3.heap.size wr u (outF q (O.take j)) ∧ Below w3.heap.size w3 wr) (fun _ i _ => n - (intOf i).toNat)
            case atStart => exact ⟨0, by omega, rfl, OwnF.nil _ _, Below.refl _ _⟩
            case round =>
              rename World => w4
              obtain ⟨j, hj, rfl, hor, hbr⟩ := hrel
              have H4 : Hid (OwnF w3.heap.size w4 u14 (outF q (O.take j)) ∧ Below w3.heap.size w3 w4) := ⟨hor, hbr⟩
              clear hor hbr
              by_cases hjn : j < n
              · have hjl : j < O.length := by have := H1.out.1; omega
                have hfs : FS w3 (.slice a O.length c) O := by rw [H1.out.1]; exact H3.out.1.own.fs
                obtain ⟨b5, off5, ea5, hb5, d0, d1, d2, d3⟩ := FS.at hfs H4.out.2 hjl
                subst ea5
                clear hfs
                have hlen : (outF q (O.take j)).length ≤ 512 := Nat.le_trans (List.length_filter_le _ _) (by simp; omega)
                have hmem : O[j] ∈ O := List.getElem_mem hjl
                have HNX : Hid (outF q (O.take (j + 1)) = outF q (O.take j) ++ (if O[j].path = q then [] else [O[j]])) := outF_next hjl

                obtain ⟨f, hf⟩ : ∃ f, O[j] = f := ⟨_, rfl⟩
                rw [hf] at d0 d1 d2 d3 HNX hmem
                clear hf hjl
                obtain ⟨fp, ft, fb, fs⟩ := f
                simp only at d0 d1 d2 d3 HNX
                have j1 : (0 : Int) ≤ (j : Int) := by omega
                have j2 : (j : Int) < (n : Int) := by omega
                have hb6 : b5 < w4.heap.size := Nat.lt_of_lt_of_le hb5 H4.out.2.size
                have hx := (H3.out.2.later H4.out.2).lt
                obtain ⟨_, _, _, _, _, x5⟩ := (H3.out.2.later H4.out.2).cells
                have y0 : ∀ Y : GW w4, Y.it.cell? ⟨b5, off5 + j * 4, none⟩ = some (.string (bs fp)) := fun Y => Y.cell hb6 d0
                have y5 : ∀ Y : GW w4, Y.it.cell? ⟨g, 5, none⟩ = some (.string (bs q)) := fun Y => Y.cell hx x5
                have HD : Hid (b5 < w4.heap.size ∧ w4.cell? ⟨b5, off5 + j * 4, none⟩ = some (.string (bs fp)) ∧ w4.cell? ⟨b5, off5 + j * 4 + 1, none⟩ = some (.string (bs ft)) ∧ w4.cell? ⟨b5, off5 + j * 4 + 2, none⟩ = some (.int .i64 fb) ∧ w4.cell? ⟨b5, off5 + j * 4 + 3, none⟩ = some (.int .i64 fs)) := ⟨hb6, d0, d1, d2, d3⟩
                have xne := gw_ne w4
                have t1 := bs_toList fp
                have t2 := bs_toList q
                clear d0 d1 d2 d3 x5 hb5
                by_cases hpq : fp = q
                · have hpb : (fp == q) = true := by simpa using hpq
                  have HEQ : Hid (fp = q) := hpq
                  clear hpq
                  go_wp2_with fail
                  refine wp_region_grow (by kernel_rfl) (by kernel_rfl) ?_
                  repeat (go_big_quiet_step (fail))
                  refine wpQuiet_nil ?_
                  rintro w5 ⟨⟨w5, bx⟩, rfl⟩
                  have H5 : Hid (OwnF w3.heap.size w5 u14 (outF q (O.take (j + 1))) ∧ Below w3.heap.size w3 w5) := by
                    refine ⟨?_, bstep H4.out.2 bx⟩
                    rw [HNX.out, if_pos HEQ.out, List.append_nil]
                    exact H4.out.1.later bx
                  clear bx y0 y5
                  go_wp2_with fail
                  go_roundw
                  case rel => exact ⟨j + 1, by omega, by go_num, H5.out⟩
                  case measure => simp [intOf]; omega

                · have hpb : (fp == q) = false := by simpa using hpq
                  have HNE : Hid (fp ≠ q) := hpq
                  clear hpq
                  go_wp2_with fail
                  refine wp_region_grow (by kernel_rfl) (by kernel_rfl) ?_
                  repeat (go_big_quiet_step (fail))
                  refine wpQuiet_nil ?_
                  rintro w5 ⟨⟨w5, bx⟩, rfl⟩
                  have H5 : Hid (OwnF w3.heap.size (w5.alloc (.cells #[.string (bs fp), .string (bs ft), .int .i64 fb, .int .i64 fs] 30)) u14 (outF q (O.take j)) ∧ Below w3.heap.size w3 (w5.alloc (.cells #[.string (bs fp), .string (bs ft), .int .i64 fb, .int .i64 fs] 30)) ∧ w3.heap.size ≤ (w5.alloc (.cells #[.string (bs fp), .string (bs ft), .int .i64 fb, .int .i64 fs] 30)).heap.size) := by
                    have h1 := bstep bx (balloc w5 (.cells #[.string (bs fp), .string (bs ft), .int .i64 fb, .int .i64 fs] 30))
                    have h2 := bstep H4.out.2 h1
                    exact ⟨H4.out.1.later h1, h2, h2.size⟩
                  have d0 : w5.cell? ⟨b5, off5 + j * 4, none⟩ = some (.string (bs fp)) := (bx.cell (p := ⟨b5, off5 + j * 4, none⟩) HD.out.1).trans HD.out.2.1
                  have d1 : w5.cell? ⟨b5, off5 + j * 4 + 1, none⟩ = some (.string (bs ft)) := (bx.cell (p := ⟨b5, off5 + j * 4 + 1, none⟩) HD.out.1).trans HD.out.2.2.1
                  have d2 : w5.cell? ⟨b5, off5 + j * 4 + 2, none⟩ = some (.int .i64 fb) := (bx.cell (p := ⟨b5, off5 + j * 4 + 2, none⟩) HD.out.1).trans HD.out.2.2.2.1
                  have d3 : w5.cell? ⟨b5, off5 + j * 4 + 3, none⟩ = some (.int .i64 fs) := (bx.cell (p := ⟨b5, off5 + j * 4 + 3, none⟩) HD.out.1).trans HD.out.2.2.2.2
                  clear bx y0 y5
                  go_wp2_with (first | (at_builtin; refine app_files (base := w3.heap.size) (l := outF q (O.take j)) (k := [⟨fp, ft, fb, fs⟩]) H5.out.1 (src_file w5 ⟨fp, ft, fb, fs⟩) (by simp; omega) H5.out.2.2 rfl (.tmp 96) (.tmp 101) rfl rfl rfl ?_; intro v6 w6 ho6 hg6 hv6; have H6 : Hid (OwnF w3.heap.size w6 v6 (outF q (O.take (j + 1))) ∧ Below w3.heap.size w3 w6) := ⟨by rw [HNX.out, if_neg HNE.out]; exact ho6, H5.out.2.1.grown hg6 H5.out.2.2 (fun i hi => (H5.out.1.lt hi).1)⟩; clear ho6 hg6 hv6))
                  go_roundw
                  case rel => exact ⟨j + 1, by omega, by go_num, H6.out⟩
                  case measure => simp [intOf]; omega

              · obtain rfl : n = j := by omega
                have hT : O.take n = O := List.take_of_length_le (by have := H1.out.1; omega)
                rw [hT] at H4
                clear hT
                obtain ⟨ar, cr, er⟩ := H4.out.1.form
                subst er
                have H5 : Hid (AS w w4 t N (outF q O) (.slice ar (outF q O).length cr) (outF q O)) := by
                  obtain ⟨F, f1, f2, f3⟩ := H3.out.1.bound
                  exact (H3.out.1.later H4.out.2).swap H4.out.1 H3.out.1.below.size ⟨F, f1.later H4.out.2, f2, f3⟩ (H3.out.1.later H4.out.2).fok.1
                have hlo := outF_len H1.out.2.2.good HE.out
                rw [H1.out.1] at hlo
                obtain ⟨nr, hnr⟩ : ∃ nr, (outF q O).length = nr := ⟨_, rfl⟩
                rw [hnr] at H5 hlo ⊢
                have HNR : Hid ((outF q O).length = nr) := hnr
                clear hnr
                have hlb : ((nr : Int) != (n : Int) - 1) = false := by rw [bne_eq_false_iff_eq]; omega
                go_wp2_with fail
                go_roundw
                case rel => exact ⟨k + 1, N, nr, cr, ar, outF q O, by omega, by go_num, rfl, HNR.out, by have := H1.out.2.1; omega, H5.out⟩
                case measure => simp [intOf]; omega

          · have HE : Hid (dropE O q ≠ 0) := by show _ ≠ _; rw [h20]; decide
            rw [h20]
            clear h20
            have hO5 : n ≤ 512 := by have h1 := H1.out.2.2.good.len; have h2 := H1.out.1; omega
            go_wp2_with fail
            go_loopw [14, 15] (fun u i wr => ∃ j : Nat, j ≤ n ∧ i = .int .i64 j ∧ OwnF w3.heap.size wr u (outF q (O.take j)) ∧ Below w3.heap.size w3 wr) (fun _ i _ => n - (intOf i).toNat)
            case atStart => exact ⟨0, by omega, rfl, OwnF.nil _ _, Below.refl _ _⟩
            case round =>
              rename World => w4
              obtain ⟨j, hj, rfl, hor, hbr⟩ := hrel
              have H4 : Hid (OwnF w3.heap.size w4 u14 (outF q (O.take j)) ∧ Below w3.heap.size w3 w4) := ⟨hor, hbr⟩
              clear hor hbr
              by_cases hjn : j < n
              · have hjl : j < O.length := by have := H1.out.1; omega
                have hfs : FS w3 (.slice a O.length c) O := by rw [H1.out.1]; exact H3.out.1.own.fs
                obtain ⟨b5, off5, ea5, hb5, d0, d1, d2, d3⟩ := FS.at hfs H4.out.2 hjl
                subst ea5
                clear hfs
                have hlen : (outF q (O.take j)).length ≤ 512 := Nat.le_trans (List.length_filter_le _ _) (by simp; omega)
                have hmem : O[j] ∈ O := List.getElem_mem hjl
                have HNX : Hid (outF q (O.take (j + 1)) = outF q (O.take j) ++ (if O[j].path = q then [] else [O[j]])) := outF_next hjl
                have HNE : Hid (O[j].path ≠ q) := outF_none HE.out _ hmem
                obtain ⟨f, hf⟩ : ∃ f, O[j] = f := ⟨_, rfl⟩
                rw [hf] at d0 d1 d2 d3 HNX hmem HNE
                clear hf hjl
                obtain ⟨fp, ft, fb, fs⟩ := f
                simp only at d0 d1 d2 d3 HNX HNE
                have j1 : (0 : Int) ≤ (j : Int) := by omega
                have j2 : (j : Int) < (n : Int) := by omega
                have hb6 : b5 < w4.heap.size := Nat.lt_of_lt_of_le hb5 H4.out.2.size
                have hx := (H3.out.2.later H4.out.2).lt
                obtain ⟨_, _, _, _, _, x5⟩ := (H3.out.2.later H4.out.2).cells
                have y0 : ∀ Y : GW w4, Y.it.cell? ⟨b5, off5 + j * 4, none⟩ = some (.string (bs fp)) := fun Y => Y.cell hb6 d0
                have y5 : ∀ Y : GW w4, Y.it.cell? ⟨g, 5, none⟩ = some (.string (bs q)) := fun Y => Y.cell hx x5
                have HD : Hid (b5 < w4.heap.size ∧ w4.cell? ⟨b5, off5 + j * 4, none⟩ = some (.string (bs fp)) ∧ w4.cell? ⟨b5, off5 + j * 4 + 1, none⟩ = some (.string (bs ft)) ∧ w4.cell? ⟨b5, off5 + j * 4 + 2, none⟩ = some (.int .i64 fb) ∧ w4.cell? ⟨b5, off5 + j * 4 + 3, none⟩ = some (.int .i64 fs)) := ⟨hb6, d0, d1, d2, d3⟩
                have xne := gw_ne w4
                have t1 := bs_toList fp
                have t2 := bs_toList q
                clear d0 d1 d2 d3 x5 hb5
                clear t1 t2

                go_wp2_with fail
                refine wp_region_grow (by kernel_rfl) (by kernel_rfl) ?_
                repeat (go_big_quiet_step (fail))
                refine wpQuiet_nil ?_
                rintro w5 ⟨⟨w5, bx⟩, rfl⟩
                have H5 : Hid (OwnF w3.heap.size (w5.alloc (.cells #[.string (bs fp), .string (bs ft), .int .i64 fb, .int .i64 fs] 30)) u14 (outF q (O.take j)) ∧ Below w3.heap.size w3 (w5.alloc (.cells #[.string (bs fp), .string (bs ft), .int .i64 fb, .int .i64 fs] 30)) ∧ w3.heap.size ≤ (w5.alloc (.cells #[.string (bs fp), .string (bs ft), .int .i64 fb, .int .i64 fs] 30)).heap.size) := by
                  have h1 := bstep bx (balloc w5 (.cells #[.string (bs fp), .string (bs ft), .int .i64 fb, .int .i64 fs] 30))
                  have h2 := bstep H4.out.2 h1
                  exact ⟨H4.out.1.later h1, h2, h2.size⟩
                have d0 : w5.cell? ⟨b5, off5 + j * 4, none⟩ = some (.string (bs fp)) := (bx.cell (p := ⟨b5, off5 + j * 4, none⟩) HD.out.1).trans HD.out.2.1
                have d1 : w5.cell? ⟨b5, off5 + j * 4 + 1, none⟩ = some (.string (bs ft)) := (bx.cell (p := ⟨b5, off5 + j * 4 + 1, none⟩) HD.out.1).trans HD.out.2.2.1
                have d2 : w5.cell? ⟨b5, off5 + j * 4 + 2, none⟩ = some (.int .i64 fb) := (bx.cell (p := ⟨b5, off5 + j * 4 + 2, none⟩) HD.out.1).trans HD.out.2.2.2.1
                have d3 : w5.cell? ⟨b5, off5 + j * 4 + 3, none⟩ = some (.int .i64 fs) := (bx.cell (p := ⟨b5, off5 + j * 4 + 3, none⟩) HD.out.1).trans HD.out.2.2.2.2
                clear bx y0 y5
                go_wp2_with (first | (at_builtin; refine app_files (base := w3.heap.size) (l := outF q (O.take j)) (k := [⟨fp, ft, fb, fs⟩]) H5.out.1 (src_file w5 ⟨fp, ft, fb, fs⟩) (by simp; omega) H5.out.2.2 rfl (.tmp 96) (.tmp 101) rfl rfl rfl ?_; intro v6 w6 ho6 hg6 hv6; have H6 : Hid (OwnF w3.heap.size w6 v6 (outF q (O.take (j + 1))) ∧ Below w3.heap.size w3 w6) := ⟨by rw [HNX.out, if_neg HNE.out]; exact ho6, H5.out.2.1.grown hg6 H5.out.2.2 (fun i hi => (H5.out.1.lt hi).1)⟩; clear ho6 hg6 hv6))
                go_roundw
                case rel => exact ⟨j + 1, by omega, by go_num, H6.out⟩
                case measure => simp [intOf]; omega

              · obtain rfl : n = j := by omega
                have hT : O.take n = O := List.take_of_length_le (by have := H1.out.1; omega)
                rw [hT] at H4
                clear hT
                obtain ⟨ar, cr, er⟩ := H4.out.1.form
                subst er
                have H5 : Hid (AS w w4 t N (outF q O) (.slice ar (outF q O).length cr) (outF q O)) := by
                  obtain ⟨F, f1, f2, f3⟩ := H3.out.1.bound
                  exact (H3.out.1.later H4.out.2).swap H4.out.1 H3.out.1.below.size ⟨F, f1.later H4.out.2, f2, f3⟩ (H3.out.1.later H4.out.2).fok.1

                obtain ⟨nr, hnr⟩ : ∃ nr, (outF q O).length = nr := ⟨_, rfl⟩
                rw [hnr] at H5 ⊢
                have HNR : Hid ((outF q O).length = nr) := hnr
                clear hnr

                go_wp2_with fail
                go_roundw
                case rel => exact ⟨k + 1, N, nr, cr, ar, outF q O, by omega, by go_num, rfl, HNR.out, by have := H1.out.2.1; omega, H5.out⟩
                case measure => simp [intOf]; omega

        · have h1b : (kd == 1) = false := by simpa using h1
          clear h0 h1
          go_wp2_with fail
          rw [HW.out.1]
          go_roundw
          case rel => exact ⟨k + 1, N, n, c, a, O, by omega, by go_num, rfl, H1.out.1, by have := H1.out.2.1; omega, H2.out.1⟩
          case measure => simp [intOf]; omega

    · obtain rfl : ns = k := by omega
      go_wp2_with fail
      refine HK.out _ _ ?_
      clear HK
      have HZ : Hid (AS w w1 t N O (.slice a n c) O ∧ O.length = n ∧ d.length ≤ 140737488355328) := ⟨H1.out.2.2, H1.out.1, X.out.2.2.1⟩
      exact a26 HZ
end Go.Proofs.Ytceoelclnnfhhad
