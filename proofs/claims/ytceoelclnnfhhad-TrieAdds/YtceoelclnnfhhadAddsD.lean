/-
  The law of sums: each file.
-/
import Derived.Test.YtceoelclnnfhhadAddsC
import Derived.Test.YtceoelclnnfhhadAddsR
namespace Go.Proofs.Ytceoelclnnfhhad
open Go.RowKit

set_option maxRecDepth 100000 in
set_option maxHeartbeats 8000000 in
theorem a31 {lv0 lv1 lv3 lv4 lv5 lv6 lv8 lv10 lv11 lv12 lv13 lv14 lv15 lv17 lv22 lv23 lv24 lv25 lv26 lv27 lv28 lv29 lv30 lv31 lv32 lv33 lv34 lv35 lv36 lv37 lv38 lv39 lv40 lv41 lv42 lv43 lv44 lv45 lv46 lv47 lv48 lv49 lv50 lv51 lv52 lv53 lv54 lv55 lv56 lv57 lv58 lv59 lv60 lv61 lv62 lv63 lv64 lv65 lv66 lv67 lv68 lv69 lv70 lv71 lv72 lv73 lv74 lv75 lv76 lv77 lv78 lv79 lv80 lv81 lv82 lv83 lv84 lv85 lv86 lv87 lv88 lv89 lv90 lv91 lv92 lv93 lv94 lv95 lv96 lv97 lv98 lv99 lv100 lv101 lv102 lv103 lv104 lv105 lv106 lv107 lv108 lv109 lv110 lv111 lv112 lv113 lv114 lv115 lv116 lv117 lv118 lv119 lv120 lv121 lv122 lv123 lv124 lv125 lv126 lv127 lv128 lv129 lv130 lv131 lv132 lv133 lv134 lv135 lv136 lv137 lv138 lv139 lv140 lv141 lv142 lv143 lv144 lv145 lv146 lv147 lv148 lv149 lv150 lv151 lv152 lv153 lv154 lv155 lv156 lv157 lv158 lv159 lv160 lv161 lv162 lv163 lv164 lv165 lv166 lv167 lv168 lv169 lv170 lv171 lv172 lv173 lv174 lv175 lv176 lv177 lv178 lv179 lv180 lv181 lv182 lv183 lv184 lv185 lv186 lv187 lv188 lv189 lv190 lv191 lv192 lv193 lv194 lv195 lv196 lv197 lv198 lv199 lv200 lv201 lv202 lv203 lv204 lv205 lv206 lv207 lv208 lv209 lv210 lv211 lv212 lv213 lv214 lv215 lv216 lv217 lv218 lv219 lv220 lv221 lv222 lv223 lv224 lv225 lv226 lv227 lv228 lv229 lv230 lv231 lv232 lv233 lv234 lv235 lv236 lv237 lv238 lv239 lv240 lv241 lv242 lv243 lv244 lv245 lv246 lv247 lv248 lv249 lv250 lv251 lv252 lv253 lv254 lv255 lv256 lv257 lv258 lv259 lv260 lv261 lv262 : Value} {w wc : World} {t N g0 g1 g2 no co : Nat} {ao : Option Addr} {az : Option Addr} {nz cz : Nat} {O : List Fl} {Z : List (List UInt8)} {d : List UInt8} (X : Hid (LS w wc t N g0 g1 g2 (.slice ao no co) (.slice az nz cz) O Z (0) (0) (0) ∧ O.length = no ∧ d.length ≤ 140737488355328 ∧ Z.length = nz ∧ ∀ f ∈ O, f.path ∈ Z)) (hno : no ≤ 512) (hnz : nz ≤ 512) :
    Code.wp Try.prog (suff 31 (Try.f3.body.getD .skip)) (bodyPost Try.prog Try.f3 (GoodE w)) ⟨(lv0 :: lv1 :: .string (bs d) :: lv3 :: lv4 :: lv5 :: lv6 :: .pointer (some ⟨t, 0, none⟩) :: lv8 :: .slice ao no co :: lv10 :: lv11 :: lv12 :: lv13 :: lv14 :: lv15 :: .slice az nz cz :: lv17 :: .pointer (some ⟨g0, 0, none⟩) :: .pointer (some ⟨g1, 0, none⟩) :: .pointer (some ⟨g2, 0, none⟩) :: .int .i64 0 :: lv22 :: lv23 :: lv24 :: lv25 :: lv26 :: lv27 :: lv28 :: lv29 :: lv30 :: lv31 :: lv32 :: lv33 :: lv34 :: lv35 :: lv36 :: lv37 :: lv38 :: lv39 :: lv40 :: lv41 :: lv42 :: lv43 :: lv44 :: lv45 :: lv46 :: lv47 :: lv48 :: lv49 :: lv50 :: lv51 :: lv52 :: lv53 :: lv54 :: lv55 :: lv56 :: lv57 :: lv58 :: lv59 :: lv60 :: lv61 :: lv62 :: lv63 :: lv64 :: lv65 :: lv66 :: lv67 :: lv68 :: lv69 :: lv70 :: lv71 :: lv72 :: lv73 :: lv74 :: lv75 :: lv76 :: lv77 :: lv78 :: lv79 :: lv80 :: lv81 :: lv82 :: lv83 :: lv84 :: lv85 :: lv86 :: lv87 :: lv88 :: lv89 :: lv90 :: lv91 :: lv92 :: lv93 :: lv94 :: lv95 :: lv96 :: lv97 :: lv98 :: lv99 :: lv100 :: lv101 :: lv102 :: lv103 :: lv104 :: lv105 :: lv106 :: lv107 :: lv108 :: lv109 :: lv110 :: lv111 :: lv112 :: lv113 :: lv114 :: lv115 :: lv116 :: lv117 :: lv118 :: lv119 :: lv120 :: lv121 :: lv122 :: lv123 :: lv124 :: lv125 :: lv126 :: lv127 :: lv128 :: lv129 :: lv130 :: lv131 :: lv132 :: lv133 :: lv134 :: lv135 :: lv136 :: lv137 :: lv138 :: lv139 :: lv140 :: lv141 :: lv142 :: lv143 :: lv144 :: lv145 :: lv146 :: lv147 :: lv148 :: lv149 :: lv150 :: lv151 :: lv152 :: lv153 :: lv154 :: lv155 :: lv156 :: lv157 :: lv158 :: lv159 :: lv160 :: lv161 :: lv162 :: lv163 :: lv164 :: lv165 :: lv166 :: lv167 :: lv168 :: lv169 :: lv170 :: lv171 :: lv172 :: lv173 :: lv174 :: lv175 :: lv176 :: lv177 :: lv178 :: lv179 :: lv180 :: lv181 :: lv182 :: lv183 :: lv184 :: lv185 :: lv186 :: lv187 :: lv188 :: lv189 :: lv190 :: lv191 :: lv192 :: lv193 :: lv194 :: lv195 :: lv196 :: lv197 :: lv198 :: lv199 :: lv200 :: lv201 :: lv202 :: lv203 :: lv204 :: lv205 :: lv206 :: lv207 :: lv208 :: lv209 :: lv210 :: lv211 :: lv212 :: lv213 :: lv214 :: lv215 :: lv216 :: lv217 :: lv218 :: lv219 :: lv220 :: lv221 :: lv222 :: lv223 :: lv224 :: lv225 :: lv226 :: lv227 :: lv228 :: lv229 :: lv230 :: lv231 :: lv232 :: lv233 :: lv234 :: lv235 :: lv236 :: lv237 :: lv238 :: lv239 :: lv240 :: lv241 :: lv242 :: lv243 :: lv244 :: lv245 :: lv246 :: lv247 :: lv248 :: lv249 :: lv250 :: lv251 :: lv252 :: lv253 :: lv254 :: lv255 :: lv256 :: lv257 :: lv258 :: lv259 :: lv260 :: lv261 :: lv262 :: []).toArray, []⟩ wc := by
  conv => arg 2; whnf

  refine wp_seq_k fun K hK => ?_
  have HK : Hid _ := hK
  clear hK

  go_wp2_with fail
  go_loopw [21, 22] (fun u i wr => ∃ k nn : Nat, k ≤ no ∧ i = .int .i64 k ∧ u = .int .i64 nn ∧ cntD (O.take k) d = nn ∧ nn ≤ k ∧ LS w wr t N g0 g1 g2 (.slice ao no co) (.slice az nz cz) O Z (tot (O.take k) []) (totD (O.take k) d) (ownI (O.take k) d)) (fun _ i _ => no - (intOf i).toNat)
  case atStart =>
    refine ⟨0, 0, by omega, rfl, rfl, by unfold cntD; simp [cnt], by omega, ?_⟩
    have h0 : tot (O.take 0) [] = 0 := rfl
    have h1 : totD (O.take 0) d = 0 := by unfold totD; simp [tot]
    have h2 : ownI (O.take 0) d = 0 := by unfold ownI; simp [own]
    rw [h0, h1, h2]
    exact X.out.1
  case round =>
    rename World => w1
    obtain ⟨k, nn, hk, rfl, rfl, hcn, hnk, hls⟩ := hrel
    have H1 : Hid (cntD (O.take k) d = nn ∧ LS w w1 t N g0 g1 g2 (.slice ao no co) (.slice az nz cz) O Z (tot (O.take k) []) (totD (O.take k) d) (ownI (O.take k) d)) := ⟨hcn, hls⟩
    clear hcn hls
    by_cases hlt : k < no
    · have hkl : k < O.length := by have := X.out.2.1; omega
      have hfs : FS w1 (.slice ao O.length co) O := by rw [X.out.2.1]; exact H1.out.2.it.own.fs
      obtain ⟨b, off, ea, hbw, d0, d1, d2, d3⟩ := FS.at hfs (Below.refl _ _) hkl
      subst ea
      clear hfs d1 d2
      have hmem : O[k] ∈ O := List.getElem_mem hkl
      have hfe := H1.out.2.it.good.each _ hmem
      have hsz := szs_of hfe (H1.out.2.it.fok.1 _ hmem)
      have HFK : Hid (O[k].path ∈ Z ∧ okP O[k].path = true ∧ tot (O.take (k + 1)) [] = tot (O.take k) [] + sz O[k] ∧ cntD (O.take (k + 1)) d = cntD (O.take k) d + (if d ≠ [] ∧ pre (pcs d) (pp O[k]) = true then 1 else 0) ∧ totD (O.take (k + 1)) d = totD (O.take k) d + (if d ≠ [] ∧ pre (pcs d) (pp O[k]) = true then sz O[k] else 0) ∧ ownI (O.take (k + 1)) d = ownI (O.take k) d + (if d ≠ [] ∧ (pp O[k]).dropLast = pcs d then sz O[k] else 0)) :=
        ⟨X.out.2.2.2.2 _ hmem, (path_of hfe).2, tot0_next hkl (pp_ne hfe), cntD_next hkl, totD_next hkl, ownI_next hkl⟩
      have hpl : O[k].path.length ≤ 120 := (okP_len (path_of hfe).2).1
      have hsf : O[k].size = (sz O[k] : Int) := by unfold sz; omega
      unfold pp at HFK
      rw [hsf] at d3
      obtain ⟨sf, hsf2⟩ : ∃ s, sz O[k] = s := ⟨_, rfl⟩
      have HSF : Hid (sf ≤ 4611686018427387904) := by show _ ≤ _; rw [← hsf2]; exact hsz.1
      rw [hsf2] at d3 HFK
      obtain ⟨p, hp⟩ : ∃ p, O[k].path = p := ⟨_, rfl⟩
      rw [hp] at d0 HFK hpl
      have HSM : Hid (tot (O.take k) [] < 4722366482869645213696 ∧ totD (O.take k) d < 4722366482869645213696 ∧ ownI (O.take k) d < 4722366482869645213696) := sums_small H1.out.2.it.szs H1.out.2.it.good.len d k []
      have k1 : (0 : Int) ≤ (k : Int) := by omega
      have k2 : (k : Int) < (no : Int) := by omega
      have HB0 : Hid (b < w1.heap.size ∧ w1.cell? ⟨b, off + k * 4, none⟩ = some (.string (bs p)) ∧ w1.cell? ⟨b, off + k * 4 + 3, none⟩ = some (.int .i64 sf)) := ⟨hbw, d0, d3⟩
      have HO : Hid (∀ (W : World) (x y z : Nat), LS w W t N g0 g1 g2 (.slice (some ⟨b, off, none⟩) no co) (.slice az nz cz) O Z x y z → b < W.heap.size ∧ W.cell? ⟨b, off + k * 4, none⟩ = some (.string (bs p)) ∧ W.cell? ⟨b, off + k * 4 + 3, none⟩ = some (.int .i64 sf)) := by
        intro W x y z hW
        have hf2 : FS W (.slice (some ⟨b, off, none⟩) O.length co) O := by rw [X.out.2.1]; exact hW.it.own.fs
        obtain ⟨b', off', ea, hbw', e0, _, _, e3⟩ := FS.at hf2 (Below.refl _ _) hkl
        cases ea
        rw [hp] at e0
        rw [hsf, hsf2] at e3
        exact ⟨hbw', e0, e3⟩
      have HPN : Hid (pcs p ≠ []) := by show _ ≠ _; rw [← hp]; exact pp_ne hfe
      clear hmem hfe hsz hsf hsf2 hp d0 d3 hbw hkl
      go_wp2_with fail

      go_loopw [23, 24] (fun u i wr => ∃ j : Nat, j ≤ nz ∧ i = .int .i64 j ∧ u = .bool (decide (p ∈ Z.take j)) ∧ LS w wr t N g0 g1 g2 (.slice (some ⟨b, off, none⟩) no co) (.slice az nz cz) O Z (tot (O.take k) []) (totD (O.take k) d) (ownI (O.take k) d) ∧ b < wr.heap.size ∧ wr.cell? ⟨b, off + k * 4, none⟩ = some (.string (bs p)) ∧ wr.cell? ⟨b, off + k * 4 + 3, none⟩ = some (.int .i64 sf)) (fun _ i _ => nz - (intOf i).toNat)
      case atStart => exact ⟨0, by omega, rfl, by simp, H1.out.2, HB0.out⟩
      case round =>
        rename World => w2
        obtain ⟨j, hj, rfl, rfl, hls2, hb2⟩ := hrel
        have H2 : Hid (LS w w2 t N g0 g1 g2 (.slice (some ⟨b, off, none⟩) no co) (.slice az nz cz) O Z (tot (O.take k) []) (totD (O.take k) d) (ownI (O.take k) d) ∧ b < w2.heap.size ∧ w2.cell? ⟨b, off + k * 4, none⟩ = some (.string (bs p)) ∧ w2.cell? ⟨b, off + k * 4 + 3, none⟩ = some (.int .i64 sf)) := ⟨hls2, hb2⟩
        clear hls2 hb2
        by_cases hjn : j < nz
        · have hjz : j < Z.length := by have := X.out.2.2.2.1; omega
          obtain ⟨b3, off3, ea3, hb3, z0⟩ := SS.at1 (n := nz) H2.out.1.all.bs X.out.2.2.2.1 (Below.refl _ _) hjz
          subst ea3
          have HMT : Hid (decide (p ∈ Z.take (j + 1)) = (decide (p ∈ Z.take j) || (Z[j] == p))) := mem_take_succ hjz p
          obtain ⟨q, hq⟩ : ∃ q, Z[j] = q := ⟨_, rfl⟩
          rw [hq] at z0 HMT
          clear hq hjz
          have j1 : (0 : Int) ≤ (j : Int) := by omega
          have j2 : (j : Int) < (nz : Int) := by omega
          have eq1 := bs_toList q
          have eq2 := bs_toList p
          have y0 : ∀ Y : GW w2, Y.it.cell? ⟨b, off + k * 4, none⟩ = some (.string (bs p)) := fun Y => Y.cell H2.out.2.1 H2.out.2.2.1
          have y1 : ∀ Y : GW w2, Y.it.cell? ⟨b3, off3 + j, none⟩ = some (.string (bs q)) := fun Y => Y.cell hb3 z0
          have xne := gw_ne w2
          clear z0 hb3
          obtain ⟨th, hth⟩ : ∃ th, decide (p ∈ Z.take j) = th := ⟨_, rfl⟩
          rw [hth] at HMT ⊢
          clear hth
          cases th
          all_goals
            go_wp2_with fail
            refine wp_region_grow (by kernel_rfl) (by kernel_rfl) ?_
            repeat (go_big_quiet_step (fail))
            refine wpQuiet_nil ?_
            rintro w3 ⟨⟨w3, bx⟩, rfl⟩
            have H3 : Hid (LS w w3 t N g0 g1 g2 (.slice (some ⟨b, off, none⟩) no co) (.slice (some ⟨b3, off3, none⟩) nz cz) O Z (tot (O.take k) []) (totD (O.take k) d) (ownI (O.take k) d) ∧ b < w3.heap.size ∧ w3.cell? ⟨b, off + k * 4, none⟩ = some (.string (bs p)) ∧ w3.cell? ⟨b, off + k * 4 + 3, none⟩ = some (.int .i64 sf)) := ⟨H2.out.1.later bx, Nat.lt_of_lt_of_le H2.out.2.1 bx.size, (bx.cell (p := ⟨b, off + k * 4, none⟩) H2.out.2.1).trans H2.out.2.2.1, (bx.cell (p := ⟨b, off + k * 4 + 3, none⟩) H2.out.2.1).trans H2.out.2.2.2⟩
            clear bx y0 y1
            go_wp2_with fail
            go_roundw
            case rel => exact ⟨j + 1, by omega, by go_num, by rw [HMT.out]; simp, H3.out⟩
            case measure => simp [intOf]; omega
        · obtain rfl : nz = j := by omega
          have hin : decide (p ∈ Z.take nz) = true := by
            rw [List.take_of_length_le (by have := X.out.2.2.2.1; omega)]
            exact decide_eq_true HFK.out.1
          rw [hin]
          clear hin
          have HB1 : Hid (HB w2 g0 (tot (O.take k) []) ∧ b < w2.heap.size ∧ w2.cell? ⟨b, off + k * 4 + 3, none⟩ = some (.int .i64 sf) ∧ tot (O.take k) [] < 4722366482869645213696 ∧ sf ≤ 4611686018427387904) := ⟨H2.out.1.s0, H2.out.2.1, H2.out.2.2.2, HSM.out.1, HSF.out⟩
          go_wp2_with fail
          refine r41 hlt HB1 _ ?_
          intro s0 s1 s2 s3 s4 s5 s6 w8 hn8 ho8
          have H8 : Hid (LS w w8 t N g0 g1 g2 (.slice (some ⟨b, off, none⟩) no co) (.slice az nz cz) O Z (tot (O.take k) [] + sf) (totD (O.take k) d) (ownI (O.take k) d)) := H2.out.1.set0 ho8 hn8
          clear hn8 ho8 HB1
          have d0 := (HO.out _ _ _ _ H8.out).2.1
          have ez1 : (bs p).size = p.length := rfl
          have ez2 : (bs d).size = d.length := rfl
          have hdl : d.length ≤ 140737488355328 := X.out.2.2.1
          have t1 := bs_toList d
          have t2 := isE d
          rcases split_p p d with ⟨r, hr, hd, hpe⟩ | ⟨hno2, hcase⟩

          · have hin : d ≠ [] ∧ pre (pcs d) (pcs p) = true := ⟨hd, (in_iff HFK.out.2.1 hd).2 ⟨r, hr, hpe⟩⟩
            have hri : (d ≠ [] ∧ (pcs p).dropLast = pcs d) ↔ (47 : UInt8) ∉ r := by
              rw [hpe]
              exact ⟨fun h => (right_in hd hr).1 h.2, fun h => ⟨hd, (right_in hd hr).2 h⟩⟩
            have HIN : Hid (cntD (O.take (k + 1)) d = nn + 1 ∧ totD (O.take (k + 1)) d = totD (O.take k) d + sf ∧ ownI (O.take (k + 1)) d = ownI (O.take k) d + (if (47 : UInt8) ∉ r then sf else 0)) := by
              have h1 := HFK.out.2.2.2.1
              have h2 := HFK.out.2.2.2.2.1
              have h3 := HFK.out.2.2.2.2.2
              rw [if_pos hin] at h1 h2
              refine ⟨by rw [h1, H1.out.1], h2, ?_⟩
              rw [h3]
              by_cases hq : (47 : UInt8) ∈ r
              · rw [if_neg (fun h => (hri.1 h) hq), if_neg (fun h => h hq)]
              · rw [if_pos (hri.2 hq), if_pos hq]
            have hlp : p.length = d.length + 1 + r.length := by rw [hpe]; simp; omega
            have hrl : 1 ≤ r.length := by
              cases r with
              | nil => exact absurd rfl hr
              | cons a b => simp
            have HPE : Hid (p.length = d.length + 1 + r.length ∧ ∀ j (h : j < r.length) (h2 : d.length + 1 + j < p.length), p[d.length + 1 + j]'h2 = r[j]'h) := by
              refine ⟨hlp, fun j h h2 => ?_⟩
              subst hpe
              rw [List.getElem_append_right (by omega)]
              have e : d.length + 1 + j - d.length = j + 1 := by omega
              simp only [e, List.getElem_cons_succ]
            have a1 : (d.length : Int) + 1 < (p.length : Int) := by omega
            have a2 : (bs p).extract 0 d.length = bs (p.take d.length) := extract_to p d.length
            have a3 := bs_toList (p.take d.length)
            have a4 : ((p.take d.length) == d) = true := by rw [hpe]; simp
            have a5 : d.length < (bs p).size := by rw [ez1]; omega
            have a6 : (((bs p)[d.length].toNat : Int) == 47) = true := by
              rw [bs_get _ _ _ (by omega)]
              have : p[d.length]'(by omega) = 47 := by
                subst hpe
                rw [List.getElem_append_right (by omega)]; simp
              rw [this]; rfl
            have a7 : d.isEmpty = false := by
              cases d with
              | nil => exact absurd rfl hd
              | cons a b => rfl
            rw [a7] at t2
            clear hin hri hlp hrl hpe hr hd
            have HB2 : Hid (HB w8 g1 (totD (O.take k) d) ∧ b < w8.heap.size ∧ w8.cell? ⟨b, off + k * 4 + 3, none⟩ = some (.int .i64 sf) ∧ totD (O.take k) d < 4722366482869645213696 ∧ sf ≤ 4611686018427387904) := ⟨H8.out.s1, (HO.out _ _ _ _ H8.out).1, (HO.out _ _ _ _ H8.out).2.2, HSM.out.2.1, HSF.out⟩
            go_wp2_with fail
            refine r45 hlt HB2 _ ?_
            intro s0 s1 s2 s3 s4 s5 s6 w9 hn9 ho9
            have H9 : Hid (LS w w9 t N g0 g1 g2 (.slice (some ⟨b, off, none⟩) no co) (.slice az nz cz) O Z (tot (O.take k) [] + sf) (totD (O.take k) d + sf) (ownI (O.take k) d)) := H8.out.set1 ho9 hn9
            clear hn9 ho9 HB2 d0 a2 a3 a4 a5 a6 a7 t1 t2
            go_wp2_with fail
            go_loop [26, 27] (fun u i => ∃ m : Nat, d.length + 1 ≤ m ∧ m ≤ p.length ∧ i = .int .i64 m ∧ u = .bool (decide ((47 : UInt8) ∈ r.take (m - (d.length + 1))))) (fun _ i => p.length - (intOf i).toNat)
            case atStart => exact ⟨d.length + 1, by omega, by omega, by go_num, by simp⟩
            case round =>
              obtain ⟨m, hm1, hm2, rfl, rfl⟩ := hrel
              by_cases hmp : m < p.length
              · obtain ⟨j, hj⟩ : ∃ j, m = d.length + 1 + j := ⟨m - (d.length + 1), by omega⟩
                have hjr : j < r.length := by have := HPE.out.1; omega
                have HJ : Hid (decide ((47 : UInt8) ∈ r.take (m + 1 - (d.length + 1))) = (decide ((47 : UInt8) ∈ r.take (m - (d.length + 1))) || (r[j] == 47))) := by
                  have e1 : m + 1 - (d.length + 1) = j + 1 := by omega
                  have e2 : m - (d.length + 1) = j := by omega
                  show _ = _
                  rw [e1, e2, List.take_add_one, List.getElem?_eq_getElem hjr, Bool.eq_iff_iff]
                  simp only [Option.toList, List.mem_append, List.mem_singleton, decide_eq_true_eq, Bool.or_eq_true, beq_iff_eq]
                  exact ⟨fun h => h.elim .inl (fun e => .inr e.symm), fun h => h.elim .inl (fun e => .inr e.symm)⟩
                have hmz : m < (bs p).size := by rw [ez1]; omega
                have hpc : (bs p)[m] = r[j] := by
                  rw [bs_get _ _ _ hmp]
                  subst hj
                  exact HPE.out.2 j hjr hmp
                have HCC : Hid (((((bs p)[m].toNat : Int) == 47) = (r[j] == 47))) := by
                  show _ = _
                  rw [hpc, Bool.eq_iff_iff, beq_iff_eq, beq_iff_eq]
                  constructor
                  · intro h
                    exact UInt8.toNat_inj.1 (by have h2 : (r[j]).toNat = 47 := by omega
                                                rw [h2]; rfl)
                  · intro h; rw [h]; rfl
                obtain ⟨cb, hcb⟩ : ∃ cb, (r[j] == 47) = cb := ⟨_, rfl⟩
                rw [hcb] at HJ HCC
                have a9 := HCC.out
                clear hcb hpc hj hjr HCC
                obtain ⟨th, hth⟩ : ∃ th, decide ((47 : UInt8) ∈ r.take (m - (d.length + 1))) = th := ⟨_, rfl⟩
                rw [hth] at HJ ⊢
                clear hth
                cases th
                all_goals
                  cases cb
                  all_goals
                    go_wp2_with fail
                    go_round
                    case rel => exact ⟨m + 1, by omega, by omega, by go_num, by rw [HJ.out]; rfl⟩
                    case measure => simp [intOf]; omega
              · obtain rfl : m = p.length := by omega
                have hfull : r.take (p.length - (d.length + 1)) = r := List.take_of_length_le (by have := HPE.out.1; omega)
                rw [hfull]
                clear hfull
                by_cases hq : (47 : UInt8) ∈ r
                · have hqd : decide ((47 : UInt8) ∈ r) = true := decide_eq_true hq
                  have HO3 : Hid (ownI (O.take (k + 1)) d = ownI (O.take k) d) := by
                    have := HIN.out.2.2
                    rw [if_neg (fun h => h hq)] at this
                    exact this
                  rw [hqd]
                  clear hq hqd
                  go_wp2_with fail
                  go_roundw
                  case rel => exact ⟨k + 1, nn + 1, by omega, by go_num, by go_num, HIN.out.1, by omega, by rw [HFK.out.2.2.1, HIN.out.2.1, HO3.out]; exact H9.out⟩
                  case measure => simp [intOf]; omega
                · have hqd : decide ((47 : UInt8) ∈ r) = false := decide_eq_false hq
                  have HO3 : Hid (ownI (O.take (k + 1)) d = ownI (O.take k) d + sf) := by
                    have := HIN.out.2.2
                    rw [if_pos hq] at this
                    exact this
                  rw [hqd]
                  clear hq hqd
                  have HB3 : Hid (HB w9 g2 (ownI (O.take k) d) ∧ b < w9.heap.size ∧ w9.cell? ⟨b, off + k * 4 + 3, none⟩ = some (.int .i64 sf) ∧ ownI (O.take k) d < 4722366482869645213696 ∧ sf ≤ 4611686018427387904) := ⟨H9.out.s2, (HO.out _ _ _ _ H9.out).1, (HO.out _ _ _ _ H9.out).2.2, HSM.out.2.2, HSF.out⟩
                  go_wp2_with fail
                  refine r52 hlt HB3 _ ?_
                  intro s0 s1 s2 s3 s4 s5 s6 w10 hn10 ho10
                  have H10 : Hid (LS w w10 t N g0 g1 g2 (.slice (some ⟨b, off, none⟩) no co) (.slice az nz cz) O Z (tot (O.take k) [] + sf) (totD (O.take k) d + sf) (ownI (O.take k) d + sf)) := H9.out.set2 ho10 hn10
                  clear hn10 ho10 HB3
                  go_wp2_with fail
                  go_roundw
                  case rel => exact ⟨k + 1, nn + 1, by omega, by go_num, by go_num, HIN.out.1, by omega, by rw [HFK.out.2.2.1, HIN.out.2.1, HO3.out]; exact H10.out⟩
                  case measure => simp [intOf]; omega

          · have hq := not_in HFK.out.2.1 HPN.out hno2
            have HOUT : Hid (cntD (O.take (k + 1)) d = nn ∧ totD (O.take (k + 1)) d = totD (O.take k) d ∧ ownI (O.take (k + 1)) d = ownI (O.take k) d) := by
              have h1 := HFK.out.2.2.2.1
              have h2 := HFK.out.2.2.2.2.1
              have h3 := HFK.out.2.2.2.2.2
              rw [if_neg hq.1] at h1 h2
              rw [if_neg hq.2] at h3
              exact ⟨h1.trans H1.out.1, h2, h3⟩
            clear hq hno2
            rcases hcase with h | ⟨h, h2⟩ | ⟨h, h2, c, h3, h4⟩ | ⟨h, h2, h3, h4⟩
            · have a1 : ¬ (d.length : Int) + 1 < (p.length : Int) := by omega
              go_wp2_with fail
              go_roundw
              case rel => exact ⟨k + 1, nn, by omega, by go_num, rfl, HOUT.out.1, by omega, by rw [HFK.out.2.2.1, HOUT.out.2.1, HOUT.out.2.2]; exact H8.out⟩
              case measure => simp [intOf]; omega

            · have a1 : (d.length : Int) + 1 < (p.length : Int) := by omega
              have a2 : (bs p).extract 0 d.length = bs (p.take d.length) := extract_to p d.length
              have a3 := bs_toList (p.take d.length)
              have a4 : ((p.take d.length) == d) = false := by simpa using h2
              clear h h2
              go_wp2_with fail
              go_roundw
              case rel => exact ⟨k + 1, nn, by omega, by go_num, rfl, HOUT.out.1, by omega, by rw [HFK.out.2.2.1, HOUT.out.2.1, HOUT.out.2.2]; exact H8.out⟩
              case measure => simp [intOf]; omega

            · have a1 : (d.length : Int) + 1 < (p.length : Int) := by omega
              have a2 : (bs p).extract 0 d.length = bs (p.take d.length) := extract_to p d.length
              have a3 := bs_toList (p.take d.length)
              have a4 : ((p.take d.length) == d) = true := by simpa using h2
              have a5 : d.length < (bs p).size := by rw [ez1]; omega
              have a6 : (((bs p)[d.length].toNat : Int) == 47) = false := by
                rw [bs_get _ _ _ (by omega)]
                rw [List.getElem?_eq_getElem (by omega)] at h3
                rw [Option.some.inj h3, beq_eq_false_iff_ne]
                intro e
                exact h4 (UInt8.toNat_inj.1 (by have : c.toNat = 47 := by omega
                                                rw [this]; rfl))
              clear h2 h3 h4
              go_wp2_with fail
              go_roundw
              case rel => exact ⟨k + 1, nn, by omega, by go_num, rfl, HOUT.out.1, by omega, by rw [HFK.out.2.2.1, HOUT.out.2.1, HOUT.out.2.2]; exact H8.out⟩
              case measure => simp [intOf]; omega

            · have a1 : (d.length : Int) + 1 < (p.length : Int) := by omega
              have a2 : (bs p).extract 0 d.length = bs (p.take d.length) := extract_to p d.length
              have a3 := bs_toList (p.take d.length)
              have a4 : ((p.take d.length) == d) = true := by simpa using h2
              have a5 : d.length < (bs p).size := by rw [ez1]; omega
              have a6 : (((bs p)[d.length].toNat : Int) == 47) = true := by
                rw [bs_get _ _ _ (by omega)]
                rw [List.getElem?_eq_getElem (by omega)] at h3
                rw [Option.some.inj h3]; rfl
              have a7 : d.isEmpty = true := by rw [h4]; rfl
              rw [a7] at t2
              clear h2 h3 h4
              go_wp2_with fail
              go_roundw
              case rel => exact ⟨k + 1, nn, by omega, by go_num, rfl, HOUT.out.1, by omega, by rw [HFK.out.2.2.1, HOUT.out.2.1, HOUT.out.2.2]; exact H8.out⟩
              case measure => simp [intOf]; omega

    · obtain rfl : no = k := by omega
      have hT : O.take no = O := List.take_of_length_le (by have := X.out.2.1; omega)
      rw [hT] at H1
      clear hT
      go_wp2_with fail
      refine HK.out _ _ ?_
      clear HK
      have HZ : Hid (LS w w1 t N g0 g1 g2 (.slice ao no co) (.slice az nz cz) O Z (tot O []) (totD O d) (ownI O d) ∧ O.length = no ∧ cntD O d = nn ∧ d.length ≤ 140737488355328) := ⟨H1.out.2, X.out.2.1, H1.out.1, X.out.2.2.1⟩
      exact a53 HZ
end Go.Proofs.Ytceoelclnnfhhad
