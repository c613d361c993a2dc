/-
  The law of sums: the end.
-/
import Derived.Test.YtceoelclnnfhhadAddsB
namespace Go.Proofs.Ytceoelclnnfhhad
open Go.RowKit

set_option maxRecDepth 100000 in
set_option maxHeartbeats 8000000 in
theorem a53 {lv0 lv1 lv3 lv4 lv5 lv6 lv8 lv10 lv11 lv12 lv13 lv14 lv15 lv16 lv17 lv22 lv23 lv24 lv25 lv26 lv27 lv28 lv29 lv30 lv31 lv32 lv33 lv34 lv35 lv36 lv37 lv38 lv39 lv40 lv41 lv42 lv43 lv44 lv45 lv46 lv47 lv48 lv49 lv50 lv51 lv52 lv53 lv54 lv55 lv56 lv57 lv58 lv59 lv60 lv61 lv62 lv63 lv64 lv65 lv66 lv67 lv68 lv69 lv70 lv71 lv72 lv73 lv74 lv75 lv76 lv77 lv78 lv79 lv80 lv81 lv82 lv83 lv84 lv85 lv86 lv87 lv88 lv89 lv90 lv91 lv92 lv93 lv94 lv95 lv96 lv97 lv98 lv99 lv100 lv101 lv102 lv103 lv104 lv105 lv106 lv107 lv108 lv109 lv110 lv111 lv112 lv113 lv114 lv115 lv116 lv117 lv118 lv119 lv120 lv121 lv122 lv123 lv124 lv125 lv126 lv127 lv128 lv129 lv130 lv131 lv132 lv133 lv134 lv135 lv136 lv137 lv138 lv139 lv140 lv141 lv142 lv143 lv144 lv145 lv146 lv147 lv148 lv149 lv150 lv151 lv152 lv153 lv154 lv155 lv156 lv157 lv158 lv159 lv160 lv161 lv162 lv163 lv164 lv165 lv166 lv167 lv168 lv169 lv170 lv171 lv172 lv173 lv174 lv175 lv176 lv177 lv178 lv179 lv180 lv181 lv182 lv183 lv184 lv185 lv186 lv187 lv188 lv189 lv190 lv191 lv192 lv193 lv194 lv195 lv196 lv197 lv198 lv199 lv200 lv201 lv202 lv203 lv204 lv205 lv206 lv207 lv208 lv209 lv210 lv211 lv212 lv213 lv214 lv215 lv216 lv217 lv218 lv219 lv220 lv221 lv222 lv223 lv224 lv225 lv226 lv227 lv228 lv229 lv230 lv231 lv232 lv233 lv234 lv235 lv236 lv237 lv238 lv239 lv240 lv241 lv242 lv243 lv244 lv245 lv246 lv247 lv248 lv249 lv250 lv251 lv252 lv253 lv254 lv255 lv256 lv257 lv258 lv259 lv260 lv261 lv262 : Value} {w wc : World} {t N g0 g1 g2 no co : Nat} {ao : Option Addr} {va : Value} {O : List Fl} {Z : List (List UInt8)} {d : List UInt8} {nn : Nat} (X : Hid (LS w wc t N g0 g1 g2 (.slice ao no co) va O Z (tot O []) (totD O d) (ownI O d) ∧ O.length = no ∧ cntD O d = nn ∧ d.length ≤ 140737488355328)) :
    Code.wp Try.prog (suff 53 (Try.f3.body.getD .skip)) (bodyPost Try.prog Try.f3 (GoodE w)) ⟨(lv0 :: lv1 :: .string (bs d) :: lv3 :: lv4 :: lv5 :: lv6 :: .pointer (some ⟨t, 0, none⟩) :: lv8 :: .slice ao no co :: lv10 :: lv11 :: lv12 :: lv13 :: lv14 :: lv15 :: lv16 :: lv17 :: .pointer (some ⟨g0, 0, none⟩) :: .pointer (some ⟨g1, 0, none⟩) :: .pointer (some ⟨g2, 0, none⟩) :: .int .i64 (nn : Nat) :: lv22 :: lv23 :: lv24 :: lv25 :: lv26 :: lv27 :: lv28 :: lv29 :: lv30 :: lv31 :: lv32 :: lv33 :: lv34 :: lv35 :: lv36 :: lv37 :: lv38 :: lv39 :: lv40 :: lv41 :: lv42 :: lv43 :: lv44 :: lv45 :: lv46 :: lv47 :: lv48 :: lv49 :: lv50 :: lv51 :: lv52 :: lv53 :: lv54 :: lv55 :: lv56 :: lv57 :: lv58 :: lv59 :: lv60 :: lv61 :: lv62 :: lv63 :: lv64 :: lv65 :: lv66 :: lv67 :: lv68 :: lv69 :: lv70 :: lv71 :: lv72 :: lv73 :: lv74 :: lv75 :: lv76 :: lv77 :: lv78 :: lv79 :: lv80 :: lv81 :: lv82 :: lv83 :: lv84 :: lv85 :: lv86 :: lv87 :: lv88 :: lv89 :: lv90 :: lv91 :: lv92 :: lv93 :: lv94 :: lv95 :: lv96 :: lv97 :: lv98 :: lv99 :: lv100 :: lv101 :: lv102 :: lv103 :: lv104 :: lv105 :: lv106 :: lv107 :: lv108 :: lv109 :: lv110 :: lv111 :: lv112 :: lv113 :: lv114 :: lv115 :: lv116 :: lv117 :: lv118 :: lv119 :: lv120 :: lv121 :: lv122 :: lv123 :: lv124 :: lv125 :: lv126 :: lv127 :: lv128 :: lv129 :: lv130 :: lv131 :: lv132 :: lv133 :: lv134 :: lv135 :: lv136 :: lv137 :: lv138 :: lv139 :: lv140 :: lv141 :: lv142 :: lv143 :: lv144 :: lv145 :: lv146 :: lv147 :: lv148 :: lv149 :: lv150 :: lv151 :: lv152 :: lv153 :: lv154 :: lv155 :: lv156 :: lv157 :: lv158 :: lv159 :: lv160 :: lv161 :: lv162 :: lv163 :: lv164 :: lv165 :: lv166 :: lv167 :: lv168 :: lv169 :: lv170 :: lv171 :: lv172 :: lv173 :: lv174 :: lv175 :: lv176 :: lv177 :: lv178 :: lv179 :: lv180 :: lv181 :: lv182 :: lv183 :: lv184 :: lv185 :: lv186 :: lv187 :: lv188 :: lv189 :: lv190 :: lv191 :: lv192 :: lv193 :: lv194 :: lv195 :: lv196 :: lv197 :: lv198 :: lv199 :: lv200 :: lv201 :: lv202 :: lv203 :: lv204 :: lv205 :: lv206 :: lv207 :: lv208 :: lv209 :: lv210 :: lv211 :: lv212 :: lv213 :: lv214 :: lv215 :: lv216 :: lv217 :: lv218 :: lv219 :: lv220 :: lv221 :: lv222 :: lv223 :: lv224 :: lv225 :: lv226 :: lv227 :: lv228 :: lv229 :: lv230 :: lv231 :: lv232 :: lv233 :: lv234 :: lv235 :: lv236 :: lv237 :: lv238 :: lv239 :: lv240 :: lv241 :: lv242 :: lv243 :: lv244 :: lv245 :: lv246 :: lv247 :: lv248 :: lv249 :: lv250 :: lv251 :: lv252 :: lv253 :: lv254 :: lv255 :: lv256 :: lv257 :: lv258 :: lv259 :: lv260 :: lv261 :: lv262 :: []).toArray, []⟩ wc := by
  conv => arg 2; whnf
  have hsm := sums_small X.out.1.it.szs X.out.1.it.good.len d O.length []
  rw [List.take_length] at hsm
  obtain ⟨S0, hS0⟩ : ∃ S, cap (tot O []) = S := ⟨_, rfl⟩
  obtain ⟨xh, hxh⟩ : ∃ x, tot O [] / 4611686018427387904 = x := ⟨_, rfl⟩
  obtain ⟨xl, hxl⟩ : ∃ x, tot O [] % 4611686018427387904 = x := ⟨_, rfl⟩
  obtain ⟨yh, hyh⟩ : ∃ x, totD O d / 4611686018427387904 = x := ⟨_, rfl⟩
  obtain ⟨yl, hyl⟩ : ∃ x, totD O d % 4611686018427387904 = x := ⟨_, rfl⟩
  obtain ⟨zh, hzh⟩ : ∃ x, ownI O d / 4611686018427387904 = x := ⟨_, rfl⟩
  obtain ⟨zl, hzl⟩ : ∃ x, ownI O d % 4611686018427387904 = x := ⟨_, rfl⟩
  have HE : Hid (totD O d / 4611686018427387904 = yh ∧ totD O d % 4611686018427387904 = yl ∧ ownI O d / 4611686018427387904 = zh ∧ ownI O d % 4611686018427387904 = zl ∧ totD O d < 4722366482869645213696 ∧ ownI O d < 4722366482869645213696) := ⟨hyh, hyl, hzh, hzl, hsm.2.1, hsm.2.2⟩
  have k0 : Hid (∀ Y : GW wc, Calls Try.prog 10 #[.pointer (some ⟨t, 0, none⟩), .string ⟨#[]⟩] Y.it fun e w' => e = .returned (.int .i64 S0) ∧ ∃ X : GW wc, w' = X.it) := fun Y => X.out.1.size [] (by simp) hS0 Y
  have k1 : Hid (∀ Y : GW wc, Calls Try.prog 11 #[.agg #[.int .i64 xh, .int .i64 xl]] Y.it fun e w' => e = .returned (.int .i64 S0) ∧ ∃ X : GW wc, w' = X.it) := fun Y => cap_grow _ hsm.1 hxh hxl hS0 Y
  have k2 : Hid (∀ Y : GW wc, Calls Try.prog 12 #[.pointer (some ⟨t, 0, none⟩), .string ⟨#[]⟩] Y.it fun e w' => e = .returned (.int .i64 no) ∧ ∃ X : GW wc, w' = X.it) := fun Y => X.out.1.count [] (by simp) ((cnt_root X.out.1.it.good).trans X.out.2.1) Y
  obtain ⟨c0, c1⟩ := X.out.1.s0.cells
  rw [hxh] at c0
  rw [hxl] at c1
  have hl0 := X.out.1.s0.lt
  have y0 : ∀ Y : GW wc, Y.it.cell? ⟨g0, 0, none⟩ = some (.int .i64 xh) := fun Y => Y.cell hl0 c0
  have y1 : ∀ Y : GW wc, Y.it.cell? ⟨g0, 1, none⟩ = some (.int .i64 xl) := fun Y => Y.cell hl0 c1
  have xne := gw_ne wc
  have hss : (S0 != S0) = false := by simp
  have hnn : ((no : Int) != (no : Int)) = false := by simp
  clear hsm hS0 hxh hxl hyh hyl hzh hzl c0 c1

  refine wp_seq_k fun K hK => ?_
  have HK : Hid _ := hK
  clear hK

  go_wp2_with fail
  refine wp_region_grow (by kernel_rfl) (by kernel_rfl) ?_
  repeat (go_big_quiet_step (first | with_reducible exact k0.out _ | with_reducible exact k1.out _ | with_reducible exact k2.out _))
  refine wpQuiet_nil ?_
  rintro w2 ⟨⟨w2, bx⟩, rfl⟩
  have X2 : Hid (LS w w2 t N g0 g1 g2 (.slice ao no co) va O Z (tot O []) (totD O d) (ownI O d)) := X.out.1.later bx
  clear bx y0 y1 xne k0 k1 k2
  go_wp2_with fail

  refine HK.out _ _ ?_
  clear HK
  conv => arg 2; whnf

  have ee := isE d
  by_cases hd : d = []
  · have HD : Hid (d = []) := hd
    have hde : d.isEmpty = true := by rw [hd]; rfl
    rw [hde] at ee
    clear hd hde
    have xne := gw_ne w2
    go_wp2_with fail
    refine wp_region_grow (by kernel_rfl) (by kernel_rfl) ?_
    repeat (go_big_quiet_step (fail))
    refine wpQuiet_nil ?_
    rintro w3 ⟨⟨w3, bx⟩, rfl⟩
    have H3 : Hid (Below w.heap.size w w3) := bstep X2.out.it.below bx
    clear bx
    go_wp2_with fail
    go_ret
    exact ⟨rfl, H3.out⟩
  · have hde : d.isEmpty = false := by
      cases d with
      | nil => exact absurd rfl hd
      | cons a b => rfl
    rw [hde] at ee
    have eC : cnt O (pcs d) = nn := by have := X.out.2.2.1; unfold cntD at this; rw [if_neg hd] at this; exact this
    have eT : totD O d = tot O (pcs d) := by unfold totD; rw [if_neg hd]
    have eO : ownI O d = own O (pcs d) := by unfold ownI; rw [if_neg hd]
    obtain ⟨S1, hS1⟩ : ∃ S, cap (tot O (pcs d)) = S := ⟨_, rfl⟩
    obtain ⟨S2, hS2⟩ : ∃ S, cap (own O (pcs d)) = S := ⟨_, rfl⟩
    have k0 : Hid (∀ Y : GW w2, Calls Try.prog 12 #[.pointer (some ⟨t, 0, none⟩), .string (bs d)] Y.it fun e w' => e = .returned (.int .i64 nn) ∧ ∃ X : GW w2, w' = X.it) := fun Y => X2.out.count d X.out.2.2.2 eC Y
    have k1 : Hid (∀ Y : GW w2, Calls Try.prog 10 #[.pointer (some ⟨t, 0, none⟩), .string (bs d)] Y.it fun e w' => e = .returned (.int .i64 S1) ∧ ∃ X : GW w2, w' = X.it) := fun Y => X2.out.size d X.out.2.2.2 hS1 Y
    have k2 : Hid (∀ Y : GW w2, Calls Try.prog 13 #[.pointer (some ⟨t, 0, none⟩), .string (bs d)] Y.it fun e w' => e = .returned (.int .i64 S2) ∧ ∃ X : GW w2, w' = X.it) := fun Y => X2.out.ownT d X.out.2.2.2 hS2 Y
    have k3 : Hid (∀ Y : GW w2, Calls Try.prog 11 #[.agg #[.int .i64 yh, .int .i64 yl]] Y.it fun e w' => e = .returned (.int .i64 S1) ∧ ∃ X : GW w2, w' = X.it) := fun Y => cap_grow _ HE.out.2.2.2.2.1 HE.out.1 HE.out.2.1 (by rw [eT]; exact hS1) Y
    have k4 : Hid (∀ Y : GW w2, Calls Try.prog 11 #[.agg #[.int .i64 zh, .int .i64 zl]] Y.it fun e w' => e = .returned (.int .i64 S2) ∧ ∃ X : GW w2, w' = X.it) := fun Y => cap_grow _ HE.out.2.2.2.2.2 HE.out.2.2.1 HE.out.2.2.2.1 (by rw [eO]; exact hS2) Y
    obtain ⟨c0, c1⟩ := X2.out.s1.cells
    rw [HE.out.1] at c0
    rw [HE.out.2.1] at c1
    have hl1 := X2.out.s1.lt
    have y0 : ∀ Y : GW w2, Y.it.cell? ⟨g1, 0, none⟩ = some (.int .i64 yh) := fun Y => Y.cell hl1 c0
    have y1 : ∀ Y : GW w2, Y.it.cell? ⟨g1, 1, none⟩ = some (.int .i64 yl) := fun Y => Y.cell hl1 c1
    obtain ⟨c2, c3⟩ := X2.out.s2.cells
    rw [HE.out.2.2.1] at c2
    rw [HE.out.2.2.2.1] at c3
    have hl2 := X2.out.s2.lt
    have y2 : ∀ Y : GW w2, Y.it.cell? ⟨g2, 0, none⟩ = some (.int .i64 zh) := fun Y => Y.cell hl2 c2
    have y3 : ∀ Y : GW w2, Y.it.cell? ⟨g2, 1, none⟩ = some (.int .i64 zl) := fun Y => Y.cell hl2 c3
    have xne := gw_ne w2
    have h1 : ((nn : Int) == (nn : Int)) = true := by simp
    have h2 : (S1 == S1) = true := by simp
    have h3 : (S2 == S2) = true := by simp
    clear hd hde eC eT eO hS1 hS2 c0 c1 c2 c3
    go_wp2_with fail
    refine wp_region_grow (by kernel_rfl) (by kernel_rfl) ?_
    repeat (go_big_quiet_step (first | with_reducible exact k0.out _ | with_reducible exact k1.out _ | with_reducible exact k2.out _ | with_reducible exact k3.out _ | with_reducible exact k4.out _))
    refine wpQuiet_nil ?_
    rintro w3 ⟨⟨w3, bx⟩, rfl⟩
    have H3 : Hid (Below w.heap.size w w3) := bstep X2.out.it.below bx
    clear bx
    go_wp2_with fail
    go_ret
    exact ⟨rfl, H3.out⟩
end Go.Proofs.Ytceoelclnnfhhad
