/-
  The law of there and back: what lies below.
-/
import Derived.Test.YtoldcbfmkibkdaaB29
namespace Go.Proofs.Ytoldcbfmkibkdaa
open Go.RowKit

set_option maxRecDepth 100000 in
set_option maxHeartbeats 8000000 in
theorem b28 {lv0 lv1 lv2 lv6 lv7 lv8 lv9 lv10 lv11 lv14 lv15 lv16 lv17 lv18 lv19 lv20 lv21 lv22 lv23 lv24 lv25 lv26 lv27 lv28 lv29 lv30 lv31 lv32 lv33 lv34 lv35 lv36 lv37 lv38 lv39 lv40 lv41 lv42 lv43 lv44 lv45 lv46 lv47 lv48 lv49 lv50 lv51 lv52 lv53 lv54 lv55 lv56 lv57 lv58 lv59 lv60 lv61 lv62 lv63 lv64 lv65 lv66 lv67 lv68 lv69 lv70 lv71 lv72 lv73 lv74 lv75 lv76 lv77 lv78 lv79 lv80 lv81 lv82 lv83 lv84 lv85 lv86 lv87 lv88 lv89 lv90 lv91 lv92 lv93 lv94 lv95 lv96 lv97 lv98 lv99 lv100 lv101 lv102 lv103 lv104 lv105 lv106 lv107 lv108 lv109 lv110 lv111 lv112 lv113 lv114 lv115 lv116 lv117 lv118 lv119 lv120 lv121 lv122 lv123 lv124 lv125 lv126 lv127 lv128 lv129 lv130 lv131 lv132 lv133 lv134 lv135 lv136 lv137 lv138 lv139 lv140 lv141 lv142 lv143 lv144 lv145 lv146 lv147 lv148 lv149 lv150 lv151 lv152 lv153 lv154 lv155 lv156 lv157 lv158 lv159 lv160 lv161 lv162 lv163 lv164 lv165 lv166 lv167 lv168 lv169 lv170 lv171 lv172 lv173 lv174 lv175 lv176 lv177 lv178 lv179 lv180 lv181 lv182 lv183 lv184 lv185 lv186 lv187 lv188 lv189 lv190 lv191 lv192 lv193 lv194 lv195 lv196 lv197 lv198 lv199 lv200 lv201 lv202 lv203 lv204 lv205 lv206 lv207 lv208 lv209 lv210 lv211 lv212 lv213 lv214 lv215 lv216 lv217 lv218 lv219 lv220 lv221 lv222 lv223 lv224 lv225 lv226 lv227 lv228 lv229 lv230 lv231 lv232 lv233 lv234 lv235 lv236 lv237 lv238 lv239 lv240 lv241 lv242 lv243 lv244 lv245 lv246 lv247 lv248 lv249 lv250 lv251 lv252 lv253 lv254 lv255 lv256 lv257 lv258 lv259 lv260 lv261 lv262 lv263 lv264 lv265 lv266 lv267 lv268 lv269 lv270 lv271 lv272 lv273 lv274 lv275 lv276 lv277 lv278 lv279 lv280 lv281 lv282 lv283 lv284 lv285 lv286 lv287 lv288 : Value} {w wc : World} {g3 g4 g5 : Nat} {ap an bp bn cp cn : List UInt8} (X : Hid (Tri w wc g3 g4 g5 ⟨ap, an⟩ ⟨bp, bn⟩ ⟨cp, cn⟩)) (hap : okP ap = true) :
    Code.wp Try.prog (suff 28 (Try.f3.body.getD .skip)) (bodyPost Try.prog Try.f3 (GoodE w)) ⟨(lv0 :: lv1 :: lv2 :: .pointer (some ⟨g3, 0, none⟩) :: .pointer (some ⟨g4, 0, none⟩) :: .pointer (some ⟨g5, 0, none⟩) :: lv6 :: lv7 :: lv8 :: lv9 :: lv10 :: lv11 :: .string (bs (won ap)) :: .string (bs (wsb ap)) :: lv14 :: lv15 :: lv16 :: lv17 :: lv18 :: lv19 :: lv20 :: lv21 :: lv22 :: lv23 :: lv24 :: lv25 :: lv26 :: lv27 :: lv28 :: lv29 :: lv30 :: lv31 :: lv32 :: lv33 :: lv34 :: lv35 :: lv36 :: lv37 :: lv38 :: lv39 :: lv40 :: lv41 :: lv42 :: lv43 :: lv44 :: lv45 :: lv46 :: lv47 :: lv48 :: lv49 :: lv50 :: lv51 :: lv52 :: lv53 :: lv54 :: lv55 :: lv56 :: lv57 :: lv58 :: lv59 :: lv60 :: lv61 :: lv62 :: lv63 :: lv64 :: lv65 :: lv66 :: lv67 :: lv68 :: lv69 :: lv70 :: lv71 :: lv72 :: lv73 :: lv74 :: lv75 :: lv76 :: lv77 :: lv78 :: lv79 :: lv80 :: lv81 :: lv82 :: lv83 :: lv84 :: lv85 :: lv86 :: lv87 :: lv88 :: lv89 :: lv90 :: lv91 :: lv92 :: lv93 :: lv94 :: lv95 :: lv96 :: lv97 :: lv98 :: lv99 :: lv100 :: lv101 :: lv102 :: lv103 :: lv104 :: lv105 :: lv106 :: lv107 :: lv108 :: lv109 :: lv110 :: lv111 :: lv112 :: lv113 :: lv114 :: lv115 :: lv116 :: lv117 :: lv118 :: lv119 :: lv120 :: lv121 :: lv122 :: lv123 :: lv124 :: lv125 :: lv126 :: lv127 :: lv128 :: lv129 :: lv130 :: lv131 :: lv132 :: lv133 :: lv134 :: lv135 :: lv136 :: lv137 :: lv138 :: lv139 :: lv140 :: lv141 :: lv142 :: lv143 :: lv144 :: lv145 :: lv146 :: lv147 :: lv148 :: lv149 :: lv150 :: lv151 :: lv152 :: lv153 :: lv154 :: lv155 :: lv156 :: lv157 :: lv158 :: lv159 :: lv160 :: lv161 :: lv162 :: lv163 :: lv164 :: lv165 :: lv166 :: lv167 :: lv168 :: lv169 :: lv170 :: lv171 :: lv172 :: lv173 :: lv174 :: lv175 :: lv176 :: lv177 :: lv178 :: lv179 :: lv180 :: lv181 :: lv182 :: lv183 :: lv184 :: lv185 :: lv186 :: lv187 :: lv188 :: lv189 :: lv190 :: lv191 :: lv192 :: lv193 :: lv194 :: lv195 :: lv196 :: lv197 :: lv198 :: lv199 :: lv200 :: lv201 :: lv202 :: lv203 :: lv204 :: lv205 :: lv206 :: lv207 :: lv208 :: lv209 :: lv210 :: lv211 :: lv212 :: lv213 :: lv214 :: lv215 :: lv216 :: lv217 :: lv218 :: lv219 :: lv220 :: lv221 :: lv222 :: lv223 :: lv224 :: lv225 :: lv226 :: lv227 :: lv228 :: lv229 :: lv230 :: lv231 :: lv232 :: lv233 :: lv234 :: lv235 :: lv236 :: lv237 :: lv238 :: lv239 :: lv240 :: lv241 :: lv242 :: lv243 :: lv244 :: lv245 :: lv246 :: lv247 :: lv248 :: lv249 :: lv250 :: lv251 :: lv252 :: lv253 :: lv254 :: lv255 :: lv256 :: lv257 :: lv258 :: lv259 :: lv260 :: lv261 :: lv262 :: lv263 :: lv264 :: lv265 :: lv266 :: lv267 :: lv268 :: lv269 :: lv270 :: lv271 :: lv272 :: lv273 :: lv274 :: lv275 :: lv276 :: lv277 :: lv278 :: lv279 :: lv280 :: lv281 :: lv282 :: lv283 :: lv284 :: lv285 :: lv286 :: lv287 :: lv288 :: []).toArray, []⟩ wc := by
  conv => arg 2; whnf
  obtain ⟨a0, _, _, _⟩ := X.out.ra.cells
  obtain ⟨c0, _, _, _⟩ := X.out.rc.cells
  simp only at a0 c0
  have l3 := X.out.ra.lt
  have l5 := X.out.rc.lt
  have x3 : ∀ Y : GW wc, Y.it.cell? ⟨g3, 0, none⟩ = some (.string (bs ap)) := fun Y => Y.cell l3 a0
  have x5 : ∀ Y : GW wc, Y.it.cell? ⟨g5, 0, none⟩ = some (.string (bs cp)) := fun Y => Y.cell l5 c0
  have xne := gw_ne wc
  have z1 : (bs ap).size = ap.length := rfl
  have z2 : (bs cp).size = cp.length := rfl
  have s1 := X.out.sa.pkg
  have s2 := X.out.sc.pkg
  simp only at s1 s2
  have HP : Hid (okP ap = true) := hap
  have ee := isE ap
  have e1 := bs_toList ap
  have e3 := bs_toList cp
  clear hap a0 c0 l3 l5
  refine wp_seq_k fun K hK => ?_
  have HK : Hid _ := hK
  clear hK
  by_cases h0 : ap = []
  · have HW : Hid (blw ap cp = true) := by show blw ap cp = true; rw [h0]; exact abv_root cp
    have h0' : ap.isEmpty = true := by rw [h0]; rfl
    rw [h0'] at ee
    have h0b : (ap == []) = true := by rw [h0]; rfl
    clear h0 s1 s2
    go_wp2_with fail
    refine wp_region_grow (by kernel_rfl) (by kernel_rfl) ?_
    repeat (go_big_quiet_step (fail))
    refine wpQuiet_nil ?_
    rintro w2 ⟨⟨w2, bx⟩, rfl⟩
    have X2 : Hid (Tri w w2 g3 g4 g5 ⟨ap, an⟩ ⟨bp, bn⟩ ⟨cp, cn⟩) := X.out.later bx
    clear bx x3 x5 xne
    go_wp2_with fail
    refine HK.out _ _ ?_
    clear HK

    exact b29 X2 HP.out HW.out

  have h0' : ap.isEmpty = false := by
    cases ap with
    | nil => exact absurd rfl h0
    | cons => rfl
  rw [h0'] at ee
  have h0b : (ap == []) = false := by simpa using h0
  by_cases h1 : cp = ap
  · have HW : Hid (blw ap cp = true) := by show blw ap cp = true; rw [h1]; simp [blw]
    clear h0 s1 s2
    subst h1
    go_wp2_with fail
    refine wp_region_grow (by kernel_rfl) (by kernel_rfl) ?_
    repeat (go_big_quiet_step (fail))
    refine wpQuiet_nil ?_
    rintro w2 ⟨⟨w2, bx⟩, rfl⟩
    have X2 : Hid (Tri w w2 g3 g4 g5 ⟨cp, an⟩ ⟨bp, bn⟩ ⟨cp, cn⟩) := X.out.later bx
    clear bx x3 x5 xne
    go_wp2_with fail
    refine HK.out _ _ ?_
    clear HK

    exact b29 X2 HP.out HW.out

  have h1' : (cp == ap) = false := by simpa using h1
  by_cases h2 : ap.length < cp.length
  rotate_left
  · have HW : Hid (blw ap cp = false) := by
      show blw ap cp = false
      have : ¬ (abvV ap cp = true) := fun h => h2 ((abv_bytes ap cp h0).1 h).1
      simp only [Bool.not_eq_true] at this
      simp [blw, h1, this]
    have h2' : ¬ ((ap.length : Int) < (cp.length : Int)) := by omega
    clear h1 h0
    go_wp2_with fail
    refine wp_region_grow (by kernel_rfl) (by kernel_rfl) ?_
    repeat (go_big_quiet_step (fail))
    refine wpQuiet_nil ?_
    rintro w2 ⟨⟨w2, bx⟩, rfl⟩
    have X2 : Hid (Tri w w2 g3 g4 g5 ⟨ap, an⟩ ⟨bp, bn⟩ ⟨cp, cn⟩) := X.out.later bx
    clear bx x3 x5 xne
    go_wp2_with fail
    refine HK.out _ _ ?_
    clear HK

    exact b29 X2 HP.out HW.out

  have h2' : (ap.length : Int) < (cp.length : Int) := by omega
  have h2'' : (ap.length : Int) ≤ (cp.length : Int) := by omega
  have h2z : (0 : Int) ≤ (ap.length : Int) := by omega
  obtain ⟨U, hU⟩ : ∃ U, cp.take ap.length = U := ⟨_, rfl⟩
  have E : (bs cp).extract 0 ap.length = bs U := by rw [← hU]; exact extract_to cp ap.length
  have e4 := bs_toList U
  by_cases h3 : U = ap
  rotate_left
  · have HW : Hid (blw ap cp = false) := by
      show blw ap cp = false
      have : ¬ (abvV ap cp = true) := fun h => h3 (hU.symm.trans ((abv_bytes ap cp h0).1 h).2.1)
      simp only [Bool.not_eq_true] at this
      simp [blw, h1, this]
    have h3' : (U == ap) = false := by simpa using h3
    clear h1 h0 hU h3
    go_wp2_with fail
    refine wp_region_grow (by kernel_rfl) (by kernel_rfl) ?_
    repeat (go_big_quiet_step (fail))
    refine wpQuiet_nil ?_
    rintro w2 ⟨⟨w2, bx⟩, rfl⟩
    have X2 : Hid (Tri w w2 g3 g4 g5 ⟨ap, an⟩ ⟨bp, bn⟩ ⟨cp, cn⟩) := X.out.later bx
    clear bx x3 x5 xne
    go_wp2_with fail
    refine HK.out _ _ ?_
    clear HK

    exact b29 X2 HP.out HW.out

  have E' : (bs cp).extract 0 ap.length = bs ap := by rw [E, h3]
  clear E e4
  have hkz : ap.length < (bs cp).size := h2
  by_cases h4 : cp[ap.length]'h2 = 47
  · have HW : Hid (blw ap cp = true) := by
      show blw ap cp = true
      have : abvV ap cp = true := (abv_bytes ap cp h0).2 ⟨h2, hU.trans h3, by rw [List.getElem?_eq_getElem h2, h4]⟩
      simp [blw, this]
    have e5 : (((bs cp)[ap.length].toNat : Int) == 47) = true := by rw [bs_get _ _ _ h2, h4]; rfl
    clear h1 h0 hU h3 h4
    go_wp2_with fail
    refine wp_region_grow (by kernel_rfl) (by kernel_rfl) ?_
    repeat (go_big_quiet_step (fail))
    refine wpQuiet_nil ?_
    rintro w2 ⟨⟨w2, bx⟩, rfl⟩
    have X2 : Hid (Tri w w2 g3 g4 g5 ⟨ap, an⟩ ⟨bp, bn⟩ ⟨cp, cn⟩) := X.out.later bx
    clear bx x3 x5 xne
    go_wp2_with fail
    refine HK.out _ _ ?_
    clear HK

    exact b29 X2 HP.out HW.out

  · have HW : Hid (blw ap cp = false) := by
      show blw ap cp = false
      have : ¬ (abvV ap cp = true) := fun h => h4 (by
        have := ((abv_bytes ap cp h0).1 h).2.2
        rw [List.getElem?_eq_getElem h2] at this; exact Option.some.inj this)
      simp only [Bool.not_eq_true] at this
      simp [blw, h1, this]
    have e5 : (((bs cp)[ap.length].toNat : Int) == 47) = false := by
      rw [bs_get _ _ _ h2, beq_eq_false_iff_ne]; intro e; apply h4; apply UInt8.toNat_inj.1; exact Int.ofNat.inj e
    clear h1 h0 hU h3 h4
    go_wp2_with fail
    refine wp_region_grow (by kernel_rfl) (by kernel_rfl) ?_
    repeat (go_big_quiet_step (fail))
    refine wpQuiet_nil ?_
    rintro w2 ⟨⟨w2, bx⟩, rfl⟩
    have X2 : Hid (Tri w w2 g3 g4 g5 ⟨ap, an⟩ ⟨bp, bn⟩ ⟨cp, cn⟩) := X.out.later bx
    clear bx x3 x5 xne
    go_wp2_with fail
    refine HK.out _ _ ?_
    clear HK

    exact b29 X2 HP.out HW.out
end Go.Proofs.Ytoldcbfmkibkdaa
