/-
  The law of sums: the walk.
-/
import Derived.Test.YtceoelclnnfhhadAddsD
namespace Go.Proofs.Ytceoelclnnfhhad
open Go.RowKit

theorem walk_root {w wc : World} {t N : Nat} {v : Value} {O : List Fl} (h : AS w wc t N O v O) : Calls Try.prog 8 #[.pointer (some ⟨t, 0, none⟩), .string ⟨#[]⟩, .int .i64 0] wc fun e w' => ∃ va Z, e = .returned (.tuple #[va, .bool true]) ∧ Own w.heap.size w' va Z ∧ Z.length = O.length ∧ (∀ f ∈ O, f.path ∈ Z) ∧ Below wc.heap.size wc w' := by
  obtain ⟨F, h1, _⟩ := h.tr
  refine (walk_any 12 [] wc h1 rfl (by simp)).mono ?_
  rintro e w' ⟨va, Z, rfl, h2, h3, h4, h5⟩
  exact ⟨va, Z, rfl, h2.mono h.below.size, h3.trans (cnt_root h.good), fun f hf => h4 f hf (pre_nil (h.good.ne f hf)), h5⟩
theorem HB.zero {w : World} {g : Nat} (h : w.heap[g]? = some (.cells #[.int .i64 0, .int .i64 0] 39 (0, 0))) : HB w g 0 := ⟨h⟩

set_option maxRecDepth 100000 in
set_option maxHeartbeats 8000000 in
theorem a26 {lv0 lv1 lv3 lv4 lv5 lv6 lv8 lv10 lv11 lv12 lv13 lv14 lv15 lv16 lv17 lv18 lv19 lv20 lv21 lv22 lv23 lv24 lv25 lv26 lv27 lv28 lv29 lv30 lv31 lv32 lv33 lv34 lv35 lv36 lv37 lv38 lv39 lv40 lv41 lv42 lv43 lv44 lv45 lv46 lv47 lv48 lv49 lv50 lv51 lv52 lv53 lv54 lv55 lv56 lv57 lv58 lv59 lv60 lv61 lv62 lv63 lv64 lv65 lv66 lv67 lv68 lv69 lv70 lv71 lv72 lv73 lv74 lv75 lv76 lv77 lv78 lv79 lv80 lv81 lv82 lv83 lv84 lv85 lv86 lv87 lv88 lv89 lv90 lv91 lv92 lv93 lv94 lv95 lv96 lv97 lv98 lv99 lv100 lv101 lv102 lv103 lv104 lv105 lv106 lv107 lv108 lv109 lv110 lv111 lv112 lv113 lv114 lv115 lv116 lv117 lv118 lv119 lv120 lv121 lv122 lv123 lv124 lv125 lv126 lv127 lv128 lv129 lv130 lv131 lv132 lv133 lv134 lv135 lv136 lv137 lv138 lv139 lv140 lv141 lv142 lv143 lv144 lv145 lv146 lv147 lv148 lv149 lv150 lv151 lv152 lv153 lv154 lv155 lv156 lv157 lv158 lv159 lv160 lv161 lv162 lv163 lv164 lv165 lv166 lv167 lv168 lv169 lv170 lv171 lv172 lv173 lv174 lv175 lv176 lv177 lv178 lv179 lv180 lv181 lv182 lv183 lv184 lv185 lv186 lv187 lv188 lv189 lv190 lv191 lv192 lv193 lv194 lv195 lv196 lv197 lv198 lv199 lv200 lv201 lv202 lv203 lv204 lv205 lv206 lv207 lv208 lv209 lv210 lv211 lv212 lv213 lv214 lv215 lv216 lv217 lv218 lv219 lv220 lv221 lv222 lv223 lv224 lv225 lv226 lv227 lv228 lv229 lv230 lv231 lv232 lv233 lv234 lv235 lv236 lv237 lv238 lv239 lv240 lv241 lv242 lv243 lv244 lv245 lv246 lv247 lv248 lv249 lv250 lv251 lv252 lv253 lv254 lv255 lv256 lv257 lv258 lv259 lv260 lv261 lv262 : Value} {w wc : World} {t N no co : Nat} {ao : Option Addr} {O : List Fl} {d : List UInt8} (X : Hid (AS w wc t N O (.slice ao no co) O ∧ O.length = no ∧ d.length ≤ 140737488355328)) :
    Code.wp Try.prog (suff 26 (Try.f3.body.getD .skip)) (bodyPost Try.prog Try.f3 (GoodE w)) ⟨(lv0 :: lv1 :: .string (bs d) :: lv3 :: lv4 :: lv5 :: lv6 :: .pointer (some ⟨t, 0, none⟩) :: lv8 :: .slice ao no co :: lv10 :: lv11 :: lv12 :: lv13 :: lv14 :: lv15 :: lv16 :: lv17 :: lv18 :: lv19 :: lv20 :: lv21 :: lv22 :: lv23 :: lv24 :: lv25 :: lv26 :: lv27 :: lv28 :: lv29 :: lv30 :: lv31 :: lv32 :: lv33 :: lv34 :: lv35 :: lv36 :: lv37 :: lv38 :: lv39 :: lv40 :: lv41 :: lv42 :: lv43 :: lv44 :: lv45 :: lv46 :: lv47 :: lv48 :: lv49 :: lv50 :: lv51 :: lv52 :: lv53 :: lv54 :: lv55 :: lv56 :: lv57 :: lv58 :: lv59 :: lv60 :: lv61 :: lv62 :: lv63 :: lv64 :: lv65 :: lv66 :: lv67 :: lv68 :: lv69 :: lv70 :: lv71 :: lv72 :: lv73 :: lv74 :: lv75 :: lv76 :: lv77 :: lv78 :: lv79 :: lv80 :: lv81 :: lv82 :: lv83 :: lv84 :: lv85 :: lv86 :: lv87 :: lv88 :: lv89 :: lv90 :: lv91 :: lv92 :: lv93 :: lv94 :: lv95 :: lv96 :: lv97 :: lv98 :: lv99 :: lv100 :: lv101 :: lv102 :: lv103 :: lv104 :: lv105 :: lv106 :: lv107 :: lv108 :: lv109 :: lv110 :: lv111 :: lv112 :: lv113 :: lv114 :: lv115 :: lv116 :: lv117 :: lv118 :: lv119 :: lv120 :: lv121 :: lv122 :: lv123 :: lv124 :: lv125 :: lv126 :: lv127 :: lv128 :: lv129 :: lv130 :: lv131 :: lv132 :: lv133 :: lv134 :: lv135 :: lv136 :: lv137 :: lv138 :: lv139 :: lv140 :: lv141 :: lv142 :: lv143 :: lv144 :: lv145 :: lv146 :: lv147 :: lv148 :: lv149 :: lv150 :: lv151 :: lv152 :: lv153 :: lv154 :: lv155 :: lv156 :: lv157 :: lv158 :: lv159 :: lv160 :: lv161 :: lv162 :: lv163 :: lv164 :: lv165 :: lv166 :: lv167 :: lv168 :: lv169 :: lv170 :: lv171 :: lv172 :: lv173 :: lv174 :: lv175 :: lv176 :: lv177 :: lv178 :: lv179 :: lv180 :: lv181 :: lv182 :: lv183 :: lv184 :: lv185 :: lv186 :: lv187 :: lv188 :: lv189 :: lv190 :: lv191 :: lv192 :: lv193 :: lv194 :: lv195 :: lv196 :: lv197 :: lv198 :: lv199 :: lv200 :: lv201 :: lv202 :: lv203 :: lv204 :: lv205 :: lv206 :: lv207 :: lv208 :: lv209 :: lv210 :: lv211 :: lv212 :: lv213 :: lv214 :: lv215 :: lv216 :: lv217 :: lv218 :: lv219 :: lv220 :: lv221 :: lv222 :: lv223 :: lv224 :: lv225 :: lv226 :: lv227 :: lv228 :: lv229 :: lv230 :: lv231 :: lv232 :: lv233 :: lv234 :: lv235 :: lv236 :: lv237 :: lv238 :: lv239 :: lv240 :: lv241 :: lv242 :: lv243 :: lv244 :: lv245 :: lv246 :: lv247 :: lv248 :: lv249 :: lv250 :: lv251 :: lv252 :: lv253 :: lv254 :: lv255 :: lv256 :: lv257 :: lv258 :: lv259 :: lv260 :: lv261 :: lv262 :: []).toArray, []⟩ wc := by
  conv => arg 2; whnf
  have hno : no ≤ 512 := by have := X.out.1.good.len; have := X.out.2.1; omega

  refine wp_seq_k fun K hK => ?_
  have HK : Hid _ := hK
  clear hK

  go_wp2_with fail
  refine (walk_root X.out.1).mono ?_
  rintro e w2 ⟨va, Z, rfl, ho, hl, hm, hb⟩
  obtain ⟨az, cz, ez, _⟩ := ho.bs.form
  subst ez
  rw [hl, X.out.2.1] at ho ⊢
  have H2 : Hid (AS w w2 t N O (.slice ao no co) O ∧ Own w.heap.size w2 (.slice az no cz) Z ∧ Z.length = no ∧ ∀ f ∈ O, f.path ∈ Z) := ⟨X.out.1.later hb, ho, hl.trans X.out.2.1, hm⟩
  clear ho hl hm hb
  go_wp2_with fail

  refine HK.out _ _ ?_
  clear HK
  conv => arg 2; whnf

  refine wp_seq_k fun K hK => ?_
  have HK : Hid _ := hK
  clear hK

  have hnn : ((no : Int) != (no : Int)) = false := by simp
  go_wp2_with fail
  clear hnn

  refine HK.out _ _ ?_
  clear HK
  conv => arg 2; whnf

  refine wp_seq_k fun K hK => ?_
  have HK : Hid _ := hK
  clear hK

  go_wp2_with fail

  refine HK.out _ _ ?_
  clear HK
  conv => arg 2; whnf

  obtain ⟨w5, hw5⟩ : ∃ w5, ((w2.alloc (.cells #[.int .i64 0, .int .i64 0] 39)).alloc (.cells #[.int .i64 0, .int .i64 0] 39)).alloc (.cells #[.int .i64 0, .int .i64 0] 39) = w5 := ⟨_, rfl⟩
  have H5 : Hid (LS w w5 t N w2.heap.size (w2.heap.size + 1) (w2.heap.size + 1 + 1) (.slice ao no co) (.slice az no cz) O Z 0 0 0) := by
    have hb1 := balloc w2 (.cells #[.int .i64 0, .int .i64 0] 39)
    have hb2 := balloc (w2.alloc (.cells #[.int .i64 0, .int .i64 0] 39)) (.cells #[.int .i64 0, .int .i64 0] 39)
    have hb3 := balloc ((w2.alloc (.cells #[.int .i64 0, .int .i64 0] 39)).alloc (.cells #[.int .i64 0, .int .i64 0] 39)) (.cells #[.int .i64 0, .int .i64 0] 39)
    have n1 := HB.zero (heap_alloc_new w2 (.cells #[.int .i64 0, .int .i64 0] 39))
    have n2 := HB.zero (heap_alloc_new (w2.alloc (.cells #[.int .i64 0, .int .i64 0] 39)) (.cells #[.int .i64 0, .int .i64 0] 39))
    have n3 := HB.zero (heap_alloc_new ((w2.alloc (.cells #[.int .i64 0, .int .i64 0] 39)).alloc (.cells #[.int .i64 0, .int .i64 0] 39)) (.cells #[.int .i64 0, .int .i64 0] 39))
    have e1 : (w2.alloc (.cells #[.int .i64 0, .int .i64 0] 39)).heap.size = w2.heap.size + 1 := by simp
    have e2 : ((w2.alloc (.cells #[.int .i64 0, .int .i64 0] 39)).alloc (.cells #[.int .i64 0, .int .i64 0] 39)).heap.size = w2.heap.size + 1 + 1 := by simp
    rw [e1] at n2
    rw [e2] at n3
    have hs := H2.out.1.below.size
    have hbb : Below w2.heap.size w2 w5 := by rw [← hw5]; exact bstep (bstep hb1 hb2) hb3
    refine ⟨H2.out.1.later hbb, H2.out.2.1.later hbb, hs, by omega, by omega, by omega, by omega, by omega, ?_, ?_, ?_⟩
    · rw [← hw5]; exact (n1.later hb2).later hb3
    · rw [← hw5]; exact n2.later hb3
    · rw [← hw5]; exact n3
  rw [hw5]
  clear hw5
  obtain ⟨g0, hg0⟩ : ∃ g, w2.heap.size = g := ⟨_, rfl⟩
  rw [hg0] at H5 ⊢
  clear hg0

  refine wp_seq_k fun K hK => ?_
  have HK : Hid _ := hK
  clear hK

  go_wp2_with fail

  refine HK.out _ _ ?_
  clear HK
  conv => arg 2; whnf

  have HZ : Hid (LS w w5 t N g0 (g0 + 1) (g0 + 1 + 1) (.slice ao no co) (.slice az no cz) O Z 0 0 0 ∧ O.length = no ∧ d.length ≤ 140737488355328 ∧ Z.length = no ∧ ∀ f ∈ O, f.path ∈ Z) := ⟨H5.out, X.out.2.1, X.out.2.2, H2.out.2.2.1, H2.out.2.2.2⟩
  exact a31 HZ hno hno
end Go.Proofs.Ytceoelclnnfhhad
