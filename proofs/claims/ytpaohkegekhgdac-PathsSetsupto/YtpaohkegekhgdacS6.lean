import Derived.Test.YtpaohkegekhgdacS8
namespace Go.Proofs.Ytpaohkegekhgdac
open Go.RowKit

set_option maxHeartbeats 4000000 in
set_option maxRecDepth 100000 in
theorem t6 {lv2 lv3 lv4 lv10 lv11 lv12 lv13 lv14 lv15 lv16 lv17 lv18 lv19 lv20 lv21 lv22 lv23 lv24 lv25 lv26 lv27 lv28 lv29 lv30 lv31 lv32 lv33 lv34 lv35 lv36 lv37 lv38 lv39 lv40 lv41 lv42 lv43 lv44 lv45 lv46 lv47 lv48 lv49 lv50 lv51 lv52 lv53 lv54 lv55 lv56 lv57 lv58 lv59 lv60 lv61 lv62 lv63 lv64 lv65 lv66 lv67 lv68 lv69 lv70 lv71 lv72 lv73 lv74 lv75 lv76 lv77 lv78 lv79 lv80 lv81 lv82 lv83 lv84 lv85 lv86 lv87 lv88 lv89 lv90 lv91 lv92 lv93 lv94 lv95 lv96 lv97 lv98 lv99 lv100 lv101 lv102 lv103 lv104 lv105 lv106 lv107 lv108 lv109 lv110 lv111 lv112 lv113 lv114 lv115 lv116 lv117 lv118 lv119 lv120 lv121 lv122 lv123 lv124 lv125 lv126 lv127 lv128 lv129 lv130 lv131 lv132 lv133 lv134 lv135 lv136 lv137 lv138 lv139 lv140 lv141 lv142 lv143 lv144 lv145 lv146 lv147 lv148 lv149 lv150 lv151 lv152 lv153 lv154 lv155 lv156 lv157 lv158 lv159 lv160 lv161 lv162 lv163 lv164 lv165 lv166 lv167 lv168 lv169 lv170 lv171 lv172 lv173 lv174 lv175 lv176 lv177 lv178 lv179 lv180 lv181 lv182 lv183 lv184 lv185 lv186 lv187 lv188 lv189 lv190 lv191 lv192 lv193 lv194 lv195 lv196 lv197 lv198 lv199 lv200 lv201 lv202 lv203 lv204 lv205 lv206 lv207 lv208 lv209 lv210 lv211 lv212 lv213 lv214 lv215 lv216 lv217 lv218 lv219 lv220 lv221 lv222 lv223 lv224 lv225 lv226 lv227 lv228 lv229 lv230 lv231 lv232 lv233 lv234 lv235 lv236 : Value} {w wc : World} {va vb : Value} {A B : List (List UInt8)} (ST : Hid (St w wc va vb A B)) {vn vm vu vi vd : Value} (F5 : Hid (S5 wc A B vn vm vu vi vd)) :
    Code.wp Try.prog (suff 6 (Try.f3.body.getD .skip)) (bodyPost Try.prog Try.f3 (Good w)) ⟨(va :: vb :: lv2 :: lv3 :: lv4 :: vn :: vm :: vu :: vi :: vd :: lv10 :: lv11 :: lv12 :: lv13 :: lv14 :: lv15 :: lv16 :: lv17 :: lv18 :: lv19 :: lv20 :: lv21 :: lv22 :: lv23 :: lv24 :: lv25 :: lv26 :: lv27 :: lv28 :: lv29 :: lv30 :: lv31 :: lv32 :: lv33 :: lv34 :: lv35 :: lv36 :: lv37 :: lv38 :: lv39 :: lv40 :: lv41 :: lv42 :: lv43 :: lv44 :: lv45 :: lv46 :: lv47 :: lv48 :: lv49 :: lv50 :: lv51 :: lv52 :: lv53 :: lv54 :: lv55 :: lv56 :: lv57 :: lv58 :: lv59 :: lv60 :: lv61 :: lv62 :: lv63 :: lv64 :: lv65 :: lv66 :: lv67 :: lv68 :: lv69 :: lv70 :: lv71 :: lv72 :: lv73 :: lv74 :: lv75 :: lv76 :: lv77 :: lv78 :: lv79 :: lv80 :: lv81 :: lv82 :: lv83 :: lv84 :: lv85 :: lv86 :: lv87 :: lv88 :: lv89 :: lv90 :: lv91 :: lv92 :: lv93 :: lv94 :: lv95 :: lv96 :: lv97 :: lv98 :: lv99 :: lv100 :: lv101 :: lv102 :: lv103 :: lv104 :: lv105 :: lv106 :: lv107 :: lv108 :: lv109 :: lv110 :: lv111 :: lv112 :: lv113 :: lv114 :: lv115 :: lv116 :: lv117 :: lv118 :: lv119 :: lv120 :: lv121 :: lv122 :: lv123 :: lv124 :: lv125 :: lv126 :: lv127 :: lv128 :: lv129 :: lv130 :: lv131 :: lv132 :: lv133 :: lv134 :: lv135 :: lv136 :: lv137 :: lv138 :: lv139 :: lv140 :: lv141 :: lv142 :: lv143 :: lv144 :: lv145 :: lv146 :: lv147 :: lv148 :: lv149 :: lv150 :: lv151 :: lv152 :: lv153 :: lv154 :: lv155 :: lv156 :: lv157 :: lv158 :: lv159 :: lv160 :: lv161 :: lv162 :: lv163 :: lv164 :: lv165 :: lv166 :: lv167 :: lv168 :: lv169 :: lv170 :: lv171 :: lv172 :: lv173 :: lv174 :: lv175 :: lv176 :: lv177 :: lv178 :: lv179 :: lv180 :: lv181 :: lv182 :: lv183 :: lv184 :: lv185 :: lv186 :: lv187 :: lv188 :: lv189 :: lv190 :: lv191 :: lv192 :: lv193 :: lv194 :: lv195 :: lv196 :: lv197 :: lv198 :: lv199 :: lv200 :: lv201 :: lv202 :: lv203 :: lv204 :: lv205 :: lv206 :: lv207 :: lv208 :: lv209 :: lv210 :: lv211 :: lv212 :: lv213 :: lv214 :: lv215 :: lv216 :: lv217 :: lv218 :: lv219 :: lv220 :: lv221 :: lv222 :: lv223 :: lv224 :: lv225 :: lv226 :: lv227 :: lv228 :: lv229 :: lv230 :: lv231 :: lv232 :: lv233 :: lv234 :: lv235 :: lv236 :: []).toArray, []⟩ wc := by
  conv => arg 2; whnf
  have HS : Hid (Sm A ∧ Sm B) := ⟨ST.out.sa, ST.out.sb⟩
  refine wp_seq_k fun K hK => ?_
  have HK : Hid _ := hK
  clear hK
  go_wp2_with fail
  refine (alive_any _).mono ?_
  rintro e w0 ⟨rfl, b0⟩
  have B0 : Hid (Below wc.heap.size wc w0) := b0
  clear b0
  go_wp2_with fail
  refine (rises_any (F5.out.later B0.out).n (up_norm A) (by have := HS.out.1.norm.len; omega) (HS.out.1.norm.each)).mono ?_
  rintro e w1 ⟨rfl, b1⟩
  have B1 : Hid (Below wc.heap.size wc w1) := bstep B0.out b1
  clear b1
  go_wp2_with fail
  refine (rises_any (F5.out.later B1.out).m (up_norm B) (by have := HS.out.2.norm.len; omega) (HS.out.2.norm.each)).mono ?_
  rintro e w2 ⟨rfl, b2⟩
  have B2 : Hid (Below wc.heap.size wc w2) := bstep B1.out b2
  clear b2
  go_wp2_with fail
  refine (rises_any (F5.out.later B2.out).u (up_uni A B) (uni_len A B HS.out.1 HS.out.2) (uni_each A B HS.out.1 HS.out.2)).mono ?_
  rintro e w3 ⟨rfl, b3⟩
  have B3 : Hid (Below wc.heap.size wc w3) := bstep B2.out b3
  clear b3
  go_wp2_with fail
  refine (rises_any (F5.out.later B3.out).i (up_som A B true) (by have := (HS.out.1.som (b := B) true).len; omega) ((HS.out.1.som true).each)).mono ?_
  rintro e w4 ⟨rfl, b4⟩
  have B4 : Hid (Below wc.heap.size wc w4) := bstep B3.out b4
  clear b4
  go_wp2_with fail
  refine (rises_any (F5.out.later B4.out).d (up_som A B false) (by have := (HS.out.1.som (b := B) false).len; omega) ((HS.out.1.som false).each)).mono ?_
  rintro e w5 ⟨rfl, b5⟩
  have B5 : Hid (Below wc.heap.size wc w5) := bstep B4.out b5
  clear b5
  go_wp2_with fail
  refine (norm_any (F5.out.later B5.out).n HS.out.1.norm).mono ?_
  rintro e w6 ⟨v6, rfl, o6, b6⟩
  rw [norm_up (up_norm A)] at o6
  have B6 : Hid (Below wc.heap.size wc w6) := bstep B5.out b6
  have O6 : Hid (SS w6 v6 (norm A)) := o6.bs
  clear o6 b6
  go_wp2_with fail
  refine (same_any O6.out (F5.out.later B6.out).n (by have := HS.out.1.norm.len; omega)).mono ?_
  rintro e w7 ⟨rfl, n7, rfl⟩
  rw [show decide (norm A = norm A) = true from decide_eq_true rfl]
  have B7 : Hid (Below wc.heap.size wc (w6.drewN n7)) := bstep B6.out (bd _ _)
  go_wp2_with fail
  refine HK.out _ _ ?_
  exact t8 (ST.out.later B7.out) (F5.out.later B7.out)

end Go.Proofs.Ytpaohkegekhgdac
