import Derived.Test.YtpaohkegekhgdacS6
namespace Go.Proofs.Ytpaohkegekhgdac
open Go.RowKit

set_option maxHeartbeats 4000000 in
set_option maxRecDepth 100000 in
theorem t0 {lv2 lv3 lv4 lv5 lv6 lv7 lv8 lv9 lv10 lv11 lv12 lv13 lv14 lv15 lv16 lv17 lv18 lv19 lv20 lv21 lv22 lv23 lv24 lv25 lv26 lv27 lv28 lv29 lv30 lv31 lv32 lv33 lv34 lv35 lv36 lv37 lv38 lv39 lv40 lv41 lv42 lv43 lv44 lv45 lv46 lv47 lv48 lv49 lv50 lv51 lv52 lv53 lv54 lv55 lv56 lv57 lv58 lv59 lv60 lv61 lv62 lv63 lv64 lv65 lv66 lv67 lv68 lv69 lv70 lv71 lv72 lv73 lv74 lv75 lv76 lv77 lv78 lv79 lv80 lv81 lv82 lv83 lv84 lv85 lv86 lv87 lv88 lv89 lv90 lv91 lv92 lv93 lv94 lv95 lv96 lv97 lv98 lv99 lv100 lv101 lv102 lv103 lv104 lv105 lv106 lv107 lv108 lv109 lv110 lv111 lv112 lv113 lv114 lv115 lv116 lv117 lv118 lv119 lv120 lv121 lv122 lv123 lv124 lv125 lv126 lv127 lv128 lv129 lv130 lv131 lv132 lv133 lv134 lv135 lv136 lv137 lv138 lv139 lv140 lv141 lv142 lv143 lv144 lv145 lv146 lv147 lv148 lv149 lv150 lv151 lv152 lv153 lv154 lv155 lv156 lv157 lv158 lv159 lv160 lv161 lv162 lv163 lv164 lv165 lv166 lv167 lv168 lv169 lv170 lv171 lv172 lv173 lv174 lv175 lv176 lv177 lv178 lv179 lv180 lv181 lv182 lv183 lv184 lv185 lv186 lv187 lv188 lv189 lv190 lv191 lv192 lv193 lv194 lv195 lv196 lv197 lv198 lv199 lv200 lv201 lv202 lv203 lv204 lv205 lv206 lv207 lv208 lv209 lv210 lv211 lv212 lv213 lv214 lv215 lv216 lv217 lv218 lv219 lv220 lv221 lv222 lv223 lv224 lv225 lv226 lv227 lv228 lv229 lv230 lv231 lv232 lv233 lv234 lv235 lv236 : Value} {w wc : World} {va vb : Value} {A B : List (List UInt8)} (ST : Hid (St w wc va vb A B)) :
    Code.wp Try.prog (suff 0 (Try.f3.body.getD .skip)) (bodyPost Try.prog Try.f3 (Good w)) ⟨(va :: vb :: lv2 :: lv3 :: lv4 :: lv5 :: lv6 :: lv7 :: lv8 :: lv9 :: lv10 :: lv11 :: lv12 :: lv13 :: lv14 :: lv15 :: lv16 :: lv17 :: lv18 :: lv19 :: lv20 :: lv21 :: lv22 :: lv23 :: lv24 :: lv25 :: lv26 :: lv27 :: lv28 :: lv29 :: lv30 :: lv31 :: lv32 :: lv33 :: lv34 :: lv35 :: lv36 :: lv37 :: lv38 :: lv39 :: lv40 :: lv41 :: lv42 :: lv43 :: lv44 :: lv45 :: lv46 :: lv47 :: lv48 :: lv49 :: lv50 :: lv51 :: lv52 :: lv53 :: lv54 :: lv55 :: lv56 :: lv57 :: lv58 :: lv59 :: lv60 :: lv61 :: lv62 :: lv63 :: lv64 :: lv65 :: lv66 :: lv67 :: lv68 :: lv69 :: lv70 :: lv71 :: lv72 :: lv73 :: lv74 :: lv75 :: lv76 :: lv77 :: lv78 :: lv79 :: lv80 :: lv81 :: lv82 :: lv83 :: lv84 :: lv85 :: lv86 :: lv87 :: lv88 :: lv89 :: lv90 :: lv91 :: lv92 :: lv93 :: lv94 :: lv95 :: lv96 :: lv97 :: lv98 :: lv99 :: lv100 :: lv101 :: lv102 :: lv103 :: lv104 :: lv105 :: lv106 :: lv107 :: lv108 :: lv109 :: lv110 :: lv111 :: lv112 :: lv113 :: lv114 :: lv115 :: lv116 :: lv117 :: lv118 :: lv119 :: lv120 :: lv121 :: lv122 :: lv123 :: lv124 :: lv125 :: lv126 :: lv127 :: lv128 :: lv129 :: lv130 :: lv131 :: lv132 :: lv133 :: lv134 :: lv135 :: lv136 :: lv137 :: lv138 :: lv139 :: lv140 :: lv141 :: lv142 :: lv143 :: lv144 :: lv145 :: lv146 :: lv147 :: lv148 :: lv149 :: lv150 :: lv151 :: lv152 :: lv153 :: lv154 :: lv155 :: lv156 :: lv157 :: lv158 :: lv159 :: lv160 :: lv161 :: lv162 :: lv163 :: lv164 :: lv165 :: lv166 :: lv167 :: lv168 :: lv169 :: lv170 :: lv171 :: lv172 :: lv173 :: lv174 :: lv175 :: lv176 :: lv177 :: lv178 :: lv179 :: lv180 :: lv181 :: lv182 :: lv183 :: lv184 :: lv185 :: lv186 :: lv187 :: lv188 :: lv189 :: lv190 :: lv191 :: lv192 :: lv193 :: lv194 :: lv195 :: lv196 :: lv197 :: lv198 :: lv199 :: lv200 :: lv201 :: lv202 :: lv203 :: lv204 :: lv205 :: lv206 :: lv207 :: lv208 :: lv209 :: lv210 :: lv211 :: lv212 :: lv213 :: lv214 :: lv215 :: lv216 :: lv217 :: lv218 :: lv219 :: lv220 :: lv221 :: lv222 :: lv223 :: lv224 :: lv225 :: lv226 :: lv227 :: lv228 :: lv229 :: lv230 :: lv231 :: lv232 :: lv233 :: lv234 :: lv235 :: lv236 :: []).toArray, []⟩ wc := by
  conv => arg 2; whnf
  refine wp_seq_k fun K hK => ?_
  have HK : Hid _ := hK
  clear hK
  go_wp2_with fail
  refine HK.out _ _ ?_
  clear HK
  conv => arg 2; whnf
  refine wp_seq_k fun K hK => ?_
  have HK : Hid _ := hK
  clear hK
  go_wp2_with fail
  refine (norm_any ST.out.a ST.out.sa).mono ?_
  rintro e w1 ⟨v1, rfl, o1, b1⟩
  have S1 : Hid (St w w1 va vb A B) := ST.out.later b1
  have O1 : Hid (SS w1 v1 (norm A)) := o1.bs
  clear o1 b1 ST
  go_wp2_with fail
  refine HK.out _ _ ?_
  clear HK
  conv => arg 2; whnf
  refine wp_seq_k fun K hK => ?_
  have HK : Hid _ := hK
  clear hK
  go_wp2_with fail
  refine (norm_any S1.out.b S1.out.sb).mono ?_
  rintro e w2 ⟨v2, rfl, o2, b2⟩
  have S2 : Hid (St w w2 va vb A B) := S1.out.later b2
  have O2 : Hid (SS w2 v1 (norm A) ∧ SS w2 v2 (norm B)) := ⟨O1.out.later b2, o2.bs⟩
  clear o2 b2 S1 O1
  go_wp2_with fail
  refine HK.out _ _ ?_
  clear HK
  conv => arg 2; whnf
  refine wp_seq_k fun K hK => ?_
  have HK : Hid _ := hK
  clear hK
  go_wp2_with fail
  refine (union_any S2.out.a S2.out.b S2.out.sa S2.out.sb).mono ?_
  rintro e w3 ⟨v3, rfl, o3, b3⟩
  have S3 : Hid (St w w3 va vb A B) := S2.out.later b3
  have O3 : Hid (SS w3 v1 (norm A) ∧ SS w3 v2 (norm B) ∧ SS w3 v3 (uni A B)) := ⟨O2.out.1.later b3, O2.out.2.later b3, o3.bs⟩
  clear o3 b3 S2 O2
  go_wp2_with fail
  refine HK.out _ _ ?_
  clear HK
  conv => arg 2; whnf
  refine wp_seq_k fun K hK => ?_
  have HK : Hid _ := hK
  clear hK
  go_wp2_with fail
  refine (meetS_any S3.out.a S3.out.b S3.out.sa S3.out.sb).mono ?_
  rintro e w4 ⟨v4, rfl, o4, b4⟩
  have S4 : Hid (St w w4 va vb A B) := S3.out.later b4
  have O4 : Hid (SS w4 v1 (norm A) ∧ SS w4 v2 (norm B) ∧ SS w4 v3 (uni A B) ∧ SS w4 v4 (som A B true)) := ⟨O3.out.1.later b4, O3.out.2.1.later b4, O3.out.2.2.later b4, o4.bs⟩
  clear o4 b4 S3 O3
  go_wp2_with fail
  refine HK.out _ _ ?_
  clear HK
  conv => arg 2; whnf
  refine wp_seq_k fun K hK => ?_
  have HK : Hid _ := hK
  clear hK
  go_wp2_with fail
  refine (minus_any S4.out.a S4.out.b S4.out.sa S4.out.sb).mono ?_
  rintro e w5 ⟨v5, rfl, o5, b5⟩
  have S5' : Hid (St w w5 va vb A B) := S4.out.later b5
  have F5 : Hid (S5 w5 A B v1 v2 v3 v4 v5) := ⟨O4.out.1.later b5, O4.out.2.1.later b5, O4.out.2.2.1.later b5, O4.out.2.2.2.later b5, o5.bs⟩
  clear o5 b5 S4 O4
  go_wp2_with fail
  refine HK.out _ _ ?_
  exact t6 S5' F5

set_option maxHeartbeats 4000000 in
set_option maxRecDepth 100000 in
theorem sets_law {va vb : Value} {A B : List (List UInt8)} (w : World) (h1 : SS w va A) (h2 : SS w vb B) (sa : Sm A) (sb : Sm B) :
    Calls Try.prog 3 #[va, vb] w (Good w) := by
  have ST : Hid (St w w va vb A B) := ⟨Below.refl _ _, h1, h2, sa, sb⟩
  clear h1 h2 sa sb
  go_enter Try.func3, Try.ntmps3
  exact t0 ST
theorem sets_say {va vb : Value} {A B : List (List UInt8)} (w : World) (h1 : SS w va A) (h2 : SS w vb B) (sa : Sm A) (sb : Sm B) (_ : A.length ≤ 1048576) (_ : B.length ≤ 1048576) :
    Calls Try.prog 3 #[va, vb] w fun e w' => e = .returned (.bool true) ∧ Below w.heap.size w w' := sets_law w h1 h2 sa sb
end Go.Proofs.Ytpaohkegekhgdac
