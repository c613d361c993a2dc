import Derived.Test.YtpaohkegekhgdacS10
namespace Go.Proofs.Ytpaohkegekhgdac
open Go.RowKit

set_option maxHeartbeats 4000000 in
set_option maxRecDepth 100000 in
theorem t8 {lv2 lv3 lv4 lv10 lv11 lv12 lv13 lv14 lv15 lv16 lv17 lv18 lv19 lv20 lv21 lv22 lv23 lv24 lv25 lv26 lv27 lv28 lv29 lv30 lv31 lv32 lv33 lv34 lv35 lv36 lv37 lv38 lv39 lv40 lv41 lv42 lv43 lv44 lv45 lv46 lv47 lv48 lv49 lv50 lv51 lv52 lv53 lv54 lv55 lv56 lv57 lv58 lv59 lv60 lv61 lv62 lv63 lv64 lv65 lv66 lv67 lv68 lv69 lv70 lv71 lv72 lv73 lv74 lv75 lv76 lv77 lv78 lv79 lv80 lv81 lv82 lv83 lv84 lv85 lv86 lv87 lv88 lv89 lv90 lv91 lv92 lv93 lv94 lv95 lv96 lv97 lv98 lv99 lv100 lv101 lv102 lv103 lv104 lv105 lv106 lv107 lv108 lv109 lv110 lv111 lv112 lv113 lv114 lv115 lv116 lv117 lv118 lv119 lv120 lv121 lv122 lv123 lv124 lv125 lv126 lv127 lv128 lv129 lv130 lv131 lv132 lv133 lv134 lv135 lv136 lv137 lv138 lv139 lv140 lv141 lv142 lv143 lv144 lv145 lv146 lv147 lv148 lv149 lv150 lv151 lv152 lv153 lv154 lv155 lv156 lv157 lv158 lv159 lv160 lv161 lv162 lv163 lv164 lv165 lv166 lv167 lv168 lv169 lv170 lv171 lv172 lv173 lv174 lv175 lv176 lv177 lv178 lv179 lv180 lv181 lv182 lv183 lv184 lv185 lv186 lv187 lv188 lv189 lv190 lv191 lv192 lv193 lv194 lv195 lv196 lv197 lv198 lv199 lv200 lv201 lv202 lv203 lv204 lv205 lv206 lv207 lv208 lv209 lv210 lv211 lv212 lv213 lv214 lv215 lv216 lv217 lv218 lv219 lv220 lv221 lv222 lv223 lv224 lv225 lv226 lv227 lv228 lv229 lv230 lv231 lv232 lv233 lv234 lv235 lv236 : Value} {w wc : World} {va vb : Value} {A B : List (List UInt8)} (ST : Hid (St w wc va vb A B)) {vn vm vu vi vd : Value} (F5 : Hid (S5 wc A B vn vm vu vi vd)) :
    Code.wp Try.prog (suff 8 (Try.f3.body.getD .skip)) (bodyPost Try.prog Try.f3 (Good w)) ⟨(va :: vb :: lv2 :: lv3 :: lv4 :: vn :: vm :: vu :: vi :: vd :: lv10 :: lv11 :: lv12 :: lv13 :: lv14 :: lv15 :: lv16 :: lv17 :: lv18 :: lv19 :: lv20 :: lv21 :: lv22 :: lv23 :: lv24 :: lv25 :: lv26 :: lv27 :: lv28 :: lv29 :: lv30 :: lv31 :: lv32 :: lv33 :: lv34 :: lv35 :: lv36 :: lv37 :: lv38 :: lv39 :: lv40 :: lv41 :: lv42 :: lv43 :: lv44 :: lv45 :: lv46 :: lv47 :: lv48 :: lv49 :: lv50 :: lv51 :: lv52 :: lv53 :: lv54 :: lv55 :: lv56 :: lv57 :: lv58 :: lv59 :: lv60 :: lv61 :: lv62 :: lv63 :: lv64 :: lv65 :: lv66 :: lv67 :: lv68 :: lv69 :: lv70 :: lv71 :: lv72 :: lv73 :: lv74 :: lv75 :: lv76 :: lv77 :: lv78 :: lv79 :: lv80 :: lv81 :: lv82 :: lv83 :: lv84 :: lv85 :: lv86 :: lv87 :: lv88 :: lv89 :: lv90 :: lv91 :: lv92 :: lv93 :: lv94 :: lv95 :: lv96 :: lv97 :: lv98 :: lv99 :: lv100 :: lv101 :: lv102 :: lv103 :: lv104 :: lv105 :: lv106 :: lv107 :: lv108 :: lv109 :: lv110 :: lv111 :: lv112 :: lv113 :: lv114 :: lv115 :: lv116 :: lv117 :: lv118 :: lv119 :: lv120 :: lv121 :: lv122 :: lv123 :: lv124 :: lv125 :: lv126 :: lv127 :: lv128 :: lv129 :: lv130 :: lv131 :: lv132 :: lv133 :: lv134 :: lv135 :: lv136 :: lv137 :: lv138 :: lv139 :: lv140 :: lv141 :: lv142 :: lv143 :: lv144 :: lv145 :: lv146 :: lv147 :: lv148 :: lv149 :: lv150 :: lv151 :: lv152 :: lv153 :: lv154 :: lv155 :: lv156 :: lv157 :: lv158 :: lv159 :: lv160 :: lv161 :: lv162 :: lv163 :: lv164 :: lv165 :: lv166 :: lv167 :: lv168 :: lv169 :: lv170 :: lv171 :: lv172 :: lv173 :: lv174 :: lv175 :: lv176 :: lv177 :: lv178 :: lv179 :: lv180 :: lv181 :: lv182 :: lv183 :: lv184 :: lv185 :: lv186 :: lv187 :: lv188 :: lv189 :: lv190 :: lv191 :: lv192 :: lv193 :: lv194 :: lv195 :: lv196 :: lv197 :: lv198 :: lv199 :: lv200 :: lv201 :: lv202 :: lv203 :: lv204 :: lv205 :: lv206 :: lv207 :: lv208 :: lv209 :: lv210 :: lv211 :: lv212 :: lv213 :: lv214 :: lv215 :: lv216 :: lv217 :: lv218 :: lv219 :: lv220 :: lv221 :: lv222 :: lv223 :: lv224 :: lv225 :: lv226 :: lv227 :: lv228 :: lv229 :: lv230 :: lv231 :: lv232 :: lv233 :: lv234 :: lv235 :: lv236 :: []).toArray, []⟩ wc := by
  conv => arg 2; whnf
  have HS : Hid (Sm A ∧ Sm B) := ⟨ST.out.sa, ST.out.sb⟩
  obtain ⟨an, cn, nn, hnn, rfl, _⟩ := F5.out.n.form'
  obtain ⟨am, cm, nm, hnm, rfl, _⟩ := F5.out.m.form'
  obtain ⟨au, cu, nu, hnu, rfl, _⟩ := F5.out.u.form'
  obtain ⟨ai, ci, ni, hni, rfl, _⟩ := F5.out.i.form'
  have hle := len_sets A B
  have h8 : nu ≤ 8000000 := by rw [hnu]; exact uni_len A B ST.out.sa ST.out.sb
  have h9 : ni ≤ 4000000 := by rw [hni]; exact (ST.out.sa.som true).len
  have h10 : nn ≤ 4000000 := by rw [hnn]; exact ST.out.sa.norm.len
  have h11 : nm ≤ 4000000 := by rw [hnm]; exact ST.out.sb.norm.len
  have hsum : nu + ni = nn + nm := by omega
  have hne : ((nu : Int) + (ni : Int) != (nn : Int) + (nm : Int)) = false := by
    have : (nu : Int) + (ni : Int) = (nn : Int) + (nm : Int) := by omega
    rw [this]; simp
  clear hle hnn hnm hnu hni hsum
  refine wp_seq_k fun K hK => ?_
  have HK : Hid _ := hK
  clear hK
  go_wp2_with fail
  refine (union_any F5.out.i F5.out.d (HS.out.1.som true) (HS.out.1.som false)).mono ?_
  rintro e w1 ⟨v1, rfl, o1, b1⟩
  rw [set_joins] at o1
  have S1 : Hid (St w w1 va vb A B) := ST.out.later b1
  have G1 : Hid (S5 w1 A B (.slice an nn cn) (.slice am nm cm) (.slice au nu cu) (.slice ai ni ci) vd) := F5.out.later b1
  have O1 : Hid (SS w1 v1 (norm A)) := o1.bs
  clear o1 b1
  go_wp2_with fail
  refine (same_any O1.out G1.out.n (by have := HS.out.1.norm.len; omega)).mono ?_
  rintro e w2 ⟨rfl, n2, rfl⟩
  rw [show decide (norm A = norm A) = true from decide_eq_true rfl]
  obtain ⟨w2, hw2⟩ : ∃ w2, w1.drewN n2 = w2 := ⟨_, rfl⟩
  have S2 : Hid (St w w2 va vb A B) := by rw [← hw2]; exact S1.out.later (bd _ _)
  have G2 : Hid (S5 w2 A B (.slice an nn cn) (.slice am nm cm) (.slice au nu cu) (.slice ai ni ci) vd) := by rw [← hw2]; exact G1.out.later (bd _ _)
  rw [hw2]
  clear hw2 S1 G1 O1
  go_wp2_with fail
  refine (meetS_any S2.out.b S2.out.a HS.out.2 HS.out.1).mono ?_
  rintro e w3 ⟨v3, rfl, o3, b3⟩
  rw [met_comm] at o3
  have S3 : Hid (St w w3 va vb A B) := S2.out.later b3
  have G3 : Hid (S5 w3 A B (.slice an nn cn) (.slice am nm cm) (.slice au nu cu) (.slice ai ni ci) vd) := G2.out.later b3
  have O3 : Hid (SS w3 v3 (som A B true)) := o3.bs
  clear o3 b3 S2 G2
  go_wp2_with fail
  refine (same_any O3.out G3.out.i (by have := (HS.out.1.som (b := B) true).len; omega)).mono ?_
  rintro e w4 ⟨rfl, n4, rfl⟩
  rw [show decide (som A B true = som A B true) = true from decide_eq_true rfl]
  obtain ⟨w4, hw4⟩ : ∃ w4, w3.drewN n4 = w4 := ⟨_, rfl⟩
  have S4 : Hid (St w w4 va vb A B) := by rw [← hw4]; exact S3.out.later (bd _ _)
  have G4 : Hid (S5 w4 A B (.slice an nn cn) (.slice am nm cm) (.slice au nu cu) (.slice ai ni ci) vd) := by rw [← hw4]; exact G3.out.later (bd _ _)
  rw [hw4]
  clear hw4 S3 G3 O3
  go_wp2_with fail
  refine (union_any S4.out.b S4.out.a HS.out.2 HS.out.1).mono ?_
  rintro e w5 ⟨v5, rfl, o5, b5⟩
  rw [uni_comm] at o5
  have S5' : Hid (St w w5 va vb A B) := S4.out.later b5
  have G5 : Hid (S5 w5 A B (.slice an nn cn) (.slice am nm cm) (.slice au nu cu) (.slice ai ni ci) vd) := G4.out.later b5
  have O5 : Hid (SS w5 v5 (uni A B)) := o5.bs
  clear o5 b5 S4 G4
  go_wp2_with fail
  refine (same_any O5.out G5.out.u (by have := uni_len A B HS.out.1 HS.out.2; omega)).mono ?_
  rintro e w6 ⟨rfl, n6, rfl⟩
  rw [show decide (uni A B = uni A B) = true from decide_eq_true rfl]
  obtain ⟨w6, hw6⟩ : ∃ w6, w5.drewN n6 = w6 := ⟨_, rfl⟩
  have S6 : Hid (St w w6 va vb A B) := by rw [← hw6]; exact S5'.out.later (bd _ _)
  have G6 : Hid (S5 w6 A B (.slice an nn cn) (.slice am nm cm) (.slice au nu cu) (.slice ai ni ci) vd) := by rw [← hw6]; exact G5.out.later (bd _ _)
  rw [hw6]
  clear hw6 S5' G5 O5
  go_wp2_with fail
  refine (meetS_any G6.out.d S6.out.b (HS.out.1.som false) HS.out.2).mono ?_
  rintro e w7 ⟨v7, rfl, o7, b7⟩
  rw [met_none] at o7
  obtain ⟨a7, c7, rfl⟩ := o7.bs.len
  have S7 : Hid (St w w7 va vb A B) := S6.out.later b7
  have G7 : Hid (S5 w7 A B (.slice an nn cn) (.slice am nm cm) (.slice au nu cu) (.slice ai ni ci) vd) := G6.out.later b7
  clear o7 b7 S6 G6
  go_wp2_with fail
  refine HK.out _ _ ?_
  exact t10 S7 G7

end Go.Proofs.Ytpaohkegekhgdac
