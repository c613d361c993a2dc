/-
  The look at fresh memory: what was handed in.
-/
import Derived.Test.YtgibjnfaagnbfadGreatDoorFreshA
namespace Go.Proofs.YtgibjnfaagnbfadGreatDoor
open Go.RowKit

set_option maxRecDepth 100000 in
set_option maxHeartbeats 8000000 in
theorem f43 {lv2 lv3 lv4 lv9 lv10 lv11 lv12 lv14 lv15 lv16 lv17 lv18 lv19 lv20 lv21 lv22 lv23 lv24 lv25 lv26 lv27 lv28 lv29 lv30 lv31 lv32 lv33 lv34 lv35 lv36 lv37 lv38 lv39 lv40 lv41 lv42 lv43 lv44 lv45 lv46 lv47 lv48 lv49 lv50 lv51 lv52 lv53 lv54 lv55 lv56 lv57 lv58 lv59 lv60 lv61 lv62 lv63 lv64 lv65 lv66 lv67 lv68 lv69 lv70 lv71 lv72 lv73 lv74 lv75 lv76 lv77 lv78 lv79 lv80 lv81 lv82 lv83 lv84 lv85 lv86 lv87 lv88 lv89 lv90 lv91 lv92 lv93 lv94 lv95 lv96 lv97 lv98 lv99 lv100 lv101 lv102 lv103 lv104 lv105 lv106 lv107 lv108 lv109 lv110 lv111 lv112 lv113 lv114 lv115 lv116 lv117 lv118 lv119 lv120 lv121 lv122 lv123 lv124 lv125 lv126 lv127 lv128 lv129 lv130 lv131 lv132 lv133 lv134 lv135 lv136 lv137 lv138 lv139 lv140 lv141 lv142 lv143 lv144 lv145 lv146 lv147 lv148 lv149 lv150 lv151 lv152 lv153 lv154 lv155 lv156 lv157 lv158 lv159 lv160 lv161 lv162 lv163 lv164 lv165 lv166 lv167 lv168 lv169 lv170 lv171 lv172 lv173 lv174 lv175 lv176 lv177 lv178 lv179 lv180 lv181 lv182 lv183 lv184 lv185 lv186 lv187 lv188 lv189 lv190 lv191 lv192 lv193 lv194 lv195 lv196 lv197 lv198 lv199 lv200 lv201 lv202 lv203 lv204 lv205 lv206 lv207 lv208 lv209 lv210 lv211 lv212 lv213 lv214 lv215 lv216 lv217 lv218 lv219 lv220 lv221 lv222 lv223 lv224 lv225 lv226 lv227 lv228 lv229 lv230 lv231 lv232 lv233 lv234 lv235 lv236 lv237 lv238 lv239 lv240 lv241 lv242 lv243 lv244 lv245 lv246 lv247 lv248 lv249 lv250 lv251 lv252 lv253 lv254 lv255 lv256 lv257 lv258 lv259 lv260 lv261 lv262 lv263 lv264 lv265 lv266 lv267 lv268 lv269 lv270 lv271 lv272 lv273 lv274 : Value} {w wc : World} {B gm cm gn cn n m : Nat} {al ap ak : Option Addr} {cl cp ck nk : Nat} {L : List Fl} {PS : List (List UInt8)} (X : Hid (FW B w wc (.slice al n cl) (.slice ap m cp) (.slice ak nk ck) gm cm gn cn n m L PS)) (SM : Hid (FSm L ∧ Sm PS)) (hnl : n ≤ 4194304) (hml : m ≤ 4194304) :
    Code.wp Tryz.prog (suff 43 (Tryz.f3.body.getD .skip)) (bodyPost Tryz.prog Tryz.f3 (Good w)) ⟨(.slice al n cl :: .slice ap m cp :: lv2 :: lv3 :: lv4 :: .slice (some ⟨gm, 0, none⟩) (n + 2) cm :: .slice (some ⟨gn, 0, none⟩) (m + 2) cn :: .slice (some ⟨gm, 0, none⟩) n cm :: .slice (some ⟨gn, 0, none⟩) m cn :: lv9 :: lv10 :: lv11 :: lv12 :: .slice ak nk ck :: lv14 :: lv15 :: lv16 :: lv17 :: lv18 :: lv19 :: lv20 :: lv21 :: lv22 :: lv23 :: lv24 :: lv25 :: lv26 :: lv27 :: lv28 :: lv29 :: lv30 :: lv31 :: lv32 :: lv33 :: lv34 :: lv35 :: lv36 :: lv37 :: lv38 :: lv39 :: lv40 :: lv41 :: lv42 :: lv43 :: lv44 :: lv45 :: lv46 :: lv47 :: lv48 :: lv49 :: lv50 :: lv51 :: lv52 :: lv53 :: lv54 :: lv55 :: lv56 :: lv57 :: lv58 :: lv59 :: lv60 :: lv61 :: lv62 :: lv63 :: lv64 :: lv65 :: lv66 :: lv67 :: lv68 :: lv69 :: lv70 :: lv71 :: lv72 :: lv73 :: lv74 :: lv75 :: lv76 :: lv77 :: lv78 :: lv79 :: lv80 :: lv81 :: lv82 :: lv83 :: lv84 :: lv85 :: lv86 :: lv87 :: lv88 :: lv89 :: lv90 :: lv91 :: lv92 :: lv93 :: lv94 :: lv95 :: lv96 :: lv97 :: lv98 :: lv99 :: lv100 :: lv101 :: lv102 :: lv103 :: lv104 :: lv105 :: lv106 :: lv107 :: lv108 :: lv109 :: lv110 :: lv111 :: lv112 :: lv113 :: lv114 :: lv115 :: lv116 :: lv117 :: lv118 :: lv119 :: lv120 :: lv121 :: lv122 :: lv123 :: lv124 :: lv125 :: lv126 :: lv127 :: lv128 :: lv129 :: lv130 :: lv131 :: lv132 :: lv133 :: lv134 :: lv135 :: lv136 :: lv137 :: lv138 :: lv139 :: lv140 :: lv141 :: lv142 :: lv143 :: lv144 :: lv145 :: lv146 :: lv147 :: lv148 :: lv149 :: lv150 :: lv151 :: lv152 :: lv153 :: lv154 :: lv155 :: lv156 :: lv157 :: lv158 :: lv159 :: lv160 :: lv161 :: lv162 :: lv163 :: lv164 :: lv165 :: lv166 :: lv167 :: lv168 :: lv169 :: lv170 :: lv171 :: lv172 :: lv173 :: lv174 :: lv175 :: lv176 :: lv177 :: lv178 :: lv179 :: lv180 :: lv181 :: lv182 :: lv183 :: lv184 :: lv185 :: lv186 :: lv187 :: lv188 :: lv189 :: lv190 :: lv191 :: lv192 :: lv193 :: lv194 :: lv195 :: lv196 :: lv197 :: lv198 :: lv199 :: lv200 :: lv201 :: lv202 :: lv203 :: lv204 :: lv205 :: lv206 :: lv207 :: lv208 :: lv209 :: lv210 :: lv211 :: lv212 :: lv213 :: lv214 :: lv215 :: lv216 :: lv217 :: lv218 :: lv219 :: lv220 :: lv221 :: lv222 :: lv223 :: lv224 :: lv225 :: lv226 :: lv227 :: lv228 :: lv229 :: lv230 :: lv231 :: lv232 :: lv233 :: lv234 :: lv235 :: lv236 :: lv237 :: lv238 :: lv239 :: lv240 :: lv241 :: lv242 :: lv243 :: lv244 :: lv245 :: lv246 :: lv247 :: lv248 :: lv249 :: lv250 :: lv251 :: lv252 :: lv253 :: lv254 :: lv255 :: lv256 :: lv257 :: lv258 :: lv259 :: lv260 :: lv261 :: lv262 :: lv263 :: lv264 :: lv265 :: lv266 :: lv267 :: lv268 :: lv269 :: lv270 :: lv271 :: lv272 :: lv273 :: lv274 :: []).toArray, []⟩ wc := by
  conv => arg 2; whnf
  go_wp2_with fail
  refine (ksame_any X.out.a X.out.fl SM.out.1).mono ?_
  rintro e w1 ⟨rfl, hb⟩
  rw [leq_self]
  have X1 : Hid (FW B w w1 (.slice al n cl) (.slice ap m cp) (.slice ak nk ck) gm cm gn cn n m L PS) := X.out.later (below_mono hb X.out.big)
  obtain ⟨c1, c2, c3, c4⟩ := X1.out.marks
  clear hb X
  have i0 : (0 : Int) ≤ (n : Int) := by omega
  have i1 : (n : Int) < (n : Int) + 2 := by omega
  have i2 : IntKind.i64.wrap ((n : Int) + 1) = (n : Int) + 1 := by rw [IntKind.wrap_i64]; omega
  have i3 : (0 : Int) ≤ (n : Int) + 1 := by omega
  have i4 : (n : Int) + 1 < (n : Int) + 2 := by omega
  have j0 : (0 : Int) ≤ (m : Int) := by omega
  have j1 : (m : Int) < (m : Int) + 2 := by omega
  have j2 : IntKind.i64.wrap ((m : Int) + 1) = (m : Int) + 1 := by rw [IntKind.wrap_i64]; omega
  have j3 : (0 : Int) ≤ (m : Int) + 1 := by omega
  have j4 : (m : Int) + 1 < (m : Int) + 2 := by omega
  go_wp2_with fail
  clear c1 c2 c3 c4
  go_loopw [27] (fun i wr => ∃ k : Nat, k ≤ m ∧ i = .int .i64 k ∧ FW B w wr (.slice al n cl) (.slice ap m cp) (.slice ak nk ck) gm cm gn cn n m L PS) (fun i _ => m - (intOf i).toNat)
  case atStart => exact ⟨0, by omega, rfl, X1.out⟩
  case round =>
    rename World => w2
    obtain ⟨k, hk, rfl, st⟩ := hrel
    have X2 : Hid (FW B w w2 (.slice al n cl) (.slice ap m cp) (.slice ak nk ck) gm cm gn cn n m L PS) := st
    clear st
    by_cases hlt : k < m
    · have hkl : k < PS.length := by have := X2.out.hm; omega
      have c1 := X2.out.name hkl
      have hS : SS w2 (.slice ap PS.length cp) PS := by rw [X2.out.hm]; exact X2.out.sp
      obtain ⟨b, off, ea, hbl, c2⟩ := SS.at hS (Below.refl _ _) hkl
      subst ea
      obtain ⟨q, hq⟩ : ∃ q, PS[k] = q := ⟨_, rfl⟩
      rw [hq] at c1 c2
      have hgl : gn < w2.heap.size := Nat.lt_of_lt_of_le X2.out.bn X2.out.big
      have x1 : ∀ Y : GW w2, Y.it.cell? ⟨gn, k, none⟩ = some (.string (bs q)) := fun Y => Y.cell hgl c1
      have x2 : ∀ Y : GW w2, Y.it.cell? ⟨b, off + k, none⟩ = some (.string (bs q)) := fun Y => Y.cell hbl c2
      have xne := gw_ne w2
      have eq := bs_toList q
      have hqq : (q == q) = true := by simp
      have k1 : (0 : Int) ≤ (k : Int) := by omega
      have k2 : (k : Int) < (m : Int) := by omega
      have k3 : (k : Int) < (m : Int) + 2 := by omega
      clear hS c1 c2 hq
      go_wp2_with fail
      refine wp_region_grow (by kernel_rfl) (by kernel_rfl) ?_
      repeat (go_big_quiet_step (fail))
      refine wpQuiet_nil ?_
      rintro w3 ⟨⟨w3, bx⟩, rfl⟩
      have X3 : Hid (FW B w w3 (.slice al n cl) (.slice (some ⟨b, off, none⟩) m cp) (.slice ak nk ck) gm cm gn cn n m L PS) := X2.out.later (below_mono bx X2.out.big)
      clear bx x1 x2
      go_wp2_with fail
      go_roundw
      case rel => exact ⟨k + 1, by omega, by go_num, X3.out⟩
      case measure => simp [intOf]; omega
    · obtain rfl : k = m := by omega
      go_wp2_with fail
      refine (keep_any X2.out.a X2.out.b SM.out.1 SM.out.2).mono ?_
      rintro e w3 ⟨v3, rfl, ho, hb⟩
      have X3 : Hid (FW B w w3 (.slice al n cl) (.slice ap k cp) (.slice ak nk ck) gm cm gn cn n k L PS ∧ FS w3 v3 (keep L PS)) := ⟨X2.out.later (below_mono hb X2.out.big), ho.fs⟩
      clear hb ho
      go_wp2_with fail
      refine (ksame_any X3.out.2 X3.out.1.kept (SM.out.1.keep PS)).mono ?_
      rintro e w4 ⟨rfl, hb⟩
      rw [leq_self]
      have X4 : Hid (Below w.heap.size w w4) := bstep X3.out.1.below hb
      clear hb
      go_wp2_with fail
      go_ret
      exact ⟨rfl, X4.out⟩

set_option maxRecDepth 100000 in
set_option maxHeartbeats 8000000 in
theorem f34 {lv2 lv3 lv4 lv9 lv10 lv11 lv12 lv14 lv15 lv18 lv19 lv20 lv21 lv22 lv23 lv24 lv25 lv26 lv27 lv28 lv29 lv30 lv31 lv32 lv33 lv34 lv35 lv36 lv37 lv38 lv39 lv40 lv41 lv42 lv43 lv44 lv45 lv46 lv47 lv48 lv49 lv50 lv51 lv52 lv53 lv54 lv55 lv56 lv57 lv58 lv59 lv60 lv61 lv62 lv63 lv64 lv65 lv66 lv67 lv68 lv69 lv70 lv71 lv72 lv73 lv74 lv75 lv76 lv77 lv78 lv79 lv80 lv81 lv82 lv83 lv84 lv85 lv86 lv87 lv88 lv89 lv90 lv91 lv92 lv93 lv94 lv95 lv96 lv97 lv98 lv99 lv100 lv101 lv102 lv103 lv104 lv105 lv106 lv107 lv108 lv109 lv110 lv111 lv112 lv113 lv114 lv115 lv116 lv117 lv118 lv119 lv120 lv121 lv122 lv123 lv124 lv125 lv126 lv127 lv128 lv129 lv130 lv131 lv132 lv133 lv134 lv135 lv136 lv137 lv138 lv139 lv140 lv141 lv142 lv143 lv144 lv145 lv146 lv147 lv148 lv149 lv150 lv151 lv152 lv153 lv154 lv155 lv156 lv157 lv158 lv159 lv160 lv161 lv162 lv163 lv164 lv165 lv166 lv167 lv168 lv169 lv170 lv171 lv172 lv173 lv174 lv175 lv176 lv177 lv178 lv179 lv180 lv181 lv182 lv183 lv184 lv185 lv186 lv187 lv188 lv189 lv190 lv191 lv192 lv193 lv194 lv195 lv196 lv197 lv198 lv199 lv200 lv201 lv202 lv203 lv204 lv205 lv206 lv207 lv208 lv209 lv210 lv211 lv212 lv213 lv214 lv215 lv216 lv217 lv218 lv219 lv220 lv221 lv222 lv223 lv224 lv225 lv226 lv227 lv228 lv229 lv230 lv231 lv232 lv233 lv234 lv235 lv236 lv237 lv238 lv239 lv240 lv241 lv242 lv243 lv244 lv245 lv246 lv247 lv248 lv249 lv250 lv251 lv252 lv253 lv254 lv255 lv256 lv257 lv258 lv259 lv260 lv261 lv262 lv263 lv264 lv265 lv266 lv267 lv268 lv269 lv270 lv271 lv272 lv273 lv274 : Value} {w wc : World} {B gm cm gn cn n m : Nat} {al ap ak : Option Addr} {cl cp ck nk : Nat} {L : List Fl} {PS : List (List UInt8)} {ga ca : Nat} {V : Nat → Value} {nn : Nat → Nat} {gu cu : Nat} {U : Nat → Value} (X : Hid (FW B w wc (.slice al n cl) (.slice ap m cp) (.slice ak nk ck) gm cm gn cn n m L PS)) (SM : Hid (FSm L ∧ Sm PS)) (hnl : n ≤ 4194304) (hml : m ≤ 4194304) (NN : Hid (∀ i, i < 4 → nn i ≤ 4194304)) (Q : Hid (Quad wc ga V)) (SV : Hid (∀ i, i < 4 → FS wc (V i) (List.replicate (nn i) (mkF i)))) (hgu : gu < wc.heap.size) (CU : Hid (∀ i, i < 4 → wc.cell? ⟨gu, i, none⟩ = some (U i))) (SU : Hid (∀ i, i < 4 → FS wc (U i) (List.replicate (nn i + 1) (mkF i)))) :
    Code.wp Tryz.prog (suff 34 (Tryz.f3.body.getD .skip)) (bodyPost Tryz.prog Tryz.f3 (Good w)) ⟨(.slice al n cl :: .slice ap m cp :: lv2 :: lv3 :: lv4 :: .slice (some ⟨gm, 0, none⟩) (n + 2) cm :: .slice (some ⟨gn, 0, none⟩) (m + 2) cn :: .slice (some ⟨gm, 0, none⟩) n cm :: .slice (some ⟨gn, 0, none⟩) m cn :: lv9 :: lv10 :: lv11 :: lv12 :: .slice ak nk ck :: lv14 :: lv15 :: .slice (some ⟨ga, 0, none⟩) 4 ca :: .slice (some ⟨gu, 0, none⟩) 4 cu :: lv18 :: lv19 :: lv20 :: lv21 :: lv22 :: lv23 :: lv24 :: lv25 :: lv26 :: lv27 :: lv28 :: lv29 :: lv30 :: lv31 :: lv32 :: lv33 :: lv34 :: lv35 :: lv36 :: lv37 :: lv38 :: lv39 :: lv40 :: lv41 :: lv42 :: lv43 :: lv44 :: lv45 :: lv46 :: lv47 :: lv48 :: lv49 :: lv50 :: lv51 :: lv52 :: lv53 :: lv54 :: lv55 :: lv56 :: lv57 :: lv58 :: lv59 :: lv60 :: lv61 :: lv62 :: lv63 :: lv64 :: lv65 :: lv66 :: lv67 :: lv68 :: lv69 :: lv70 :: lv71 :: lv72 :: lv73 :: lv74 :: lv75 :: lv76 :: lv77 :: lv78 :: lv79 :: lv80 :: lv81 :: lv82 :: lv83 :: lv84 :: lv85 :: lv86 :: lv87 :: lv88 :: lv89 :: lv90 :: lv91 :: lv92 :: lv93 :: lv94 :: lv95 :: lv96 :: lv97 :: lv98 :: lv99 :: lv100 :: lv101 :: lv102 :: lv103 :: lv104 :: lv105 :: lv106 :: lv107 :: lv108 :: lv109 :: lv110 :: lv111 :: lv112 :: lv113 :: lv114 :: lv115 :: lv116 :: lv117 :: lv118 :: lv119 :: lv120 :: lv121 :: lv122 :: lv123 :: lv124 :: lv125 :: lv126 :: lv127 :: lv128 :: lv129 :: lv130 :: lv131 :: lv132 :: lv133 :: lv134 :: lv135 :: lv136 :: lv137 :: lv138 :: lv139 :: lv140 :: lv141 :: lv142 :: lv143 :: lv144 :: lv145 :: lv146 :: lv147 :: lv148 :: lv149 :: lv150 :: lv151 :: lv152 :: lv153 :: lv154 :: lv155 :: lv156 :: lv157 :: lv158 :: lv159 :: lv160 :: lv161 :: lv162 :: lv163 :: lv164 :: lv165 :: lv166 :: lv167 :: lv168 :: lv169 :: lv170 :: lv171 :: lv172 :: lv173 :: lv174 :: lv175 :: lv176 :: lv177 :: lv178 :: lv179 :: lv180 :: lv181 :: lv182 :: lv183 :: lv184 :: lv185 :: lv186 :: lv187 :: lv188 :: lv189 :: lv190 :: lv191 :: lv192 :: lv193 :: lv194 :: lv195 :: lv196 :: lv197 :: lv198 :: lv199 :: lv200 :: lv201 :: lv202 :: lv203 :: lv204 :: lv205 :: lv206 :: lv207 :: lv208 :: lv209 :: lv210 :: lv211 :: lv212 :: lv213 :: lv214 :: lv215 :: lv216 :: lv217 :: lv218 :: lv219 :: lv220 :: lv221 :: lv222 :: lv223 :: lv224 :: lv225 :: lv226 :: lv227 :: lv228 :: lv229 :: lv230 :: lv231 :: lv232 :: lv233 :: lv234 :: lv235 :: lv236 :: lv237 :: lv238 :: lv239 :: lv240 :: lv241 :: lv242 :: lv243 :: lv244 :: lv245 :: lv246 :: lv247 :: lv248 :: lv249 :: lv250 :: lv251 :: lv252 :: lv253 :: lv254 :: lv255 :: lv256 :: lv257 :: lv258 :: lv259 :: lv260 :: lv261 :: lv262 :: lv263 :: lv264 :: lv265 :: lv266 :: lv267 :: lv268 :: lv269 :: lv270 :: lv271 :: lv272 :: lv273 :: lv274 :: []).toArray, []⟩ wc := by
  conv => arg 2; whnf
  refine wp_seq_k fun K hK => ?_
  have HK : Hid _ := hK
  clear hK
  go_wp2_with fail
  go_loopw [24] (fun i wr => ∃ k : Nat, k ≤ 4 ∧ i = .int .i64 k ∧ Below wc.heap.size wc wr) (fun i _ => 4 - (intOf i).toNat)
  case atStart => exact ⟨0, by omega, rfl, Below.refl _ _⟩
  case round =>
    rename World => w1
    obtain ⟨k, hk, rfl, hb⟩ := hrel
    have HB : Hid (Below wc.heap.size wc w1) := hb
    have hz1 := hb.size
    clear hb
    by_cases hlt : k < 4
    · have s1 := SV.out k hlt
      have s2 := SU.out k hlt
      have c1 := Q.out.cell k hlt
      have c2 := CU.out k hlt
      have hga := Q.out.galt
      obtain ⟨v1, hv1⟩ : ∃ v, V k = v := ⟨_, rfl⟩
      obtain ⟨v2, hv2⟩ : ∃ v, U k = v := ⟨_, rfl⟩
      rw [hv1] at s1 c1
      rw [hv2] at s2 c2
      obtain ⟨a1, d1, e1, _⟩ := s1.form
      obtain ⟨a2, d2, e2, _⟩ := s2.form
      rename_i q1 q2
      clear q1 q2
      subst e1
      subst e2
      obtain ⟨nv, hnv⟩ : ∃ nv, nn k = nv := ⟨_, rfl⟩
      obtain ⟨n1, hn1⟩ : ∃ n1, nv + 1 = n1 := ⟨_, rfl⟩
      have hnvl : nv ≤ 4194304 := by rw [← hnv]; exact NN.out k hlt
      rw [hnv] at s1 s2 c1 c2
      rw [hn1] at s2 c2
      have S1 : Hid (FS wc (.slice a1 (List.replicate nv (mkF k)).length d1) (List.replicate nv (mkF k))) := s1
      have S2 : Hid (FS wc (.slice a2 (List.replicate n1 (mkF k)).length d2) (List.replicate n1 (mkF k))) := s2
      rw [List.length_replicate] at c1 c2
      have C1 : Hid (∀ W : World, Below wc.heap.size wc W → W.cell? ⟨ga, k, none⟩ = some (.slice a1 nv d1)) := fun W hW => (hW.cell (p := ⟨ga, k, none⟩) hga).trans c1
      have C2 : Hid (∀ W : World, Below wc.heap.size wc W → W.cell? ⟨gu, k, none⟩ = some (.slice a2 n1 d2)) := fun W hW => (hW.cell (p := ⟨gu, k, none⟩) hgu).trans c2
      have k1 : (0 : Int) ≤ (k : Int) := by omega
      have k2 : (k : Int) < 4 := by omega
      clear s1 s2 hv1 hv2 c1 c2 hnv
      go_wp2_with fail
      obtain ⟨g, hg⟩ : ∃ g, w1.heap.size = g := ⟨_, rfl⟩
      obtain ⟨w2, hw2⟩ : ∃ w2, w1.alloc (.cells #[.string ⟨#[109, 97, 114, 107]⟩, .string ⟨#[]⟩, .int .i64 0, .int .i64 (k : Int)] 26) = w2 := ⟨_, rfl⟩
      have X2 : Hid (FB w2 g (mkF k) ∧ Below w1.heap.size w1 w2) := by
        rw [← hw2, ← hg]; exact ⟨FB.new w1 (mkF k) 26, balloc _ _⟩
      have HB2 : Hid (Below wc.heap.size wc w2) := bstep HB.out X2.out.2
      rw [hw2, hg]
      clear hw2 hg
      go_loopw [26] (fun i wr => ∃ j : Nat, j ≤ n1 ∧ i = .int .i64 j ∧ Below w2.heap.size w2 wr) (fun i _ => n1 - (intOf i).toNat)
      case atStart => exact ⟨0, by omega, rfl, Below.refl _ _⟩
      case round =>
        rename World => w3
        obtain ⟨j, hj, rfl, hb⟩ := hrel
        have HB3 : Hid (Below w2.heap.size w2 w3) := hb
        have HB3c : Hid (Below wc.heap.size wc w3) := bstep HB2.out hb
        have hz3 := HB3c.out.size
        clear hb
        have e1 := C1.out w3 HB3c.out
        have e2 := C2.out w3 HB3c.out
        by_cases hjl : j < n1
        · obtain ⟨b2, o2, ea2, hb2, p0, p1, p2, p3⟩ := FS.at S2.out HB3c.out (k := j) (by simpa using hjl)
          subst ea2
          simp only [List.getElem_replicate] at p0 p1 p2 p3
          have f0 : w3.cell? ⟨b2, o2 + j * 4, none⟩ = some (.string ⟨#[109, 97, 114, 107]⟩) := p0
          have f1 : w3.cell? ⟨b2, o2 + j * 4 + 1, none⟩ = some (.string ⟨#[]⟩) := p1
          have f2 : w3.cell? ⟨b2, o2 + j * 4 + 2, none⟩ = some (.int .i64 0) := p2
          have f3 : w3.cell? ⟨b2, o2 + j * 4 + 3, none⟩ = some (.int .i64 (k : Int)) := p3
          have hb2' : b2 < w3.heap.size := by omega
          have hgu' : gu < w3.heap.size := by omega
          have hga' : ga < w3.heap.size := by omega
          have x0 : ∀ Y : GW w3, Y.it.cell? ⟨b2, o2 + j * 4, none⟩ = some (.string ⟨#[109, 97, 114, 107]⟩) := fun Y => Y.cell hb2' f0
          have x1 : ∀ Y : GW w3, Y.it.cell? ⟨b2, o2 + j * 4 + 1, none⟩ = some (.string ⟨#[]⟩) := fun Y => Y.cell hb2' f1
          have x2 : ∀ Y : GW w3, Y.it.cell? ⟨b2, o2 + j * 4 + 2, none⟩ = some (.int .i64 0) := fun Y => Y.cell hb2' f2
          have x3 : ∀ Y : GW w3, Y.it.cell? ⟨b2, o2 + j * 4 + 3, none⟩ = some (.int .i64 (k : Int)) := fun Y => Y.cell hb2' f3
          have FB3 := X2.out.1.later HB3.out
          have m0 : ∀ Y : GW w3, Y.it.cell? ⟨g, 0, none⟩ = some (.string ⟨#[109, 97, 114, 107]⟩) := fun Y => Y.cell FB3.lt FB3.c0
          have m1 : ∀ Y : GW w3, Y.it.cell? ⟨g, 1, none⟩ = some (.string ⟨#[]⟩) := fun Y => Y.cell FB3.lt FB3.c1
          have m2 : ∀ Y : GW w3, Y.it.cell? ⟨g, 2, none⟩ = some (.int .i64 0) := fun Y => Y.cell FB3.lt FB3.c2
          have m3 : ∀ Y : GW w3, Y.it.cell? ⟨g, 3, none⟩ = some (.int .i64 (k : Int)) := fun Y => Y.cell FB3.lt FB3.c3
          have y1 : ∀ Y : GW w3, Y.it.cell? ⟨ga, k, none⟩ = some (.slice a1 nv d1) := fun Y => Y.cell hga' e1
          have y2 : ∀ Y : GW w3, Y.it.cell? ⟨gu, k, none⟩ = some (.slice (some ⟨b2, o2, none⟩) n1 d2) := fun Y => Y.cell hgu' e2
          have q1 : ∀ W : World, (binOp .neq 26 (.agg #[.string ⟨#[109, 97, 114, 107]⟩, .string ⟨#[]⟩, .int .i64 0, .int .i64 (k : Int)]) (.agg #[.string ⟨#[109, 97, 114, 107]⟩, .string ⟨#[]⟩, .int .i64 0, .int .i64 (k : Int)])).run Tryz.prog W = .ok (.bool false) W := fun W => by
            have := neq_run W [109, 97, 114, 107] [] [109, 97, 114, 107] [] 0 (k : Int) 0 (k : Int)
            rw [feq_self] at this
            exact this
          have q2 := guard_run
          have xne := gw_ne w3
          have j1 : (0 : Int) ≤ (j : Int) := by omega
          have j2 : (j : Int) < (n1 : Int) := by omega
          clear p0 p1 p2 p3 f0 f1 f2 f3 FB3
          by_cases hjv : j < nv
          · obtain ⟨b1, o1, ea1, hb1, p0, p1, p2, p3⟩ := FS.at S1.out HB3c.out (k := j) (by simpa using hjv)
            subst ea1
            simp only [List.getElem_replicate] at p0 p1 p2 p3
            have f0 : w3.cell? ⟨b1, o1 + j * 4, none⟩ = some (.string ⟨#[109, 97, 114, 107]⟩) := p0
            have f1 : w3.cell? ⟨b1, o1 + j * 4 + 1, none⟩ = some (.string ⟨#[]⟩) := p1
            have f2 : w3.cell? ⟨b1, o1 + j * 4 + 2, none⟩ = some (.int .i64 0) := p2
            have f3 : w3.cell? ⟨b1, o1 + j * 4 + 3, none⟩ = some (.int .i64 (k : Int)) := p3
            have hb1' : b1 < w3.heap.size := by omega
            have z0 : ∀ Y : GW w3, Y.it.cell? ⟨b1, o1 + j * 4, none⟩ = some (.string ⟨#[109, 97, 114, 107]⟩) := fun Y => Y.cell hb1' f0
            have z1 : ∀ Y : GW w3, Y.it.cell? ⟨b1, o1 + j * 4 + 1, none⟩ = some (.string ⟨#[]⟩) := fun Y => Y.cell hb1' f1
            have z2 : ∀ Y : GW w3, Y.it.cell? ⟨b1, o1 + j * 4 + 2, none⟩ = some (.int .i64 0) := fun Y => Y.cell hb1' f2
            have z3 : ∀ Y : GW w3, Y.it.cell? ⟨b1, o1 + j * 4 + 3, none⟩ = some (.int .i64 (k : Int)) := fun Y => Y.cell hb1' f3
            have hd : decide ((j : Int) < (nv : Int)) = true := by rw [decide_eq_true_eq]; omega
            have j3 : (j : Int) < (nv : Int) := by omega
            clear p0 p1 p2 p3 f0 f1 f2 f3
            go_wp2_with fail
            refine wp_region_grow (by kernel_rfl) (by kernel_rfl) ?_
            repeat (go_big_quiet_step (fail))
            refine wpQuiet_nil ?_
            rintro w4 ⟨⟨w4, bx⟩, rfl⟩
            have HB4 : Hid (Below w2.heap.size w2 w4) := bstep HB3.out bx
            clear bx x0 x1 x2 x3 y1 y2 z0 z1 z2 z3 m0 m1 m2 m3 e1 e2
            go_wp2_with fail
            go_roundw
            case rel => exact ⟨j + 1, by omega, by go_num, HB4.out⟩
            case measure => simp [intOf]; omega
          · have hd : decide ((j : Int) < (nv : Int)) = false := by rw [decide_eq_false_iff_not]; omega
            go_wp2_with fail
            refine wp_region_grow (by kernel_rfl) (by kernel_rfl) ?_
            repeat (go_big_quiet_step (fail))
            refine wpQuiet_nil ?_
            rintro w4 ⟨⟨w4, bx⟩, rfl⟩
            have HB4 : Hid (Below w2.heap.size w2 w4) := bstep HB3.out bx
            clear bx x0 x1 x2 x3 y1 y2 m0 m1 m2 m3 e1 e2
            go_wp2_with fail
            go_roundw
            case rel => exact ⟨j + 1, by omega, by go_num, HB4.out⟩
            case measure => simp [intOf]; omega
        · have hjl2 : ¬ (j : Int) < (n1 : Int) := by omega
          go_wp2_with fail
          go_roundw
          case rel => exact ⟨k + 1, by omega, by go_num, HB3c.out⟩
          case measure => simp [intOf]; omega
    · obtain rfl : k = 4 := by omega
      go_wp2_with fail
      refine HK.out _ _ ?_
      exact f43 (X.out.later (below_mono HB.out X.out.big)) SM hnl hml
end Go.Proofs.YtgibjnfaagnbfadGreatDoor
