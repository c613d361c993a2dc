/-
  Tokens again: a beginning that ends behind a token.
-/
import Derived.Test.YtclpbhoopmdojaaP22
import Derived.Test.YtclpbhoopmdojaaPure3
import Derived.Deep.Cut
namespace Go.Proofs.Ytclpbhoopmdojaa
open Go.RowKit

set_option maxRecDepth 100000 in
set_option maxHeartbeats 8000000 in
theorem q36 {lv1 lv2 lv3 lv4 lv5 lv6 lv8 lv9 lv10 lv11 lv12 lv13 lv14 lv15 lv16 lv17 lv18 lv20 lv21 lv22 lv23 lv24 lv25 lv26 lv27 lv28 lv29 lv30 lv31 lv32 lv33 lv34 lv35 lv36 lv37 lv38 lv39 lv40 lv41 lv42 lv43 lv44 lv45 lv46 lv47 lv48 lv49 lv50 lv51 lv52 lv53 lv54 lv55 lv56 lv57 lv58 lv59 lv60 lv61 lv62 lv63 lv64 lv65 lv66 lv67 lv68 lv69 lv70 lv71 lv72 lv73 lv74 lv75 lv76 lv77 lv78 lv79 lv80 lv81 lv82 lv83 lv84 lv85 lv86 lv87 lv88 lv89 lv90 lv91 lv92 lv93 lv94 lv95 lv96 lv97 lv98 lv99 lv100 lv101 lv102 lv103 lv104 lv105 lv106 lv107 lv108 lv109 lv110 lv111 lv112 lv113 lv114 lv115 lv116 lv117 lv118 lv119 lv120 lv121 lv122 lv123 lv124 lv125 lv126 lv127 lv128 lv129 lv130 lv131 lv132 lv133 lv134 lv135 lv136 lv137 lv138 lv139 lv140 lv141 lv142 lv143 lv144 lv145 lv146 lv147 lv148 lv149 lv150 lv151 lv152 lv153 lv154 lv155 lv156 lv157 lv158 lv159 lv160 lv161 lv162 lv163 lv164 lv165 lv166 lv167 lv168 lv169 lv170 lv171 lv172 lv173 lv174 lv175 lv176 lv177 lv178 lv179 lv180 lv181 lv182 lv183 lv184 lv185 lv186 lv187 lv188 lv189 lv190 lv191 lv192 lv193 lv194 lv195 lv196 lv197 lv198 lv199 lv200 lv201 lv202 lv203 lv204 lv205 lv206 lv207 lv208 lv209 lv210 lv211 lv212 lv213 lv214 lv215 lv216 lv217 lv218 lv219 lv220 lv221 lv222 lv223 lv224 lv225 lv226 lv227 lv228 lv229 lv230 lv231 lv232 lv233 lv234 lv235 lv236 lv237 lv238 lv239 lv240 lv241 : Value} {w wc : World} {s : List UInt8} {E : Int} {L : List Tk} {a : Option Addr} {n c k : Nat} (X : Hid (TS wc (.slice a n c) L ∧ Below w.heap.size w wc)) (hn : L.length = n) (hT : toks s = (L, E)) (hs : s.length ≤ 100000000) (hk : k < n) :
    Code.wp Try.prog (suff 36 (Try.f3.body.getD .skip)) (bodyPost Try.prog Try.f3 (GoodE w)) ⟨(.string (bs s) :: lv1 :: lv2 :: lv3 :: lv4 :: lv5 :: lv6 :: .slice a n c :: lv8 :: lv9 :: lv10 :: lv11 :: lv12 :: lv13 :: lv14 :: lv15 :: lv16 :: lv17 :: lv18 :: .int .i64 (k : Int) :: lv20 :: lv21 :: lv22 :: lv23 :: lv24 :: lv25 :: lv26 :: lv27 :: lv28 :: lv29 :: lv30 :: lv31 :: lv32 :: lv33 :: lv34 :: lv35 :: lv36 :: lv37 :: lv38 :: lv39 :: lv40 :: lv41 :: lv42 :: lv43 :: lv44 :: lv45 :: lv46 :: lv47 :: lv48 :: lv49 :: lv50 :: lv51 :: lv52 :: lv53 :: lv54 :: lv55 :: lv56 :: lv57 :: lv58 :: lv59 :: lv60 :: lv61 :: lv62 :: lv63 :: lv64 :: lv65 :: lv66 :: lv67 :: lv68 :: lv69 :: lv70 :: lv71 :: lv72 :: lv73 :: lv74 :: lv75 :: lv76 :: lv77 :: lv78 :: lv79 :: lv80 :: lv81 :: lv82 :: lv83 :: lv84 :: lv85 :: lv86 :: lv87 :: lv88 :: lv89 :: lv90 :: lv91 :: lv92 :: lv93 :: lv94 :: lv95 :: lv96 :: lv97 :: lv98 :: lv99 :: lv100 :: lv101 :: lv102 :: lv103 :: lv104 :: lv105 :: lv106 :: lv107 :: lv108 :: lv109 :: lv110 :: lv111 :: lv112 :: lv113 :: lv114 :: lv115 :: lv116 :: lv117 :: lv118 :: lv119 :: lv120 :: lv121 :: lv122 :: lv123 :: lv124 :: lv125 :: lv126 :: lv127 :: lv128 :: lv129 :: lv130 :: lv131 :: lv132 :: lv133 :: lv134 :: lv135 :: lv136 :: lv137 :: lv138 :: lv139 :: lv140 :: lv141 :: lv142 :: lv143 :: lv144 :: lv145 :: lv146 :: lv147 :: lv148 :: lv149 :: lv150 :: lv151 :: lv152 :: lv153 :: lv154 :: lv155 :: lv156 :: lv157 :: lv158 :: lv159 :: lv160 :: lv161 :: lv162 :: lv163 :: lv164 :: lv165 :: lv166 :: lv167 :: lv168 :: lv169 :: lv170 :: lv171 :: lv172 :: lv173 :: lv174 :: lv175 :: lv176 :: lv177 :: lv178 :: lv179 :: lv180 :: lv181 :: lv182 :: lv183 :: lv184 :: lv185 :: lv186 :: lv187 :: lv188 :: lv189 :: lv190 :: lv191 :: lv192 :: lv193 :: lv194 :: lv195 :: lv196 :: lv197 :: lv198 :: lv199 :: lv200 :: lv201 :: lv202 :: lv203 :: lv204 :: lv205 :: lv206 :: lv207 :: lv208 :: lv209 :: lv210 :: lv211 :: lv212 :: lv213 :: lv214 :: lv215 :: lv216 :: lv217 :: lv218 :: lv219 :: lv220 :: lv221 :: lv222 :: lv223 :: lv224 :: lv225 :: lv226 :: lv227 :: lv228 :: lv229 :: lv230 :: lv231 :: lv232 :: lv233 :: lv234 :: lv235 :: lv236 :: lv237 :: lv238 :: lv239 :: lv240 :: lv241 :: []).toArray, []⟩ wc := by
  conv => arg 2; whnf
  have hkl : k < L.length := by omega
  have hkb : k ≤ 100000000 := by
    have := tg_len s 0
    have e : tg s 0 = (L, E) := hT
    rw [e] at this
    simp only at this
    omega
  have h0l : 0 < L.length := by omega
  have hz : (bs s).size = s.length := rfl
  obtain ⟨p, m, hp, hm, hpm, hpre⟩ := toks_pre hT hkl
  have HD : Hid (∀ W : World, Calls Try.prog 7 #[.string ((bs s).extract 0 ((p : Int) + (m : Int)).toNat)] W fun e w' => ∃ v, e = .returned (.tuple #[v, .int .i64 (-1)]) ∧ OwnT 26 W.heap.size w' v (L.take (k + 1)) ∧ Below W.heap.size W w') := fun W => by
    have h := tokens_any (s.take (p + m)) W (by simp; omega)
    rw [hpre] at h
    have e : (bs s).extract 0 ((p : Int) + (m : Int)).toNat = bs (s.take (p + m)) := by rw [show ((p : Int) + (m : Int)).toNat = p + m by omega, bs_extract, List.drop_zero, Nat.sub_zero]
    rw [e]
    exact h
  obtain ⟨b, o, rfl, hbl, c0, c1, c2⟩ := X.out.1.at (Below.refl _ _) hkl
  rw [hp] at c2
  have HH : Hid (∀ W : World, Below wc.heap.size wc W → W.cell? ⟨b, o + k * 3, none⟩ = some (.int .i64 L[k].kind) ∧ W.cell? ⟨b, o + k * 3 + 1, none⟩ = some (.string (bs L[k].text)) ∧ W.cell? ⟨b, o + k * 3 + 2, none⟩ = some (.int .i64 (p : Int))) := fun W hW => ⟨(hW.cell (p := ⟨b, _, none⟩) hbl).trans c0, (hW.cell (p := ⟨b, _, none⟩) hbl).trans c1, (hW.cell (p := ⟨b, _, none⟩) hbl).trans c2⟩
  obtain ⟨⟨tk, tx, ta⟩, htk⟩ : ∃ t, L[k] = t := ⟨_, rfl⟩
  obtain ⟨⟨uk, ux, ua⟩, huk⟩ : ∃ t, L[0] = t := ⟨_, rfl⟩
  rw [htk] at c0 c1 HH hp hm
  simp only at c0 c1 HH hp hm
  have z1 : (bs tx).size = m := hm
  have HT : Hid (ta = (p : Int)) := hp
  clear hp hm hpre
  have k1 : (0 : Int) ≤ (k : Int) := by omega
  have k2 : (k : Int) < (n : Int) := by omega
  have f0 : (0 : Int) ≤ (p : Int) + (m : Int) := by omega
  have f1 : (p : Int) + (m : Int) ≤ (s.length : Int) := by omega
  have f2 : IntKind.i64.wrap ((p : Int) + (m : Int)) = (p : Int) + (m : Int) := by rw [IntKind.wrap_i64]; omega
  refine wp_seq_k fun K hK => ?_
  have HK : Hid _ := hK
  clear hK
  go_region_held3 (fun w' => w'.cell? ⟨b, o + k * 3 + 1, none⟩ = some (.string (bs tx)) ∧ w'.cell? ⟨b, o + k * 3 + 2, none⟩ = some (.int .i64 (p : Int))) (first | (with_reducible exact KS) | go_keep) (first | (go_at_call 7; (with_reducible refine (HD.out _).mono ?_); rintro x w5 ⟨v5, rfl, ho5, hb5⟩; have KS := (HH.out w5 (bstep (bd wc 1) hb5)).2))
  have Y : Hid (Below wc.heap.size wc w5 ∧ OwnT 26 wc.heap.size w5 v5 (L.take (k + 1))) := ⟨bstep (bd wc 1) hb5, ho5⟩
  clear ho5 hb5 KS
  obtain ⟨a5, p5, rfl⟩ := Y.out.2.form
  obtain ⟨l5, hl5⟩ : ∃ l5, (L.take (k + 1)).length = l5 := ⟨_, rfl⟩
  have hl6 : l5 = k + 1 := by rw [← hl5]; simp; omega
  rw [hl5] at Y ⊢
  have k3 : (k : Int) < (l5 : Int) := by omega
  have k4 : (0 : Int) < (l5 : Int) := by omega
  have k6 : ((l5 : Int) != ((k : Int) + 1)) = false := by rw [hl6]; simp
  have k7 : ((l5 : Int) == ((k : Int) + 1)) = true := by rw [hl6]; simp
  refine HK.out _ _ ?_
  clear HK c0 c1 c2
  obtain ⟨b5, o5, rfl, _, d0, d1, d2⟩ := Y.out.2.ts.at (Below.refl _ _) (k := k) (by omega)
  obtain ⟨b6, o6, e6, _, x0, x1, x2⟩ := Y.out.2.ts.at (Below.refl _ _) (k := 0) (by omega)
  injection e6 with e6
  injection e6 with e61 e62 _
  subst e61 e62
  obtain ⟨b7, o7, e7, _, y0, y1, y2⟩ := X.out.1.at Y.out.1 (k := 0) h0l
  injection e7 with e7
  injection e7 with e71 e72 _
  subst e71 e72
  obtain ⟨c0, c1, c2⟩ := HH.out w5 Y.out.1
  simp only [List.getElem_take] at d0 d1 d2 x0 x1 x2
  rw [htk] at d0 d1 d2
  rw [HT.out] at d2
  rw [huk] at x0 x1 x2 y0 y1 y2
  simp only [Nat.zero_mul, Nat.add_zero] at d0 d1 d2 x0 x1 x2 y0 y1 y2
  clear htk huk hT hl5 hl6
  have q1 : ∀ w : World, (binOp .eql 26 (.agg #[.int .i64 tk, .string (bs tx), .int .i64 (p : Int)]) (.agg #[.int .i64 tk, .string (bs tx), .int .i64 (p : Int)])).run Try.prog w = .ok (.bool true) w := fun w => by
    have h := eql_run w tx tx tk p tk p
    rw [teq_self] at h
    exact h
  have q2 : ∀ w : World, (binOp .eql 26 (.agg #[.int .i64 uk, .string (bs ux), .int .i64 ua]) (.agg #[.int .i64 uk, .string (bs ux), .int .i64 ua])).run Try.prog w = .ok (.bool true) w := fun w => by
    have h := eql_run w ux ux uk ua uk ua
    rw [teq_self] at h
    exact h
  have q3 := guard_run
  have k5 : (0 : Int) < (n : Int) := by omega
  go_wp2_with fail
  go_quiet (fail)
  go_wp2_with fail
  go_ret
  exact ⟨rfl, bstep X.out.2 (bstep Y.out.1 (bd _ _))⟩

set_option maxRecDepth 100000 in
set_option maxHeartbeats 8000000 in
theorem q31 {lv2 lv3 lv4 lv5 lv6 lv8 lv9 lv10 lv11 lv12 lv13 lv14 lv15 lv16 lv17 lv18 lv19 lv20 lv21 lv22 lv23 lv24 lv25 lv26 lv27 lv28 lv29 lv30 lv31 lv32 lv33 lv34 lv35 lv36 lv37 lv38 lv39 lv40 lv41 lv42 lv43 lv44 lv45 lv46 lv47 lv48 lv49 lv50 lv51 lv52 lv53 lv54 lv55 lv56 lv57 lv58 lv59 lv60 lv61 lv62 lv63 lv64 lv65 lv66 lv67 lv68 lv69 lv70 lv71 lv72 lv73 lv74 lv75 lv76 lv77 lv78 lv79 lv80 lv81 lv82 lv83 lv84 lv85 lv86 lv87 lv88 lv89 lv90 lv91 lv92 lv93 lv94 lv95 lv96 lv97 lv98 lv99 lv100 lv101 lv102 lv103 lv104 lv105 lv106 lv107 lv108 lv109 lv110 lv111 lv112 lv113 lv114 lv115 lv116 lv117 lv118 lv119 lv120 lv121 lv122 lv123 lv124 lv125 lv126 lv127 lv128 lv129 lv130 lv131 lv132 lv133 lv134 lv135 lv136 lv137 lv138 lv139 lv140 lv141 lv142 lv143 lv144 lv145 lv146 lv147 lv148 lv149 lv150 lv151 lv152 lv153 lv154 lv155 lv156 lv157 lv158 lv159 lv160 lv161 lv162 lv163 lv164 lv165 lv166 lv167 lv168 lv169 lv170 lv171 lv172 lv173 lv174 lv175 lv176 lv177 lv178 lv179 lv180 lv181 lv182 lv183 lv184 lv185 lv186 lv187 lv188 lv189 lv190 lv191 lv192 lv193 lv194 lv195 lv196 lv197 lv198 lv199 lv200 lv201 lv202 lv203 lv204 lv205 lv206 lv207 lv208 lv209 lv210 lv211 lv212 lv213 lv214 lv215 lv216 lv217 lv218 lv219 lv220 lv221 lv222 lv223 lv224 lv225 lv226 lv227 lv228 lv229 lv230 lv231 lv232 lv233 lv234 lv235 lv236 lv237 lv238 lv239 lv240 lv241 : Value} {w wc : World} {s : List UInt8} {cut E : Int} {L : List Tk} {a : Option Addr} {n c : Nat} (X : Hid (TS wc (.slice a n c) L ∧ Below w.heap.size w wc)) (hn : L.length = n) (hT : toks s = (L, E)) (hs : s.length ≤ 100000000) :
    Code.wp Try.prog (suff 31 (Try.f3.body.getD .skip)) (bodyPost Try.prog Try.f3 (GoodE w)) ⟨(.string (bs s) :: .int .i64 cut :: lv2 :: lv3 :: lv4 :: lv5 :: lv6 :: .slice a n c :: lv8 :: lv9 :: lv10 :: lv11 :: lv12 :: lv13 :: lv14 :: lv15 :: lv16 :: lv17 :: lv18 :: lv19 :: lv20 :: lv21 :: lv22 :: lv23 :: lv24 :: lv25 :: lv26 :: lv27 :: lv28 :: lv29 :: lv30 :: lv31 :: lv32 :: lv33 :: lv34 :: lv35 :: lv36 :: lv37 :: lv38 :: lv39 :: lv40 :: lv41 :: lv42 :: lv43 :: lv44 :: lv45 :: lv46 :: lv47 :: lv48 :: lv49 :: lv50 :: lv51 :: lv52 :: lv53 :: lv54 :: lv55 :: lv56 :: lv57 :: lv58 :: lv59 :: lv60 :: lv61 :: lv62 :: lv63 :: lv64 :: lv65 :: lv66 :: lv67 :: lv68 :: lv69 :: lv70 :: lv71 :: lv72 :: lv73 :: lv74 :: lv75 :: lv76 :: lv77 :: lv78 :: lv79 :: lv80 :: lv81 :: lv82 :: lv83 :: lv84 :: lv85 :: lv86 :: lv87 :: lv88 :: lv89 :: lv90 :: lv91 :: lv92 :: lv93 :: lv94 :: lv95 :: lv96 :: lv97 :: lv98 :: lv99 :: lv100 :: lv101 :: lv102 :: lv103 :: lv104 :: lv105 :: lv106 :: lv107 :: lv108 :: lv109 :: lv110 :: lv111 :: lv112 :: lv113 :: lv114 :: lv115 :: lv116 :: lv117 :: lv118 :: lv119 :: lv120 :: lv121 :: lv122 :: lv123 :: lv124 :: lv125 :: lv126 :: lv127 :: lv128 :: lv129 :: lv130 :: lv131 :: lv132 :: lv133 :: lv134 :: lv135 :: lv136 :: lv137 :: lv138 :: lv139 :: lv140 :: lv141 :: lv142 :: lv143 :: lv144 :: lv145 :: lv146 :: lv147 :: lv148 :: lv149 :: lv150 :: lv151 :: lv152 :: lv153 :: lv154 :: lv155 :: lv156 :: lv157 :: lv158 :: lv159 :: lv160 :: lv161 :: lv162 :: lv163 :: lv164 :: lv165 :: lv166 :: lv167 :: lv168 :: lv169 :: lv170 :: lv171 :: lv172 :: lv173 :: lv174 :: lv175 :: lv176 :: lv177 :: lv178 :: lv179 :: lv180 :: lv181 :: lv182 :: lv183 :: lv184 :: lv185 :: lv186 :: lv187 :: lv188 :: lv189 :: lv190 :: lv191 :: lv192 :: lv193 :: lv194 :: lv195 :: lv196 :: lv197 :: lv198 :: lv199 :: lv200 :: lv201 :: lv202 :: lv203 :: lv204 :: lv205 :: lv206 :: lv207 :: lv208 :: lv209 :: lv210 :: lv211 :: lv212 :: lv213 :: lv214 :: lv215 :: lv216 :: lv217 :: lv218 :: lv219 :: lv220 :: lv221 :: lv222 :: lv223 :: lv224 :: lv225 :: lv226 :: lv227 :: lv228 :: lv229 :: lv230 :: lv231 :: lv232 :: lv233 :: lv234 :: lv235 :: lv236 :: lv237 :: lv238 :: lv239 :: lv240 :: lv241 :: []).toArray, []⟩ wc := by
  conv => arg 2; whnf
  have hnl : n ≤ s.length := by
    have := tg_len s 0
    have e : tg s 0 = (L, E) := hT
    rw [e] at this
    simp only at this
    omega
  by_cases h0 : n = 0
  · subst h0
    go_wp2_with fail
    go_ret
    exact ⟨rfl, X.out.2⟩
  have n0 : ((n : Int) == 0) = false := by rw [beq_eq_false_iff_ne]; omega
  have n1 : (0 : Int) < (n : Int) := by omega
  have t1 := Int.tmod_lt_of_pos cut n1
  have t2 : -(n : Int) < cut.tmod n := by
    have := Int.tmod_lt_of_pos (-cut) n1
    rw [Int.neg_tmod] at this
    omega
  have HN : Hid (L.length = n ∧ toks s = (L, E)) := ⟨hn, hT⟩
  clear hn hT
  generalize hr : cut.tmod (n : Int) = r at *
  by_cases hr0 : 0 ≤ r
  · obtain ⟨k, rfl⟩ : ∃ k : Nat, r = k := ⟨r.toNat, by omega⟩
    have r1 : ¬ ((k : Int) < 0) := by omega
    have r2 : decide ((k : Int) < 0) = false := by simp
    iterate 3
      refine wp_seq_k fun K hK => ?_
      have HK : Hid _ := hK
      clear hK
      go_wp2_with fail
      refine HK.out _ _ ?_
      clear HK
    exact q36 (k := k) X HN.out.1 HN.out.2 hs (by omega)
  · obtain ⟨k, rfl⟩ : ∃ k : Nat, r = (k : Int) - n := ⟨(r + n).toNat, by omega⟩
    have r1 : (k : Int) - n < 0 := by omega
    have r3 : (k : Int) - n + n = k := by omega
    iterate 3
      refine wp_seq_k fun K hK => ?_
      have HK : Hid _ := hK
      clear hK
      go_wp2_with fail
      refine HK.out _ _ ?_
      clear HK
    exact q36 (k := k) X HN.out.1 HN.out.2 hs (by omega)
end Go.Proofs.Ytclpbhoopmdojaa
