/-
  Tokens again: a blank ahead.
-/
import Derived.Test.YtclpbhoopmdojaaQ23
namespace Go.Proofs.Ytclpbhoopmdojaa
open Go.RowKit

set_option maxRecDepth 100000 in
set_option maxHeartbeats 8000000 in
theorem q18 {lv3 lv4 lv5 lv6 lv8 lv10 lv11 lv12 lv13 lv15 lv16 lv17 lv18 lv19 lv20 lv21 lv22 lv23 lv24 lv25 lv26 lv27 lv28 lv29 lv30 lv31 lv32 lv33 lv34 lv35 lv36 lv37 lv38 lv39 lv40 lv41 lv42 lv43 lv44 lv45 lv46 lv47 lv48 lv49 lv50 lv51 lv52 lv53 lv54 lv55 lv56 lv57 lv58 lv59 lv60 lv61 lv62 lv63 lv64 lv65 lv66 lv67 lv68 lv69 lv70 lv71 lv72 lv73 lv74 lv75 lv76 lv77 lv78 lv79 lv80 lv81 lv82 lv83 lv84 lv85 lv86 lv87 lv88 lv89 lv90 lv91 lv92 lv93 lv94 lv95 lv96 lv97 lv98 lv99 lv100 lv101 lv102 lv103 lv104 lv105 lv106 lv107 lv108 lv109 lv110 lv111 lv112 lv113 lv114 lv115 lv116 lv117 lv118 lv119 lv120 lv121 lv122 lv123 lv124 lv125 lv126 lv127 lv128 lv129 lv130 lv131 lv132 lv133 lv134 lv135 lv136 lv137 lv138 lv139 lv140 lv141 lv142 lv143 lv144 lv145 lv146 lv147 lv148 lv149 lv150 lv151 lv152 lv153 lv154 lv155 lv156 lv157 lv158 lv159 lv160 lv161 lv162 lv163 lv164 lv165 lv166 lv167 lv168 lv169 lv170 lv171 lv172 lv173 lv174 lv175 lv176 lv177 lv178 lv179 lv180 lv181 lv182 lv183 lv184 lv185 lv186 lv187 lv188 lv189 lv190 lv191 lv192 lv193 lv194 lv195 lv196 lv197 lv198 lv199 lv200 lv201 lv202 lv203 lv204 lv205 lv206 lv207 lv208 lv209 lv210 lv211 lv212 lv213 lv214 lv215 lv216 lv217 lv218 lv219 lv220 lv221 lv222 lv223 lv224 lv225 lv226 lv227 lv228 lv229 lv230 lv231 lv232 lv233 lv234 lv235 lv236 lv237 lv238 lv239 lv240 lv241 : Value} {w w1 : World} {s cm : List UInt8} {cut E : Int} {L : List Tk} {a a1 : Option Addr} {n c p1 : Nat} (X1 : Hid (TS w1 (.slice a n c) L ∧ Below w.heap.size w w1 ∧ TS w1 (.slice a1 n p1) (L.map shT))) (HN : Hid (L.length = n ∧ toks s = (L, E))) (HP : Hid (∀ k, (h : k < L.length) → ∃ p : Nat, L[k].at' = p ∧ p ≤ s.length)) (hs : s.length ≤ 10000000) (hcm : cm.length ≤ 10000000) :
    Code.wp Try.prog (suff 18 (Try.f3.body.getD .skip)) (bodyPost Try.prog Try.f3 (GoodE w)) ⟨(.string (bs s) :: .int .i64 cut :: .string (bs cm) :: lv3 :: lv4 :: lv5 :: lv6 :: .slice a n c :: lv8 :: .string (bs (pln L)) :: lv10 :: lv11 :: lv12 :: lv13 :: .slice a1 n p1 :: lv15 :: lv16 :: lv17 :: lv18 :: lv19 :: lv20 :: lv21 :: lv22 :: lv23 :: lv24 :: lv25 :: lv26 :: lv27 :: lv28 :: lv29 :: lv30 :: lv31 :: lv32 :: lv33 :: lv34 :: lv35 :: lv36 :: lv37 :: lv38 :: lv39 :: lv40 :: lv41 :: lv42 :: lv43 :: lv44 :: lv45 :: lv46 :: lv47 :: lv48 :: lv49 :: lv50 :: lv51 :: lv52 :: lv53 :: lv54 :: lv55 :: lv56 :: lv57 :: lv58 :: lv59 :: lv60 :: lv61 :: lv62 :: lv63 :: lv64 :: lv65 :: lv66 :: lv67 :: lv68 :: lv69 :: lv70 :: lv71 :: lv72 :: lv73 :: lv74 :: lv75 :: lv76 :: lv77 :: lv78 :: lv79 :: lv80 :: lv81 :: lv82 :: lv83 :: lv84 :: lv85 :: lv86 :: lv87 :: lv88 :: lv89 :: lv90 :: lv91 :: lv92 :: lv93 :: lv94 :: lv95 :: lv96 :: lv97 :: lv98 :: lv99 :: lv100 :: lv101 :: lv102 :: lv103 :: lv104 :: lv105 :: lv106 :: lv107 :: lv108 :: lv109 :: lv110 :: lv111 :: lv112 :: lv113 :: lv114 :: lv115 :: lv116 :: lv117 :: lv118 :: lv119 :: lv120 :: lv121 :: lv122 :: lv123 :: lv124 :: lv125 :: lv126 :: lv127 :: lv128 :: lv129 :: lv130 :: lv131 :: lv132 :: lv133 :: lv134 :: lv135 :: lv136 :: lv137 :: lv138 :: lv139 :: lv140 :: lv141 :: lv142 :: lv143 :: lv144 :: lv145 :: lv146 :: lv147 :: lv148 :: lv149 :: lv150 :: lv151 :: lv152 :: lv153 :: lv154 :: lv155 :: lv156 :: lv157 :: lv158 :: lv159 :: lv160 :: lv161 :: lv162 :: lv163 :: lv164 :: lv165 :: lv166 :: lv167 :: lv168 :: lv169 :: lv170 :: lv171 :: lv172 :: lv173 :: lv174 :: lv175 :: lv176 :: lv177 :: lv178 :: lv179 :: lv180 :: lv181 :: lv182 :: lv183 :: lv184 :: lv185 :: lv186 :: lv187 :: lv188 :: lv189 :: lv190 :: lv191 :: lv192 :: lv193 :: lv194 :: lv195 :: lv196 :: lv197 :: lv198 :: lv199 :: lv200 :: lv201 :: lv202 :: lv203 :: lv204 :: lv205 :: lv206 :: lv207 :: lv208 :: lv209 :: lv210 :: lv211 :: lv212 :: lv213 :: lv214 :: lv215 :: lv216 :: lv217 :: lv218 :: lv219 :: lv220 :: lv221 :: lv222 :: lv223 :: lv224 :: lv225 :: lv226 :: lv227 :: lv228 :: lv229 :: lv230 :: lv231 :: lv232 :: lv233 :: lv234 :: lv235 :: lv236 :: lv237 :: lv238 :: lv239 :: lv240 :: lv241 :: []).toArray, []⟩ w1 := by
  conv => arg 2; whnf
  have hnl : n ≤ s.length := by
    have := tg_len s 0
    have e : tg s 0 = (L, E) := HN.out.2
    rw [e] at this
    simp only at this
    have := HN.out.1
    omega
  refine wp_seq_k fun K hK => ?_
  have HK : Hid _ := hK
  clear hK
  go_wp2_with fail
  go_loopw [15] (fun v wr => ∃ k : Nat, k ≤ n ∧ v = .int .i64 k ∧ Below w1.heap.size w1 wr) (fun v _ => n - (intOf v).toNat)
  case atStart => exact ⟨0, by omega, rfl, Below.refl _ _⟩
  case round =>
    obtain ⟨k, hk, rfl, hb⟩ := hrel
    have HB : Hid (Below w1.heap.size w1 wr) := hb
    clear hb
    by_cases hlt : k < n
    · have hkl : k < L.length := by rw [HN.out.1]; exact hlt
      have k1 : (0 : Int) ≤ (k : Int) := by omega
      have k2 : (k : Int) < (n : Int) := by omega
      obtain ⟨b, o, rfl, _, c0, c1, c2⟩ := X1.out.1.at HB.out hkl
      obtain ⟨b1, o1, rfl, _, d0, d1, d2⟩ := X1.out.2.2.at HB.out (k := k) (by rw [List.length_map]; exact hkl)
      obtain ⟨p, hp, hps⟩ := HP.out k hkl
      simp only [List.getElem_map, shT] at d0 d1 d2
      rw [hp] at c2 d2
      obtain ⟨x, hx⟩ : ∃ x, L[k].text = x := ⟨_, rfl⟩
      rw [hx] at c1 d1
      clear hp hx c0 d0
      have m1 : (((p : Int) + 1) != ((p : Int) + 1)) = false := by simp
      have m2 : ((bs x).toList != (bs x).toList) = false := by simp
      go_wp2_with fail
      go_quiet (fail)
      go_wp2_with fail
      go_roundw
      case rel => exact ⟨k + 1, by omega, by go_num, bstep HB.out (bd _ _)⟩
      case measure => simp [intOf]; omega
    · obtain rfl : k = n := by omega
      have X2 : Hid (TS wr (.slice a k c) L ∧ Below w.heap.size w wr) := ⟨X1.out.1.later HB.out, bstep X1.out.2.1 HB.out⟩
      go_wp2_with fail
      refine HK.out _ _ ?_
      clear HK
      exact q23 X2 HN.out.1 HN.out.2 hs hcm

set_option maxRecDepth 100000 in
set_option maxHeartbeats 8000000 in
theorem q15 {lv3 lv4 lv5 lv6 lv10 lv11 lv12 lv13 lv14 lv15 lv16 lv17 lv18 lv19 lv20 lv21 lv22 lv23 lv24 lv25 lv26 lv27 lv28 lv29 lv30 lv31 lv32 lv33 lv34 lv35 lv36 lv37 lv38 lv39 lv40 lv41 lv42 lv43 lv44 lv45 lv46 lv47 lv48 lv49 lv50 lv51 lv52 lv53 lv54 lv55 lv56 lv57 lv58 lv59 lv60 lv61 lv62 lv63 lv64 lv65 lv66 lv67 lv68 lv69 lv70 lv71 lv72 lv73 lv74 lv75 lv76 lv77 lv78 lv79 lv80 lv81 lv82 lv83 lv84 lv85 lv86 lv87 lv88 lv89 lv90 lv91 lv92 lv93 lv94 lv95 lv96 lv97 lv98 lv99 lv100 lv101 lv102 lv103 lv104 lv105 lv106 lv107 lv108 lv109 lv110 lv111 lv112 lv113 lv114 lv115 lv116 lv117 lv118 lv119 lv120 lv121 lv122 lv123 lv124 lv125 lv126 lv127 lv128 lv129 lv130 lv131 lv132 lv133 lv134 lv135 lv136 lv137 lv138 lv139 lv140 lv141 lv142 lv143 lv144 lv145 lv146 lv147 lv148 lv149 lv150 lv151 lv152 lv153 lv154 lv155 lv156 lv157 lv158 lv159 lv160 lv161 lv162 lv163 lv164 lv165 lv166 lv167 lv168 lv169 lv170 lv171 lv172 lv173 lv174 lv175 lv176 lv177 lv178 lv179 lv180 lv181 lv182 lv183 lv184 lv185 lv186 lv187 lv188 lv189 lv190 lv191 lv192 lv193 lv194 lv195 lv196 lv197 lv198 lv199 lv200 lv201 lv202 lv203 lv204 lv205 lv206 lv207 lv208 lv209 lv210 lv211 lv212 lv213 lv214 lv215 lv216 lv217 lv218 lv219 lv220 lv221 lv222 lv223 lv224 lv225 lv226 lv227 lv228 lv229 lv230 lv231 lv232 lv233 lv234 lv235 lv236 lv237 lv238 lv239 lv240 lv241 : Value} {w wc : World} {s cm : List UInt8} {cut E : Int} {L : List Tk} {a : Option Addr} {n c : Nat} (X : Hid (TS wc (.slice a n c) L ∧ Below w.heap.size w wc)) (hn : L.length = n) (hT : toks s = (L, E)) (hs : s.length ≤ 10000000) (hcm : cm.length ≤ 10000000) :
    Code.wp Try.prog (suff 15 (Try.f3.body.getD .skip)) (bodyPost Try.prog Try.f3 (GoodE w)) ⟨(.string (bs s) :: .int .i64 cut :: .string (bs cm) :: lv3 :: lv4 :: lv5 :: lv6 :: .slice a n c :: .int .i64 E :: .string (bs (pln L)) :: lv10 :: lv11 :: lv12 :: lv13 :: lv14 :: lv15 :: lv16 :: lv17 :: lv18 :: lv19 :: lv20 :: lv21 :: lv22 :: lv23 :: lv24 :: lv25 :: lv26 :: lv27 :: lv28 :: lv29 :: lv30 :: lv31 :: lv32 :: lv33 :: lv34 :: lv35 :: lv36 :: lv37 :: lv38 :: lv39 :: lv40 :: lv41 :: lv42 :: lv43 :: lv44 :: lv45 :: lv46 :: lv47 :: lv48 :: lv49 :: lv50 :: lv51 :: lv52 :: lv53 :: lv54 :: lv55 :: lv56 :: lv57 :: lv58 :: lv59 :: lv60 :: lv61 :: lv62 :: lv63 :: lv64 :: lv65 :: lv66 :: lv67 :: lv68 :: lv69 :: lv70 :: lv71 :: lv72 :: lv73 :: lv74 :: lv75 :: lv76 :: lv77 :: lv78 :: lv79 :: lv80 :: lv81 :: lv82 :: lv83 :: lv84 :: lv85 :: lv86 :: lv87 :: lv88 :: lv89 :: lv90 :: lv91 :: lv92 :: lv93 :: lv94 :: lv95 :: lv96 :: lv97 :: lv98 :: lv99 :: lv100 :: lv101 :: lv102 :: lv103 :: lv104 :: lv105 :: lv106 :: lv107 :: lv108 :: lv109 :: lv110 :: lv111 :: lv112 :: lv113 :: lv114 :: lv115 :: lv116 :: lv117 :: lv118 :: lv119 :: lv120 :: lv121 :: lv122 :: lv123 :: lv124 :: lv125 :: lv126 :: lv127 :: lv128 :: lv129 :: lv130 :: lv131 :: lv132 :: lv133 :: lv134 :: lv135 :: lv136 :: lv137 :: lv138 :: lv139 :: lv140 :: lv141 :: lv142 :: lv143 :: lv144 :: lv145 :: lv146 :: lv147 :: lv148 :: lv149 :: lv150 :: lv151 :: lv152 :: lv153 :: lv154 :: lv155 :: lv156 :: lv157 :: lv158 :: lv159 :: lv160 :: lv161 :: lv162 :: lv163 :: lv164 :: lv165 :: lv166 :: lv167 :: lv168 :: lv169 :: lv170 :: lv171 :: lv172 :: lv173 :: lv174 :: lv175 :: lv176 :: lv177 :: lv178 :: lv179 :: lv180 :: lv181 :: lv182 :: lv183 :: lv184 :: lv185 :: lv186 :: lv187 :: lv188 :: lv189 :: lv190 :: lv191 :: lv192 :: lv193 :: lv194 :: lv195 :: lv196 :: lv197 :: lv198 :: lv199 :: lv200 :: lv201 :: lv202 :: lv203 :: lv204 :: lv205 :: lv206 :: lv207 :: lv208 :: lv209 :: lv210 :: lv211 :: lv212 :: lv213 :: lv214 :: lv215 :: lv216 :: lv217 :: lv218 :: lv219 :: lv220 :: lv221 :: lv222 :: lv223 :: lv224 :: lv225 :: lv226 :: lv227 :: lv228 :: lv229 :: lv230 :: lv231 :: lv232 :: lv233 :: lv234 :: lv235 :: lv236 :: lv237 :: lv238 :: lv239 :: lv240 :: lv241 :: []).toArray, []⟩ wc := by
  conv => arg 2; whnf
  have hnl : n ≤ s.length := by
    have := tg_len s 0
    have e : tg s 0 = (L, E) := hT
    rw [e] at this
    simp only at this
    omega
  have hgd : ∀ t ∈ L, good t := tg_good L s 0 E hT
  have hpl : (pln L).length ≤ 2 * s.length := by
    have := pln_len s.length s 0 (Nat.le_refl _)
    have e : tg s 0 = (L, E) := hT
    rw [e] at this
    exact this
  have HN : Hid (L.length = n ∧ toks s = (L, E)) := ⟨hn, hT⟩
  have z2 : (bs s).size = s.length := rfl
  have HD : Hid (∀ W : World, Calls Try.prog 7 #[.string (ByteArray.mk #[32] ++ bs s)] W fun e w' => ∃ v, e = .returned (.tuple #[v, .int .i64 (shE E)]) ∧ OwnT 26 W.heap.size w' v (L.map shT) ∧ Below W.heap.size W w') := fun W => by
    have h := tokens_any (32 :: s) W (by simp; omega)
    rw [toks_blank, hT] at h
    have e : ByteArray.mk #[32] ++ bs s = bs (32 :: s) := by
      show bs [32] ++ bs s = _
      rw [bs_app]; rfl
    rw [e]
    exact h
  have hol : (L.map shT).length = n := by rw [List.length_map]; exact hn
  have HP : Hid (∀ k, (h : k < L.length) → ∃ p : Nat, L[k].at' = p ∧ p ≤ s.length) := fun k h => by
    obtain ⟨p, m, h1, _, h2, _⟩ := toks_pre hT h
    exact ⟨p, h1, by omega⟩
  have hE := tg_end L s 0 E hT (by omega)
  clear hgd hn hT hpl
  obtain ⟨F, hF⟩ : ∃ F, shE E = F := ⟨_, rfl⟩
  rw [hF] at HD
  refine wp_seq_k fun K hK => ?_
  have HK : Hid _ := hK
  clear hK
  go_wp2_with fail
  refine (HD.out _).mono ?_
  rintro e w1 ⟨v1, rfl, ho1, hb1⟩
  obtain ⟨a1, p1, rfl⟩ := ho1.form
  rw [hol] at ho1 ⊢
  clear hol
  have X1 : Hid (TS w1 (.slice a n c) L ∧ Below w.heap.size w w1 ∧ TS w1 (.slice a1 n p1) (L.map shT)) := ⟨X.out.1.later hb1, bstep X.out.2 hb1, ho1.ts⟩
  clear X ho1 hb1 HD
  go_wp2_with fail
  refine HK.out _ _ ?_
  clear HK
  refine wp_seq_k fun K hK => ?_
  have HK : Hid _ := hK
  clear hK
  have HE : Hid (∀ (Q : Prop), (E = -1 → F = -1 → Q) → (∀ p : Nat, p < s.length → E = p → F = (p : Int) + 1 → Q) → Q) := fun Q h1 h2 => by
    rcases hE with h | ⟨p, hp, h⟩
    · refine h1 h ?_
      rw [← hF, h]; rfl
    · refine h2 p hp h ?_
      rw [← hF, h]; unfold shE; rw [if_neg (by omega)]
  clear hE hF
  have hfin : E = -1 ∧ F = -1 ∨ ∃ p : Nat, p < s.length ∧ E = p ∧ F = (p : Int) + 1 := HE.out _ (fun h1 h2 => .inl ⟨h1, h2⟩) (fun p h1 h2 h3 => .inr ⟨p, h1, h2, h3⟩)
  clear HE
  have m0 : ((n : Int) != (n : Int)) = false := by simp
  rcases hfin with ⟨rfl, rfl⟩ | ⟨p, hp, rfl, rfl⟩
  · clear m0
    go_wp2_with fail
    refine HK.out _ _ ?_
    clear HK
    exact q18 X1 HN HP hs hcm
  · have p1 : ¬ ((p : Int) < 0) := by omega
    have p2 : decide ((p : Int) < 0) = false := by simp
    have p3 : ¬ ((p : Int) + 1 < 0) := by omega
    have p4 : decide ((p : Int) + 1 < 0) = false := decide_eq_false p3
    have p5 : (0 : Int) ≤ (p : Int) := by omega
    have p6 : (((p : Int) + 1) != ((p : Int) + 1)) = false := by simp
    go_wp2_with fail
    refine HK.out _ _ ?_
    clear HK
    exact q18 X1 HN HP hs hcm
end Go.Proofs.Ytclpbhoopmdojaa
