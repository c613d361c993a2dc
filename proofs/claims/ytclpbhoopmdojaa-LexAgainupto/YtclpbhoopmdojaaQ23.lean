/-
  Tokens again: a comment and a line behind.
-/
import Derived.Test.YtclpbhoopmdojaaQ31
namespace Go.Proofs.Ytclpbhoopmdojaa
open Go.RowKit

set_option maxRecDepth 100000 in
set_option maxHeartbeats 8000000 in
theorem q23 {lv3 lv4 lv5 lv6 lv8 lv10 lv11 lv12 lv13 lv14 lv15 lv16 lv17 lv18 lv19 lv20 lv21 lv22 lv23 lv24 lv25 lv26 lv27 lv28 lv29 lv30 lv31 lv32 lv33 lv34 lv35 lv36 lv37 lv38 lv39 lv40 lv41 lv42 lv43 lv44 lv45 lv46 lv47 lv48 lv49 lv50 lv51 lv52 lv53 lv54 lv55 lv56 lv57 lv58 lv59 lv60 lv61 lv62 lv63 lv64 lv65 lv66 lv67 lv68 lv69 lv70 lv71 lv72 lv73 lv74 lv75 lv76 lv77 lv78 lv79 lv80 lv81 lv82 lv83 lv84 lv85 lv86 lv87 lv88 lv89 lv90 lv91 lv92 lv93 lv94 lv95 lv96 lv97 lv98 lv99 lv100 lv101 lv102 lv103 lv104 lv105 lv106 lv107 lv108 lv109 lv110 lv111 lv112 lv113 lv114 lv115 lv116 lv117 lv118 lv119 lv120 lv121 lv122 lv123 lv124 lv125 lv126 lv127 lv128 lv129 lv130 lv131 lv132 lv133 lv134 lv135 lv136 lv137 lv138 lv139 lv140 lv141 lv142 lv143 lv144 lv145 lv146 lv147 lv148 lv149 lv150 lv151 lv152 lv153 lv154 lv155 lv156 lv157 lv158 lv159 lv160 lv161 lv162 lv163 lv164 lv165 lv166 lv167 lv168 lv169 lv170 lv171 lv172 lv173 lv174 lv175 lv176 lv177 lv178 lv179 lv180 lv181 lv182 lv183 lv184 lv185 lv186 lv187 lv188 lv189 lv190 lv191 lv192 lv193 lv194 lv195 lv196 lv197 lv198 lv199 lv200 lv201 lv202 lv203 lv204 lv205 lv206 lv207 lv208 lv209 lv210 lv211 lv212 lv213 lv214 lv215 lv216 lv217 lv218 lv219 lv220 lv221 lv222 lv223 lv224 lv225 lv226 lv227 lv228 lv229 lv230 lv231 lv232 lv233 lv234 lv235 lv236 lv237 lv238 lv239 lv240 lv241 : Value} {w wc : World} {s cm : List UInt8} {cut E : Int} {L : List Tk} {a : Option Addr} {n c : Nat} (X : Hid (TS wc (.slice a n c) L ∧ Below w.heap.size w wc)) (hn : L.length = n) (hT : toks s = (L, E)) (hs : s.length ≤ 10000000) (hcm : cm.length ≤ 10000000) :
    Code.wp Try.prog (suff 23 (Try.f3.body.getD .skip)) (bodyPost Try.prog Try.f3 (GoodE w)) ⟨(.string (bs s) :: .int .i64 cut :: .string (bs cm) :: lv3 :: lv4 :: lv5 :: lv6 :: .slice a n c :: lv8 :: .string (bs (pln L)) :: lv10 :: lv11 :: lv12 :: lv13 :: lv14 :: lv15 :: lv16 :: lv17 :: lv18 :: lv19 :: lv20 :: lv21 :: lv22 :: lv23 :: lv24 :: lv25 :: lv26 :: lv27 :: lv28 :: lv29 :: lv30 :: lv31 :: lv32 :: lv33 :: lv34 :: lv35 :: lv36 :: lv37 :: lv38 :: lv39 :: lv40 :: lv41 :: lv42 :: lv43 :: lv44 :: lv45 :: lv46 :: lv47 :: lv48 :: lv49 :: lv50 :: lv51 :: lv52 :: lv53 :: lv54 :: lv55 :: lv56 :: lv57 :: lv58 :: lv59 :: lv60 :: lv61 :: lv62 :: lv63 :: lv64 :: lv65 :: lv66 :: lv67 :: lv68 :: lv69 :: lv70 :: lv71 :: lv72 :: lv73 :: lv74 :: lv75 :: lv76 :: lv77 :: lv78 :: lv79 :: lv80 :: lv81 :: lv82 :: lv83 :: lv84 :: lv85 :: lv86 :: lv87 :: lv88 :: lv89 :: lv90 :: lv91 :: lv92 :: lv93 :: lv94 :: lv95 :: lv96 :: lv97 :: lv98 :: lv99 :: lv100 :: lv101 :: lv102 :: lv103 :: lv104 :: lv105 :: lv106 :: lv107 :: lv108 :: lv109 :: lv110 :: lv111 :: lv112 :: lv113 :: lv114 :: lv115 :: lv116 :: lv117 :: lv118 :: lv119 :: lv120 :: lv121 :: lv122 :: lv123 :: lv124 :: lv125 :: lv126 :: lv127 :: lv128 :: lv129 :: lv130 :: lv131 :: lv132 :: lv133 :: lv134 :: lv135 :: lv136 :: lv137 :: lv138 :: lv139 :: lv140 :: lv141 :: lv142 :: lv143 :: lv144 :: lv145 :: lv146 :: lv147 :: lv148 :: lv149 :: lv150 :: lv151 :: lv152 :: lv153 :: lv154 :: lv155 :: lv156 :: lv157 :: lv158 :: lv159 :: lv160 :: lv161 :: lv162 :: lv163 :: lv164 :: lv165 :: lv166 :: lv167 :: lv168 :: lv169 :: lv170 :: lv171 :: lv172 :: lv173 :: lv174 :: lv175 :: lv176 :: lv177 :: lv178 :: lv179 :: lv180 :: lv181 :: lv182 :: lv183 :: lv184 :: lv185 :: lv186 :: lv187 :: lv188 :: lv189 :: lv190 :: lv191 :: lv192 :: lv193 :: lv194 :: lv195 :: lv196 :: lv197 :: lv198 :: lv199 :: lv200 :: lv201 :: lv202 :: lv203 :: lv204 :: lv205 :: lv206 :: lv207 :: lv208 :: lv209 :: lv210 :: lv211 :: lv212 :: lv213 :: lv214 :: lv215 :: lv216 :: lv217 :: lv218 :: lv219 :: lv220 :: lv221 :: lv222 :: lv223 :: lv224 :: lv225 :: lv226 :: lv227 :: lv228 :: lv229 :: lv230 :: lv231 :: lv232 :: lv233 :: lv234 :: lv235 :: lv236 :: lv237 :: lv238 :: lv239 :: lv240 :: lv241 :: []).toArray, []⟩ wc := by
  conv => arg 2; whnf
  have hnl : n ≤ s.length := by
    have := tg_len s 0
    have e : tg s 0 = (L, E) := hT
    rw [e] at this
    simp only at this
    omega
  have hgd : ∀ t ∈ L, good t := tg_good L s 0 E hT
  have hpl : (pln L).length ≤ 2 * s.length := by
    have := pln_len s.length s 0 (Nat.le_refl _)
    have e : tg s 0 = (L, E) := hT
    rw [e] at this
    exact this
  have HN : Hid (L.length = n ∧ toks s = (L, E)) := ⟨hn, hT⟩
  have z2 : (bs cm).size = cm.length := rfl
  obtain ⟨P, hP⟩ : ∃ P, pln L = P := ⟨_, rfl⟩
  have z1 : (bs P).size = P.length := rfl
  obtain ⟨O, hO⟩ : ∃ O, toks (pln L ++ 35 :: (cm ++ 10 :: pln L)) = O := ⟨_, rfl⟩
  obtain ⟨Z, hZ⟩ : ∃ Z, cm.all (fun x => x != 10) = Z := ⟨_, rfl⟩
  have HZ : Hid (Z = true → O.2 = -1 ∧ O.1.length = 2 * n) := fun h => by
    subst h
    have := toks_both hgd cm (fun x hx => by have := List.all_eq_true.1 hZ x hx; simpa using this)
    rw [hO, hn] at this
    exact this
  have HA : Hid ((true && (cm.drop 0).all (fun x => x != 10)) = Z) := by show (true && _) = Z; rw [Bool.true_and]; exact hZ
  rw [hP] at hO hpl ⊢
  have HD : Hid (∀ W : World, Calls Try.prog 7 #[.string ((((bs P ++ ByteArray.mk #[35]) ++ bs cm) ++ ByteArray.mk #[10]) ++ bs P)] W fun e w' => ∃ v, e = .returned (.tuple #[v, .int .i64 O.2]) ∧ OwnT 26 W.heap.size w' v O.1 ∧ Below W.heap.size W w') := fun W => by
    have h := tokens_any (P ++ 35 :: (cm ++ 10 :: P)) W (by simp; omega)
    rw [hO] at h
    have e : (((bs P ++ ByteArray.mk #[35]) ++ bs cm) ++ ByteArray.mk #[10]) ++ bs P = bs (P ++ 35 :: (cm ++ 10 :: P)) := by
      show (((bs P ++ bs [35]) ++ bs cm) ++ bs [10]) ++ bs P = _
      rw [bs_app, bs_app, bs_app, bs_app]; simp
    rw [e]
    exact h
  have hO2 : O.1.length ≤ 2 * P.length + cm.length + 2 := by
    rw [← hO]
    have := tg_len (P ++ 35 :: (cm ++ 10 :: P)) 0
    simp only [List.length_append, List.length_cons] at this
    unfold toks
    omega
  clear hgd hn hT hP hO hZ
  obtain ⟨OL, OE⟩ := O
  simp only at HD HZ hO2
  obtain ⟨ol, hol⟩ : ∃ ol, OL.length = ol := ⟨_, rfl⟩
  rw [hol] at HZ hO2
  refine wp_seq_k fun K hK => ?_
  have HK : Hid _ := hK
  clear hK
  go_wp2_with fail
  refine (HD.out _).mono ?_
  rintro e w1 ⟨v1, rfl, ho1, hb1⟩
  obtain ⟨a1, p1, rfl⟩ := ho1.form
  rw [hol] at ho1 ⊢
  clear hol
  have X1 : Hid (TS w1 (.slice a n c) L ∧ Below w.heap.size w w1) := ⟨X.out.1.later hb1, bstep X.out.2 hb1⟩
  clear X ho1 hb1 HD
  go_wp2_with fail
  refine HK.out _ _ ?_
  clear HK
  refine wp_seq_k fun K hK => ?_
  have HK : Hid _ := hK
  clear hK
  go_wp2_with fail
  refine HK.out _ _ ?_
  clear HK
  refine wp_seq_k fun K hK => ?_
  have HK : Hid _ := hK
  clear hK
  go_wp2_with fail
  go_loop [17, 18] (fun u v => ∃ (k : Nat) (z : Bool), k ≤ cm.length ∧ u = .bool z ∧ v = .int .i64 k ∧ (z && (cm.drop k).all (fun x => x != 10)) = Z) (fun _ v => cm.length - (intOf v).toNat)
  case atStart => exact ⟨0, true, by omega, rfl, rfl, HA.out⟩
  case round =>
    obtain ⟨k, z, hk, rfl, rfl, hr⟩ := hrel
    clear HA
    have HA : Hid ((z && (cm.drop k).all (fun x => x != 10)) = Z) := hr
    clear hr
    by_cases hlt : k < cm.length
    · have k1 : (0 : Int) ≤ (k : Int) := by omega
      have k2 : (k : Int) < (cm.length : Int) := by omega
      cases z
      · have HA2 : Hid ((false && (cm.drop (k + 1)).all (fun x => x != 10)) = Z) := HA.out
        clear HA
        go_wp2_with fail
        go_round
        case rel => exact ⟨k + 1, false, by omega, rfl, by go_num, HA2.out⟩
        case measure => simp [intOf]; omega
      · by_cases h10 : cm[k] = 10
        · have f1 : ((((bs cm)[k]'(show k < (bs cm).size from hlt)).toNat : Int) == 10) = true := at_eq hlt h10
          have f2 : ((((bs cm)[k]'(show k < (bs cm).size from hlt)).toNat : Int) != 10) = false := by rw [bne, f1]; rfl
          have HA2 : Hid ((false && (cm.drop (k + 1)).all (fun x => x != 10)) = Z) := by
            have := HA.out
            rw [drop_lt hlt, h10] at this
            exact this
          clear HA
          go_wp2_with fail
          go_round
          case rel => exact ⟨k + 1, false, by omega, rfl, by go_num, HA2.out⟩
          case measure => simp [intOf]; omega
        · have f1 : ((((bs cm)[k]'(show k < (bs cm).size from hlt)).toNat : Int) == 10) = false := at_ne hlt h10
          have f2 : ((((bs cm)[k]'(show k < (bs cm).size from hlt)).toNat : Int) != 10) = true := by rw [bne, f1]; rfl
          have HA2 : Hid ((true && (cm.drop (k + 1)).all (fun x => x != 10)) = Z) := by
            have := HA.out
            rw [drop_lt hlt, List.all_cons, show (cm[k] != 10) = true by simpa using h10, Bool.true_and] at this
            exact this
          clear HA
          go_wp2_with fail
          go_round
          case rel => exact ⟨k + 1, true, by omega, rfl, by go_num, HA2.out⟩
          case measure => simp [intOf]; omega
    · obtain rfl : k = cm.length := by omega
      have HA2 : Hid (z = Z) := by
        have := HA.out
        rw [List.drop_length] at this
        simpa [Hid] using this
      clear HA
      go_wp2_with fail
      refine HK.out _ _ ?_
      clear HK
      obtain rfl : z = Z := HA2.out
      clear HA2
      cases z
      · clear HZ
        refine wp_seq_k fun K hK => ?_
        have HK : Hid _ := hK
        clear hK
        go_wp2_with fail
        refine HK.out _ _ ?_
        clear HK
        exact q31 X1 HN.out.1 HN.out.2 (by omega)
      · obtain ⟨rfl, rfl⟩ := HZ.out rfl
        clear HZ
        have m1 : (((2 * n : Nat) : Int) != 2 * (n : Int)) = false := by simp
        have m2 : ((2 * (n : Int)) != 2 * (n : Int)) = false := by simp
        refine wp_seq_k fun K hK => ?_
        have HK : Hid _ := hK
        clear hK
        go_wp2_with fail
        refine HK.out _ _ ?_
        clear HK
        exact q31 X1 HN.out.1 HN.out.2 (by omega)
end Go.Proofs.Ytclpbhoopmdojaa
