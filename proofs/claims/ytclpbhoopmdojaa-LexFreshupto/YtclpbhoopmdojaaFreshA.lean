/-
  Lists are new memory: what is told behind the marks.
-/
import Derived.Test.YtclpbhoopmdojaaFour
import Derived.Test.YtclpbhoopmdojaaP22
namespace Go.Proofs.Ytclpbhoopmdojaa
open Go.RowKit

set_option maxRecDepth 100000 in
set_option maxHeartbeats 8000000 in
theorem f33 {lv1 lv2 lv3 lv4 lv7 lv8 lv9 lv10 lv11 lv12 lv13 lv14 lv15 lv16 lv17 lv18 lv19 lv20 lv21 lv22 lv23 lv24 lv25 lv26 lv27 lv28 lv29 lv30 lv31 lv32 lv33 lv34 lv35 lv36 lv37 lv38 lv39 lv40 lv41 lv42 lv43 lv44 lv45 lv46 lv47 lv48 lv49 lv50 lv51 lv52 lv53 lv54 lv55 lv56 lv57 lv58 lv59 lv60 lv61 lv62 lv63 lv64 lv65 lv66 lv67 lv68 lv69 lv70 lv71 lv72 lv73 lv74 lv75 lv76 lv77 lv78 lv79 lv80 lv81 lv82 lv83 lv84 lv85 lv86 lv87 lv88 lv89 lv90 lv91 lv92 lv93 lv94 lv95 lv96 lv97 lv98 lv99 lv100 lv101 lv102 lv103 lv104 lv105 lv106 lv107 lv108 lv109 lv110 lv111 lv112 lv113 lv114 lv115 lv116 lv117 lv118 lv119 lv120 lv121 lv122 lv123 lv124 lv125 lv126 lv127 lv128 lv129 lv130 lv131 lv132 lv133 lv134 lv135 lv136 lv137 lv138 lv139 lv140 lv141 lv142 lv143 lv144 lv145 lv146 lv147 lv148 lv149 lv150 lv151 lv152 lv153 lv154 lv155 lv156 lv157 lv158 lv159 lv160 lv161 lv162 lv163 lv164 lv165 lv166 lv167 lv168 lv169 lv170 lv171 lv172 lv173 lv174 lv175 lv176 lv177 lv178 lv179 lv180 lv181 lv182 lv183 lv184 lv185 lv186 lv187 : Value} {w wc : World} {s : List UInt8} {vw : Value} {L : List Tk} {E : Int} (X : Hid (TS wc vw L ∧ Below w.heap.size w wc)) (hT : toks s = (L, E)) (hs : s.length ≤ 10000000) :
    Code.wp Try.prog (suff 33 (Try.f6.body.getD .skip)) (bodyPost Try.prog Try.f6 (GoodE w)) ⟨(.string (bs s) :: lv1 :: lv2 :: lv3 :: lv4 :: vw :: .int .i64 E :: lv7 :: lv8 :: lv9 :: lv10 :: lv11 :: lv12 :: lv13 :: lv14 :: lv15 :: lv16 :: lv17 :: lv18 :: lv19 :: lv20 :: lv21 :: lv22 :: lv23 :: lv24 :: lv25 :: lv26 :: lv27 :: lv28 :: lv29 :: lv30 :: lv31 :: lv32 :: lv33 :: lv34 :: lv35 :: lv36 :: lv37 :: lv38 :: lv39 :: lv40 :: lv41 :: lv42 :: lv43 :: lv44 :: lv45 :: lv46 :: lv47 :: lv48 :: lv49 :: lv50 :: lv51 :: lv52 :: lv53 :: lv54 :: lv55 :: lv56 :: lv57 :: lv58 :: lv59 :: lv60 :: lv61 :: lv62 :: lv63 :: lv64 :: lv65 :: lv66 :: lv67 :: lv68 :: lv69 :: lv70 :: lv71 :: lv72 :: lv73 :: lv74 :: lv75 :: lv76 :: lv77 :: lv78 :: lv79 :: lv80 :: lv81 :: lv82 :: lv83 :: lv84 :: lv85 :: lv86 :: lv87 :: lv88 :: lv89 :: lv90 :: lv91 :: lv92 :: lv93 :: lv94 :: lv95 :: lv96 :: lv97 :: lv98 :: lv99 :: lv100 :: lv101 :: lv102 :: lv103 :: lv104 :: lv105 :: lv106 :: lv107 :: lv108 :: lv109 :: lv110 :: lv111 :: lv112 :: lv113 :: lv114 :: lv115 :: lv116 :: lv117 :: lv118 :: lv119 :: lv120 :: lv121 :: lv122 :: lv123 :: lv124 :: lv125 :: lv126 :: lv127 :: lv128 :: lv129 :: lv130 :: lv131 :: lv132 :: lv133 :: lv134 :: lv135 :: lv136 :: lv137 :: lv138 :: lv139 :: lv140 :: lv141 :: lv142 :: lv143 :: lv144 :: lv145 :: lv146 :: lv147 :: lv148 :: lv149 :: lv150 :: lv151 :: lv152 :: lv153 :: lv154 :: lv155 :: lv156 :: lv157 :: lv158 :: lv159 :: lv160 :: lv161 :: lv162 :: lv163 :: lv164 :: lv165 :: lv166 :: lv167 :: lv168 :: lv169 :: lv170 :: lv171 :: lv172 :: lv173 :: lv174 :: lv175 :: lv176 :: lv177 :: lv178 :: lv179 :: lv180 :: lv181 :: lv182 :: lv183 :: lv184 :: lv185 :: lv186 :: lv187 :: []).toArray, []⟩ wc := by
  conv => arg 2; whnf
  have HD : Hid (∀ W : World, Calls Try.prog 7 #[.string (bs s)] W fun e w' => ∃ v, e = .returned (.tuple #[v, .int .i64 E]) ∧ OwnT 26 W.heap.size w' v L ∧ Below W.heap.size W w') := fun W => by
    have h := tokens_any s W (by omega)
    rw [hT] at h
    exact h
  have HN : Hid (L.length ≤ 1000000000) := by
    have := tg_len s 0
    have e : tg s 0 = (L, E) := hT
    rw [e] at this
    show _ ≤ _
    simp only at this
    omega
  have q1 : (E == E) = true := by simp
  clear hT
  go_wp2_with fail
  refine (HD.out _).mono ?_
  rintro e w1 ⟨v1, rfl, ho1, hb1⟩
  have X1 : Hid (TS w1 vw L ∧ TS w1 v1 L ∧ Below w.heap.size w w1) := ⟨X.out.1.later hb1, ho1.ts, bstep X.out.2 hb1⟩
  clear X ho1 hb1
  go_wp2_with fail
  refine (alike_any X1.out.2.1 X1.out.1 HN.out).mono ?_
  rintro e w2 ⟨rfl, hb2⟩
  have X2 : Hid (Below w.heap.size w w2) := bstep X1.out.2.2 hb2
  clear hb2
  go_wp2_with fail
  go_ret
  exact ⟨rfl, X2.out⟩

set_option maxRecDepth 100000 in
set_option maxHeartbeats 8000000 in
theorem f25 {lv1 lv2 lv3 lv4 lv7 lv8 lv9 lv10 lv11 lv12 lv13 lv14 lv16 lv17 lv19 lv20 lv21 lv22 lv23 lv24 lv25 lv26 lv27 lv28 lv29 lv30 lv31 lv32 lv33 lv34 lv35 lv36 lv37 lv38 lv39 lv40 lv41 lv42 lv43 lv44 lv45 lv46 lv47 lv48 lv49 lv50 lv51 lv52 lv53 lv54 lv55 lv56 lv57 lv58 lv59 lv60 lv61 lv62 lv63 lv64 lv65 lv66 lv67 lv68 lv69 lv70 lv71 lv72 lv73 lv74 lv75 lv76 lv77 lv78 lv79 lv80 lv81 lv82 lv83 lv84 lv85 lv86 lv87 lv88 lv89 lv90 lv91 lv92 lv93 lv94 lv95 lv96 lv97 lv98 lv99 lv100 lv101 lv102 lv103 lv104 lv105 lv106 lv107 lv108 lv109 lv110 lv111 lv112 lv113 lv114 lv115 lv116 lv117 lv118 lv119 lv120 lv121 lv122 lv123 lv124 lv125 lv126 lv127 lv128 lv129 lv130 lv131 lv132 lv133 lv134 lv135 lv136 lv137 lv138 lv139 lv140 lv141 lv142 lv143 lv144 lv145 lv146 lv147 lv148 lv149 lv150 lv151 lv152 lv153 lv154 lv155 lv156 lv157 lv158 lv159 lv160 lv161 lv162 lv163 lv164 lv165 lv166 lv167 lv168 lv169 lv170 lv171 lv172 lv173 lv174 lv175 lv176 lv177 lv178 lv179 lv180 lv181 lv182 lv183 lv184 lv185 lv186 lv187 : Value} {w w1 wc : World} {s : List UInt8} {vw : Value} {L : List Tk} {E : Int} {B ga gl : Nat} {V U : Nat → Value} {n : Nat → Nat} (P : Hid (P4 B w1 wc ga gl V U n 4)) (R : Hid (TS w1 vw L ∧ (∀ g, vw.ownBlock = some g → g < B) ∧ Below w.heap.size w w1 ∧ w.heap.size ≤ B)) (hN : ∀ i, n i ≤ 100000000) (hT : toks s = (L, E)) (hs : s.length ≤ 10000000) :
    Code.wp Try.prog (suff 25 (Try.f6.body.getD .skip)) (bodyPost Try.prog Try.f6 (GoodE w)) ⟨(.string (bs s) :: lv1 :: lv2 :: lv3 :: lv4 :: vw :: .int .i64 E :: lv7 :: lv8 :: lv9 :: lv10 :: lv11 :: lv12 :: lv13 :: lv14 :: .slice (some ⟨ga, 0, none⟩) 4 4 :: lv16 :: lv17 :: .slice (some ⟨gl, 0, none⟩) 4 4 :: lv19 :: lv20 :: lv21 :: lv22 :: lv23 :: lv24 :: lv25 :: lv26 :: lv27 :: lv28 :: lv29 :: lv30 :: lv31 :: lv32 :: lv33 :: lv34 :: lv35 :: lv36 :: lv37 :: lv38 :: lv39 :: lv40 :: lv41 :: lv42 :: lv43 :: lv44 :: lv45 :: lv46 :: lv47 :: lv48 :: lv49 :: lv50 :: lv51 :: lv52 :: lv53 :: lv54 :: lv55 :: lv56 :: lv57 :: lv58 :: lv59 :: lv60 :: lv61 :: lv62 :: lv63 :: lv64 :: lv65 :: lv66 :: lv67 :: lv68 :: lv69 :: lv70 :: lv71 :: lv72 :: lv73 :: lv74 :: lv75 :: lv76 :: lv77 :: lv78 :: lv79 :: lv80 :: lv81 :: lv82 :: lv83 :: lv84 :: lv85 :: lv86 :: lv87 :: lv88 :: lv89 :: lv90 :: lv91 :: lv92 :: lv93 :: lv94 :: lv95 :: lv96 :: lv97 :: lv98 :: lv99 :: lv100 :: lv101 :: lv102 :: lv103 :: lv104 :: lv105 :: lv106 :: lv107 :: lv108 :: lv109 :: lv110 :: lv111 :: lv112 :: lv113 :: lv114 :: lv115 :: lv116 :: lv117 :: lv118 :: lv119 :: lv120 :: lv121 :: lv122 :: lv123 :: lv124 :: lv125 :: lv126 :: lv127 :: lv128 :: lv129 :: lv130 :: lv131 :: lv132 :: lv133 :: lv134 :: lv135 :: lv136 :: lv137 :: lv138 :: lv139 :: lv140 :: lv141 :: lv142 :: lv143 :: lv144 :: lv145 :: lv146 :: lv147 :: lv148 :: lv149 :: lv150 :: lv151 :: lv152 :: lv153 :: lv154 :: lv155 :: lv156 :: lv157 :: lv158 :: lv159 :: lv160 :: lv161 :: lv162 :: lv163 :: lv164 :: lv165 :: lv166 :: lv167 :: lv168 :: lv169 :: lv170 :: lv171 :: lv172 :: lv173 :: lv174 :: lv175 :: lv176 :: lv177 :: lv178 :: lv179 :: lv180 :: lv181 :: lv182 :: lv183 :: lv184 :: lv185 :: lv186 :: lv187 :: []).toArray, []⟩ wc := by
  conv => arg 2; whnf
  have X : Hid (TS wc vw L ∧ Below w.heap.size w wc) := ⟨R.out.1.below P.out.below R.out.2.1, below_trans R.out.2.2.1 (below_mono P.out.below R.out.2.2.2)⟩
  have HT : Hid (toks s = (L, E) ∧ s.length ≤ 10000000) := ⟨hT, hs⟩
  have HN : Hid (∀ i, n i ≤ 100000000) := hN
  clear hT hs R hN
  refine wp_seq_k fun K hK => ?_
  have HK : Hid _ := hK
  clear hK
  go_wp2_with fail
  go_loop [21] (fun v => ∃ k : Nat, k ≤ 4 ∧ v = .int .i64 k) (fun v => 4 - (intOf v).toNat)
  case atStart => exact ⟨0, by omega, rfl⟩
  case round =>
    obtain ⟨k, hk, rfl⟩ := hrel
    by_cases hlt : k < 4
    · obtain ⟨au, cu, hu, hcu⟩ := (P.out.su k hlt).form
      obtain ⟨av, cv, hv, hcv⟩ := (P.out.ts k hlt).form
      rw [List.length_replicate] at hu hv
      have cl1 := P.out.long hlt
      have ca1 := P.out.quad.cell k hlt
      rw [hu] at cl1
      rw [hv] at ca1
      have hnk := HN.out k
      obtain ⟨m, hm⟩ : ∃ m, n k = m := ⟨_, rfl⟩
      obtain ⟨m2, hm2⟩ : ∃ m2, m + 16 = m2 := ⟨_, rfl⟩
      have HU : Hid (∀ j, j < m2 → ∃ b off, au = some ⟨b, off, none⟩ ∧ b < wc.heap.size ∧ wc.cell? ⟨b, off + j * 3, none⟩ = some (.int .i64 (-1 - (k : Int)))) := fun j hj => by
        obtain ⟨b, off, h1, h2, h3, _⟩ := hcu j (by rw [List.length_replicate]; omega)
        rw [List.getElem_replicate] at h3
        exact ⟨b, off, h1, h2, h3⟩
      have HV : Hid (∀ j, j < m → ∃ b off, av = some ⟨b, off, none⟩ ∧ b < wc.heap.size ∧ wc.cell? ⟨b, off + j * 3, none⟩ = some (.int .i64 (-1 - (k : Int)))) := fun j hj => by
        obtain ⟨b, off, h1, h2, h3, _⟩ := hcv j (by rw [List.length_replicate]; omega)
        rw [List.getElem_replicate] at h3
        exact ⟨b, off, h1, h2, h3⟩
      rw [hm] at ca1 cl1 hnk
      rw [hm2] at cl1
      have hmm : m2 ≤ 100000016 := by omega
      have HMM : Hid (m ≤ m2) := by show m ≤ m2; omega
      clear hu hv hcu hcv hm hm2
      have k1 : (0 : Int) ≤ (k : Int) := by omega
      have k2 : (k : Int) < 4 := by omega
      have q1 : ((-1 - (k : Int)) != (-1 - (k : Int))) = false := by simp
      go_wp2_with fail
      go_loop [22] (fun v => ∃ j : Nat, j ≤ m2 ∧ v = .int .i64 j) (fun v => m2 - (intOf v).toNat)
      case atStart => exact ⟨0, by omega, rfl⟩
      case round =>
        obtain ⟨j, hj, rfl⟩ := hrel
        by_cases hjl : j < m2
        · have j1 : (0 : Int) ≤ (j : Int) := by omega
          have j2 : (j : Int) < (m2 : Int) := by omega
          obtain ⟨b, off, rfl, _, c0⟩ := HU.out j hjl
          by_cases hjm : j < m
          · obtain ⟨b2, off2, rfl, _, d0⟩ := HV.out j hjm
            have j3 : (j : Int) < (m : Int) := by omega
            go_wp2_with fail
            go_round
            case rel => exact ⟨j + 1, by omega, by go_num⟩
            case measure => simp [intOf]; omega
          · have j3 : ¬ ((j : Int) < (m : Int)) := by omega
            have j4 : decide (j < m) = false := decide_eq_false (by omega)
            go_wp2_with fail
            go_round
            case rel => exact ⟨j + 1, by omega, by go_num⟩
            case measure => simp [intOf]; omega
        · obtain rfl : j = m2 := by omega
          go_wp2_with fail
          go_round
          case rel => exact ⟨k + 1, by omega, by go_num⟩
          case measure => simp [intOf]; omega
    · obtain rfl : k = 4 := by omega
      go_wp2_with fail
      refine HK.out _ _ ?_
      clear HK
      exact f33 X HT.out.1 HT.out.2

end Go.Proofs.Ytclpbhoopmdojaa
