/-
  Lists are new memory: the marks.
-/
import Derived.Test.YtclpbhoopmdojaaFreshB
namespace Go.Proofs.Ytclpbhoopmdojaa
open Go.RowKit

set_option maxRecDepth 100000 in
set_option maxHeartbeats 8000000 in
theorem f9 {lv1 lv2 lv3 lv4 lv7 lv8 lv9 lv10 lv11 lv12 lv13 lv14 lv16 lv17 lv18 lv19 lv20 lv21 lv22 lv23 lv24 lv25 lv26 lv27 lv28 lv29 lv30 lv31 lv32 lv33 lv34 lv35 lv36 lv37 lv38 lv39 lv40 lv41 lv42 lv43 lv44 lv45 lv46 lv47 lv48 lv49 lv50 lv51 lv52 lv53 lv54 lv55 lv56 lv57 lv58 lv59 lv60 lv61 lv62 lv63 lv64 lv65 lv66 lv67 lv68 lv69 lv70 lv71 lv72 lv73 lv74 lv75 lv76 lv77 lv78 lv79 lv80 lv81 lv82 lv83 lv84 lv85 lv86 lv87 lv88 lv89 lv90 lv91 lv92 lv93 lv94 lv95 lv96 lv97 lv98 lv99 lv100 lv101 lv102 lv103 lv104 lv105 lv106 lv107 lv108 lv109 lv110 lv111 lv112 lv113 lv114 lv115 lv116 lv117 lv118 lv119 lv120 lv121 lv122 lv123 lv124 lv125 lv126 lv127 lv128 lv129 lv130 lv131 lv132 lv133 lv134 lv135 lv136 lv137 lv138 lv139 lv140 lv141 lv142 lv143 lv144 lv145 lv146 lv147 lv148 lv149 lv150 lv151 lv152 lv153 lv154 lv155 lv156 lv157 lv158 lv159 lv160 lv161 lv162 lv163 lv164 lv165 lv166 lv167 lv168 lv169 lv170 lv171 lv172 lv173 lv174 lv175 lv176 lv177 lv178 lv179 lv180 lv181 lv182 lv183 lv184 lv185 lv186 lv187 : Value} {w w1 wc : World} {s : List UInt8} {vw : Value} {L : List Tk} {E : Int} {B ga : Nat} {V : Nat → Value} {n : Nat → Nat} {C : Nat → List Tk} (M : Hid (M4 B w1 wc ga V C)) (hC : ∀ i, i < 4 → (C i).length = n i) (R : Hid (TS w1 vw L ∧ (∀ g, vw.ownBlock = some g → g < B) ∧ Below w.heap.size w w1 ∧ w.heap.size ≤ B)) (hN : ∀ i, n i ≤ 100000000) (hT : toks s = (L, E)) (hs : s.length ≤ 10000000) :
    Code.wp Try.prog (suff 9 (Try.f6.body.getD .skip)) (bodyPost Try.prog Try.f6 (GoodE w)) ⟨(.string (bs s) :: lv1 :: lv2 :: lv3 :: lv4 :: vw :: .int .i64 E :: lv7 :: lv8 :: lv9 :: lv10 :: lv11 :: lv12 :: lv13 :: lv14 :: .slice (some ⟨ga, 0, none⟩) 4 4 :: lv16 :: lv17 :: lv18 :: lv19 :: lv20 :: lv21 :: lv22 :: lv23 :: lv24 :: lv25 :: lv26 :: lv27 :: lv28 :: lv29 :: lv30 :: lv31 :: lv32 :: lv33 :: lv34 :: lv35 :: lv36 :: lv37 :: lv38 :: lv39 :: lv40 :: lv41 :: lv42 :: lv43 :: lv44 :: lv45 :: lv46 :: lv47 :: lv48 :: lv49 :: lv50 :: lv51 :: lv52 :: lv53 :: lv54 :: lv55 :: lv56 :: lv57 :: lv58 :: lv59 :: lv60 :: lv61 :: lv62 :: lv63 :: lv64 :: lv65 :: lv66 :: lv67 :: lv68 :: lv69 :: lv70 :: lv71 :: lv72 :: lv73 :: lv74 :: lv75 :: lv76 :: lv77 :: lv78 :: lv79 :: lv80 :: lv81 :: lv82 :: lv83 :: lv84 :: lv85 :: lv86 :: lv87 :: lv88 :: lv89 :: lv90 :: lv91 :: lv92 :: lv93 :: lv94 :: lv95 :: lv96 :: lv97 :: lv98 :: lv99 :: lv100 :: lv101 :: lv102 :: lv103 :: lv104 :: lv105 :: lv106 :: lv107 :: lv108 :: lv109 :: lv110 :: lv111 :: lv112 :: lv113 :: lv114 :: lv115 :: lv116 :: lv117 :: lv118 :: lv119 :: lv120 :: lv121 :: lv122 :: lv123 :: lv124 :: lv125 :: lv126 :: lv127 :: lv128 :: lv129 :: lv130 :: lv131 :: lv132 :: lv133 :: lv134 :: lv135 :: lv136 :: lv137 :: lv138 :: lv139 :: lv140 :: lv141 :: lv142 :: lv143 :: lv144 :: lv145 :: lv146 :: lv147 :: lv148 :: lv149 :: lv150 :: lv151 :: lv152 :: lv153 :: lv154 :: lv155 :: lv156 :: lv157 :: lv158 :: lv159 :: lv160 :: lv161 :: lv162 :: lv163 :: lv164 :: lv165 :: lv166 :: lv167 :: lv168 :: lv169 :: lv170 :: lv171 :: lv172 :: lv173 :: lv174 :: lv175 :: lv176 :: lv177 :: lv178 :: lv179 :: lv180 :: lv181 :: lv182 :: lv183 :: lv184 :: lv185 :: lv186 :: lv187 :: []).toArray, []⟩ wc := by
  conv => arg 2; whnf
  have HT : Hid (toks s = (L, E) ∧ s.length ≤ 10000000) := ⟨hT, hs⟩
  have HN : Hid (∀ i, n i ≤ 100000000) := hN
  have HC : Hid (∀ i, i < 4 → (C i).length = n i) := hC
  clear hT hs hN hC
  refine wp_seq_k fun K hK => ?_
  have HK : Hid _ := hK
  clear hK
  go_wp2_with fail
  go_loopw [16] (fun v wr => ∃ (k : Nat) (C : Nat → List Tk), k ≤ 4 ∧ v = .int .i64 k ∧ (∀ i, i < 4 → (C i).length = n i) ∧ (∀ i, i < k → C i = List.replicate (n i) (mkT i)) ∧ M4 B w1 wr ga V C) (fun v _ => 4 - (intOf v).toNat)
  case atStart => exact ⟨0, C, by omega, rfl, HC.out, fun i hi => by omega, M.out⟩
  case round =>
    clear M HC
    rename World => wo
    obtain ⟨k, C, hk, rfl, hc, hd, hm⟩ := hrel
    have M : Hid ((∀ i, i < 4 → (C i).length = n i) ∧ (∀ i, i < k → C i = List.replicate (n i) (mkT i)) ∧ M4 B w1 wo ga V C) := ⟨hc, hd, hm⟩
    clear hc hd hm
    by_cases hlt : k < 4
    · have hnk := HN.out k
      have k1 : (0 : Int) ≤ (k : Int) := by omega
      have k2 : (k : Int) < 4 := by omega
      obtain ⟨m, hm⟩ : ∃ m, n k = m := ⟨_, rfl⟩
      obtain ⟨av, cv, hv⟩ := (M.out.2.2.own k hlt).form
      rw [M.out.1 k hlt, hm] at hv
      rw [hm] at hnk
      have HV : Hid (V k = .slice av m cv ∧ n k = m) := ⟨hv, hm⟩
      clear hv hm
      go_wp2_with fail
      go_loopw [17] (fun v wr => ∃ (j : Nat) (C : Nat → List Tk), j ≤ m ∧ v = .int .i64 j ∧ (∀ i, i < 4 → (C i).length = n i) ∧ (∀ i, i < k → C i = List.replicate (n i) (mkT i)) ∧ (∀ x, x < j → (C k)[x]? = some (mkT k)) ∧ M4 B w1 wr ga V C) (fun v _ => m - (intOf v).toNat)
      case atStart => exact ⟨0, C, by omega, rfl, M.out.1, M.out.2.1, fun x hx => by omega, M.out.2.2⟩
      case round =>
        clear M
        obtain ⟨j, C, hj, rfl, hc, hd, he, hm⟩ := hrel
        have M : Hid ((∀ i, i < 4 → (C i).length = n i) ∧ (∀ i, i < k → C i = List.replicate (n i) (mkT i)) ∧ (∀ x, x < j → (C k)[x]? = some (mkT k)) ∧ M4 B w1 wr ga V C) := ⟨hc, hd, he, hm⟩
        clear hc hd he hm
        have ca1 := M.out.2.2.2.quad.cell k hlt
        rw [HV.out.1] at ca1
        by_cases hjl : j < m
        · have j1 : (0 : Int) ≤ (j : Int) := by omega
          have j2 : (j : Int) < (m : Int) := by omega
          rcases (M.out.2.2.2.own k hlt).form' with ⟨e0, e1⟩ | ⟨g, c2, e0, _, _, _⟩
          · exfalso
            have h1 := M.out.1 k hlt
            rw [e1, HV.out.2] at h1
            simp at h1
            omega
          rw [HV.out.1] at e0
          injection e0 with e1 e2 e3
          subst e1
          clear e2 e3
          obtain ⟨⟨x0, x1, x2⟩, ⟨y0, y1, y2⟩, _, hgl⟩ := own_cellT (by rw [← HV.out.1]; exact M.out.2.2.2.own k hlt) j (by rw [M.out.1 k hlt, HV.out.2]; exact hjl)
          have M2 : Hid ((∀ i, i < 4 → ((fun i => if i = k then (C k).set j (mkT k) else C i) i).length = n i) ∧ (∀ i, i < k → (fun i => if i = k then (C k).set j (mkT k) else C i) i = List.replicate (n i) (mkT i)) ∧ (∀ x, x < j + 1 → ((fun i => if i = k then (C k).set j (mkT k) else C i) k)[x]? = some (mkT k)) ∧ M4 B w1 (((wr.setCell ⟨g, j * 3, none⟩ (.int .i64 (-1 - (k : Int)))).setCell ⟨g, j * 3 + 1, none⟩ (.string ⟨#[]⟩)).setCell ⟨g, j * 3 + 2, none⟩ (.int .i64 0)) ga V (fun i => if i = k then (C k).set j (mkT k) else C i)) := by
            refine ⟨fun i hi => ?_, fun i hi => ?_, fun x hx => ?_, M.out.2.2.2.set hlt HV.out.1 j (mkT k)⟩
            · by_cases hik : i = k
              · subst hik; simp only [if_true, List.length_set]; exact M.out.1 i hi
              · simp only [hik, if_false]; exact M.out.1 i hi
            · have hik : i ≠ k := by omega
              simp only [hik, if_false]; exact M.out.2.1 i hi
            · simp only [if_true]
              rw [List.getElem?_set]
              by_cases hxj : j = x
              · subst hxj
                rw [if_pos rfl, if_pos (by rw [M.out.1 k hlt, HV.out.2]; exact hjl)]
              · rw [if_neg hxj]
                exact M.out.2.2.1 x (by omega)
          go_wp2_with fail
          go_roundw
          case rel => exact ⟨j + 1, _, by omega, by go_num, M2.out.1, M2.out.2.1, M2.out.2.2.1, M2.out.2.2.2⟩
          case measure => simp [intOf]; omega
        · obtain rfl : j = m := by omega
          have M2 : Hid ((∀ i, i < 4 → (C i).length = n i) ∧ (∀ i, i < k + 1 → C i = List.replicate (n i) (mkT i)) ∧ M4 B w1 wr ga V C) := by
            refine ⟨M.out.1, fun i hi => ?_, M.out.2.2.2⟩
            by_cases hik : i = k
            · subst hik
              refine List.eq_replicate_iff.2 ⟨M.out.1 i hlt, fun b hb => ?_⟩
              obtain ⟨x, hx, rfl⟩ := List.getElem_of_mem hb
              have h1 := M.out.2.2.1 x (by rw [M.out.1 i hlt, HV.out.2] at hx; exact hx)
              rw [List.getElem?_eq_getElem hx] at h1
              injection h1
            · exact M.out.2.1 i (by omega)
          go_wp2_with fail
          go_roundw
          case rel => exact ⟨k + 1, C, by omega, by go_num, M2.out.1, M2.out.2.1, M2.out.2.2⟩
          case measure => simp [intOf]; omega
    · obtain rfl : k = 4 := by omega
      have M2 : Hid (M4 B w1 wo ga V (fun i => List.replicate (n i) (mkT i))) := ⟨M.out.2.2.quad, M.out.2.2.below, M.out.2.2.B0, fun i hi => by rw [← M.out.2.1 i hi]; exact M.out.2.2.own i hi⟩
      go_wp2_with fail
      refine HK.out _ _ ?_
      clear HK
      exact f16 M2 R HN.out HT.out.1 HT.out.2
end Go.Proofs.Ytclpbhoopmdojaa
