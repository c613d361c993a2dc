/-
  'marked'.
-/
import Derived.Test.YtkopjamednedfaaGreatMrkR
import Derived.Test.YtkopjamednedfaaGreatMrkP
import Derived.Deep.DeepCutAuto
namespace Go.Proofs.YtkopjamednedfaaGreat
open Go.RowKit

set_option maxHeartbeats 4000000 in
set_option maxRecDepth 100000 in
theorem p9 {lv1 lv2 lv3 lv4 lv6 lv7 lv8 lv9 lv10 lv11 lv12 lv13 lv14 lv15 lv16 lv17 lv18 lv19 lv20 lv21 lv22 lv23 lv24 lv25 lv26 lv27 lv28 lv29 lv30 lv31 lv32 lv33 lv34 lv35 lv36 lv37 lv38 lv39 lv40 lv41 lv42 lv43 lv44 lv45 lv46 lv47 lv48 lv49 lv50 lv51 lv52 lv53 lv54 lv55 lv56 lv57 lv58 lv59 lv60 lv61 lv62 lv63 lv64 lv65 lv66 lv67 lv68 lv69 lv70 lv71 lv72 lv73 lv74 lv75 lv76 lv77 lv78 lv79 lv80 lv81 lv82 lv83 lv84 lv85 lv86 lv87 lv88 lv89 lv90 lv91 lv92 lv93 lv94 lv95 lv96 lv97 lv98 lv99 lv100 lv101 lv102 lv103 lv104 lv105 lv106 lv107 lv108 lv109 lv110 lv111 lv112 lv113 lv114 lv115 lv116 lv117 lv118 lv119 lv120 lv121 lv122 lv123 lv124 lv125 lv126 lv127 lv128 lv129 lv130 lv131 lv132 lv133 lv134 lv135 lv136 lv137 lv138 lv139 lv140 lv141 lv142 lv143 lv144 lv145 lv146 lv147 lv148 lv149 lv150 lv151 lv152 lv153 : Value} {w wc : World} {B ga gl : Nat} {V U : Nat → Value} {n m : Nat → Nat} {D : Nat → Nat → Prop} (H : Hid (M5 B w wc ga gl V n 0 U m D)) (HN : Hid (∀ i, i < 4 → n i ≤ 100000000)) :
    Code.wp Tryz.prog (suff 9 (Tryz.f16.body.getD .skip)) (bodyPost Tryz.prog Tryz.f16 (GoodM B w)) ⟨(.slice (some ⟨ga, 0, none⟩) 4 4 :: lv1 :: lv2 :: lv3 :: lv4 :: .slice (some ⟨gl, 0, none⟩) 4 4 :: lv6 :: lv7 :: lv8 :: lv9 :: lv10 :: lv11 :: lv12 :: lv13 :: lv14 :: lv15 :: lv16 :: lv17 :: lv18 :: lv19 :: lv20 :: lv21 :: lv22 :: lv23 :: lv24 :: lv25 :: lv26 :: lv27 :: lv28 :: lv29 :: lv30 :: lv31 :: lv32 :: lv33 :: lv34 :: lv35 :: lv36 :: lv37 :: lv38 :: lv39 :: lv40 :: lv41 :: lv42 :: lv43 :: lv44 :: lv45 :: lv46 :: lv47 :: lv48 :: lv49 :: lv50 :: lv51 :: lv52 :: lv53 :: lv54 :: lv55 :: lv56 :: lv57 :: lv58 :: lv59 :: lv60 :: lv61 :: lv62 :: lv63 :: lv64 :: lv65 :: lv66 :: lv67 :: lv68 :: lv69 :: lv70 :: lv71 :: lv72 :: lv73 :: lv74 :: lv75 :: lv76 :: lv77 :: lv78 :: lv79 :: lv80 :: lv81 :: lv82 :: lv83 :: lv84 :: lv85 :: lv86 :: lv87 :: lv88 :: lv89 :: lv90 :: lv91 :: lv92 :: lv93 :: lv94 :: lv95 :: lv96 :: lv97 :: lv98 :: lv99 :: lv100 :: lv101 :: lv102 :: lv103 :: lv104 :: lv105 :: lv106 :: lv107 :: lv108 :: lv109 :: lv110 :: lv111 :: lv112 :: lv113 :: lv114 :: lv115 :: lv116 :: lv117 :: lv118 :: lv119 :: lv120 :: lv121 :: lv122 :: lv123 :: lv124 :: lv125 :: lv126 :: lv127 :: lv128 :: lv129 :: lv130 :: lv131 :: lv132 :: lv133 :: lv134 :: lv135 :: lv136 :: lv137 :: lv138 :: lv139 :: lv140 :: lv141 :: lv142 :: lv143 :: lv144 :: lv145 :: lv146 :: lv147 :: lv148 :: lv149 :: lv150 :: lv151 :: lv152 :: lv153 :: []).toArray, []⟩ wc := by
  conv => arg 2; whnf
  refine wp_seq_k fun K hK => ?_
  have HK : Hid _ := hK
  clear hK
  go_wp2_with fail
  go_loopw [6] (fun i wr => ∃ k : Nat, k ≤ 4 ∧ i = .int .i64 k ∧ ∃ U m D, M5 B w wr ga gl V n k U m D ∧ ∀ i, i < k → m i = n i + 16) (fun i _ => 4 - (intOf i).toNat)
  case atStart => exact ⟨0, by omega, rfl, U, m, D, H.out, fun i hi => by omega⟩
  case round =>
    obtain ⟨k, hk, rfl, U, m, D, hM, hm⟩ := hrel
    obtain ⟨wo, hwo⟩ : ∃ wo, wo = wr := ⟨_, rfl⟩
    subst hwo
    have MW : Hid (M5 B w wo ga gl V n k U m D) := hM
    have HM : Hid (∀ i, i < k → m i = n i + 16) := hm
    by_cases hlt : k < 4
    · have hln := HN.out k hlt
      have c3 := hM.q.cell k hlt
      have hg3 := hM.q.galt
      have o3 := hM.q.own k hlt
      obtain ⟨nk, hnk⟩ : ∃ x, n k = x := ⟨_, rfl⟩
      rw [hnk] at o3 hln
      obtain ⟨a2, q2, e2⟩ := o3.len
      rw [List.length_replicate] at e2
      have HNK : Hid (n k = nk) := hnk
      have HV : Hid (V k = .slice a2 nk q2) := e2
      rw [e2] at c3
      have hglo := hM.gllt.2
      obtain ⟨⟨v9, cs⟩, cf⟩ := hM.slot k hlt
      have M1 := hM.start hlt
      rw [e2, hnk] at M1
      have HM1 : Hid (M5 B w (wo.setCell ⟨gl, k, none⟩ (.slice a2 nk q2)) ga gl V n (k + 1) (fun i => if i = k then .slice a2 nk q2 else U i) (fun i => if i = k then nk else m i) D) := M1
      clear hM hm hnk e2 o3 M1
      go_wp2_with fail
      clear c3 hg3 cs cf hglo
      go_loopw [7] (fun i wr => ∃ j : Nat, j ≤ 16 ∧ i = .int .i64 j ∧ ∃ U m D, M5 B w wr ga gl V n (k + 1) U m D ∧ (∀ i, i < k → m i = n i + 16) ∧ m k = nk + j) (fun i _ => 16 - (intOf i).toNat)
      case atStart => exact ⟨0, by omega, rfl, _, _, _, HM1.out, fun i hi => by rw [if_neg (by omega)]; exact HM.out i hi, by rw [if_pos rfl]; rfl⟩
      case round =>
        obtain ⟨j, hj, rfl, U2, m2, D2, hM2, hm2, hmk⟩ := hrel
        have MJ : Hid (M5 B w wr ga gl V n (k + 1) U2 m2 D2) := hM2
        have HM2 : Hid (∀ i, i < k → m2 i = n i + 16) := hm2
        have HMK : Hid (m2 k = nk + j) := hmk
        have hcv := hM2.cell k (by omega)
        have hglr := hM2.gllt.2
        have hcf := (hM2.slot k hlt).2
        have hbs := hM2.q.base
        have o4 := hM2.own k (by omega)
        rw [hmk] at o4
        obtain ⟨a4, q4, e4⟩ := o4.len
        rw [List.length_replicate] at e4
        have HU : Hid (U2 k = .slice a4 (nk + j) q4) := e4
        rw [e4] at hcv o4
        have HO4 : Hid (Own B wr (.slice a4 (nk + j) q4) (List.replicate (nk + j) (mkS k))) := o4
        have HNE : Hid (gl ∉ bl (.slice a4 (nk + j) q4)) := fun e => hM2.dgl k gl (hM2.ud k (by omega) gl (by rw [e4]; exact mem_bl.1 e)) rfl
        have HCV : Hid (wr.cell? ⟨gl, k, none⟩ = some (.slice a4 (nk + j) q4)) := hcv
        clear hM2 hm2 hmk e4 o4 hcv
        by_cases hltj : j < 16
        · go_wp2_with fail
          refine r16 (base := B) hlt (by omega) hglr HCV.out hcf HO4 hbs HNE _ ?_
          intro s56 s57 s58 s59 s60 s61 s62 s63 s64 s65 s66 A C wa w2 hb6 ho9 hO9 hw9 hk9
          have M6 := MJ.out.later hb6
          have M7 := M6.grow (j := k) (v := .slice a4 (nk + j) q4) (fun g hg => MJ.out.ud k (by omega) g (by rw [HU.out]; exact hg)) hO9 hk9
          have M8 := M7.lay (wa := wa) hlt ho9 (by rw [HU.out]; exact hw9) (fun i g hd => (M6.q.dlt i g hd).2.1) ⟨M6.q.galt, M6.gllt.2⟩
          have I1 : Hid (∃ U m D, M5 B w (w2.setCell ⟨gl, k, none⟩ (.slice A (nk + j + 1) C)) ga gl V n (k + 1) U m D ∧ (∀ i, i < k → m i = n i + 16) ∧ m k = nk + (j + 1)) := ⟨_, _, _, M8, fun i hi => by rw [if_neg (by omega)]; exact HM2.out i hi, by rw [if_pos rfl]; omega⟩
          clear ho9 hb6 hO9 hw9 hk9 M6 M7 M8
          go_wp2_with fail
          go_roundw
          case rel => exact ⟨j + 1, by omega, by go_num, I1.out⟩
          case measure => simp [intOf]; omega
        · obtain rfl : j = 16 := by omega
          have I1 : Hid (∃ U m D, M5 B w wr ga gl V n (k + 1) U m D ∧ ∀ i, i < k + 1 → m i = n i + 16) := ⟨U2, m2, D2, MJ.out, fun i hi => by
            by_cases e : i = k
            · subst e; rw [HMK.out, HNK.out]
            · exact HM2.out i (by omega)⟩
          go_wp2_with fail
          go_roundw
          case rel => exact ⟨k + 1, by omega, by go_num, I1.out⟩
          case measure => simp [intOf]; omega
    · obtain rfl : k = 4 := by omega
      go_wp2_with fail
      refine HK.out _ _ ?_
      exact p17 MW HM HN

set_option maxHeartbeats 4000000 in
set_option maxRecDepth 100000 in
theorem p8 {lv1 lv2 lv3 lv4 lv5 lv6 lv7 lv8 lv9 lv10 lv11 lv12 lv13 lv14 lv15 lv16 lv17 lv18 lv19 lv20 lv21 lv22 lv23 lv24 lv25 lv26 lv27 lv28 lv29 lv30 lv31 lv32 lv33 lv34 lv35 lv36 lv37 lv38 lv39 lv40 lv41 lv42 lv43 lv44 lv45 lv46 lv47 lv48 lv49 lv50 lv51 lv52 lv53 lv54 lv55 lv56 lv57 lv58 lv59 lv60 lv61 lv62 lv63 lv64 lv65 lv66 lv67 lv68 lv69 lv70 lv71 lv72 lv73 lv74 lv75 lv76 lv77 lv78 lv79 lv80 lv81 lv82 lv83 lv84 lv85 lv86 lv87 lv88 lv89 lv90 lv91 lv92 lv93 lv94 lv95 lv96 lv97 lv98 lv99 lv100 lv101 lv102 lv103 lv104 lv105 lv106 lv107 lv108 lv109 lv110 lv111 lv112 lv113 lv114 lv115 lv116 lv117 lv118 lv119 lv120 lv121 lv122 lv123 lv124 lv125 lv126 lv127 lv128 lv129 lv130 lv131 lv132 lv133 lv134 lv135 lv136 lv137 lv138 lv139 lv140 lv141 lv142 lv143 lv144 lv145 lv146 lv147 lv148 lv149 lv150 lv151 lv152 lv153 : Value} {w wc : World} {B ga : Nat} {V : Nat → Value} {n : Nat → Nat} {D : Nat → Nat → Prop} (H : Hid (Q5 B w wc ga V (fun i => List.replicate (n i) (mkS i)) D)) (HN : Hid (∀ i, i < 4 → n i ≤ 100000000))
    (K : Act → World → Prop) (hK : ∀ a' w', Code.wp Tryz.prog (tl1 (suff 8 (Tryz.f16.body.getD .skip))) (bodyPost Tryz.prog Tryz.f16 (GoodM B w)) a' w' → K a' w') :
    Code.wp Tryz.prog (hd1 (suff 8 (Tryz.f16.body.getD .skip))) (Exit.then K (bodyPost Tryz.prog Tryz.f16 (GoodM B w))) ⟨(.slice (some ⟨ga, 0, none⟩) 4 4 :: lv1 :: lv2 :: lv3 :: lv4 :: lv5 :: lv6 :: lv7 :: lv8 :: lv9 :: lv10 :: lv11 :: lv12 :: lv13 :: lv14 :: lv15 :: lv16 :: lv17 :: lv18 :: lv19 :: lv20 :: lv21 :: lv22 :: lv23 :: lv24 :: lv25 :: lv26 :: lv27 :: lv28 :: lv29 :: lv30 :: lv31 :: lv32 :: lv33 :: lv34 :: lv35 :: lv36 :: lv37 :: lv38 :: lv39 :: lv40 :: lv41 :: lv42 :: lv43 :: lv44 :: lv45 :: lv46 :: lv47 :: lv48 :: lv49 :: lv50 :: lv51 :: lv52 :: lv53 :: lv54 :: lv55 :: lv56 :: lv57 :: lv58 :: lv59 :: lv60 :: lv61 :: lv62 :: lv63 :: lv64 :: lv65 :: lv66 :: lv67 :: lv68 :: lv69 :: lv70 :: lv71 :: lv72 :: lv73 :: lv74 :: lv75 :: lv76 :: lv77 :: lv78 :: lv79 :: lv80 :: lv81 :: lv82 :: lv83 :: lv84 :: lv85 :: lv86 :: lv87 :: lv88 :: lv89 :: lv90 :: lv91 :: lv92 :: lv93 :: lv94 :: lv95 :: lv96 :: lv97 :: lv98 :: lv99 :: lv100 :: lv101 :: lv102 :: lv103 :: lv104 :: lv105 :: lv106 :: lv107 :: lv108 :: lv109 :: lv110 :: lv111 :: lv112 :: lv113 :: lv114 :: lv115 :: lv116 :: lv117 :: lv118 :: lv119 :: lv120 :: lv121 :: lv122 :: lv123 :: lv124 :: lv125 :: lv126 :: lv127 :: lv128 :: lv129 :: lv130 :: lv131 :: lv132 :: lv133 :: lv134 :: lv135 :: lv136 :: lv137 :: lv138 :: lv139 :: lv140 :: lv141 :: lv142 :: lv143 :: lv144 :: lv145 :: lv146 :: lv147 :: lv148 :: lv149 :: lv150 :: lv151 :: lv152 :: lv153 :: []).toArray, []⟩ wc := by
  conv => arg 2; whnf
  have HK : Hid _ := hK
  clear hK
  have hmk : ∀ u : World, (Instr.makeSlice 39 (.int .i64 4) (.int .i64 4)).run Tryz.prog u = .ok (.slice (some ⟨u.heap.size, 0, none⟩) 4 4) (u.alloc (.cells #[.slice none 0 0, .slice none 0 0, .slice none 0 0, .slice none 0 0] 22)) := fun _ => by kernel_rfl
  go_wp2_with fail
  refine HK.out _ _ ?_
  have hB := balloc wc (.cells #[.slice none 0 0, .slice none 0 0, .slice none 0 0, .slice none 0 0] 22)
  refine p9 (U := fun _ => .slice none 0 0) (m := fun _ => 0) (D := D) (n := n) (V := V) (B := B) ⟨H.out.later hB, fun i hi => ?_, ⟨H.out.base, by simp⟩, by have := H.out.galt; omega, fun i g hd => by have := H.out.dlt i g hd; omega, fun i hi => by omega, fun i hi => by omega, fun i hi => by omega⟩ HN
  have : i = 0 ∨ i = 1 ∨ i = 2 ∨ i = 3 := by omega
  rcases this with rfl | rfl | rfl | rfl <;> exact ⟨⟨_, by simp; rfl⟩, by simp⟩

set_option maxHeartbeats 4000000 in
set_option maxRecDepth 100000 in
theorem marked_any {B : Nat} {w : World} {ga : Nat} {V : Nat → Value} {L : Nat → List (List UInt8)} {D : Nat → Nat → Prop} (H : Hid (Q5 B w w ga V L D)) (HN : Hid (∀ i, i < 4 → (L i).length ≤ 100000000)) :
    Calls Tryz.prog 16 #[.slice (some ⟨ga, 0, none⟩) 4 4] w (GoodM B w) := by
  go_enter Tryz.func16, Tryz.ntmps16
  go_wp2_with fail
  go_loopw [3] (fun i wr => ∃ k : Nat, k ≤ 4 ∧ i = .int .i64 k ∧ ∃ Lk, Q5 B w wr ga V Lk D ∧ (∀ i, i < 4 → (Lk i).length = (L i).length) ∧ ∀ i, i < k → Lk i = List.replicate (L i).length (mkS i)) (fun i _ => 4 - (intOf i).toNat)
  case atStart => exact ⟨0, by omega, rfl, L, H.out, fun _ _ => rfl, fun i hi => by omega⟩
  case round =>
    obtain ⟨k, hk, rfl, Lk, hQ, hl, hd⟩ := hrel
    obtain ⟨wo, hwo⟩ : ∃ wo, wo = wr := ⟨_, rfl⟩
    subst hwo
    have QW : Hid (Q5 B w wo ga V Lk D) := hQ
    have HL : Hid (∀ i, i < 4 → (Lk i).length = (L i).length) := hl
    have HD : Hid (∀ i, i < k → Lk i = List.replicate (L i).length (mkS i)) := hd
    clear hQ hl hd
    by_cases hlt : k < 4
    · have hln := HN.out k hlt
      obtain ⟨nk, hnk⟩ : ∃ x, (L k).length = x := ⟨_, rfl⟩
      rw [hnk] at hln
      have HNK : Hid ((L k).length = nk) := hnk
      clear hnk
      go_wp2_with fail
      go_loopw [4] (fun i wr => ∃ m : Nat, m ≤ nk ∧ i = .int .i64 m ∧ ∃ Lk, Q5 B w wr ga V Lk D ∧ (∀ i, i < 4 → (Lk i).length = (L i).length) ∧ (∀ i, i < k → Lk i = List.replicate (L i).length (mkS i)) ∧ ∀ j, j < m → (Lk k)[j]? = some (mkS k)) (fun i _ => nk - (intOf i).toNat)
      case atStart => exact ⟨0, by omega, rfl, Lk, QW.out, HL.out, HD.out, fun j hj => by omega⟩
      case round =>
        obtain ⟨m, hm, rfl, L2, hQ, hl, hd, hj⟩ := hrel
        have Q1 : Hid (Q5 B w wr ga V L2 D) := hQ
        have HL2 : Hid (∀ i, i < 4 → (L2 i).length = (L i).length) := hl
        have HD2 : Hid (∀ i, i < k → L2 i = List.replicate (L i).length (mkS i)) := hd
        have HJ2 : Hid (∀ j, j < m → (L2 k)[j]? = some (mkS k)) := hj
        have c3 := hQ.cell k hlt
        have hg3 := hQ.galt
        have o3 := hQ.own k hlt
        have hlk := hl k hlt
        rw [HNK.out] at hlk
        clear hQ hl hd hj
        by_cases hlt2 : m < nk
        · rcases own_formS o3 with ⟨_, e0⟩ | ⟨g2, q2, e2, _, _, hg4⟩
          · rw [e0] at hlk; simp at hlk; omega
          rw [hlk] at e2
          have HV : Hid (V k = .slice (some ⟨g2, 0, none⟩) nk q2) := e2
          rw [e2] at c3 o3
          obtain ⟨ct, cf, _, _⟩ := own_cellS o3 m (by omega)
          clear o3 e2
          go_wp2_with fail
          refine r7 hlt hlt2 hg3 hg4 c3 ct cf _ ?_
          intro s28 s29 s30 s31 s32 s33 s34 s35 w2 hb8
          have Q8 := (Q1.out.later hb8).put hlt HV.out m (mkS k)
          have I1 : Hid (∃ Lk, Q5 B w (w2.setCell ⟨g2, m, none⟩ (.string (bs (mkS k)))) ga V Lk D ∧ (∀ i, i < 4 → (Lk i).length = (L i).length) ∧ (∀ i, i < k → Lk i = List.replicate (L i).length (mkS i)) ∧ ∀ j, j < m + 1 → (Lk k)[j]? = some (mkS k)) := by
            refine ⟨_, Q8, fun i hi => ?_, fun i hi => ?_, fun j hj => ?_⟩
            · by_cases e : i = k
              · subst e; rw [if_pos rfl, List.length_set]; exact HL2.out i hi
              · rw [if_neg e]; exact HL2.out i hi
            · rw [if_neg (by omega)]; exact HD2.out i hi
            · rw [if_pos rfl, List.getElem?_set]
              by_cases e : m = j
              · rw [if_pos e, if_pos (by omega)]
              · rw [if_neg e]; exact HJ2.out j (by omega)
          clear Q8 hb8 ct cf c3
          go_wp2_with fail
          go_roundw
          case rel => exact ⟨m + 1, by omega, by go_num, I1.out⟩
          case measure => simp [intOf]; omega
        · obtain rfl : m = nk := by omega
          obtain ⟨a2, q2, e2⟩ := o3.len
          rw [hlk] at e2
          rw [e2] at c3
          have I1 : Hid (∃ Lk, Q5 B w wr ga V Lk D ∧ (∀ i, i < 4 → (Lk i).length = (L i).length) ∧ ∀ i, i < k + 1 → Lk i = List.replicate (L i).length (mkS i)) := ⟨L2, Q1.out, HL2.out, fun i hi => by
            by_cases e : i = k
            · subst e; rw [HNK.out]; exact list_rep hlk HJ2.out
            · exact HD2.out i (by omega)⟩
          clear o3 e2
          go_wp2_with fail
          go_roundw
          case rel => exact ⟨k + 1, by omega, by go_num, I1.out⟩
          case measure => simp [intOf]; omega
    · obtain rfl : k = 4 := by omega
      have Q9 : Hid (Q5 B w wo ga V (fun i => List.replicate (L i).length (mkS i)) D) := QW.out.congr HD.out
      go_upto_region 8 with fail
      exact p8 Q9 HN _ (by assumption)
end Go.Proofs.YtkopjamednedfaaGreat
