/-
  'marked': the labels' lists grow
  Regions of 'marked' and of 'spoiled' that draw.
  'marked': the texts' lists grow
-/
import Derived.Test.YtemoplpfndnklaaGreatDoorJMrwC
import Derived.Test.YtemoplpfndnklaaGreatDoorJMstB
namespace Go.Proofs.YtemoplpfndnklaaGreatDoor
open Go.RowKit

set_option maxHeartbeats 4000000 in
set_option maxRecDepth 100000 in
theorem m25 {lv2 lv3 lv4 lv5 lv6 lv7 lv8 lv11 lv12 lv13 lv14 lv15 lv16 lv17 lv18 lv19 lv20 lv21 lv22 lv23 lv24 lv25 lv26 lv27 lv28 lv29 lv30 lv31 lv32 lv33 lv34 lv35 lv36 lv37 lv38 lv39 lv40 lv41 lv42 lv43 lv44 lv45 lv46 lv47 lv48 lv49 lv50 lv51 lv52 lv53 lv54 lv55 lv56 lv57 lv58 lv59 lv60 lv61 lv62 lv63 lv64 lv65 lv66 lv67 lv68 lv69 lv70 lv71 lv72 lv73 lv74 lv75 lv76 lv77 lv78 lv79 lv80 lv81 lv82 lv83 lv84 lv85 lv86 lv87 lv88 lv89 lv90 lv91 lv92 lv93 lv94 lv95 lv96 lv97 lv98 lv99 lv100 lv101 lv102 lv103 lv104 lv105 lv106 lv107 lv108 lv109 lv110 lv111 lv112 lv113 lv114 lv115 lv116 lv117 lv118 lv119 lv120 lv121 lv122 lv123 lv124 lv125 lv126 lv127 lv128 lv129 lv130 lv131 lv132 lv133 lv134 lv135 lv136 lv137 lv138 lv139 lv140 lv141 lv142 lv143 lv144 lv145 lv146 lv147 lv148 lv149 lv150 lv151 lv152 lv153 lv154 lv155 lv156 lv157 lv158 lv159 lv160 lv161 lv162 lv163 lv164 lv165 lv166 lv167 lv168 lv169 lv170 lv171 lv172 lv173 lv174 lv175 lv176 lv177 lv178 lv179 lv180 lv181 lv182 lv183 lv184 lv185 lv186 lv187 lv188 lv189 lv190 lv191 lv192 lv193 lv194 lv195 lv196 lv197 lv198 lv199 lv200 lv201 lv202 lv203 lv204 lv205 lv206 lv207 lv208 lv209 lv210 lv211 lv212 lv213 lv214 lv215 lv216 lv217 lv218 lv219 lv220 lv221 lv222 : Value} {w wc : World} {B N M ga ca gb cb gl gw : Nat} {F : Nat → Knd} {G X : Nat → Nat} {V : Nat → Value} {n : Nat → Nat} {D0 D : Nat → Nat → Prop} {U : Nat → Value} {m : Nat → Nat} (SS : Hid (Stg kS w (N + M) 0 N ga F V n D0)) (SL : Hid (Stg kL w (N + M) N M gb F V n D0)) (HGS : Hid (∀ k, k < N → G (0 + k) = gl ∧ X (0 + k) = k)) (HGL : Hid (∀ k, k < M → G (N + k) = gw ∧ X (N + k) = k)) (H : Hid (MN B w wc (N + M) F G X V n N U m D0 D)) (HM0 : Hid (∀ i, i < N → m i = n i + 16)) :
    Code.wp Tryz.prog (suff 25 (Tryz.f15.body.getD .skip)) (bodyPost Tryz.prog Tryz.f15 (GoodM B w D0)) ⟨(.slice (some ⟨ga, 0, none⟩) N ca :: .slice (some ⟨gb, 0, none⟩) M cb :: lv2 :: lv3 :: lv4 :: lv5 :: lv6 :: lv7 :: lv8 :: .slice (some ⟨gl, 0, none⟩) N N :: .slice (some ⟨gw, 0, none⟩) M M :: lv11 :: lv12 :: lv13 :: lv14 :: lv15 :: lv16 :: lv17 :: lv18 :: lv19 :: lv20 :: lv21 :: lv22 :: lv23 :: lv24 :: lv25 :: lv26 :: lv27 :: lv28 :: lv29 :: lv30 :: lv31 :: lv32 :: lv33 :: lv34 :: lv35 :: lv36 :: lv37 :: lv38 :: lv39 :: lv40 :: lv41 :: lv42 :: lv43 :: lv44 :: lv45 :: lv46 :: lv47 :: lv48 :: lv49 :: lv50 :: lv51 :: lv52 :: lv53 :: lv54 :: lv55 :: lv56 :: lv57 :: lv58 :: lv59 :: lv60 :: lv61 :: lv62 :: lv63 :: lv64 :: lv65 :: lv66 :: lv67 :: lv68 :: lv69 :: lv70 :: lv71 :: lv72 :: lv73 :: lv74 :: lv75 :: lv76 :: lv77 :: lv78 :: lv79 :: lv80 :: lv81 :: lv82 :: lv83 :: lv84 :: lv85 :: lv86 :: lv87 :: lv88 :: lv89 :: lv90 :: lv91 :: lv92 :: lv93 :: lv94 :: lv95 :: lv96 :: lv97 :: lv98 :: lv99 :: lv100 :: lv101 :: lv102 :: lv103 :: lv104 :: lv105 :: lv106 :: lv107 :: lv108 :: lv109 :: lv110 :: lv111 :: lv112 :: lv113 :: lv114 :: lv115 :: lv116 :: lv117 :: lv118 :: lv119 :: lv120 :: lv121 :: lv122 :: lv123 :: lv124 :: lv125 :: lv126 :: lv127 :: lv128 :: lv129 :: lv130 :: lv131 :: lv132 :: lv133 :: lv134 :: lv135 :: lv136 :: lv137 :: lv138 :: lv139 :: lv140 :: lv141 :: lv142 :: lv143 :: lv144 :: lv145 :: lv146 :: lv147 :: lv148 :: lv149 :: lv150 :: lv151 :: lv152 :: lv153 :: lv154 :: lv155 :: lv156 :: lv157 :: lv158 :: lv159 :: lv160 :: lv161 :: lv162 :: lv163 :: lv164 :: lv165 :: lv166 :: lv167 :: lv168 :: lv169 :: lv170 :: lv171 :: lv172 :: lv173 :: lv174 :: lv175 :: lv176 :: lv177 :: lv178 :: lv179 :: lv180 :: lv181 :: lv182 :: lv183 :: lv184 :: lv185 :: lv186 :: lv187 :: lv188 :: lv189 :: lv190 :: lv191 :: lv192 :: lv193 :: lv194 :: lv195 :: lv196 :: lv197 :: lv198 :: lv199 :: lv200 :: lv201 :: lv202 :: lv203 :: lv204 :: lv205 :: lv206 :: lv207 :: lv208 :: lv209 :: lv210 :: lv211 :: lv212 :: lv213 :: lv214 :: lv215 :: lv216 :: lv217 :: lv218 :: lv219 :: lv220 :: lv221 :: lv222 :: []).toArray, []⟩ wc := by
  conv => arg 2; whnf
  refine wp_seq_k fun K hK => ?_
  have HK : Hid _ := hK
  clear hK
  have L1 := SL.out.L1
  have hOL : N + M ≤ (N + M) := SL.out.hO
  go_wp2_with fail
  go_loopw [13] (fun i wr => ∃ k : Nat, k ≤ M ∧ i = .int .i64 k ∧ ∃ U m D, MN B w wr (N + M) F G X V n (N + k) U m D0 D ∧ ∀ i, i < N + k → m i = n i + 16) (fun i _ => M - (intOf i).toNat)
  case atStart => exact ⟨0, by omega, rfl, U, m, D, H.out, HM0.out⟩
  case round =>
    clear H HM0
    obtain ⟨k, hk, rfl, U, m, D, hM, hm⟩ := hrel
    obtain ⟨wo, hwo⟩ : ∃ wo, wo = wr := ⟨_, rfl⟩
    subst hwo
    have MW : Hid (MN B w wo (N + M) F G X V n (N + k) U m D0 D) := hM
    have HM : Hid (∀ i, i < N + k → m i = n i + 16) := hm
    by_cases hlt : k < M
    · have hk6 : k < 600 := by omega
      have hOk : N + k < (N + M) := by omega
      have hgx := HGL.out k hlt
      have hln := SL.out.nn (N + k)
      have c3 := hM.q.cell (SL.out.cells k hlt) SL.out.nt
      have hg3 : gb < wo.heap.size := Nat.lt_of_lt_of_le (World.block_lt_of_cell? w ⟨gb, k, none⟩ (SL.out.cells k hlt)) hM.q.size
      have o3 := hM.q.own (N + k) hOk
      obtain ⟨nk, hnk⟩ : ∃ x, n (N + k) = x := ⟨_, rfl⟩
      rw [hnk] at o3 hln
      obtain ⟨a2, q2, e2⟩ := row_form o3
      have HNK : Hid (n (N + k) = nk) := hnk
      rw [e2] at c3
      have hglo := (hM.gllt (N + k) hOk).2
      obtain ⟨⟨v9, cs⟩, cf⟩ := hM.slot (N + k) hOk
      rw [hgx.1] at hglo
      rw [hgx.1, hgx.2] at cs cf
      have M1 := hM.start hOk
      rw [e2, hnk, hgx.1, hgx.2] at M1
      have HM1 : Hid (MN B w (wo.setCell ⟨gw, k, none⟩ (.slice a2 nk q2)) (N + M) F G X V n (N + k + 1) (fun i => if i = N + k then .slice a2 nk q2 else U i) (fun i => if i = N + k then nk else m i) D0 D) := M1
      clear hM hm hnk e2 o3 M1 hgx
      have i0 : (0 : Int) ≤ (k : Int) := by omega
      have i1 : (k : Int) < (M : Int) := by omega
      go_wp2_with fail
      clear c3 hg3 cs cf hglo
      go_loopw [14] (fun i wr => ∃ j : Nat, j ≤ 16 ∧ i = .int .i64 j ∧ ∃ U m D, MN B w wr (N + M) F G X V n (N + k + 1) U m D0 D ∧ (∀ i, i < N + k → m i = n i + 16) ∧ m (N + k) = nk + j) (fun i _ => 16 - (intOf i).toNat)
      case atStart => exact ⟨0, by omega, rfl, _, _, _, HM1.out, fun i hi => by rw [if_neg (by omega)]; exact HM.out i hi, by rw [if_pos rfl]; rfl⟩
      case round =>
        obtain ⟨j, hj, rfl, U2, m2, D2, hM2, hm2, hmk⟩ := hrel
        have MJ : Hid (MN B w wr (N + M) F G X V n (N + k + 1) U2 m2 D0 D2) := hM2
        have HM2 : Hid (∀ i, i < N + k → m2 i = n i + 16) := hm2
        have HMK : Hid (m2 (N + k) = nk + j) := hmk
        have hgx := HGL.out k hlt
        have hcv := hM2.cell (N + k) (by omega)
        have hglr := (hM2.gllt (N + k) hOk).2
        have hcf := (hM2.slot (N + k) hOk).2
        rw [hgx.1] at hglr
        rw [hgx.1, hgx.2] at hcv hcf
        have hbs : B ≤ wr.heap.size := Nat.le_trans hM2.q.base hM2.q.size
        have o4 := hM2.own (N + k) (by omega)
        rw [hmk, SL.out.fk k hlt] at o4
        obtain ⟨a4, q4, e4⟩ := row_form o4
        have HU : Hid (U2 (N + k) = .slice a4 (nk + j) q4) := e4
        rw [e4] at hcv o4
        have HO4 : Hid (wr.ownsRow B (kL k).e (kL k).sz (.slice a4 (nk + j) q4) (nk + j) (rep (nk + j) (kL k).c)) := o4
        have HNE : Hid (gw ∉ bl (.slice a4 (nk + j) q4)) := fun e => hM2.dgl (N + k) gw (hM2.ud (N + k) (by omega) gw (by rw [e4]; exact mem_bl.1 e)) (N + k) hOk hgx.1.symm
        have HCV : Hid (wr.cell? ⟨gw, k, none⟩ = some (.slice a4 (nk + j) q4)) := hcv
        clear hM2 hm2 hmk e4 o4 hcv hgx
        by_cases hltj : j < 16
        · go_wp2_with fail
          refine r32L (base := B) hk6 hlt (by omega) hglr HCV.out hcf HO4 hbs HNE _ ?_
          intro s117 s118 s119 s120 s121 s122 s123 s124 s125 s126 s127 s128 A C wa w2 hb6 ho9 hO9 hw9 hk9
          have M6 := MJ.out.later hb6
          have M7 := M6.grow (j := N + k) (v := .slice a4 (nk + j) q4) (fun g hg => MJ.out.ud (N + k) (by omega) g (by rw [HU.out]; exact hg)) hO9 (by rw [SL.out.fk k hlt]; exact hk9)
          have M8 := M7.lay (wa := wa) (x := nk + j + 1) (by rw [SL.out.fk k hlt]; exact ho9) (by rw [HU.out]; exact hw9) (fun i g hd => (M6.q.dlt i g hd).2) (fun i hi => (M6.gllt i hi).2) (Nat.le_trans MJ.out.q.size hb6.size)
          rw [(HGL.out k hlt).1, (HGL.out k hlt).2] at M8
          have I1 : Hid (∃ U m D, MN B w (w2.setCell ⟨gw, k, none⟩ (.slice A (nk + j + 1) C)) (N + M) F G X V n (N + k + 1) U m D0 D ∧ (∀ i, i < N + k → m i = n i + 16) ∧ m (N + k) = nk + (j + 1)) := ⟨_, _, _, M8, fun i hi => by rw [if_neg (by omega)]; exact HM2.out i hi, by rw [if_pos rfl]; omega⟩
          clear ho9 hb6 hO9 hw9 hk9 M6 M7 M8
          go_wp2_with fail
          go_roundw
          case rel => exact ⟨j + 1, by omega, by go_num, I1.out⟩
          case measure => simp [intOf]; omega
        · obtain rfl : j = 16 := by omega
          have I1 : Hid (∃ U m D, MN B w wr (N + M) F G X V n (N + (k + 1)) U m D0 D ∧ ∀ i, i < N + (k + 1) → m i = n i + 16) := ⟨U2, m2, D2, MJ.out, fun i hi => by
            by_cases e : i = N + k
            · subst e; rw [HMK.out, HNK.out]
            · exact HM2.out i (by omega)⟩
          go_wp2_with fail
          go_roundw
          case rel => exact ⟨k + 1, by omega, by go_num, I1.out⟩
          case measure => simp [intOf]; omega
    · obtain rfl : M = k := by omega
      go_wp2_with fail
      refine HK.out _ _ ?_
      have H2 : MN B w wo (N + M) F G X V n (N + M) U m D0 D := MW.out
      have HM3 := HM.out
      exact m33 SS SL HGS HGL H2 HM3

end Go.Proofs.YtemoplpfndnklaaGreatDoor

namespace Go.Proofs.YtemoplpfndnklaaGreatDoor
open Go.RowKit

set_option maxHeartbeats 4000000 in
set_option maxRecDepth 100000 in
theorem r24S {lv0 lv1 lv2 lv3 lv4 lv5 lv6 lv7 lv8 lv10 lv12 lv13 lv14 lv15 lv16 lv17 lv18 lv19 lv20 lv21 lv22 lv23 lv24 lv25 lv26 lv27 lv28 lv29 lv30 lv31 lv32 lv33 lv34 lv35 lv36 lv37 lv38 lv39 lv40 lv41 lv42 lv43 lv44 lv45 lv46 lv47 lv48 lv49 lv50 lv51 lv52 lv53 lv54 lv55 lv56 lv57 lv58 lv59 lv60 lv61 lv62 lv63 lv64 lv65 lv66 lv67 lv68 lv69 lv70 lv71 lv72 lv73 lv74 lv75 lv76 lv77 lv78 lv79 lv80 lv81 lv82 lv83 lv84 lv85 lv86 lv87 lv88 lv89 lv90 lv91 lv92 lv93 lv94 lv95 lv96 lv97 lv98 lv99 lv100 lv101 lv102 lv103 lv104 lv105 lv106 lv107 lv108 lv109 lv110 lv111 lv112 lv113 lv114 lv115 lv116 lv117 lv118 lv119 lv120 lv121 lv122 lv123 lv124 lv125 lv126 lv127 lv128 lv129 lv130 lv131 lv132 lv133 lv134 lv135 lv136 lv137 lv138 lv139 lv140 lv141 lv142 lv143 lv144 lv145 lv146 lv147 lv148 lv149 lv150 lv151 lv152 lv153 lv154 lv155 lv156 lv157 lv158 lv159 lv160 lv161 lv162 lv163 lv164 lv165 lv166 lv167 lv168 lv169 lv170 lv171 lv172 lv173 lv174 lv175 lv176 lv177 lv178 lv179 lv180 lv181 lv182 lv183 lv184 lv185 lv186 lv187 lv188 lv189 lv190 lv191 lv192 lv193 lv194 lv195 lv196 lv197 lv198 lv199 lv200 lv201 lv202 lv203 lv204 lv205 lv206 lv207 lv208 lv209 lv210 lv211 lv212 lv213 lv214 lv215 lv216 lv217 lv218 lv219 lv220 lv221 lv222 : Value} {wr : World} {gl N k n c base : Nat} {a : Option Addr} (hk6 : k < 600) (hlt : k < N) (hln : n ≤ 1000100) (hglr : gl < wr.heap.size) (hcv : wr.cell? ⟨gl, k, none⟩ = some (.slice a n c)) (hcf : wr.frozen? ⟨gl, k, none⟩ = false)
    (HOW : Hid (wr.ownsRow base (kS k).e (kS k).sz (.slice a n c) n (rep n (kS k).c))) (hbase : base ≤ wr.heap.size) (HNE : Hid (gl ∉ bl (.slice a n c))) (Q : Exit → Act → World → Prop)
    (hQ : ∀ (s89 s90 s91 s92 s93 s94 s95 s96 s97 s98 s99 : Value) (A : Option Addr) (C : Nat) (wa w2 : World), Below wr.heap.size wr wa → w2.ownsRow base (kS k).e (kS k).sz (.slice A (n + 1) C) (n + 1) (rep (n + 1) (kS k).c) → Only (bl (.slice a n c)) wa w2 → ((Value.slice A (n + 1) C).ownBlock = (Value.slice a n c).ownBlock ∨ ∃ b, (Value.slice A (n + 1) C).ownBlock = some b ∧ wa.heap.size ≤ b) →
      (∀ u m, wa.ownsRow base (kS k).e (kS k).sz u m (rep m (kS k).c) → w2.ownsRow base (kS k).e (kS k).sz u m (rep m (kS k).c)) → Q .normal ⟨(lv0 :: lv1 :: lv2 :: lv3 :: lv4 :: lv5 :: lv6 :: lv7 :: lv8 :: .slice (some ⟨gl, 0, none⟩) N N :: lv10 :: .int .i64 ((k : Nat) : Int) :: lv12 :: lv13 :: lv14 :: lv15 :: lv16 :: lv17 :: lv18 :: lv19 :: lv20 :: lv21 :: lv22 :: lv23 :: lv24 :: lv25 :: lv26 :: lv27 :: lv28 :: lv29 :: lv30 :: lv31 :: lv32 :: lv33 :: lv34 :: lv35 :: lv36 :: lv37 :: lv38 :: lv39 :: lv40 :: lv41 :: lv42 :: lv43 :: lv44 :: lv45 :: lv46 :: lv47 :: lv48 :: lv49 :: lv50 :: lv51 :: lv52 :: lv53 :: lv54 :: lv55 :: lv56 :: lv57 :: lv58 :: lv59 :: lv60 :: lv61 :: lv62 :: lv63 :: lv64 :: lv65 :: lv66 :: lv67 :: lv68 :: lv69 :: lv70 :: lv71 :: lv72 :: lv73 :: lv74 :: lv75 :: lv76 :: lv77 :: lv78 :: lv79 :: lv80 :: lv81 :: lv82 :: lv83 :: lv84 :: lv85 :: lv86 :: lv87 :: lv88 :: s89 :: s90 :: s91 :: s92 :: s93 :: s94 :: s95 :: s96 :: s97 :: s98 :: s99 :: lv100 :: lv101 :: lv102 :: lv103 :: lv104 :: lv105 :: lv106 :: lv107 :: lv108 :: lv109 :: lv110 :: lv111 :: lv112 :: lv113 :: lv114 :: lv115 :: lv116 :: lv117 :: lv118 :: lv119 :: lv120 :: lv121 :: lv122 :: lv123 :: lv124 :: lv125 :: lv126 :: lv127 :: lv128 :: lv129 :: lv130 :: lv131 :: lv132 :: lv133 :: lv134 :: lv135 :: lv136 :: lv137 :: lv138 :: lv139 :: lv140 :: lv141 :: lv142 :: lv143 :: lv144 :: lv145 :: lv146 :: lv147 :: lv148 :: lv149 :: lv150 :: lv151 :: lv152 :: lv153 :: lv154 :: lv155 :: lv156 :: lv157 :: lv158 :: lv159 :: lv160 :: lv161 :: lv162 :: lv163 :: lv164 :: lv165 :: lv166 :: lv167 :: lv168 :: lv169 :: lv170 :: lv171 :: lv172 :: lv173 :: lv174 :: lv175 :: lv176 :: lv177 :: lv178 :: lv179 :: lv180 :: lv181 :: lv182 :: lv183 :: lv184 :: lv185 :: lv186 :: lv187 :: lv188 :: lv189 :: lv190 :: lv191 :: lv192 :: lv193 :: lv194 :: lv195 :: lv196 :: lv197 :: lv198 :: lv199 :: lv200 :: lv201 :: lv202 :: lv203 :: lv204 :: lv205 :: lv206 :: lv207 :: lv208 :: lv209 :: lv210 :: lv211 :: lv212 :: lv213 :: lv214 :: lv215 :: lv216 :: lv217 :: lv218 :: lv219 :: lv220 :: lv221 :: lv222 :: []).toArray, []⟩ (w2.setCell ⟨gl, k, none⟩ (.slice A (n + 1) C))) :
    Code.wp Tryz.prog ((findReg 24 (Tryz.f15.body.getD .skip)).getD .skip) Q ⟨(lv0 :: lv1 :: lv2 :: lv3 :: lv4 :: lv5 :: lv6 :: lv7 :: lv8 :: .slice (some ⟨gl, 0, none⟩) N N :: lv10 :: .int .i64 ((k : Nat) : Int) :: lv12 :: lv13 :: lv14 :: lv15 :: lv16 :: lv17 :: lv18 :: lv19 :: lv20 :: lv21 :: lv22 :: lv23 :: lv24 :: lv25 :: lv26 :: lv27 :: lv28 :: lv29 :: lv30 :: lv31 :: lv32 :: lv33 :: lv34 :: lv35 :: lv36 :: lv37 :: lv38 :: lv39 :: lv40 :: lv41 :: lv42 :: lv43 :: lv44 :: lv45 :: lv46 :: lv47 :: lv48 :: lv49 :: lv50 :: lv51 :: lv52 :: lv53 :: lv54 :: lv55 :: lv56 :: lv57 :: lv58 :: lv59 :: lv60 :: lv61 :: lv62 :: lv63 :: lv64 :: lv65 :: lv66 :: lv67 :: lv68 :: lv69 :: lv70 :: lv71 :: lv72 :: lv73 :: lv74 :: lv75 :: lv76 :: lv77 :: lv78 :: lv79 :: lv80 :: lv81 :: lv82 :: lv83 :: lv84 :: lv85 :: lv86 :: lv87 :: lv88 :: lv89 :: lv90 :: lv91 :: lv92 :: lv93 :: lv94 :: lv95 :: lv96 :: lv97 :: lv98 :: lv99 :: lv100 :: lv101 :: lv102 :: lv103 :: lv104 :: lv105 :: lv106 :: lv107 :: lv108 :: lv109 :: lv110 :: lv111 :: lv112 :: lv113 :: lv114 :: lv115 :: lv116 :: lv117 :: lv118 :: lv119 :: lv120 :: lv121 :: lv122 :: lv123 :: lv124 :: lv125 :: lv126 :: lv127 :: lv128 :: lv129 :: lv130 :: lv131 :: lv132 :: lv133 :: lv134 :: lv135 :: lv136 :: lv137 :: lv138 :: lv139 :: lv140 :: lv141 :: lv142 :: lv143 :: lv144 :: lv145 :: lv146 :: lv147 :: lv148 :: lv149 :: lv150 :: lv151 :: lv152 :: lv153 :: lv154 :: lv155 :: lv156 :: lv157 :: lv158 :: lv159 :: lv160 :: lv161 :: lv162 :: lv163 :: lv164 :: lv165 :: lv166 :: lv167 :: lv168 :: lv169 :: lv170 :: lv171 :: lv172 :: lv173 :: lv174 :: lv175 :: lv176 :: lv177 :: lv178 :: lv179 :: lv180 :: lv181 :: lv182 :: lv183 :: lv184 :: lv185 :: lv186 :: lv187 :: lv188 :: lv189 :: lv190 :: lv191 :: lv192 :: lv193 :: lv194 :: lv195 :: lv196 :: lv197 :: lv198 :: lv199 :: lv200 :: lv201 :: lv202 :: lv203 :: lv204 :: lv205 :: lv206 :: lv207 :: lv208 :: lv209 :: lv210 :: lv211 :: lv212 :: lv213 :: lv214 :: lv215 :: lv216 :: lv217 :: lv218 :: lv219 :: lv220 :: lv221 :: lv222 :: []).toArray, []⟩ wr := by
  conv => arg 2; whnf
  have HQ : Hid _ := hQ
  clear hQ
  have i0 : (0 : Int) ≤ (k : Int) := by omega
  have i1 : (k : Int) < (N : Int) := by omega
  refine wp_region_noPanic ?_
  go_region_law (first | (refine step_mark rfl (.tmp 95) rfl k hk6 rfl ?_; intro w' hb9; have hb8 : Below wr.heap.size wr w' := bstep (Below.refl _ _).drew hb9; have hc8 : w'.cell? ⟨gl, k, none⟩ = some (.slice a n c) := (by rw [hb8.cell (p := ⟨gl, k, none⟩) hglr]; exact hcv); have hg8 : gl < w'.heap.size := Nat.lt_of_lt_of_le hglr hb8.size) | (refine step_append_k (kS_ok k) rfl (.tmp 94) (.tmp 97) rfl base n (.slice a n c) _ rfl rfl (row_later HOW.out (bstep hb8 (balloc _ _))) (src_of (kS_ok k) _ (kS_one k)) (by omega) (by have := (bstep hb8 (balloc w' (.cells #[.string (bs (mkS k))] 9))).size; omega) ?_; intro A C w2 ho9 hO9 hw9 hk9; have hb6 : Below wr.heap.size wr (w'.alloc (.cells #[.string (bs (mkS k))] 9)) := (bstep hb8 (balloc _ _)); have hg6 : gl < (w'.alloc (.cells #[.string (bs (mkS k))] 9)).heap.size := Nat.lt_of_lt_of_le hglr hb6.size; have hc7 : w2.cell? ⟨gl, k, none⟩ = some (.slice a n c) := (by rw [World.cell?_of_block (w := (w'.alloc (.cells #[.string (bs (mkS k))] 9))) (hO9.block gl hg6 HNE.out), hb6.cell (p := ⟨gl, k, none⟩) hglr]; exact hcv); have hf7 : w2.frozen? ⟨gl, k, none⟩ = false := (by rw [World.frozen?_of_block (w := (w'.alloc (.cells #[.string (bs (mkS k))] 9))) (hO9.block gl hg6 HNE.out), World.frozen?_of_block (w := wr) (hb6.block gl hglr)]; exact hcf)))
  all_goals exact NoPanic.normal (HQ.out _ _ _ _ _ _ _ _ _ _ _ A C _ w2 hb6 ho9 hO9 hw9 hk9)

end Go.Proofs.YtemoplpfndnklaaGreatDoor

namespace Go.Proofs.YtemoplpfndnklaaGreatDoor
open Go.RowKit

set_option maxHeartbeats 4000000 in
set_option maxRecDepth 100000 in
theorem m17 {lv2 lv3 lv4 lv5 lv6 lv7 lv8 lv11 lv12 lv13 lv14 lv15 lv16 lv17 lv18 lv19 lv20 lv21 lv22 lv23 lv24 lv25 lv26 lv27 lv28 lv29 lv30 lv31 lv32 lv33 lv34 lv35 lv36 lv37 lv38 lv39 lv40 lv41 lv42 lv43 lv44 lv45 lv46 lv47 lv48 lv49 lv50 lv51 lv52 lv53 lv54 lv55 lv56 lv57 lv58 lv59 lv60 lv61 lv62 lv63 lv64 lv65 lv66 lv67 lv68 lv69 lv70 lv71 lv72 lv73 lv74 lv75 lv76 lv77 lv78 lv79 lv80 lv81 lv82 lv83 lv84 lv85 lv86 lv87 lv88 lv89 lv90 lv91 lv92 lv93 lv94 lv95 lv96 lv97 lv98 lv99 lv100 lv101 lv102 lv103 lv104 lv105 lv106 lv107 lv108 lv109 lv110 lv111 lv112 lv113 lv114 lv115 lv116 lv117 lv118 lv119 lv120 lv121 lv122 lv123 lv124 lv125 lv126 lv127 lv128 lv129 lv130 lv131 lv132 lv133 lv134 lv135 lv136 lv137 lv138 lv139 lv140 lv141 lv142 lv143 lv144 lv145 lv146 lv147 lv148 lv149 lv150 lv151 lv152 lv153 lv154 lv155 lv156 lv157 lv158 lv159 lv160 lv161 lv162 lv163 lv164 lv165 lv166 lv167 lv168 lv169 lv170 lv171 lv172 lv173 lv174 lv175 lv176 lv177 lv178 lv179 lv180 lv181 lv182 lv183 lv184 lv185 lv186 lv187 lv188 lv189 lv190 lv191 lv192 lv193 lv194 lv195 lv196 lv197 lv198 lv199 lv200 lv201 lv202 lv203 lv204 lv205 lv206 lv207 lv208 lv209 lv210 lv211 lv212 lv213 lv214 lv215 lv216 lv217 lv218 lv219 lv220 lv221 lv222 : Value} {w wc : World} {B N M ga ca gb cb gl gw : Nat} {F : Nat → Knd} {G X : Nat → Nat} {V : Nat → Value} {n : Nat → Nat} {D0 D : Nat → Nat → Prop} {U : Nat → Value} {m : Nat → Nat} (SS : Hid (Stg kS w (N + M) 0 N ga F V n D0)) (SL : Hid (Stg kL w (N + M) N M gb F V n D0)) (HGS : Hid (∀ k, k < N → G (0 + k) = gl ∧ X (0 + k) = k)) (HGL : Hid (∀ k, k < M → G (N + k) = gw ∧ X (N + k) = k)) (H : Hid (MN B w wc (N + M) F G X V n 0 U m D0 D)) (HM0 : Hid (∀ i, i < 0 → m i = n i + 16)) :
    Code.wp Tryz.prog (suff 17 (Tryz.f15.body.getD .skip)) (bodyPost Tryz.prog Tryz.f15 (GoodM B w D0)) ⟨(.slice (some ⟨ga, 0, none⟩) N ca :: .slice (some ⟨gb, 0, none⟩) M cb :: lv2 :: lv3 :: lv4 :: lv5 :: lv6 :: lv7 :: lv8 :: .slice (some ⟨gl, 0, none⟩) N N :: .slice (some ⟨gw, 0, none⟩) M M :: lv11 :: lv12 :: lv13 :: lv14 :: lv15 :: lv16 :: lv17 :: lv18 :: lv19 :: lv20 :: lv21 :: lv22 :: lv23 :: lv24 :: lv25 :: lv26 :: lv27 :: lv28 :: lv29 :: lv30 :: lv31 :: lv32 :: lv33 :: lv34 :: lv35 :: lv36 :: lv37 :: lv38 :: lv39 :: lv40 :: lv41 :: lv42 :: lv43 :: lv44 :: lv45 :: lv46 :: lv47 :: lv48 :: lv49 :: lv50 :: lv51 :: lv52 :: lv53 :: lv54 :: lv55 :: lv56 :: lv57 :: lv58 :: lv59 :: lv60 :: lv61 :: lv62 :: lv63 :: lv64 :: lv65 :: lv66 :: lv67 :: lv68 :: lv69 :: lv70 :: lv71 :: lv72 :: lv73 :: lv74 :: lv75 :: lv76 :: lv77 :: lv78 :: lv79 :: lv80 :: lv81 :: lv82 :: lv83 :: lv84 :: lv85 :: lv86 :: lv87 :: lv88 :: lv89 :: lv90 :: lv91 :: lv92 :: lv93 :: lv94 :: lv95 :: lv96 :: lv97 :: lv98 :: lv99 :: lv100 :: lv101 :: lv102 :: lv103 :: lv104 :: lv105 :: lv106 :: lv107 :: lv108 :: lv109 :: lv110 :: lv111 :: lv112 :: lv113 :: lv114 :: lv115 :: lv116 :: lv117 :: lv118 :: lv119 :: lv120 :: lv121 :: lv122 :: lv123 :: lv124 :: lv125 :: lv126 :: lv127 :: lv128 :: lv129 :: lv130 :: lv131 :: lv132 :: lv133 :: lv134 :: lv135 :: lv136 :: lv137 :: lv138 :: lv139 :: lv140 :: lv141 :: lv142 :: lv143 :: lv144 :: lv145 :: lv146 :: lv147 :: lv148 :: lv149 :: lv150 :: lv151 :: lv152 :: lv153 :: lv154 :: lv155 :: lv156 :: lv157 :: lv158 :: lv159 :: lv160 :: lv161 :: lv162 :: lv163 :: lv164 :: lv165 :: lv166 :: lv167 :: lv168 :: lv169 :: lv170 :: lv171 :: lv172 :: lv173 :: lv174 :: lv175 :: lv176 :: lv177 :: lv178 :: lv179 :: lv180 :: lv181 :: lv182 :: lv183 :: lv184 :: lv185 :: lv186 :: lv187 :: lv188 :: lv189 :: lv190 :: lv191 :: lv192 :: lv193 :: lv194 :: lv195 :: lv196 :: lv197 :: lv198 :: lv199 :: lv200 :: lv201 :: lv202 :: lv203 :: lv204 :: lv205 :: lv206 :: lv207 :: lv208 :: lv209 :: lv210 :: lv211 :: lv212 :: lv213 :: lv214 :: lv215 :: lv216 :: lv217 :: lv218 :: lv219 :: lv220 :: lv221 :: lv222 :: []).toArray, []⟩ wc := by
  conv => arg 2; whnf
  refine wp_seq_k fun K hK => ?_
  have HK : Hid _ := hK
  clear hK
  have L1 := SS.out.L1
  have hOL : 0 + N ≤ (N + M) := SS.out.hO
  go_wp2_with fail
  go_loopw [11] (fun i wr => ∃ k : Nat, k ≤ N ∧ i = .int .i64 k ∧ ∃ U m D, MN B w wr (N + M) F G X V n (0 + k) U m D0 D ∧ ∀ i, i < 0 + k → m i = n i + 16) (fun i _ => N - (intOf i).toNat)
  case atStart => exact ⟨0, by omega, rfl, U, m, D, H.out, HM0.out⟩
  case round =>
    clear H HM0
    obtain ⟨k, hk, rfl, U, m, D, hM, hm⟩ := hrel
    obtain ⟨wo, hwo⟩ : ∃ wo, wo = wr := ⟨_, rfl⟩
    subst hwo
    have MW : Hid (MN B w wo (N + M) F G X V n (0 + k) U m D0 D) := hM
    have HM : Hid (∀ i, i < 0 + k → m i = n i + 16) := hm
    by_cases hlt : k < N
    · have hk6 : k < 600 := by omega
      have hOk : 0 + k < (N + M) := by omega
      have hgx := HGS.out k hlt
      have hln := SS.out.nn (0 + k)
      have c3 := hM.q.cell (SS.out.cells k hlt) SS.out.nt
      have hg3 : ga < wo.heap.size := Nat.lt_of_lt_of_le (World.block_lt_of_cell? w ⟨ga, k, none⟩ (SS.out.cells k hlt)) hM.q.size
      have o3 := hM.q.own (0 + k) hOk
      obtain ⟨nk, hnk⟩ : ∃ x, n (0 + k) = x := ⟨_, rfl⟩
      rw [hnk] at o3 hln
      obtain ⟨a2, q2, e2⟩ := row_form o3
      have HNK : Hid (n (0 + k) = nk) := hnk
      rw [e2] at c3
      have hglo := (hM.gllt (0 + k) hOk).2
      obtain ⟨⟨v9, cs⟩, cf⟩ := hM.slot (0 + k) hOk
      rw [hgx.1] at hglo
      rw [hgx.1, hgx.2] at cs cf
      have M1 := hM.start hOk
      rw [e2, hnk, hgx.1, hgx.2] at M1
      have HM1 : Hid (MN B w (wo.setCell ⟨gl, k, none⟩ (.slice a2 nk q2)) (N + M) F G X V n (0 + k + 1) (fun i => if i = 0 + k then .slice a2 nk q2 else U i) (fun i => if i = 0 + k then nk else m i) D0 D) := M1
      clear hM hm hnk e2 o3 M1 hgx
      have i0 : (0 : Int) ≤ (k : Int) := by omega
      have i1 : (k : Int) < (N : Int) := by omega
      go_wp2_with fail
      clear c3 hg3 cs cf hglo
      go_loopw [12] (fun i wr => ∃ j : Nat, j ≤ 16 ∧ i = .int .i64 j ∧ ∃ U m D, MN B w wr (N + M) F G X V n (0 + k + 1) U m D0 D ∧ (∀ i, i < 0 + k → m i = n i + 16) ∧ m (0 + k) = nk + j) (fun i _ => 16 - (intOf i).toNat)
      case atStart => exact ⟨0, by omega, rfl, _, _, _, HM1.out, fun i hi => by rw [if_neg (by omega)]; exact HM.out i hi, by rw [if_pos rfl]; rfl⟩
      case round =>
        obtain ⟨j, hj, rfl, U2, m2, D2, hM2, hm2, hmk⟩ := hrel
        have MJ : Hid (MN B w wr (N + M) F G X V n (0 + k + 1) U2 m2 D0 D2) := hM2
        have HM2 : Hid (∀ i, i < 0 + k → m2 i = n i + 16) := hm2
        have HMK : Hid (m2 (0 + k) = nk + j) := hmk
        have hgx := HGS.out k hlt
        have hcv := hM2.cell (0 + k) (by omega)
        have hglr := (hM2.gllt (0 + k) hOk).2
        have hcf := (hM2.slot (0 + k) hOk).2
        rw [hgx.1] at hglr
        rw [hgx.1, hgx.2] at hcv hcf
        have hbs : B ≤ wr.heap.size := Nat.le_trans hM2.q.base hM2.q.size
        have o4 := hM2.own (0 + k) (by omega)
        rw [hmk, SS.out.fk k hlt] at o4
        obtain ⟨a4, q4, e4⟩ := row_form o4
        have HU : Hid (U2 (0 + k) = .slice a4 (nk + j) q4) := e4
        rw [e4] at hcv o4
        have HO4 : Hid (wr.ownsRow B (kS k).e (kS k).sz (.slice a4 (nk + j) q4) (nk + j) (rep (nk + j) (kS k).c)) := o4
        have HNE : Hid (gl ∉ bl (.slice a4 (nk + j) q4)) := fun e => hM2.dgl (0 + k) gl (hM2.ud (0 + k) (by omega) gl (by rw [e4]; exact mem_bl.1 e)) (0 + k) hOk hgx.1.symm
        have HCV : Hid (wr.cell? ⟨gl, k, none⟩ = some (.slice a4 (nk + j) q4)) := hcv
        clear hM2 hm2 hmk e4 o4 hcv hgx
        by_cases hltj : j < 16
        · go_wp2_with fail
          refine r24S (base := B) hk6 hlt (by omega) hglr HCV.out hcf HO4 hbs HNE _ ?_
          intro s89 s90 s91 s92 s93 s94 s95 s96 s97 s98 s99 A C wa w2 hb6 ho9 hO9 hw9 hk9
          have M6 := MJ.out.later hb6
          have M7 := M6.grow (j := 0 + k) (v := .slice a4 (nk + j) q4) (fun g hg => MJ.out.ud (0 + k) (by omega) g (by rw [HU.out]; exact hg)) hO9 (by rw [SS.out.fk k hlt]; exact hk9)
          have M8 := M7.lay (wa := wa) (x := nk + j + 1) (by rw [SS.out.fk k hlt]; exact ho9) (by rw [HU.out]; exact hw9) (fun i g hd => (M6.q.dlt i g hd).2) (fun i hi => (M6.gllt i hi).2) (Nat.le_trans MJ.out.q.size hb6.size)
          rw [(HGS.out k hlt).1, (HGS.out k hlt).2] at M8
          have I1 : Hid (∃ U m D, MN B w (w2.setCell ⟨gl, k, none⟩ (.slice A (nk + j + 1) C)) (N + M) F G X V n (0 + k + 1) U m D0 D ∧ (∀ i, i < 0 + k → m i = n i + 16) ∧ m (0 + k) = nk + (j + 1)) := ⟨_, _, _, M8, fun i hi => by rw [if_neg (by omega)]; exact HM2.out i hi, by rw [if_pos rfl]; omega⟩
          clear ho9 hb6 hO9 hw9 hk9 M6 M7 M8
          go_wp2_with fail
          go_roundw
          case rel => exact ⟨j + 1, by omega, by go_num, I1.out⟩
          case measure => simp [intOf]; omega
        · obtain rfl : j = 16 := by omega
          have I1 : Hid (∃ U m D, MN B w wr (N + M) F G X V n (0 + (k + 1)) U m D0 D ∧ ∀ i, i < 0 + (k + 1) → m i = n i + 16) := ⟨U2, m2, D2, MJ.out, fun i hi => by
            by_cases e : i = 0 + k
            · subst e; rw [HMK.out, HNK.out]
            · exact HM2.out i (by omega)⟩
          go_wp2_with fail
          go_roundw
          case rel => exact ⟨k + 1, by omega, by go_num, I1.out⟩
          case measure => simp [intOf]; omega
    · obtain rfl : N = k := by omega
      go_wp2_with fail
      refine HK.out _ _ ?_
      have H2 : MN B w wo (N + M) F G X V n (0 + N) U m D0 D := MW.out
      have HM3 := HM.out
      rw [Nat.zero_add] at H2 HM3
      exact m25 SS SL HGS HGL H2 HM3

set_option maxHeartbeats 4000000 in
set_option maxRecDepth 100000 in
theorem m15 {lv2 lv3 lv4 lv5 lv6 lv7 lv8 lv9 lv10 lv11 lv12 lv13 lv14 lv15 lv16 lv17 lv18 lv19 lv20 lv21 lv22 lv23 lv24 lv25 lv26 lv27 lv28 lv29 lv30 lv31 lv32 lv33 lv34 lv35 lv36 lv37 lv38 lv39 lv40 lv41 lv42 lv43 lv44 lv45 lv46 lv47 lv48 lv49 lv50 lv51 lv52 lv53 lv54 lv55 lv56 lv57 lv58 lv59 lv60 lv61 lv62 lv63 lv64 lv65 lv66 lv67 lv68 lv69 lv70 lv71 lv72 lv73 lv74 lv75 lv76 lv77 lv78 lv79 lv80 lv81 lv82 lv83 lv84 lv85 lv86 lv87 lv88 lv89 lv90 lv91 lv92 lv93 lv94 lv95 lv96 lv97 lv98 lv99 lv100 lv101 lv102 lv103 lv104 lv105 lv106 lv107 lv108 lv109 lv110 lv111 lv112 lv113 lv114 lv115 lv116 lv117 lv118 lv119 lv120 lv121 lv122 lv123 lv124 lv125 lv126 lv127 lv128 lv129 lv130 lv131 lv132 lv133 lv134 lv135 lv136 lv137 lv138 lv139 lv140 lv141 lv142 lv143 lv144 lv145 lv146 lv147 lv148 lv149 lv150 lv151 lv152 lv153 lv154 lv155 lv156 lv157 lv158 lv159 lv160 lv161 lv162 lv163 lv164 lv165 lv166 lv167 lv168 lv169 lv170 lv171 lv172 lv173 lv174 lv175 lv176 lv177 lv178 lv179 lv180 lv181 lv182 lv183 lv184 lv185 lv186 lv187 lv188 lv189 lv190 lv191 lv192 lv193 lv194 lv195 lv196 lv197 lv198 lv199 lv200 lv201 lv202 lv203 lv204 lv205 lv206 lv207 lv208 lv209 lv210 lv211 lv212 lv213 lv214 lv215 lv216 lv217 lv218 lv219 lv220 lv221 lv222 : Value} {w wc : World} {B N M ga ca gb cb : Nat} {F : Nat → Knd} {V : Nat → Value} {n : Nat → Nat} {D0 D : Nat → Nat → Prop} {C : Nat → List Value} (SS : Hid (Stg kS w (N + M) 0 N ga F V n D0)) (SL : Hid (Stg kL w (N + M) N M gb F V n D0)) (H0 : Hid (QN B w wc (N + M) F V n C D0 D ∧ ∀ i, i < N + M → C i = rep (n i) (F i).c)) :
    Code.wp Tryz.prog (suff 15 (Tryz.f15.body.getD .skip)) (bodyPost Tryz.prog Tryz.f15 (GoodM B w D0)) ⟨(.slice (some ⟨ga, 0, none⟩) N ca :: .slice (some ⟨gb, 0, none⟩) M cb :: lv2 :: lv3 :: lv4 :: lv5 :: lv6 :: lv7 :: lv8 :: lv9 :: lv10 :: lv11 :: lv12 :: lv13 :: lv14 :: lv15 :: lv16 :: lv17 :: lv18 :: lv19 :: lv20 :: lv21 :: lv22 :: lv23 :: lv24 :: lv25 :: lv26 :: lv27 :: lv28 :: lv29 :: lv30 :: lv31 :: lv32 :: lv33 :: lv34 :: lv35 :: lv36 :: lv37 :: lv38 :: lv39 :: lv40 :: lv41 :: lv42 :: lv43 :: lv44 :: lv45 :: lv46 :: lv47 :: lv48 :: lv49 :: lv50 :: lv51 :: lv52 :: lv53 :: lv54 :: lv55 :: lv56 :: lv57 :: lv58 :: lv59 :: lv60 :: lv61 :: lv62 :: lv63 :: lv64 :: lv65 :: lv66 :: lv67 :: lv68 :: lv69 :: lv70 :: lv71 :: lv72 :: lv73 :: lv74 :: lv75 :: lv76 :: lv77 :: lv78 :: lv79 :: lv80 :: lv81 :: lv82 :: lv83 :: lv84 :: lv85 :: lv86 :: lv87 :: lv88 :: lv89 :: lv90 :: lv91 :: lv92 :: lv93 :: lv94 :: lv95 :: lv96 :: lv97 :: lv98 :: lv99 :: lv100 :: lv101 :: lv102 :: lv103 :: lv104 :: lv105 :: lv106 :: lv107 :: lv108 :: lv109 :: lv110 :: lv111 :: lv112 :: lv113 :: lv114 :: lv115 :: lv116 :: lv117 :: lv118 :: lv119 :: lv120 :: lv121 :: lv122 :: lv123 :: lv124 :: lv125 :: lv126 :: lv127 :: lv128 :: lv129 :: lv130 :: lv131 :: lv132 :: lv133 :: lv134 :: lv135 :: lv136 :: lv137 :: lv138 :: lv139 :: lv140 :: lv141 :: lv142 :: lv143 :: lv144 :: lv145 :: lv146 :: lv147 :: lv148 :: lv149 :: lv150 :: lv151 :: lv152 :: lv153 :: lv154 :: lv155 :: lv156 :: lv157 :: lv158 :: lv159 :: lv160 :: lv161 :: lv162 :: lv163 :: lv164 :: lv165 :: lv166 :: lv167 :: lv168 :: lv169 :: lv170 :: lv171 :: lv172 :: lv173 :: lv174 :: lv175 :: lv176 :: lv177 :: lv178 :: lv179 :: lv180 :: lv181 :: lv182 :: lv183 :: lv184 :: lv185 :: lv186 :: lv187 :: lv188 :: lv189 :: lv190 :: lv191 :: lv192 :: lv193 :: lv194 :: lv195 :: lv196 :: lv197 :: lv198 :: lv199 :: lv200 :: lv201 :: lv202 :: lv203 :: lv204 :: lv205 :: lv206 :: lv207 :: lv208 :: lv209 :: lv210 :: lv211 :: lv212 :: lv213 :: lv214 :: lv215 :: lv216 :: lv217 :: lv218 :: lv219 :: lv220 :: lv221 :: lv222 :: []).toArray, []⟩ wc := by
  conv => arg 2; whnf
  have H : Hid (QN B w wc (N + M) F V n (fun i => rep (n i) (F i).c) D0 D) := H0.out.1.congr H0.out.2
  have LN := SS.out.L1
  have LM := SL.out.L1
  have hN : ∀ u : World, (Instr.makeSlice 44 (.int .i64 (N : Int)) (.int .i64 (N : Int))).run Tryz.prog u = .ok (.slice (some ⟨u.heap.size, 0, none⟩) N N) (u.alloc (.cells (madeCells #[.slice none 0 0] N) 33)) := fun u => run_make_row' 44 33 _ _ und44 info33 rfl .i64 .i64 N (by omega) (by omega) u
  have hM : ∀ u : World, (Instr.makeSlice 46 (.int .i64 (M : Int)) (.int .i64 (M : Int))).run Tryz.prog u = .ok (.slice (some ⟨u.heap.size, 0, none⟩) M M) (u.alloc (.cells (madeCells #[.slice none 0 0] M) 35)) := fun u => run_make_row' 46 35 _ _ und46 info35 rfl .i64 .i64 M (by omega) (by omega) u
  have HMN : Hid (MN B w ((wc.alloc (.cells (madeCells #[.slice none 0 0] N) 33)).alloc (.cells (madeCells #[.slice none 0 0] M) 35)) (N + M) F (Gm N wc.heap.size (wc.heap.size + 1)) (Xm N) V n 0 (fun _ => .slice none 0 0) (fun _ => 0) D0 D) := by
    have b1 := balloc wc (.cells (madeCells #[.slice none 0 0] N) 33)
    have b2 := balloc (wc.alloc (.cells (madeCells #[.slice none 0 0] N) 33)) (.cells (madeCells #[.slice none 0 0] M) 35)
    have hb := bstep b1 b2
    have hs := H.out.size
    have n1 : ((wc.alloc (.cells (madeCells #[.slice none 0 0] N) 33)).alloc (.cells (madeCells #[.slice none 0 0] M) 35)).heap[wc.heap.size]? = some (.cells (madeCells #[.slice none 0 0] N) 33) := (heap_alloc_old _ _ (by simp)).trans (heap_alloc_new _ _)
    have n2 : ((wc.alloc (.cells (madeCells #[.slice none 0 0] N) 33)).alloc (.cells (madeCells #[.slice none 0 0] M) 35)).heap[wc.heap.size + 1]? = some (.cells (madeCells #[.slice none 0 0] M) 35) := by
      have := heap_alloc_new (wc.alloc (.cells (madeCells #[.slice none 0 0] N) 33)) (.cells (madeCells #[.slice none 0 0] M) 35)
      simpa using this
    refine ⟨H.out.later hb, fun i hi => ?_, fun i hi => ?_, fun i j hi hj h1 h2 => ?_, fun i g hd j hj => ?_, fun i hi => by omega, fun i hi => by omega, fun i hi => by omega, by omega⟩
    · unfold Gm Xm
      by_cases h : i < N
      · rw [if_pos h, if_pos h]; exact made_slot n1 h
      · rw [if_neg h, if_neg h]; exact made_slot n2 (by omega)
    · unfold Gm
      simp only [heap_alloc_size]
      split <;> omega
    · unfold Gm at h1
      unfold Xm at h2
      by_cases a1 : i < N <;> by_cases a2 : j < N <;> simp only [a1, a2, if_true, if_false] at h1 h2 <;> omega
    · have := (H.out.dlt i g hd).2
      unfold Gm
      split <;> omega
  have HGS : Hid (∀ k, k < N → Gm N wc.heap.size (wc.heap.size + 1) (0 + k) = wc.heap.size ∧ Xm N (0 + k) = k) := fun k hk => by unfold Gm Xm; rw [if_pos (by omega), if_pos (by omega)]; omega
  have HGL : Hid (∀ k, k < M → Gm N wc.heap.size (wc.heap.size + 1) (N + k) = wc.heap.size + 1 ∧ Xm N (N + k) = k) := fun k hk => by unfold Gm Xm; rw [if_neg (by omega), if_neg (by omega)]; omega
  refine wp_seq_k fun K hK => ?_
  have HK : Hid _ := hK
  clear hK H H0
  go_wp2_with fail
  refine HK.out _ _ ?_
  clear HK
  refine wp_seq_k fun K hK => ?_
  have HK : Hid _ := hK
  clear hK
  go_wp2_with fail
  refine HK.out _ _ ?_
  clear HK
  exact m17 SS SL HGS HGL HMN (fun i hi => by omega)

end Go.Proofs.YtemoplpfndnklaaGreatDoor
