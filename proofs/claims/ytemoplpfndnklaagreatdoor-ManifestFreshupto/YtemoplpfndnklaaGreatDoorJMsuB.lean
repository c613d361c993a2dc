/-
  'marked': the labels are marked
  'marked'
  'spoiled': the targets, told
-/
import Derived.Test.YtemoplpfndnklaaGreatDoorJMstE
import Derived.Test.YtemoplpfndnklaaGreatDoorMrwA
import Derived.Test.YtemoplpfndnklaaGreatDoorJMstB
namespace Go.Proofs.YtemoplpfndnklaaGreatDoor
open Go.RowKit

set_option maxHeartbeats 4000000 in
set_option maxRecDepth 100000 in
theorem m8 {lv2 lv3 lv4 lv5 lv6 lv7 lv8 lv9 lv10 lv11 lv12 lv13 lv14 lv15 lv16 lv17 lv18 lv19 lv20 lv21 lv22 lv23 lv24 lv25 lv26 lv27 lv28 lv29 lv30 lv31 lv32 lv33 lv34 lv35 lv36 lv37 lv38 lv39 lv40 lv41 lv42 lv43 lv44 lv45 lv46 lv47 lv48 lv49 lv50 lv51 lv52 lv53 lv54 lv55 lv56 lv57 lv58 lv59 lv60 lv61 lv62 lv63 lv64 lv65 lv66 lv67 lv68 lv69 lv70 lv71 lv72 lv73 lv74 lv75 lv76 lv77 lv78 lv79 lv80 lv81 lv82 lv83 lv84 lv85 lv86 lv87 lv88 lv89 lv90 lv91 lv92 lv93 lv94 lv95 lv96 lv97 lv98 lv99 lv100 lv101 lv102 lv103 lv104 lv105 lv106 lv107 lv108 lv109 lv110 lv111 lv112 lv113 lv114 lv115 lv116 lv117 lv118 lv119 lv120 lv121 lv122 lv123 lv124 lv125 lv126 lv127 lv128 lv129 lv130 lv131 lv132 lv133 lv134 lv135 lv136 lv137 lv138 lv139 lv140 lv141 lv142 lv143 lv144 lv145 lv146 lv147 lv148 lv149 lv150 lv151 lv152 lv153 lv154 lv155 lv156 lv157 lv158 lv159 lv160 lv161 lv162 lv163 lv164 lv165 lv166 lv167 lv168 lv169 lv170 lv171 lv172 lv173 lv174 lv175 lv176 lv177 lv178 lv179 lv180 lv181 lv182 lv183 lv184 lv185 lv186 lv187 lv188 lv189 lv190 lv191 lv192 lv193 lv194 lv195 lv196 lv197 lv198 lv199 lv200 lv201 lv202 lv203 lv204 lv205 lv206 lv207 lv208 lv209 lv210 lv211 lv212 lv213 lv214 lv215 lv216 lv217 lv218 lv219 lv220 lv221 lv222 : Value} {w wc : World} {B N M ga ca gb cb : Nat} {F : Nat → Knd} {V : Nat → Value} {n : Nat → Nat} {D0 D : Nat → Nat → Prop} {C : Nat → List Value} (SS : Hid (Stg kS w (N + M) 0 N ga F V n D0)) (SL : Hid (Stg kL w (N + M) N M gb F V n D0)) (H : Hid (QN B w wc (N + M) F V n C D0 D ∧ ∀ i, i < N → C i = rep (n i) (F i).c)) :
    Code.wp Tryz.prog (suff 8 (Tryz.f15.body.getD .skip)) (bodyPost Tryz.prog Tryz.f15 (GoodM B w D0)) ⟨(.slice (some ⟨ga, 0, none⟩) N ca :: .slice (some ⟨gb, 0, none⟩) M cb :: lv2 :: lv3 :: lv4 :: lv5 :: lv6 :: lv7 :: lv8 :: lv9 :: lv10 :: lv11 :: lv12 :: lv13 :: lv14 :: lv15 :: lv16 :: lv17 :: lv18 :: lv19 :: lv20 :: lv21 :: lv22 :: lv23 :: lv24 :: lv25 :: lv26 :: lv27 :: lv28 :: lv29 :: lv30 :: lv31 :: lv32 :: lv33 :: lv34 :: lv35 :: lv36 :: lv37 :: lv38 :: lv39 :: lv40 :: lv41 :: lv42 :: lv43 :: lv44 :: lv45 :: lv46 :: lv47 :: lv48 :: lv49 :: lv50 :: lv51 :: lv52 :: lv53 :: lv54 :: lv55 :: lv56 :: lv57 :: lv58 :: lv59 :: lv60 :: lv61 :: lv62 :: lv63 :: lv64 :: lv65 :: lv66 :: lv67 :: lv68 :: lv69 :: lv70 :: lv71 :: lv72 :: lv73 :: lv74 :: lv75 :: lv76 :: lv77 :: lv78 :: lv79 :: lv80 :: lv81 :: lv82 :: lv83 :: lv84 :: lv85 :: lv86 :: lv87 :: lv88 :: lv89 :: lv90 :: lv91 :: lv92 :: lv93 :: lv94 :: lv95 :: lv96 :: lv97 :: lv98 :: lv99 :: lv100 :: lv101 :: lv102 :: lv103 :: lv104 :: lv105 :: lv106 :: lv107 :: lv108 :: lv109 :: lv110 :: lv111 :: lv112 :: lv113 :: lv114 :: lv115 :: lv116 :: lv117 :: lv118 :: lv119 :: lv120 :: lv121 :: lv122 :: lv123 :: lv124 :: lv125 :: lv126 :: lv127 :: lv128 :: lv129 :: lv130 :: lv131 :: lv132 :: lv133 :: lv134 :: lv135 :: lv136 :: lv137 :: lv138 :: lv139 :: lv140 :: lv141 :: lv142 :: lv143 :: lv144 :: lv145 :: lv146 :: lv147 :: lv148 :: lv149 :: lv150 :: lv151 :: lv152 :: lv153 :: lv154 :: lv155 :: lv156 :: lv157 :: lv158 :: lv159 :: lv160 :: lv161 :: lv162 :: lv163 :: lv164 :: lv165 :: lv166 :: lv167 :: lv168 :: lv169 :: lv170 :: lv171 :: lv172 :: lv173 :: lv174 :: lv175 :: lv176 :: lv177 :: lv178 :: lv179 :: lv180 :: lv181 :: lv182 :: lv183 :: lv184 :: lv185 :: lv186 :: lv187 :: lv188 :: lv189 :: lv190 :: lv191 :: lv192 :: lv193 :: lv194 :: lv195 :: lv196 :: lv197 :: lv198 :: lv199 :: lv200 :: lv201 :: lv202 :: lv203 :: lv204 :: lv205 :: lv206 :: lv207 :: lv208 :: lv209 :: lv210 :: lv211 :: lv212 :: lv213 :: lv214 :: lv215 :: lv216 :: lv217 :: lv218 :: lv219 :: lv220 :: lv221 :: lv222 :: []).toArray, []⟩ wc := by
  conv => arg 2; whnf
  refine wp_seq_k fun K hK => ?_
  have HK : Hid _ := hK
  clear hK
  have L1 := SL.out.L1
  have hOL : N + M ≤ (N + M) := SL.out.hO
  go_wp2_with fail
  go_loopw [7] (fun i wr => ∃ k : Nat, k ≤ M ∧ i = .int .i64 k ∧ ∃ C, QN B w wr (N + M) F V n C D0 D ∧ ∀ i, i < N + k → C i = rep (n i) (F i).c) (fun i _ => M - (intOf i).toNat)
  case atStart => exact ⟨0, by omega, rfl, C, H.out.1, H.out.2⟩
  case round =>
    clear H
    obtain ⟨k, hk, rfl, C, hQ, hd⟩ := hrel
    obtain ⟨wo, hwo⟩ : ∃ wo, wo = wr := ⟨_, rfl⟩
    subst hwo
    have QW : Hid (QN B w wo (N + M) F V n C D0 D) := hQ
    have HD : Hid (∀ i, i < N + k → C i = rep (n i) (F i).c) := hd
    clear hQ hd
    by_cases hlt : k < M
    · have hk6 : k < 600 := by omega
      have hOk : N + k < (N + M) := by omega
      have hln := SL.out.nn (N + k)
      obtain ⟨nk, hnk⟩ : ∃ x, n (N + k) = x := ⟨_, rfl⟩
      rw [hnk] at hln
      have HNK : Hid (n (N + k) = nk) := hnk
      clear hnk
      have i0 : (0 : Int) ≤ (k : Int) := by omega
      have i1 : (k : Int) < (M : Int) := by omega
      go_wp2_with fail
      go_loopw [8] (fun i wr => ∃ m : Nat, m ≤ nk ∧ i = .int .i64 m ∧ ∃ C, QN B w wr (N + M) F V n C D0 D ∧ (∀ i, i < N + k → C i = rep (n i) (F i).c) ∧ ∀ y, y < m * 2 → (C (N + k))[y]? = (kL k).c[y % 2]?) (fun i _ => nk - (intOf i).toNat)
      case atStart => exact ⟨0, by omega, rfl, C, QW.out, HD.out, fun y hy => by omega⟩
      case round =>
        clear QW HD
        obtain ⟨m, hm, rfl, C2, hQ, hd, hj⟩ := hrel
        have Q1 : Hid (QN B w wr (N + M) F V n C2 D0 D) := hQ
        have HD2 : Hid (∀ i, i < N + k → C2 i = rep (n i) (F i).c) := hd
        have HJ2 : Hid (∀ y, y < m * 2 → (C2 (N + k))[y]? = (kL k).c[y % 2]?) := hj
        have c3 := hQ.cell (SL.out.cells k hlt) SL.out.nt
        have hg3 : gb < wr.heap.size := Nat.lt_of_lt_of_le (World.block_lt_of_cell? w ⟨gb, k, none⟩ (SL.out.cells k hlt)) hQ.size
        have o3 := hQ.own (N + k) hOk
        rw [HNK.out, SL.out.fk k hlt] at o3
        have HLN : Hid ((C2 (N + k)).length = nk * 2) := o3.1
        clear hQ hd hj
        by_cases hlt2 : m < nk
        · obtain ⟨g2, q2, e2, _, _, hg4⟩ := row_place o3 (by omega)
          have HV : Hid (V (N + k) = .slice (some ⟨g2, 0, none⟩) nk q2) := e2
          rw [e2] at c3 o3
          have o3 : wr.ownsRow B 58 2 (.slice (some ⟨g2, 0, none⟩) nk q2) nk (C2 (N + k)) := o3
          obtain ⟨⟨u0, ct0⟩, cf0⟩ := row_any o3 m 0 hlt2 (by decide)
          obtain ⟨⟨u1, ct1⟩, cf1⟩ := row_any o3 m 1 hlt2 (by decide)
          have ct0 : wr.cell? ⟨g2, m * 2, none⟩ = some u0 := by simpa using ct0
          have cf0 : wr.frozen? ⟨g2, m * 2, none⟩ = false := by simpa using cf0
          have ct1 : wr.cell? ⟨g2, m * 2 + 1, none⟩ = some u1 := by simpa using ct1
          have cf1 : wr.frozen? ⟨g2, m * 2 + 1, none⟩ = false := by simpa using cf1
          clear o3 e2
          have m0 : (0 : Int) ≤ (m : Int) := by omega
          have m1 : (m : Int) < (nk : Int) := by omega
          go_wp2_with fail
          refine r14L hk6 hlt hlt2 hg3 hg4 c3 ct0 cf0 ct1 cf1 _ ?_
          intro s57 s58 s59 s60 s61 s62 s63 s64 s65 w2 hb8
          have Q8 := (Q1.out.later hb8).put hOk (by rw [HV.out, HNK.out]) (m * 2) (kL k).c
          have I1 : Hid (∃ C, QN B w ((w2.setCell ⟨g2, m * 2, none⟩ (.string (bs (mkS k)))).setCell ⟨g2, m * 2 + 1, none⟩ (.string ⟨#[]⟩)) (N + M) F V n C D0 D ∧ (∀ i, i < N + k → C i = rep (n i) (F i).c) ∧ ∀ y, y < (m + 1) * 2 → (C (N + k))[y]? = (kL k).c[y % 2]?) := by
            have Q9 : QN B w ((w2.setCell ⟨g2, m * 2, none⟩ (.string (bs (mkS k)))).setCell ⟨g2, m * 2 + 1, none⟩ (.string ⟨#[]⟩)) (N + M) F V n (fun i => if i = N + k then setC (C2 (N + k)) (m * 2) (kL k).c else C2 i) D0 D := by
              have h := Q8
              first | exact h | (simp only [Nat.mul_one] at h ⊢; exact h)
            refine ⟨_, Q9, fun i hi => ?_, ?_⟩
            · rw [if_neg (by omega)]; exact HD2.out i hi
            · simp only [if_true]
              exact mk_step rfl HLN.out hlt2 HJ2.out
          clear Q8 hb8 ct0 cf0 ct1 cf1 c3
          go_wp2_with fail
          go_roundw
          case rel => exact ⟨m + 1, by omega, by go_num, I1.out⟩
          case measure => simp [intOf]; omega
        · obtain rfl : m = nk := by omega
          obtain ⟨a2, q2, e2⟩ := row_form o3
          rw [e2] at c3
          have I1 : Hid (∃ C, QN B w wr (N + M) F V n C D0 D ∧ ∀ i, i < N + (k + 1) → C i = rep (n i) (F i).c) := ⟨C2, Q1.out, fun i hi => by
            by_cases e : i = N + k
            · subst e; rw [HNK.out, SL.out.fk k hlt]; exact mk_all rfl HLN.out HJ2.out
            · exact HD2.out i (by omega)⟩
          clear o3 e2
          go_wp2_with fail
          go_roundw
          case rel => exact ⟨k + 1, by omega, by go_num, I1.out⟩
          case measure => simp [intOf]; omega
    · obtain rfl : M = k := by omega
      go_wp2_with fail
      refine HK.out _ _ ?_
      have HD3 := HD.out
      exact m15 SS SL ⟨QW.out, HD3⟩

end Go.Proofs.YtemoplpfndnklaaGreatDoor

namespace Go.Proofs.YtemoplpfndnklaaGreatDoor
open Go.RowKit

set_option maxHeartbeats 4000000 in
set_option maxRecDepth 100000 in
theorem marked_any {w : World} {B N M ga ca gb cb : Nat} {F : Nat → Knd} {V : Nat → Value} {n : Nat → Nat} {D0 D : Nat → Nat → Prop} {C : Nat → List Value} (SS : Hid (Stg kS w (N + M) 0 N ga F V n D0)) (SL : Hid (Stg kL w (N + M) N M gb F V n D0)) (H : Hid (QN B w w (N + M) F V n C D0 D)) :
    Calls Tryz.prog 15 #[.slice (some ⟨ga, 0, none⟩) N ca, .slice (some ⟨gb, 0, none⟩) M cb] w (GoodM B w D0) := by
  have L1 := SS.out.L1
  have hOL : 0 + N ≤ (N + M) := SS.out.hO
  have H : Hid (QN B w w (N + M) F V n C D0 D ∧ ∀ i, i < 0 → C i = rep (n i) (F i).c) := ⟨H.out, fun i hi => by omega⟩
  go_enter Tryz.func15, Tryz.ntmps15
  refine wp_seq_k fun K hK => ?_
  have HK : Hid _ := hK
  clear hK
  go_wp2_with fail
  refine HK.out _ _ ?_
  clear HK
  refine wp_seq_k fun K hK => ?_
  have HK : Hid _ := hK
  clear hK
  go_wp2_with fail
  go_loopw [5] (fun i wr => ∃ k : Nat, k ≤ N ∧ i = .int .i64 k ∧ ∃ C, QN B w wr (N + M) F V n C D0 D ∧ ∀ i, i < 0 + k → C i = rep (n i) (F i).c) (fun i _ => N - (intOf i).toNat)
  case atStart => exact ⟨0, by omega, rfl, C, H.out.1, H.out.2⟩
  case round =>
    clear H
    obtain ⟨k, hk, rfl, C, hQ, hd⟩ := hrel
    obtain ⟨wo, hwo⟩ : ∃ wo, wo = wr := ⟨_, rfl⟩
    subst hwo
    have QW : Hid (QN B w wo (N + M) F V n C D0 D) := hQ
    have HD : Hid (∀ i, i < 0 + k → C i = rep (n i) (F i).c) := hd
    clear hQ hd
    by_cases hlt : k < N
    · have hk6 : k < 600 := by omega
      have hOk : 0 + k < (N + M) := by omega
      have hln := SS.out.nn (0 + k)
      obtain ⟨nk, hnk⟩ : ∃ x, n (0 + k) = x := ⟨_, rfl⟩
      rw [hnk] at hln
      have HNK : Hid (n (0 + k) = nk) := hnk
      clear hnk
      have i0 : (0 : Int) ≤ (k : Int) := by omega
      have i1 : (k : Int) < (N : Int) := by omega
      go_wp2_with fail
      go_loopw [6] (fun i wr => ∃ m : Nat, m ≤ nk ∧ i = .int .i64 m ∧ ∃ C, QN B w wr (N + M) F V n C D0 D ∧ (∀ i, i < 0 + k → C i = rep (n i) (F i).c) ∧ ∀ y, y < m * 1 → (C (0 + k))[y]? = (kS k).c[y % 1]?) (fun i _ => nk - (intOf i).toNat)
      case atStart => exact ⟨0, by omega, rfl, C, QW.out, HD.out, fun y hy => by omega⟩
      case round =>
        clear QW HD
        obtain ⟨m, hm, rfl, C2, hQ, hd, hj⟩ := hrel
        have Q1 : Hid (QN B w wr (N + M) F V n C2 D0 D) := hQ
        have HD2 : Hid (∀ i, i < 0 + k → C2 i = rep (n i) (F i).c) := hd
        have HJ2 : Hid (∀ y, y < m * 1 → (C2 (0 + k))[y]? = (kS k).c[y % 1]?) := hj
        have c3 := hQ.cell (SS.out.cells k hlt) SS.out.nt
        have hg3 : ga < wr.heap.size := Nat.lt_of_lt_of_le (World.block_lt_of_cell? w ⟨ga, k, none⟩ (SS.out.cells k hlt)) hQ.size
        have o3 := hQ.own (0 + k) hOk
        rw [HNK.out, SS.out.fk k hlt] at o3
        have HLN : Hid ((C2 (0 + k)).length = nk * 1) := o3.1
        clear hQ hd hj
        by_cases hlt2 : m < nk
        · obtain ⟨g2, q2, e2, _, _, hg4⟩ := row_place o3 (by omega)
          have HV : Hid (V (0 + k) = .slice (some ⟨g2, 0, none⟩) nk q2) := e2
          rw [e2] at c3 o3
          have o3 : wr.ownsRow B 9 1 (.slice (some ⟨g2, 0, none⟩) nk q2) nk (C2 (0 + k)) := o3
          obtain ⟨⟨u0, ct0⟩, cf0⟩ := row_any o3 m 0 hlt2 (by decide)
          have ct0 : wr.cell? ⟨g2, m, none⟩ = some u0 := by simpa using ct0
          have cf0 : wr.frozen? ⟨g2, m, none⟩ = false := by simpa using cf0
          clear o3 e2
          have m0 : (0 : Int) ≤ (m : Int) := by omega
          have m1 : (m : Int) < (nk : Int) := by omega
          go_wp2_with fail
          refine r7S hk6 hlt hlt2 hg3 hg4 c3 ct0 cf0 _ ?_
          intro s34 s35 s36 s37 s38 s39 s40 s41 w2 hb8
          have Q8 := (Q1.out.later hb8).put hOk (by rw [HV.out, HNK.out]) (m * 1) (kS k).c
          have I1 : Hid (∃ C, QN B w (w2.setCell ⟨g2, m, none⟩ (.string (bs (mkS k)))) (N + M) F V n C D0 D ∧ (∀ i, i < 0 + k → C i = rep (n i) (F i).c) ∧ ∀ y, y < (m + 1) * 1 → (C (0 + k))[y]? = (kS k).c[y % 1]?) := by
            have Q9 : QN B w (w2.setCell ⟨g2, m, none⟩ (.string (bs (mkS k)))) (N + M) F V n (fun i => if i = 0 + k then setC (C2 (0 + k)) (m * 1) (kS k).c else C2 i) D0 D := by
              have h := Q8
              first | exact h | (simp only [Nat.mul_one] at h ⊢; exact h)
            refine ⟨_, Q9, fun i hi => ?_, ?_⟩
            · rw [if_neg (by omega)]; exact HD2.out i hi
            · simp only [if_true]
              exact mk_step rfl HLN.out hlt2 HJ2.out
          clear Q8 hb8 ct0 cf0 c3
          go_wp2_with fail
          go_roundw
          case rel => exact ⟨m + 1, by omega, by go_num, I1.out⟩
          case measure => simp [intOf]; omega
        · obtain rfl : m = nk := by omega
          obtain ⟨a2, q2, e2⟩ := row_form o3
          rw [e2] at c3
          have I1 : Hid (∃ C, QN B w wr (N + M) F V n C D0 D ∧ ∀ i, i < 0 + (k + 1) → C i = rep (n i) (F i).c) := ⟨C2, Q1.out, fun i hi => by
            by_cases e : i = 0 + k
            · subst e; rw [HNK.out, SS.out.fk k hlt]; exact mk_all rfl HLN.out HJ2.out
            · exact HD2.out i (by omega)⟩
          clear o3 e2
          go_wp2_with fail
          go_roundw
          case rel => exact ⟨k + 1, by omega, by go_num, I1.out⟩
          case measure => simp [intOf]; omega
    · obtain rfl : N = k := by omega
      go_wp2_with fail
      refine HK.out _ _ ?_
      have HD3 := HD.out
      simp only [Nat.zero_add] at HD3
      exact m8 SS SL ⟨QW.out, HD3⟩

end Go.Proofs.YtemoplpfndnklaaGreatDoor

namespace Go.Proofs.YtemoplpfndnklaaGreatDoor
open Go.RowKit

set_option maxHeartbeats 4000000 in
set_option maxRecDepth 100000 in
theorem s17 {lv1 lv2 lv3 lv4 lv6 lv7 lv8 lv9 lv10 lv11 lv12 lv13 lv14 lv15 lv16 lv17 lv18 lv19 lv20 lv21 lv22 lv23 lv24 lv25 lv26 lv27 lv28 lv29 lv30 lv31 lv32 lv33 lv34 lv35 lv36 lv37 lv38 lv39 lv40 lv41 lv42 lv43 lv44 lv45 lv46 lv47 lv48 lv49 lv50 lv51 lv52 lv53 lv54 lv55 lv56 lv57 lv58 lv59 lv60 lv61 lv62 lv63 lv64 lv65 lv66 lv67 lv68 lv69 lv70 lv71 lv72 lv73 lv74 lv75 lv76 lv77 lv78 lv79 lv80 lv81 lv82 lv83 lv84 lv85 lv86 lv87 lv88 lv89 lv90 lv91 lv92 lv93 lv94 lv95 lv96 lv97 lv98 lv99 lv100 lv101 lv102 lv103 lv104 lv105 lv106 lv107 lv108 lv109 lv110 lv111 lv112 lv113 : Value} {w wc : World} {B N ga ca gl : Nat} {F : Nat → Knd} {G X : Nat → Nat} {V : Nat → Value} {n : Nat → Nat} {D0 D : Nat → Nat → Prop} {U : Nat → Value} {m : Nat → Nat} (SS : Hid (Stg kG w N 0 N ga F V n D0)) (HGS : Hid (∀ k, k < N → G (0 + k) = gl ∧ X (0 + k) = k)) (H : Hid (MN B w wc N F G X V n N U m D0 D)) (HM : Hid (∀ i, i < N → m i = n i + 16)) :
    Code.wp Tryz.prog (suff 17 (Tryz.f18.body.getD .skip)) (bodyPost Tryz.prog Tryz.f18 (GoodM B w D0)) ⟨(.slice (some ⟨ga, 0, none⟩) N ca :: lv1 :: lv2 :: lv3 :: lv4 :: .slice (some ⟨gl, 0, none⟩) N N :: lv6 :: lv7 :: lv8 :: lv9 :: lv10 :: lv11 :: lv12 :: lv13 :: lv14 :: lv15 :: lv16 :: lv17 :: lv18 :: lv19 :: lv20 :: lv21 :: lv22 :: lv23 :: lv24 :: lv25 :: lv26 :: lv27 :: lv28 :: lv29 :: lv30 :: lv31 :: lv32 :: lv33 :: lv34 :: lv35 :: lv36 :: lv37 :: lv38 :: lv39 :: lv40 :: lv41 :: lv42 :: lv43 :: lv44 :: lv45 :: lv46 :: lv47 :: lv48 :: lv49 :: lv50 :: lv51 :: lv52 :: lv53 :: lv54 :: lv55 :: lv56 :: lv57 :: lv58 :: lv59 :: lv60 :: lv61 :: lv62 :: lv63 :: lv64 :: lv65 :: lv66 :: lv67 :: lv68 :: lv69 :: lv70 :: lv71 :: lv72 :: lv73 :: lv74 :: lv75 :: lv76 :: lv77 :: lv78 :: lv79 :: lv80 :: lv81 :: lv82 :: lv83 :: lv84 :: lv85 :: lv86 :: lv87 :: lv88 :: lv89 :: lv90 :: lv91 :: lv92 :: lv93 :: lv94 :: lv95 :: lv96 :: lv97 :: lv98 :: lv99 :: lv100 :: lv101 :: lv102 :: lv103 :: lv104 :: lv105 :: lv106 :: lv107 :: lv108 :: lv109 :: lv110 :: lv111 :: lv112 :: lv113 :: []).toArray, []⟩ wc := by
  conv => arg 2; whnf
  have L1 := SS.out.L1
  have hOL : 0 + N ≤ N := SS.out.hO
  go_wp2_with fail
  go_loopw [8] (fun i wr => ∃ k : Nat, k ≤ N ∧ i = .int .i64 k ∧ Below wc.heap.size wc wr) (fun i _ => N - (intOf i).toNat)
  case atStart => exact ⟨0, by omega, rfl, Below.refl _ _⟩
  case round =>
    obtain ⟨k, hk, rfl, hbw⟩ := hrel
    obtain ⟨wo, hwo⟩ : ∃ wo, wo = wr := ⟨_, rfl⟩
    subst hwo
    have BW : Hid (Below wc.heap.size wc wo) := hbw
    clear hbw
    by_cases hlt : k < N
    · have hk6 : k < 600 := by omega
      have hln := SS.out.nn (0 + k)
      obtain ⟨nk, hnk⟩ : ∃ x, n (0 + k) = x := ⟨_, rfl⟩
      rw [hnk] at hln
      have HNK : Hid (n (0 + k) = nk) := hnk
      clear hnk
      have i0 : (0 : Int) ≤ (k : Int) := by omega
      have i1 : (k : Int) < (N : Int) := by omega
      go_wp2_with fail
      go_loopw [9] (fun j wr => ∃ j' : Nat, j' ≤ nk + 16 ∧ j = .int .i64 j' ∧ Below wc.heap.size wc wr) (fun j _ => nk + 16 - (intOf j).toNat)
      case atStart => exact ⟨0, by omega, rfl, BW.out⟩
      case round =>
        obtain ⟨j, hm, rfl, hbw⟩ := hrel
        have B2 : Hid (Below wc.heap.size wc wr) := hbw
        have L2 := H.out.later hbw
        have hgx := HGS.out k hlt
        have c1 := L2.cell (0 + k) (by omega)
        have hg1 := (L2.gllt (0 + k) (by omega)).2
        rw [hgx.1, hgx.2] at c1
        rw [hgx.1] at hg1
        have c3 := L2.q.cell (SS.out.cells k hlt) SS.out.nt
        have hg3 : ga < wr.heap.size := Nat.lt_of_lt_of_le (World.block_lt_of_cell? w ⟨ga, k, none⟩ (SS.out.cells k hlt)) L2.q.size
        have o1 := L2.own (0 + k) (by omega)
        have o3 := L2.q.own (0 + k) (by omega)
        rw [HM.out (0 + k) (by omega), SS.out.fk k hlt, HNK.out] at o1
        rw [SS.out.fk k hlt, HNK.out] at o3
        obtain ⟨g1, q1, e1, _, _, hg2⟩ := row_place o1 (by omega)
        rw [e1] at c1 o1
        clear hbw L2 hgx
        by_cases hlt2 : j < nk + 16
        · have c2 : wr.cell? ⟨g1, j * 4, none⟩ = some (.string (bs (mkS k))) := by have := (row_cell o1 rfl j 0 hlt2 (Nat.succ_pos _)).1; simpa [kG] using this
          clear o1 e1
          have j0 : (0 : Int) ≤ (j : Int) := by omega
          have j1 : (j : Int) < (nk : Int) + 16 := by omega
          by_cases hlt3 : j < nk
          · obtain ⟨g2, q2, e2, _, _, hg4⟩ := row_place o3 (by omega)
            rw [e2] at c3 o3
            have c4 : wr.cell? ⟨g2, j * 4, none⟩ = some (.string (bs (mkS k))) := by have := (row_cell o3 rfl j 0 hlt3 (Nat.succ_pos _)).1; simpa [kG] using this
            clear o3 e2
            go_wp2_with fail
            have x1 : ∀ X : GW wr, X.it.cell? ⟨gl, k, none⟩ = some (.slice (some ⟨g1, 0, none⟩) (nk + 16) q1) := fun X => X.cell hg1 c1
            have x2 : ∀ X : GW wr, X.it.cell? ⟨g1, j * 4, none⟩ = some (.string (bs (mkS k))) := fun X => X.cell hg2 c2
            have x3 : ∀ X : GW wr, X.it.cell? ⟨ga, k, none⟩ = some (.slice (some ⟨g2, 0, none⟩) nk q2) := fun X => X.cell hg3 c3
            have x4 : ∀ X : GW wr, X.it.cell? ⟨g2, j * 4, none⟩ = some (.string (bs (mkS k))) := fun X => X.cell hg4 c4
            have xne := gw_ne wr
            refine wp_region_grow (by kernel_rfl) (by kernel_rfl) ?_
            repeat (go_big_quiet_step (exact mark_grow k hk6 _))
            refine wpQuiet_nil ?_
            rintro w' ⟨⟨w', bx⟩, rfl⟩
            go_wp2_with fail
            go_roundw
            case rel => exact ⟨j + 1, by omega, by go_num, bstep B2.out bx⟩
            case measure => simp [intOf]; omega
          · have d3 : decide ((j : Int) < (nk : Int)) = false := by simp; omega
            obtain ⟨a2, q2, e2⟩ := row_form o3
            rw [e2] at c3
            clear o3 e2
            go_wp2_with fail
            have x1 : ∀ X : GW wr, X.it.cell? ⟨gl, k, none⟩ = some (.slice (some ⟨g1, 0, none⟩) (nk + 16) q1) := fun X => X.cell hg1 c1
            have x2 : ∀ X : GW wr, X.it.cell? ⟨g1, j * 4, none⟩ = some (.string (bs (mkS k))) := fun X => X.cell hg2 c2
            have x3 : ∀ X : GW wr, X.it.cell? ⟨ga, k, none⟩ = some (.slice a2 nk q2) := fun X => X.cell hg3 c3
            have xne := gw_ne wr
            refine wp_region_grow (by kernel_rfl) (by kernel_rfl) ?_
            repeat (go_big_quiet_step (exact mark_grow k hk6 _))
            refine wpQuiet_nil ?_
            rintro w' ⟨⟨w', bx⟩, rfl⟩
            go_wp2_with fail
            go_roundw
            case rel => exact ⟨j + 1, by omega, by go_num, bstep B2.out bx⟩
            case measure => simp [intOf]; omega
        · obtain rfl : j = nk + 16 := by omega
          clear o1 o3
          go_wp2_with fail
          go_roundw
          case rel => exact ⟨k + 1, by omega, by go_num, B2.out⟩
          case measure => simp [intOf]; omega
    · obtain rfl : N = k := by omega
      go_wp2_with fail
      go_ret
      have H2 := H.out.later BW.out
      exact ⟨rfl, H2.q.below, H2.q.kept⟩

end Go.Proofs.YtemoplpfndnklaaGreatDoor
