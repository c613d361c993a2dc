/-
  'marked': the texts, told
  Regions of 'marked' and of 'spoiled' that draw.
-/
import Derived.Test.YtemoplpfndnklaaGreatDoorJMstB
namespace Go.Proofs.YtemoplpfndnklaaGreatDoor
open Go.RowKit

set_option maxHeartbeats 4000000 in
set_option maxRecDepth 100000 in
theorem m33 {lv2 lv3 lv4 lv5 lv6 lv7 lv8 lv11 lv12 lv13 lv14 lv15 lv16 lv17 lv18 lv19 lv20 lv21 lv22 lv23 lv24 lv25 lv26 lv27 lv28 lv29 lv30 lv31 lv32 lv33 lv34 lv35 lv36 lv37 lv38 lv39 lv40 lv41 lv42 lv43 lv44 lv45 lv46 lv47 lv48 lv49 lv50 lv51 lv52 lv53 lv54 lv55 lv56 lv57 lv58 lv59 lv60 lv61 lv62 lv63 lv64 lv65 lv66 lv67 lv68 lv69 lv70 lv71 lv72 lv73 lv74 lv75 lv76 lv77 lv78 lv79 lv80 lv81 lv82 lv83 lv84 lv85 lv86 lv87 lv88 lv89 lv90 lv91 lv92 lv93 lv94 lv95 lv96 lv97 lv98 lv99 lv100 lv101 lv102 lv103 lv104 lv105 lv106 lv107 lv108 lv109 lv110 lv111 lv112 lv113 lv114 lv115 lv116 lv117 lv118 lv119 lv120 lv121 lv122 lv123 lv124 lv125 lv126 lv127 lv128 lv129 lv130 lv131 lv132 lv133 lv134 lv135 lv136 lv137 lv138 lv139 lv140 lv141 lv142 lv143 lv144 lv145 lv146 lv147 lv148 lv149 lv150 lv151 lv152 lv153 lv154 lv155 lv156 lv157 lv158 lv159 lv160 lv161 lv162 lv163 lv164 lv165 lv166 lv167 lv168 lv169 lv170 lv171 lv172 lv173 lv174 lv175 lv176 lv177 lv178 lv179 lv180 lv181 lv182 lv183 lv184 lv185 lv186 lv187 lv188 lv189 lv190 lv191 lv192 lv193 lv194 lv195 lv196 lv197 lv198 lv199 lv200 lv201 lv202 lv203 lv204 lv205 lv206 lv207 lv208 lv209 lv210 lv211 lv212 lv213 lv214 lv215 lv216 lv217 lv218 lv219 lv220 lv221 lv222 : Value} {w wc : World} {B N M ga ca gb cb gl gw : Nat} {F : Nat → Knd} {G X : Nat → Nat} {V : Nat → Value} {n : Nat → Nat} {D0 D : Nat → Nat → Prop} {U : Nat → Value} {m : Nat → Nat} (SS : Hid (Stg kS w (N + M) 0 N ga F V n D0)) (SL : Hid (Stg kL w (N + M) N M gb F V n D0)) (HGS : Hid (∀ k, k < N → G (0 + k) = gl ∧ X (0 + k) = k)) (HGL : Hid (∀ k, k < M → G (N + k) = gw ∧ X (N + k) = k)) (H : Hid (MN B w wc (N + M) F G X V n (N + M) U m D0 D)) (HM : Hid (∀ i, i < (N + M) → m i = n i + 16)) :
    Code.wp Tryz.prog (suff 33 (Tryz.f15.body.getD .skip)) (bodyPost Tryz.prog Tryz.f15 (GoodM B w D0)) ⟨(.slice (some ⟨ga, 0, none⟩) N ca :: .slice (some ⟨gb, 0, none⟩) M cb :: lv2 :: lv3 :: lv4 :: lv5 :: lv6 :: lv7 :: lv8 :: .slice (some ⟨gl, 0, none⟩) N N :: .slice (some ⟨gw, 0, none⟩) M M :: lv11 :: lv12 :: lv13 :: lv14 :: lv15 :: lv16 :: lv17 :: lv18 :: lv19 :: lv20 :: lv21 :: lv22 :: lv23 :: lv24 :: lv25 :: lv26 :: lv27 :: lv28 :: lv29 :: lv30 :: lv31 :: lv32 :: lv33 :: lv34 :: lv35 :: lv36 :: lv37 :: lv38 :: lv39 :: lv40 :: lv41 :: lv42 :: lv43 :: lv44 :: lv45 :: lv46 :: lv47 :: lv48 :: lv49 :: lv50 :: lv51 :: lv52 :: lv53 :: lv54 :: lv55 :: lv56 :: lv57 :: lv58 :: lv59 :: lv60 :: lv61 :: lv62 :: lv63 :: lv64 :: lv65 :: lv66 :: lv67 :: lv68 :: lv69 :: lv70 :: lv71 :: lv72 :: lv73 :: lv74 :: lv75 :: lv76 :: lv77 :: lv78 :: lv79 :: lv80 :: lv81 :: lv82 :: lv83 :: lv84 :: lv85 :: lv86 :: lv87 :: lv88 :: lv89 :: lv90 :: lv91 :: lv92 :: lv93 :: lv94 :: lv95 :: lv96 :: lv97 :: lv98 :: lv99 :: lv100 :: lv101 :: lv102 :: lv103 :: lv104 :: lv105 :: lv106 :: lv107 :: lv108 :: lv109 :: lv110 :: lv111 :: lv112 :: lv113 :: lv114 :: lv115 :: lv116 :: lv117 :: lv118 :: lv119 :: lv120 :: lv121 :: lv122 :: lv123 :: lv124 :: lv125 :: lv126 :: lv127 :: lv128 :: lv129 :: lv130 :: lv131 :: lv132 :: lv133 :: lv134 :: lv135 :: lv136 :: lv137 :: lv138 :: lv139 :: lv140 :: lv141 :: lv142 :: lv143 :: lv144 :: lv145 :: lv146 :: lv147 :: lv148 :: lv149 :: lv150 :: lv151 :: lv152 :: lv153 :: lv154 :: lv155 :: lv156 :: lv157 :: lv158 :: lv159 :: lv160 :: lv161 :: lv162 :: lv163 :: lv164 :: lv165 :: lv166 :: lv167 :: lv168 :: lv169 :: lv170 :: lv171 :: lv172 :: lv173 :: lv174 :: lv175 :: lv176 :: lv177 :: lv178 :: lv179 :: lv180 :: lv181 :: lv182 :: lv183 :: lv184 :: lv185 :: lv186 :: lv187 :: lv188 :: lv189 :: lv190 :: lv191 :: lv192 :: lv193 :: lv194 :: lv195 :: lv196 :: lv197 :: lv198 :: lv199 :: lv200 :: lv201 :: lv202 :: lv203 :: lv204 :: lv205 :: lv206 :: lv207 :: lv208 :: lv209 :: lv210 :: lv211 :: lv212 :: lv213 :: lv214 :: lv215 :: lv216 :: lv217 :: lv218 :: lv219 :: lv220 :: lv221 :: lv222 :: []).toArray, []⟩ wc := by
  conv => arg 2; whnf
  refine wp_seq_k fun K hK => ?_
  have HK : Hid _ := hK
  clear hK
  have L1 := SS.out.L1
  have hOL : 0 + N ≤ (N + M) := SS.out.hO
  go_wp2_with fail
  go_loopw [15] (fun i wr => ∃ k : Nat, k ≤ N ∧ i = .int .i64 k ∧ Below wc.heap.size wc wr) (fun i _ => N - (intOf i).toNat)
  case atStart => exact ⟨0, by omega, rfl, Below.refl _ _⟩
  case round =>
    obtain ⟨k, hk, rfl, hbw⟩ := hrel
    obtain ⟨wo, hwo⟩ : ∃ wo, wo = wr := ⟨_, rfl⟩
    subst hwo
    have BW : Hid (Below wc.heap.size wc wo) := hbw
    clear hbw
    by_cases hlt : k < N
    · have hk6 : k < 600 := by omega
      have hln := SS.out.nn (0 + k)
      obtain ⟨nk, hnk⟩ : ∃ x, n (0 + k) = x := ⟨_, rfl⟩
      rw [hnk] at hln
      have HNK : Hid (n (0 + k) = nk) := hnk
      clear hnk
      have i0 : (0 : Int) ≤ (k : Int) := by omega
      have i1 : (k : Int) < (N : Int) := by omega
      go_wp2_with fail
      go_loopw [16] (fun j wr => ∃ j' : Nat, j' ≤ nk + 16 ∧ j = .int .i64 j' ∧ Below wc.heap.size wc wr) (fun j _ => nk + 16 - (intOf j).toNat)
      case atStart => exact ⟨0, by omega, rfl, BW.out⟩
      case round =>
        obtain ⟨j, hm, rfl, hbw⟩ := hrel
        have B2 : Hid (Below wc.heap.size wc wr) := hbw
        have L2 := H.out.later hbw
        have hgx := HGS.out k hlt
        have c1 := L2.cell (0 + k) (by omega)
        have hg1 := (L2.gllt (0 + k) (by omega)).2
        rw [hgx.1, hgx.2] at c1
        rw [hgx.1] at hg1
        have c3 := L2.q.cell (SS.out.cells k hlt) SS.out.nt
        have hg3 : ga < wr.heap.size := Nat.lt_of_lt_of_le (World.block_lt_of_cell? w ⟨ga, k, none⟩ (SS.out.cells k hlt)) L2.q.size
        have o1 := L2.own (0 + k) (by omega)
        have o3 := L2.q.own (0 + k) (by omega)
        rw [HM.out (0 + k) (by omega), SS.out.fk k hlt, HNK.out] at o1
        rw [SS.out.fk k hlt, HNK.out] at o3
        obtain ⟨g1, q1, e1, _, _, hg2⟩ := row_place o1 (by omega)
        rw [e1] at c1 o1
        clear hbw L2 hgx
        by_cases hlt2 : j < nk + 16
        · have c2 : wr.cell? ⟨g1, j, none⟩ = some (.string (bs (mkS k))) := by have := (row_cell o1 rfl j 0 hlt2 (Nat.succ_pos _)).1; simpa [kS] using this
          clear o1 e1
          have j0 : (0 : Int) ≤ (j : Int) := by omega
          have j1 : (j : Int) < (nk : Int) + 16 := by omega
          by_cases hlt3 : j < nk
          · obtain ⟨g2, q2, e2, _, _, hg4⟩ := row_place o3 (by omega)
            rw [e2] at c3 o3
            have c4 : wr.cell? ⟨g2, j, none⟩ = some (.string (bs (mkS k))) := by have := (row_cell o3 rfl j 0 hlt3 (Nat.succ_pos _)).1; simpa [kS] using this
            clear o3 e2
            go_wp2_with fail
            have x1 : ∀ X : GW wr, X.it.cell? ⟨gl, k, none⟩ = some (.slice (some ⟨g1, 0, none⟩) (nk + 16) q1) := fun X => X.cell hg1 c1
            have x2 : ∀ X : GW wr, X.it.cell? ⟨g1, j, none⟩ = some (.string (bs (mkS k))) := fun X => X.cell hg2 c2
            have x3 : ∀ X : GW wr, X.it.cell? ⟨ga, k, none⟩ = some (.slice (some ⟨g2, 0, none⟩) nk q2) := fun X => X.cell hg3 c3
            have x4 : ∀ X : GW wr, X.it.cell? ⟨g2, j, none⟩ = some (.string (bs (mkS k))) := fun X => X.cell hg4 c4
            have xne := gw_ne wr
            refine wp_region_grow (by kernel_rfl) (by kernel_rfl) ?_
            repeat (go_big_quiet_step (exact mark_grow k hk6 _))
            refine wpQuiet_nil ?_
            rintro w' ⟨⟨w', bx⟩, rfl⟩
            go_wp2_with fail
            go_roundw
            case rel => exact ⟨j + 1, by omega, by go_num, bstep B2.out bx⟩
            case measure => simp [intOf]; omega
          · have d3 : decide ((j : Int) < (nk : Int)) = false := by simp; omega
            obtain ⟨a2, q2, e2⟩ := row_form o3
            rw [e2] at c3
            clear o3 e2
            go_wp2_with fail
            have x1 : ∀ X : GW wr, X.it.cell? ⟨gl, k, none⟩ = some (.slice (some ⟨g1, 0, none⟩) (nk + 16) q1) := fun X => X.cell hg1 c1
            have x2 : ∀ X : GW wr, X.it.cell? ⟨g1, j, none⟩ = some (.string (bs (mkS k))) := fun X => X.cell hg2 c2
            have x3 : ∀ X : GW wr, X.it.cell? ⟨ga, k, none⟩ = some (.slice a2 nk q2) := fun X => X.cell hg3 c3
            have xne := gw_ne wr
            refine wp_region_grow (by kernel_rfl) (by kernel_rfl) ?_
            repeat (go_big_quiet_step (exact mark_grow k hk6 _))
            refine wpQuiet_nil ?_
            rintro w' ⟨⟨w', bx⟩, rfl⟩
            go_wp2_with fail
            go_roundw
            case rel => exact ⟨j + 1, by omega, by go_num, bstep B2.out bx⟩
            case measure => simp [intOf]; omega
        · obtain rfl : j = nk + 16 := by omega
          clear o1 o3
          go_wp2_with fail
          go_roundw
          case rel => exact ⟨k + 1, by omega, by go_num, B2.out⟩
          case measure => simp [intOf]; omega
    · obtain rfl : N = k := by omega
      go_wp2_with fail
      refine HK.out _ _ ?_
      have H2 : Hid (MN B w wo (N + M) F G X V n (N + M) U m D0 D) := H.out.later BW.out
      exact m41 SS SL HGS HGL H2 HM

end Go.Proofs.YtemoplpfndnklaaGreatDoor

namespace Go.Proofs.YtemoplpfndnklaaGreatDoor
open Go.RowKit

set_option maxHeartbeats 4000000 in
set_option maxRecDepth 100000 in
theorem r32L {lv0 lv1 lv2 lv3 lv4 lv5 lv6 lv7 lv8 lv9 lv11 lv12 lv14 lv15 lv16 lv17 lv18 lv19 lv20 lv21 lv22 lv23 lv24 lv25 lv26 lv27 lv28 lv29 lv30 lv31 lv32 lv33 lv34 lv35 lv36 lv37 lv38 lv39 lv40 lv41 lv42 lv43 lv44 lv45 lv46 lv47 lv48 lv49 lv50 lv51 lv52 lv53 lv54 lv55 lv56 lv57 lv58 lv59 lv60 lv61 lv62 lv63 lv64 lv65 lv66 lv67 lv68 lv69 lv70 lv71 lv72 lv73 lv74 lv75 lv76 lv77 lv78 lv79 lv80 lv81 lv82 lv83 lv84 lv85 lv86 lv87 lv88 lv89 lv90 lv91 lv92 lv93 lv94 lv95 lv96 lv97 lv98 lv99 lv100 lv101 lv102 lv103 lv104 lv105 lv106 lv107 lv108 lv109 lv110 lv111 lv112 lv113 lv114 lv115 lv116 lv117 lv118 lv119 lv120 lv121 lv122 lv123 lv124 lv125 lv126 lv127 lv128 lv129 lv130 lv131 lv132 lv133 lv134 lv135 lv136 lv137 lv138 lv139 lv140 lv141 lv142 lv143 lv144 lv145 lv146 lv147 lv148 lv149 lv150 lv151 lv152 lv153 lv154 lv155 lv156 lv157 lv158 lv159 lv160 lv161 lv162 lv163 lv164 lv165 lv166 lv167 lv168 lv169 lv170 lv171 lv172 lv173 lv174 lv175 lv176 lv177 lv178 lv179 lv180 lv181 lv182 lv183 lv184 lv185 lv186 lv187 lv188 lv189 lv190 lv191 lv192 lv193 lv194 lv195 lv196 lv197 lv198 lv199 lv200 lv201 lv202 lv203 lv204 lv205 lv206 lv207 lv208 lv209 lv210 lv211 lv212 lv213 lv214 lv215 lv216 lv217 lv218 lv219 lv220 lv221 lv222 : Value} {wr : World} {gl N k n c base : Nat} {a : Option Addr} (hk6 : k < 600) (hlt : k < N) (hln : n ≤ 1000100) (hglr : gl < wr.heap.size) (hcv : wr.cell? ⟨gl, k, none⟩ = some (.slice a n c)) (hcf : wr.frozen? ⟨gl, k, none⟩ = false)
    (HOW : Hid (wr.ownsRow base (kL k).e (kL k).sz (.slice a n c) n (rep n (kL k).c))) (hbase : base ≤ wr.heap.size) (HNE : Hid (gl ∉ bl (.slice a n c))) (Q : Exit → Act → World → Prop)
    (hQ : ∀ (s117 s118 s119 s120 s121 s122 s123 s124 s125 s126 s127 s128 : Value) (A : Option Addr) (C : Nat) (wa w2 : World), Below wr.heap.size wr wa → w2.ownsRow base (kL k).e (kL k).sz (.slice A (n + 1) C) (n + 1) (rep (n + 1) (kL k).c) → Only (bl (.slice a n c)) wa w2 → ((Value.slice A (n + 1) C).ownBlock = (Value.slice a n c).ownBlock ∨ ∃ b, (Value.slice A (n + 1) C).ownBlock = some b ∧ wa.heap.size ≤ b) →
      (∀ u m, wa.ownsRow base (kL k).e (kL k).sz u m (rep m (kL k).c) → w2.ownsRow base (kL k).e (kL k).sz u m (rep m (kL k).c)) → Q .normal ⟨(lv0 :: lv1 :: lv2 :: lv3 :: lv4 :: lv5 :: lv6 :: lv7 :: lv8 :: lv9 :: .slice (some ⟨gl, 0, none⟩) N N :: lv11 :: lv12 :: .int .i64 ((k : Nat) : Int) :: lv14 :: lv15 :: lv16 :: lv17 :: lv18 :: lv19 :: lv20 :: lv21 :: lv22 :: lv23 :: lv24 :: lv25 :: lv26 :: lv27 :: lv28 :: lv29 :: lv30 :: lv31 :: lv32 :: lv33 :: lv34 :: lv35 :: lv36 :: lv37 :: lv38 :: lv39 :: lv40 :: lv41 :: lv42 :: lv43 :: lv44 :: lv45 :: lv46 :: lv47 :: lv48 :: lv49 :: lv50 :: lv51 :: lv52 :: lv53 :: lv54 :: lv55 :: lv56 :: lv57 :: lv58 :: lv59 :: lv60 :: lv61 :: lv62 :: lv63 :: lv64 :: lv65 :: lv66 :: lv67 :: lv68 :: lv69 :: lv70 :: lv71 :: lv72 :: lv73 :: lv74 :: lv75 :: lv76 :: lv77 :: lv78 :: lv79 :: lv80 :: lv81 :: lv82 :: lv83 :: lv84 :: lv85 :: lv86 :: lv87 :: lv88 :: lv89 :: lv90 :: lv91 :: lv92 :: lv93 :: lv94 :: lv95 :: lv96 :: lv97 :: lv98 :: lv99 :: lv100 :: lv101 :: lv102 :: lv103 :: lv104 :: lv105 :: lv106 :: lv107 :: lv108 :: lv109 :: lv110 :: lv111 :: lv112 :: lv113 :: lv114 :: lv115 :: lv116 :: s117 :: s118 :: s119 :: s120 :: s121 :: s122 :: s123 :: s124 :: s125 :: s126 :: s127 :: s128 :: lv129 :: lv130 :: lv131 :: lv132 :: lv133 :: lv134 :: lv135 :: lv136 :: lv137 :: lv138 :: lv139 :: lv140 :: lv141 :: lv142 :: lv143 :: lv144 :: lv145 :: lv146 :: lv147 :: lv148 :: lv149 :: lv150 :: lv151 :: lv152 :: lv153 :: lv154 :: lv155 :: lv156 :: lv157 :: lv158 :: lv159 :: lv160 :: lv161 :: lv162 :: lv163 :: lv164 :: lv165 :: lv166 :: lv167 :: lv168 :: lv169 :: lv170 :: lv171 :: lv172 :: lv173 :: lv174 :: lv175 :: lv176 :: lv177 :: lv178 :: lv179 :: lv180 :: lv181 :: lv182 :: lv183 :: lv184 :: lv185 :: lv186 :: lv187 :: lv188 :: lv189 :: lv190 :: lv191 :: lv192 :: lv193 :: lv194 :: lv195 :: lv196 :: lv197 :: lv198 :: lv199 :: lv200 :: lv201 :: lv202 :: lv203 :: lv204 :: lv205 :: lv206 :: lv207 :: lv208 :: lv209 :: lv210 :: lv211 :: lv212 :: lv213 :: lv214 :: lv215 :: lv216 :: lv217 :: lv218 :: lv219 :: lv220 :: lv221 :: lv222 :: []).toArray, []⟩ (w2.setCell ⟨gl, k, none⟩ (.slice A (n + 1) C))) :
    Code.wp Tryz.prog ((findReg 32 (Tryz.f15.body.getD .skip)).getD .skip) Q ⟨(lv0 :: lv1 :: lv2 :: lv3 :: lv4 :: lv5 :: lv6 :: lv7 :: lv8 :: lv9 :: .slice (some ⟨gl, 0, none⟩) N N :: lv11 :: lv12 :: .int .i64 ((k : Nat) : Int) :: lv14 :: lv15 :: lv16 :: lv17 :: lv18 :: lv19 :: lv20 :: lv21 :: lv22 :: lv23 :: lv24 :: lv25 :: lv26 :: lv27 :: lv28 :: lv29 :: lv30 :: lv31 :: lv32 :: lv33 :: lv34 :: lv35 :: lv36 :: lv37 :: lv38 :: lv39 :: lv40 :: lv41 :: lv42 :: lv43 :: lv44 :: lv45 :: lv46 :: lv47 :: lv48 :: lv49 :: lv50 :: lv51 :: lv52 :: lv53 :: lv54 :: lv55 :: lv56 :: lv57 :: lv58 :: lv59 :: lv60 :: lv61 :: lv62 :: lv63 :: lv64 :: lv65 :: lv66 :: lv67 :: lv68 :: lv69 :: lv70 :: lv71 :: lv72 :: lv73 :: lv74 :: lv75 :: lv76 :: lv77 :: lv78 :: lv79 :: lv80 :: lv81 :: lv82 :: lv83 :: lv84 :: lv85 :: lv86 :: lv87 :: lv88 :: lv89 :: lv90 :: lv91 :: lv92 :: lv93 :: lv94 :: lv95 :: lv96 :: lv97 :: lv98 :: lv99 :: lv100 :: lv101 :: lv102 :: lv103 :: lv104 :: lv105 :: lv106 :: lv107 :: lv108 :: lv109 :: lv110 :: lv111 :: lv112 :: lv113 :: lv114 :: lv115 :: lv116 :: lv117 :: lv118 :: lv119 :: lv120 :: lv121 :: lv122 :: lv123 :: lv124 :: lv125 :: lv126 :: lv127 :: lv128 :: lv129 :: lv130 :: lv131 :: lv132 :: lv133 :: lv134 :: lv135 :: lv136 :: lv137 :: lv138 :: lv139 :: lv140 :: lv141 :: lv142 :: lv143 :: lv144 :: lv145 :: lv146 :: lv147 :: lv148 :: lv149 :: lv150 :: lv151 :: lv152 :: lv153 :: lv154 :: lv155 :: lv156 :: lv157 :: lv158 :: lv159 :: lv160 :: lv161 :: lv162 :: lv163 :: lv164 :: lv165 :: lv166 :: lv167 :: lv168 :: lv169 :: lv170 :: lv171 :: lv172 :: lv173 :: lv174 :: lv175 :: lv176 :: lv177 :: lv178 :: lv179 :: lv180 :: lv181 :: lv182 :: lv183 :: lv184 :: lv185 :: lv186 :: lv187 :: lv188 :: lv189 :: lv190 :: lv191 :: lv192 :: lv193 :: lv194 :: lv195 :: lv196 :: lv197 :: lv198 :: lv199 :: lv200 :: lv201 :: lv202 :: lv203 :: lv204 :: lv205 :: lv206 :: lv207 :: lv208 :: lv209 :: lv210 :: lv211 :: lv212 :: lv213 :: lv214 :: lv215 :: lv216 :: lv217 :: lv218 :: lv219 :: lv220 :: lv221 :: lv222 :: []).toArray, []⟩ wr := by
  conv => arg 2; whnf
  have HQ : Hid _ := hQ
  clear hQ
  have i0 : (0 : Int) ≤ (k : Int) := by omega
  have i1 : (k : Int) < (N : Int) := by omega
  refine wp_region_noPanic ?_
  go_region_law (first | (refine step_mark rfl (.tmp 123) rfl k hk6 rfl ?_; intro w' hb9; have hb8 : Below wr.heap.size wr w' := bstep (Below.refl _ _).drew hb9; have hc8 : w'.cell? ⟨gl, k, none⟩ = some (.slice a n c) := (by rw [hb8.cell (p := ⟨gl, k, none⟩) hglr]; exact hcv); have hg8 : gl < w'.heap.size := Nat.lt_of_lt_of_le hglr hb8.size) | (refine step_append_k (kL_ok k) rfl (.tmp 122) (.tmp 126) rfl base n (.slice a n c) _ rfl rfl (row_later HOW.out (bstep hb8 (balloc _ _))) (src_of (kL_ok k) _ (kL_one k)) (by omega) (by have := (bstep hb8 (balloc w' (.cells #[.string (bs (mkS k)), .string ⟨#[]⟩] 58))).size; omega) ?_; intro A C w2 ho9 hO9 hw9 hk9; have hb6 : Below wr.heap.size wr (w'.alloc (.cells #[.string (bs (mkS k)), .string ⟨#[]⟩] 58)) := (bstep hb8 (balloc _ _)); have hg6 : gl < (w'.alloc (.cells #[.string (bs (mkS k)), .string ⟨#[]⟩] 58)).heap.size := Nat.lt_of_lt_of_le hglr hb6.size; have hc7 : w2.cell? ⟨gl, k, none⟩ = some (.slice a n c) := (by rw [World.cell?_of_block (w := (w'.alloc (.cells #[.string (bs (mkS k)), .string ⟨#[]⟩] 58))) (hO9.block gl hg6 HNE.out), hb6.cell (p := ⟨gl, k, none⟩) hglr]; exact hcv); have hf7 : w2.frozen? ⟨gl, k, none⟩ = false := (by rw [World.frozen?_of_block (w := (w'.alloc (.cells #[.string (bs (mkS k)), .string ⟨#[]⟩] 58))) (hO9.block gl hg6 HNE.out), World.frozen?_of_block (w := wr) (hb6.block gl hglr)]; exact hcf)))
  all_goals exact NoPanic.normal (HQ.out _ _ _ _ _ _ _ _ _ _ _ _ A C _ w2 hb6 ho9 hO9 hw9 hk9)

end Go.Proofs.YtemoplpfndnklaaGreatDoor
