/-
  Regions of 'marked' and of 'spoiled' that draw.
  'spoiled': the lists grow
-/
import Derived.Test.YtemoplpfndnklaaGreatDoorJMstB
import Derived.Test.YtemoplpfndnklaaGreatDoorJMsuB
namespace Go.Proofs.YtemoplpfndnklaaGreatDoor
open Go.RowKit

set_option maxHeartbeats 4000000 in
set_option maxRecDepth 100000 in
theorem r16G {lv0 lv1 lv2 lv3 lv4 lv7 lv8 lv9 lv10 lv11 lv12 lv13 lv14 lv15 lv16 lv17 lv18 lv19 lv20 lv21 lv22 lv23 lv24 lv25 lv26 lv27 lv28 lv29 lv30 lv31 lv32 lv33 lv34 lv35 lv36 lv37 lv38 lv39 lv40 lv41 lv42 lv43 lv44 lv45 lv46 lv47 lv48 lv49 lv50 lv51 lv52 lv53 lv54 lv55 lv56 lv57 lv58 lv59 lv60 lv61 lv62 lv63 lv64 lv65 lv66 lv67 lv68 lv69 lv70 lv71 lv72 lv73 lv74 lv75 lv76 lv77 lv78 lv79 lv80 lv81 lv82 lv83 lv84 lv85 lv86 lv87 lv88 lv89 lv90 lv91 lv92 lv93 lv94 lv95 lv96 lv97 lv98 lv99 lv100 lv101 lv102 lv103 lv104 lv105 lv106 lv107 lv108 lv109 lv110 lv111 lv112 lv113 : Value} {wr : World} {gl N k n c base : Nat} {a : Option Addr} (hk6 : k < 600) (hlt : k < N) (hln : n ≤ 1000100) (hglr : gl < wr.heap.size) (hcv : wr.cell? ⟨gl, k, none⟩ = some (.slice a n c)) (hcf : wr.frozen? ⟨gl, k, none⟩ = false)
    (HOW : Hid (wr.ownsRow base (kG k).e (kG k).sz (.slice a n c) n (rep n (kG k).c))) (hbase : base ≤ wr.heap.size) (HNE : Hid (gl ∉ bl (.slice a n c))) (Q : Exit → Act → World → Prop)
    (hQ : ∀ (s54 s55 s56 s57 s58 s59 s60 s61 s62 s63 s64 s65 : Value) (A : Option Addr) (C : Nat) (wa w2 : World), Below wr.heap.size wr wa → w2.ownsRow base (kG k).e (kG k).sz (.slice A (n + 1) C) (n + 1) (rep (n + 1) (kG k).c) → Only (bl (.slice a n c)) wa w2 → ((Value.slice A (n + 1) C).ownBlock = (Value.slice a n c).ownBlock ∨ ∃ b, (Value.slice A (n + 1) C).ownBlock = some b ∧ wa.heap.size ≤ b) →
      (∀ u m, wa.ownsRow base (kG k).e (kG k).sz u m (rep m (kG k).c) → w2.ownsRow base (kG k).e (kG k).sz u m (rep m (kG k).c)) → Q .normal ⟨(lv0 :: lv1 :: lv2 :: lv3 :: lv4 :: .slice (some ⟨gl, 0, none⟩) N N :: .int .i64 ((k : Nat) : Int) :: lv7 :: lv8 :: lv9 :: lv10 :: lv11 :: lv12 :: lv13 :: lv14 :: lv15 :: lv16 :: lv17 :: lv18 :: lv19 :: lv20 :: lv21 :: lv22 :: lv23 :: lv24 :: lv25 :: lv26 :: lv27 :: lv28 :: lv29 :: lv30 :: lv31 :: lv32 :: lv33 :: lv34 :: lv35 :: lv36 :: lv37 :: lv38 :: lv39 :: lv40 :: lv41 :: lv42 :: lv43 :: lv44 :: lv45 :: lv46 :: lv47 :: lv48 :: lv49 :: lv50 :: lv51 :: lv52 :: lv53 :: s54 :: s55 :: s56 :: s57 :: s58 :: s59 :: s60 :: s61 :: s62 :: s63 :: s64 :: s65 :: lv66 :: lv67 :: lv68 :: lv69 :: lv70 :: lv71 :: lv72 :: lv73 :: lv74 :: lv75 :: lv76 :: lv77 :: lv78 :: lv79 :: lv80 :: lv81 :: lv82 :: lv83 :: lv84 :: lv85 :: lv86 :: lv87 :: lv88 :: lv89 :: lv90 :: lv91 :: lv92 :: lv93 :: lv94 :: lv95 :: lv96 :: lv97 :: lv98 :: lv99 :: lv100 :: lv101 :: lv102 :: lv103 :: lv104 :: lv105 :: lv106 :: lv107 :: lv108 :: lv109 :: lv110 :: lv111 :: lv112 :: lv113 :: []).toArray, []⟩ (w2.setCell ⟨gl, k, none⟩ (.slice A (n + 1) C))) :
    Code.wp Tryz.prog ((findReg 16 (Tryz.f18.body.getD .skip)).getD .skip) Q ⟨(lv0 :: lv1 :: lv2 :: lv3 :: lv4 :: .slice (some ⟨gl, 0, none⟩) N N :: .int .i64 ((k : Nat) : Int) :: lv7 :: lv8 :: lv9 :: lv10 :: lv11 :: lv12 :: lv13 :: lv14 :: lv15 :: lv16 :: lv17 :: lv18 :: lv19 :: lv20 :: lv21 :: lv22 :: lv23 :: lv24 :: lv25 :: lv26 :: lv27 :: lv28 :: lv29 :: lv30 :: lv31 :: lv32 :: lv33 :: lv34 :: lv35 :: lv36 :: lv37 :: lv38 :: lv39 :: lv40 :: lv41 :: lv42 :: lv43 :: lv44 :: lv45 :: lv46 :: lv47 :: lv48 :: lv49 :: lv50 :: lv51 :: lv52 :: lv53 :: lv54 :: lv55 :: lv56 :: lv57 :: lv58 :: lv59 :: lv60 :: lv61 :: lv62 :: lv63 :: lv64 :: lv65 :: lv66 :: lv67 :: lv68 :: lv69 :: lv70 :: lv71 :: lv72 :: lv73 :: lv74 :: lv75 :: lv76 :: lv77 :: lv78 :: lv79 :: lv80 :: lv81 :: lv82 :: lv83 :: lv84 :: lv85 :: lv86 :: lv87 :: lv88 :: lv89 :: lv90 :: lv91 :: lv92 :: lv93 :: lv94 :: lv95 :: lv96 :: lv97 :: lv98 :: lv99 :: lv100 :: lv101 :: lv102 :: lv103 :: lv104 :: lv105 :: lv106 :: lv107 :: lv108 :: lv109 :: lv110 :: lv111 :: lv112 :: lv113 :: []).toArray, []⟩ wr := by
  conv => arg 2; whnf
  have HQ : Hid _ := hQ
  clear hQ
  have i0 : (0 : Int) ≤ (k : Int) := by omega
  have i1 : (k : Int) < (N : Int) := by omega
  refine wp_region_noPanic ?_
  go_region_law (first | (refine step_mark rfl (.tmp 60) rfl k hk6 rfl ?_; intro w' hb9; have hb8 : Below wr.heap.size wr w' := bstep (Below.refl _ _).drew hb9; have hc8 : w'.cell? ⟨gl, k, none⟩ = some (.slice a n c) := (by rw [hb8.cell (p := ⟨gl, k, none⟩) hglr]; exact hcv); have hg8 : gl < w'.heap.size := Nat.lt_of_lt_of_le hglr hb8.size) | (refine step_append_k (kG_ok k) rfl (.tmp 59) (.tmp 63) rfl base n (.slice a n c) _ rfl rfl (row_later HOW.out (bstep hb8 (balloc _ _))) (src_of (kG_ok k) _ (kG_one k)) (by omega) (by have := (bstep hb8 (balloc w' (.cells #[.string (bs (mkS k)), .slice none 0 0, .slice none 0 0, .slice none 0 0] 37))).size; omega) ?_; intro A C w2 ho9 hO9 hw9 hk9; have hb6 : Below wr.heap.size wr (w'.alloc (.cells #[.string (bs (mkS k)), .slice none 0 0, .slice none 0 0, .slice none 0 0] 37)) := (bstep hb8 (balloc _ _)); have hg6 : gl < (w'.alloc (.cells #[.string (bs (mkS k)), .slice none 0 0, .slice none 0 0, .slice none 0 0] 37)).heap.size := Nat.lt_of_lt_of_le hglr hb6.size; have hc7 : w2.cell? ⟨gl, k, none⟩ = some (.slice a n c) := (by rw [World.cell?_of_block (w := (w'.alloc (.cells #[.string (bs (mkS k)), .slice none 0 0, .slice none 0 0, .slice none 0 0] 37))) (hO9.block gl hg6 HNE.out), hb6.cell (p := ⟨gl, k, none⟩) hglr]; exact hcv); have hf7 : w2.frozen? ⟨gl, k, none⟩ = false := (by rw [World.frozen?_of_block (w := (w'.alloc (.cells #[.string (bs (mkS k)), .slice none 0 0, .slice none 0 0, .slice none 0 0] 37))) (hO9.block gl hg6 HNE.out), World.frozen?_of_block (w := wr) (hb6.block gl hglr)]; exact hcf)))
  all_goals exact NoPanic.normal (HQ.out _ _ _ _ _ _ _ _ _ _ _ _ A C _ w2 hb6 ho9 hO9 hw9 hk9)

end Go.Proofs.YtemoplpfndnklaaGreatDoor

namespace Go.Proofs.YtemoplpfndnklaaGreatDoor
open Go.RowKit

set_option maxHeartbeats 4000000 in
set_option maxRecDepth 100000 in
theorem s9 {lv1 lv2 lv3 lv4 lv6 lv7 lv8 lv9 lv10 lv11 lv12 lv13 lv14 lv15 lv16 lv17 lv18 lv19 lv20 lv21 lv22 lv23 lv24 lv25 lv26 lv27 lv28 lv29 lv30 lv31 lv32 lv33 lv34 lv35 lv36 lv37 lv38 lv39 lv40 lv41 lv42 lv43 lv44 lv45 lv46 lv47 lv48 lv49 lv50 lv51 lv52 lv53 lv54 lv55 lv56 lv57 lv58 lv59 lv60 lv61 lv62 lv63 lv64 lv65 lv66 lv67 lv68 lv69 lv70 lv71 lv72 lv73 lv74 lv75 lv76 lv77 lv78 lv79 lv80 lv81 lv82 lv83 lv84 lv85 lv86 lv87 lv88 lv89 lv90 lv91 lv92 lv93 lv94 lv95 lv96 lv97 lv98 lv99 lv100 lv101 lv102 lv103 lv104 lv105 lv106 lv107 lv108 lv109 lv110 lv111 lv112 lv113 : Value} {w wc : World} {B N ga ca gl : Nat} {F : Nat → Knd} {G X : Nat → Nat} {V : Nat → Value} {n : Nat → Nat} {D0 D : Nat → Nat → Prop} {U : Nat → Value} {m : Nat → Nat} (SS : Hid (Stg kG w N 0 N ga F V n D0)) (HGS : Hid (∀ k, k < N → G (0 + k) = gl ∧ X (0 + k) = k)) (H : Hid (MN B w wc N F G X V n 0 U m D0 D)) (HM0 : Hid (∀ i, i < 0 → m i = n i + 16)) :
    Code.wp Tryz.prog (suff 9 (Tryz.f18.body.getD .skip)) (bodyPost Tryz.prog Tryz.f18 (GoodM B w D0)) ⟨(.slice (some ⟨ga, 0, none⟩) N ca :: lv1 :: lv2 :: lv3 :: lv4 :: .slice (some ⟨gl, 0, none⟩) N N :: lv6 :: lv7 :: lv8 :: lv9 :: lv10 :: lv11 :: lv12 :: lv13 :: lv14 :: lv15 :: lv16 :: lv17 :: lv18 :: lv19 :: lv20 :: lv21 :: lv22 :: lv23 :: lv24 :: lv25 :: lv26 :: lv27 :: lv28 :: lv29 :: lv30 :: lv31 :: lv32 :: lv33 :: lv34 :: lv35 :: lv36 :: lv37 :: lv38 :: lv39 :: lv40 :: lv41 :: lv42 :: lv43 :: lv44 :: lv45 :: lv46 :: lv47 :: lv48 :: lv49 :: lv50 :: lv51 :: lv52 :: lv53 :: lv54 :: lv55 :: lv56 :: lv57 :: lv58 :: lv59 :: lv60 :: lv61 :: lv62 :: lv63 :: lv64 :: lv65 :: lv66 :: lv67 :: lv68 :: lv69 :: lv70 :: lv71 :: lv72 :: lv73 :: lv74 :: lv75 :: lv76 :: lv77 :: lv78 :: lv79 :: lv80 :: lv81 :: lv82 :: lv83 :: lv84 :: lv85 :: lv86 :: lv87 :: lv88 :: lv89 :: lv90 :: lv91 :: lv92 :: lv93 :: lv94 :: lv95 :: lv96 :: lv97 :: lv98 :: lv99 :: lv100 :: lv101 :: lv102 :: lv103 :: lv104 :: lv105 :: lv106 :: lv107 :: lv108 :: lv109 :: lv110 :: lv111 :: lv112 :: lv113 :: []).toArray, []⟩ wc := by
  conv => arg 2; whnf
  refine wp_seq_k fun K hK => ?_
  have HK : Hid _ := hK
  clear hK
  have L1 := SS.out.L1
  have hOL : 0 + N ≤ N := SS.out.hO
  go_wp2_with fail
  go_loopw [6] (fun i wr => ∃ k : Nat, k ≤ N ∧ i = .int .i64 k ∧ ∃ U m D, MN B w wr N F G X V n (0 + k) U m D0 D ∧ ∀ i, i < 0 + k → m i = n i + 16) (fun i _ => N - (intOf i).toNat)
  case atStart => exact ⟨0, by omega, rfl, U, m, D, H.out, HM0.out⟩
  case round =>
    clear H HM0
    obtain ⟨k, hk, rfl, U, m, D, hM, hm⟩ := hrel
    obtain ⟨wo, hwo⟩ : ∃ wo, wo = wr := ⟨_, rfl⟩
    subst hwo
    have MW : Hid (MN B w wo N F G X V n (0 + k) U m D0 D) := hM
    have HM : Hid (∀ i, i < 0 + k → m i = n i + 16) := hm
    by_cases hlt : k < N
    · have hk6 : k < 600 := by omega
      have hOk : 0 + k < N := by omega
      have hgx := HGS.out k hlt
      have hln := SS.out.nn (0 + k)
      have c3 := hM.q.cell (SS.out.cells k hlt) SS.out.nt
      have hg3 : ga < wo.heap.size := Nat.lt_of_lt_of_le (World.block_lt_of_cell? w ⟨ga, k, none⟩ (SS.out.cells k hlt)) hM.q.size
      have o3 := hM.q.own (0 + k) hOk
      obtain ⟨nk, hnk⟩ : ∃ x, n (0 + k) = x := ⟨_, rfl⟩
      rw [hnk] at o3 hln
      obtain ⟨a2, q2, e2⟩ := row_form o3
      have HNK : Hid (n (0 + k) = nk) := hnk
      rw [e2] at c3
      have hglo := (hM.gllt (0 + k) hOk).2
      obtain ⟨⟨v9, cs⟩, cf⟩ := hM.slot (0 + k) hOk
      rw [hgx.1] at hglo
      rw [hgx.1, hgx.2] at cs cf
      have M1 := hM.start hOk
      rw [e2, hnk, hgx.1, hgx.2] at M1
      have HM1 : Hid (MN B w (wo.setCell ⟨gl, k, none⟩ (.slice a2 nk q2)) N F G X V n (0 + k + 1) (fun i => if i = 0 + k then .slice a2 nk q2 else U i) (fun i => if i = 0 + k then nk else m i) D0 D) := M1
      clear hM hm hnk e2 o3 M1 hgx
      have i0 : (0 : Int) ≤ (k : Int) := by omega
      have i1 : (k : Int) < (N : Int) := by omega
      go_wp2_with fail
      clear c3 hg3 cs cf hglo
      go_loopw [7] (fun i wr => ∃ j : Nat, j ≤ 16 ∧ i = .int .i64 j ∧ ∃ U m D, MN B w wr N F G X V n (0 + k + 1) U m D0 D ∧ (∀ i, i < 0 + k → m i = n i + 16) ∧ m (0 + k) = nk + j) (fun i _ => 16 - (intOf i).toNat)
      case atStart => exact ⟨0, by omega, rfl, _, _, _, HM1.out, fun i hi => by rw [if_neg (by omega)]; exact HM.out i hi, by rw [if_pos rfl]; rfl⟩
      case round =>
        obtain ⟨j, hj, rfl, U2, m2, D2, hM2, hm2, hmk⟩ := hrel
        have MJ : Hid (MN B w wr N F G X V n (0 + k + 1) U2 m2 D0 D2) := hM2
        have HM2 : Hid (∀ i, i < 0 + k → m2 i = n i + 16) := hm2
        have HMK : Hid (m2 (0 + k) = nk + j) := hmk
        have hgx := HGS.out k hlt
        have hcv := hM2.cell (0 + k) (by omega)
        have hglr := (hM2.gllt (0 + k) hOk).2
        have hcf := (hM2.slot (0 + k) hOk).2
        rw [hgx.1] at hglr
        rw [hgx.1, hgx.2] at hcv hcf
        have hbs : B ≤ wr.heap.size := Nat.le_trans hM2.q.base hM2.q.size
        have o4 := hM2.own (0 + k) (by omega)
        rw [hmk, SS.out.fk k hlt] at o4
        obtain ⟨a4, q4, e4⟩ := row_form o4
        have HU : Hid (U2 (0 + k) = .slice a4 (nk + j) q4) := e4
        rw [e4] at hcv o4
        have HO4 : Hid (wr.ownsRow B (kG k).e (kG k).sz (.slice a4 (nk + j) q4) (nk + j) (rep (nk + j) (kG k).c)) := o4
        have HNE : Hid (gl ∉ bl (.slice a4 (nk + j) q4)) := fun e => hM2.dgl (0 + k) gl (hM2.ud (0 + k) (by omega) gl (by rw [e4]; exact mem_bl.1 e)) (0 + k) hOk hgx.1.symm
        have HCV : Hid (wr.cell? ⟨gl, k, none⟩ = some (.slice a4 (nk + j) q4)) := hcv
        clear hM2 hm2 hmk e4 o4 hcv hgx
        by_cases hltj : j < 16
        · go_wp2_with fail
          refine r16G (base := B) hk6 hlt (by omega) hglr HCV.out hcf HO4 hbs HNE _ ?_
          intro s54 s55 s56 s57 s58 s59 s60 s61 s62 s63 s64 s65 A C wa w2 hb6 ho9 hO9 hw9 hk9
          have M6 := MJ.out.later hb6
          have M7 := M6.grow (j := 0 + k) (v := .slice a4 (nk + j) q4) (fun g hg => MJ.out.ud (0 + k) (by omega) g (by rw [HU.out]; exact hg)) hO9 (by rw [SS.out.fk k hlt]; exact hk9)
          have M8 := M7.lay (wa := wa) (x := nk + j + 1) (by rw [SS.out.fk k hlt]; exact ho9) (by rw [HU.out]; exact hw9) (fun i g hd => (M6.q.dlt i g hd).2) (fun i hi => (M6.gllt i hi).2) (Nat.le_trans MJ.out.q.size hb6.size)
          rw [(HGS.out k hlt).1, (HGS.out k hlt).2] at M8
          have I1 : Hid (∃ U m D, MN B w (w2.setCell ⟨gl, k, none⟩ (.slice A (nk + j + 1) C)) N F G X V n (0 + k + 1) U m D0 D ∧ (∀ i, i < 0 + k → m i = n i + 16) ∧ m (0 + k) = nk + (j + 1)) := ⟨_, _, _, M8, fun i hi => by rw [if_neg (by omega)]; exact HM2.out i hi, by rw [if_pos rfl]; omega⟩
          clear ho9 hb6 hO9 hw9 hk9 M6 M7 M8
          go_wp2_with fail
          go_roundw
          case rel => exact ⟨j + 1, by omega, by go_num, I1.out⟩
          case measure => simp [intOf]; omega
        · obtain rfl : j = 16 := by omega
          have I1 : Hid (∃ U m D, MN B w wr N F G X V n (0 + (k + 1)) U m D0 D ∧ ∀ i, i < 0 + (k + 1) → m i = n i + 16) := ⟨U2, m2, D2, MJ.out, fun i hi => by
            by_cases e : i = 0 + k
            · subst e; rw [HMK.out, HNK.out]
            · exact HM2.out i (by omega)⟩
          go_wp2_with fail
          go_roundw
          case rel => exact ⟨k + 1, by omega, by go_num, I1.out⟩
          case measure => simp [intOf]; omega
    · obtain rfl : N = k := by omega
      go_wp2_with fail
      refine HK.out _ _ ?_
      have H2 : MN B w wo N F G X V n (0 + N) U m D0 D := MW.out
      have HM3 := HM.out
      rw [Nat.zero_add] at H2 HM3
      exact s17 SS HGS H2 HM3

set_option maxHeartbeats 4000000 in
set_option maxRecDepth 100000 in
theorem s8 {lv1 lv2 lv3 lv4 lv5 lv6 lv7 lv8 lv9 lv10 lv11 lv12 lv13 lv14 lv15 lv16 lv17 lv18 lv19 lv20 lv21 lv22 lv23 lv24 lv25 lv26 lv27 lv28 lv29 lv30 lv31 lv32 lv33 lv34 lv35 lv36 lv37 lv38 lv39 lv40 lv41 lv42 lv43 lv44 lv45 lv46 lv47 lv48 lv49 lv50 lv51 lv52 lv53 lv54 lv55 lv56 lv57 lv58 lv59 lv60 lv61 lv62 lv63 lv64 lv65 lv66 lv67 lv68 lv69 lv70 lv71 lv72 lv73 lv74 lv75 lv76 lv77 lv78 lv79 lv80 lv81 lv82 lv83 lv84 lv85 lv86 lv87 lv88 lv89 lv90 lv91 lv92 lv93 lv94 lv95 lv96 lv97 lv98 lv99 lv100 lv101 lv102 lv103 lv104 lv105 lv106 lv107 lv108 lv109 lv110 lv111 lv112 lv113 : Value} {w wc : World} {B N ga ca : Nat} {F : Nat → Knd} {V : Nat → Value} {n : Nat → Nat} {D0 D : Nat → Nat → Prop} {C : Nat → List Value} (SS : Hid (Stg kG w N 0 N ga F V n D0)) (H0 : Hid (QN B w wc N F V n C D0 D ∧ ∀ i, i < N → C i = rep (n i) (F i).c)) :
    Code.wp Tryz.prog (suff 8 (Tryz.f18.body.getD .skip)) (bodyPost Tryz.prog Tryz.f18 (GoodM B w D0)) ⟨(.slice (some ⟨ga, 0, none⟩) N ca :: lv1 :: lv2 :: lv3 :: lv4 :: lv5 :: lv6 :: lv7 :: lv8 :: lv9 :: lv10 :: lv11 :: lv12 :: lv13 :: lv14 :: lv15 :: lv16 :: lv17 :: lv18 :: lv19 :: lv20 :: lv21 :: lv22 :: lv23 :: lv24 :: lv25 :: lv26 :: lv27 :: lv28 :: lv29 :: lv30 :: lv31 :: lv32 :: lv33 :: lv34 :: lv35 :: lv36 :: lv37 :: lv38 :: lv39 :: lv40 :: lv41 :: lv42 :: lv43 :: lv44 :: lv45 :: lv46 :: lv47 :: lv48 :: lv49 :: lv50 :: lv51 :: lv52 :: lv53 :: lv54 :: lv55 :: lv56 :: lv57 :: lv58 :: lv59 :: lv60 :: lv61 :: lv62 :: lv63 :: lv64 :: lv65 :: lv66 :: lv67 :: lv68 :: lv69 :: lv70 :: lv71 :: lv72 :: lv73 :: lv74 :: lv75 :: lv76 :: lv77 :: lv78 :: lv79 :: lv80 :: lv81 :: lv82 :: lv83 :: lv84 :: lv85 :: lv86 :: lv87 :: lv88 :: lv89 :: lv90 :: lv91 :: lv92 :: lv93 :: lv94 :: lv95 :: lv96 :: lv97 :: lv98 :: lv99 :: lv100 :: lv101 :: lv102 :: lv103 :: lv104 :: lv105 :: lv106 :: lv107 :: lv108 :: lv109 :: lv110 :: lv111 :: lv112 :: lv113 :: []).toArray, []⟩ wc := by
  conv => arg 2; whnf
  have H : Hid (QN B w wc N F V n (fun i => rep (n i) (F i).c) D0 D) := H0.out.1.congr H0.out.2
  have LN := SS.out.L1
  have hN : ∀ u : World, (Instr.makeSlice 49 (.int .i64 (N : Int)) (.int .i64 (N : Int))).run Tryz.prog u = .ok (.slice (some ⟨u.heap.size, 0, none⟩) N N) (u.alloc (.cells (madeCells #[.slice none 0 0] N) 22)) := fun u => run_make_row' 49 22 _ _ und49 info22 rfl .i64 .i64 N (by omega) (by omega) u
  have HMN : Hid (MN B w (wc.alloc (.cells (madeCells #[.slice none 0 0] N) 22)) N F (Gc wc.heap.size) Xc V n 0 (fun _ => .slice none 0 0) (fun _ => 0) D0 D) := by
    have hb := balloc wc (.cells (madeCells #[.slice none 0 0] N) 22)
    have hs := H.out.size
    refine ⟨H.out.later hb, fun i hi => made_slot (heap_alloc_new _ _) hi, fun i hi => ?_, fun i j hi hj h1 h2 => h2, fun i g hd j hj => ?_, fun i hi => by omega, fun i hi => by omega, fun i hi => by omega, by omega⟩
    · simp only [heap_alloc_size, Gc]; omega
    · have := (H.out.dlt i g hd).2; simp only [Gc]; omega
  have HGS : Hid (∀ k, k < N → Gc wc.heap.size (0 + k) = wc.heap.size ∧ Xc (0 + k) = k) := fun k hk => ⟨rfl, Nat.zero_add k⟩
  refine wp_seq_k fun K hK => ?_
  have HK : Hid _ := hK
  clear hK H H0
  go_wp2_with fail
  refine HK.out _ _ ?_
  clear HK
  exact s9 SS HGS HMN (fun i hi => by omega)

end Go.Proofs.YtemoplpfndnklaaGreatDoor
