/-
-/
import Derived.Test.YtkbefggjfggdgaaGreatJA23
import Derived.Test.YtkbefggjfggdgaaGreatP3
import Derived.Deep.RegionLaw
namespace Go.Proofs.YtkbefggjfggdgaaGreat
open Go.RowKit

set_option maxHeartbeats 4000000 in
set_option maxRecDepth 100000 in
theorem a14 {lv1 lv2 lv3 lv4 lv6 lv7 lv8 lv9 lv10 lv11 lv12 lv13 lv14 lv15 lv16 lv17 lv18 lv19 lv20 lv21 lv22 lv23 lv24 lv25 lv26 lv27 lv28 lv29 lv30 lv31 lv32 lv33 lv34 lv35 lv36 lv37 lv38 lv39 lv40 lv41 lv42 lv43 lv44 lv45 lv46 lv47 lv48 lv49 lv50 lv51 lv52 lv53 lv54 lv55 lv56 lv57 lv58 lv59 lv60 lv61 lv62 lv63 lv64 lv65 lv66 lv67 lv68 lv69 lv70 lv71 lv72 lv73 lv74 lv75 lv76 lv77 lv78 lv79 lv80 lv81 lv82 lv83 lv84 lv85 lv86 lv87 lv88 lv89 lv90 lv91 lv92 lv93 lv94 lv95 lv96 lv97 lv98 : Value} {w wc : World} {B ga n : Nat} {V : Nat → Value} (BW : Hid (Fr2 B V w wc)) (D : Hid (Duo wc ga V)) (OV : Hid (∀ i, i < 2 → Own B wc (V i) (List.replicate n (mk i)))) (hn : n ≤ 4000000) (hBw : B ≤ w.heap.size) :
    Code.wp Tryz.prog (suff 14 (Tryz.f19.body.getD .skip)) (bodyPost Tryz.prog Tryz.f19 (Good3 B V w)) ⟨(.slice (some ⟨ga, 0, none⟩) 2 2 :: lv1 :: lv2 :: lv3 :: lv4 :: .slice none 0 0 :: lv6 :: lv7 :: lv8 :: lv9 :: lv10 :: lv11 :: lv12 :: lv13 :: lv14 :: lv15 :: lv16 :: lv17 :: lv18 :: lv19 :: lv20 :: lv21 :: lv22 :: lv23 :: lv24 :: lv25 :: lv26 :: lv27 :: lv28 :: lv29 :: lv30 :: lv31 :: lv32 :: lv33 :: lv34 :: lv35 :: lv36 :: lv37 :: lv38 :: lv39 :: lv40 :: lv41 :: lv42 :: lv43 :: lv44 :: lv45 :: lv46 :: lv47 :: lv48 :: lv49 :: lv50 :: lv51 :: lv52 :: lv53 :: lv54 :: lv55 :: lv56 :: lv57 :: lv58 :: lv59 :: lv60 :: lv61 :: lv62 :: lv63 :: lv64 :: lv65 :: lv66 :: lv67 :: lv68 :: lv69 :: lv70 :: lv71 :: lv72 :: lv73 :: lv74 :: lv75 :: lv76 :: lv77 :: lv78 :: lv79 :: lv80 :: lv81 :: lv82 :: lv83 :: lv84 :: lv85 :: lv86 :: lv87 :: lv88 :: lv89 :: lv90 :: lv91 :: lv92 :: lv93 :: lv94 :: lv95 :: lv96 :: lv97 :: lv98 :: []).toArray, []⟩ wc := by
  conv => arg 2; whnf
  refine wp_seq_k fun K hK => ?_
  have HK : Hid _ := hK
  clear hK
  go_wp2_with fail
  go_loopw [5, 9] (fun m i wr => ∃ (k : Nat) (U : Nat → Value), k ≤ 2 ∧ i = .int .i64 k ∧ P3 B w wr ga V n k m U) (fun _ i _ => 2 - (intOf i).toNat)
  case atStart => exact ⟨0, fun _ => .slice none 0 0, by omega, rfl, ⟨D.out, BW.out, fun i hi => (OV.out i hi).bs, fun i hi _ => OV.out i hi, World.ownsRow_nil _ _ _ _, fun i hi => by omega, by simp [Value.ownBlock], fun i hi g hg => by simp [Value.ownBlock] at hg, fun i hi => by omega, fun i hi => by omega, fun i hi _ j hj => by omega⟩⟩
  case round =>
    obtain ⟨k, U, hk, rfl, hp⟩ := hrel
    obtain ⟨wo, hwo⟩ : ∃ wo, wo = wr := ⟨_, rfl⟩
    subst hwo
    have P : Hid (P3 B w wo ga V n k u5 U) := hp
    clear hp
    have hBo : B ≤ wo.heap.size := by
      have := P.out.below.below.size
      omega
    by_cases hlt : k < 2
    · have c1 := P.out.duo.cell k hlt
      have ho := P.out.own k hlt (Nat.le_refl _)
      obtain ⟨v, hv⟩ : ∃ v, V k = v := ⟨_, rfl⟩
      rw [hv] at c1 ho
      have I0 : Hid (In3 B wo wo v v n 0 k) := ⟨by simpa using ho, .inl rfl, ho.bs, Only.refl _ _⟩
      have HV : Hid (Own B wo v (List.replicate n (mk k))) := ho
      have HVE : Hid (V k = v) := hv
      clear ho hv
      have k1 : (0 : Int) ≤ (k : Int) := by omega
      have k2 : (k : Int) < 2 := by omega
      go_wp2_with fail
      go_loopw [10, 11] (fun g i wr => ∃ j : Nat, j ≤ 40 ∧ i = .int .i64 j ∧ In3 B wo wr v g n j k) (fun _ i _ => 40 - (intOf i).toNat)
      case atStart => exact ⟨0, by omega, rfl, I0.out⟩
      case round =>
        obtain ⟨j, hj, rfl, hi3⟩ := hrel
        have I3 : Hid (In3 B wo wr v u10 n j k) := hi3
        have hz : B ≤ wr.heap.size := by have := hi3.only.size; omega
        clear hi3
        by_cases hltj : j < 40
        · have hl : (List.replicate (n + j) (mk k)).length + 1 ≤ 8796093022208 := by simp; omega
          have HL : Hid ((List.replicate (n + j) (mk k)).length + 1 ≤ 8796093022208) := hl
          clear hl
          go_wp2_with fail
          refine (mark_any k _ (by omega)).mono ?_
          rintro e w1 ⟨rfl, rfl⟩
          go_wp2_with (at_builtin; refine app_put (base := B) (mk k) I3.out.own HL.out hz rfl (.tmp 66) (.tmp 69) rfl rfl rfl ?_; intro v' w' ho hc)
          have I5 : Hid (In3 B wo w' v v' n (j + 1) k) := in3_step I3.out HV.out ho hc
          clear ho hc
          go_wp2_with fail
          go_roundw
          case rel => exact ⟨j + 1, by omega, by go_num, I5.out⟩
          case measure => simp [intOf]; omega
        · obtain rfl : j = 40 := by omega
          obtain ⟨ag, cg, ng, hng, rfl⟩ := I3.out.own.bs.len'
          clear hng
          have I40 : Hid (In3 B wo wr (V k) (.slice ag ng cg) n 40 k) := by rw [HVE.out]; exact I3.out
          have hzw : w.heap.size ≤ wr.heap.size := by have := I3.out.only.size; have := P.out.below.below.size; omega
          have HMO : Hid (wr.ownsRow w.heap.size 23 1 u5 k ((List.range k).map U)) := by
            have h1 := P.out.more
            refine ⟨h1.1, ?_⟩
            rcases h1.2 with ⟨e, h0⟩ | ⟨g, cap, cur, e, hb, hg, hr⟩
            · exact .inl ⟨e, h0⟩
            · refine .inr ⟨g, cap, cur, e, hb, ?_, hr⟩
              rw [I40.out.only.block g (Array.getElem?_eq_some_iff.1 hg).1 (fun e2 => ?_)]
              · exact hg
              · exact P.out.mV k hlt g (by rw [e]; rfl) (mem_bl.1 e2)
          go_wp2_with (at_builtin; refine app_more (base := w.heap.size) (k := k) (xs := (List.range k).map U) (g := .slice ag ng cg) rfl HMO.out (by omega) hzw rfl (.tmp 71) (.tmp 73) rfl rfl rfl ?_; intro m' w' hm hg hw)
          have P5 : Hid (P3 B w w' ga V n (k + 1) m' (fun i => if i = k then .slice ag ng cg else U i)) := p3_next P.out hlt I40.out hBo hBw hm hg hw
          clear hm hg hw
          go_wp2_with fail
          go_roundw
          case rel => exact ⟨k + 1, _, by omega, by go_num, P5.out⟩
          case measure => simp [intOf]; omega
    · obtain rfl : k = 2 := by omega
      have hm := P.out.more
      rcases hm.2 with ⟨_, h0⟩ | ⟨gm, cm, cur, rfl, hbg, hgm, hnc, _, _, _⟩
      · exact absurd h0 (by omega)
      · have CU : Hid (∀ i, i < 2 → wo.cell? ⟨gm, i, none⟩ = some (U i)) := fun i hi => by
          have := World.ownsRow.cells hm (g := gm) rfl i (U i) (by simp [hi])
          rw [add_lit, Nat.zero_add] at this
          exact this
        have hgl : gm < wo.heap.size := (Array.getElem?_eq_some_iff.1 hgm).1
        clear hm hgm
        go_wp2_with fail
        refine HK.out _ _ ?_
        exact a23 P.out.below P.out.duo P.out.ss hgl CU P.out.su hn hBo

end Go.Proofs.YtkbefggjfggdgaaGreat

namespace Go.Proofs.YtkbefggjfggdgaaGreat
open Go.RowKit

set_option maxHeartbeats 4000000 in
set_option maxRecDepth 100000 in
theorem r13 {lv1 lv2 lv3 lv4 lv5 lv6 lv9 lv10 lv11 lv12 lv13 lv14 lv15 lv16 lv17 lv18 lv19 lv20 lv21 lv22 lv23 lv24 lv25 lv26 lv27 lv28 lv29 lv30 lv31 lv32 lv33 lv34 lv35 lv36 lv37 lv38 lv39 lv40 lv41 lv42 lv43 lv44 lv45 lv46 lv47 lv48 lv49 lv50 lv51 lv52 lv53 lv54 lv55 lv56 lv57 lv58 lv59 lv60 lv61 lv62 lv63 lv64 lv65 lv66 lv67 lv68 lv69 lv70 lv71 lv72 lv73 lv74 lv75 lv76 lv77 lv78 lv79 lv80 lv81 lv82 lv83 lv84 lv85 lv86 lv87 lv88 lv89 lv90 lv91 lv92 lv93 lv94 lv95 lv96 lv97 lv98 : Value} {wr : World} {ga k j g n c : Nat} {p : List UInt8} (hlt : k < 2) (hj : j < n) (hcv : wr.cell? ⟨ga, k, none⟩ = some (.slice (some ⟨g, 0, none⟩) n c)) (hct : wr.cell? ⟨g, j, none⟩ = some (.string (bs p))) (hcf : wr.frozen? ⟨g, j, none⟩ = false) (Q : Exit → Act → World → Prop)
    (hQ : ∀ (s44 s45 s46 s47 s48 s49 s50 s51 : Value) (w2 : World), (∃ q, w2 = wr.drewN q) → Q .normal ⟨(.slice (some ⟨ga, 0, none⟩) 2 2 :: lv1 :: lv2 :: lv3 :: lv4 :: lv5 :: lv6 :: .int .i64 ((k : Nat) : Int) :: .int .i64 ((j : Nat) : Int) :: lv9 :: lv10 :: lv11 :: lv12 :: lv13 :: lv14 :: lv15 :: lv16 :: lv17 :: lv18 :: lv19 :: lv20 :: lv21 :: lv22 :: lv23 :: lv24 :: lv25 :: lv26 :: lv27 :: lv28 :: lv29 :: lv30 :: lv31 :: lv32 :: lv33 :: lv34 :: lv35 :: lv36 :: lv37 :: lv38 :: lv39 :: lv40 :: lv41 :: lv42 :: lv43 :: s44 :: s45 :: s46 :: s47 :: s48 :: s49 :: s50 :: s51 :: lv52 :: lv53 :: lv54 :: lv55 :: lv56 :: lv57 :: lv58 :: lv59 :: lv60 :: lv61 :: lv62 :: lv63 :: lv64 :: lv65 :: lv66 :: lv67 :: lv68 :: lv69 :: lv70 :: lv71 :: lv72 :: lv73 :: lv74 :: lv75 :: lv76 :: lv77 :: lv78 :: lv79 :: lv80 :: lv81 :: lv82 :: lv83 :: lv84 :: lv85 :: lv86 :: lv87 :: lv88 :: lv89 :: lv90 :: lv91 :: lv92 :: lv93 :: lv94 :: lv95 :: lv96 :: lv97 :: lv98 :: []).toArray, []⟩ (w2.setCell ⟨g, j, none⟩ (.string (bs (mk k))))) :
    Code.wp Tryz.prog ((findReg 13 (Tryz.f19.body.getD .skip)).getD .skip) Q ⟨(.slice (some ⟨ga, 0, none⟩) 2 2 :: lv1 :: lv2 :: lv3 :: lv4 :: lv5 :: lv6 :: .int .i64 ((k : Nat) : Int) :: .int .i64 ((j : Nat) : Int) :: lv9 :: lv10 :: lv11 :: lv12 :: lv13 :: lv14 :: lv15 :: lv16 :: lv17 :: lv18 :: lv19 :: lv20 :: lv21 :: lv22 :: lv23 :: lv24 :: lv25 :: lv26 :: lv27 :: lv28 :: lv29 :: lv30 :: lv31 :: lv32 :: lv33 :: lv34 :: lv35 :: lv36 :: lv37 :: lv38 :: lv39 :: lv40 :: lv41 :: lv42 :: lv43 :: lv44 :: lv45 :: lv46 :: lv47 :: lv48 :: lv49 :: lv50 :: lv51 :: lv52 :: lv53 :: lv54 :: lv55 :: lv56 :: lv57 :: lv58 :: lv59 :: lv60 :: lv61 :: lv62 :: lv63 :: lv64 :: lv65 :: lv66 :: lv67 :: lv68 :: lv69 :: lv70 :: lv71 :: lv72 :: lv73 :: lv74 :: lv75 :: lv76 :: lv77 :: lv78 :: lv79 :: lv80 :: lv81 :: lv82 :: lv83 :: lv84 :: lv85 :: lv86 :: lv87 :: lv88 :: lv89 :: lv90 :: lv91 :: lv92 :: lv93 :: lv94 :: lv95 :: lv96 :: lv97 :: lv98 :: []).toArray, []⟩ wr := by
  conv => arg 2; whnf
  have HQ : Hid _ := hQ
  clear hQ
  have i0 : (0 : Int) ≤ (k : Int) := by omega
  have i1 : (k : Int) < 2 := by omega
  have i2 : (0 : Int) ≤ (j : Int) := by omega
  have i3 : (j : Int) < (n : Int) := by omega
  refine wp_region_noPanic ?_
  go_region_law (refine step_mark rfl (.tmp 49) rfl k (by omega) rfl ?_)
  all_goals exact NoPanic.normal (HQ.out _ _ _ _ _ _ _ _ _ ⟨1, rfl⟩)
end Go.Proofs.YtkbefggjfggdgaaGreat
