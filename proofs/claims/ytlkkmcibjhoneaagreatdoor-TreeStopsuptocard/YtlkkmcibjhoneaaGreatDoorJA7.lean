import Derived.Test.YtlkkmcibjhoneaaGreatDoorJP3
import Derived.Deep.RegionLaw
namespace Go.Proofs.YtlkkmcibjhoneaaGreatDoor
open Go.RowKit

set_option maxHeartbeats 4000000 in
set_option maxRecDepth 100000 in
theorem a14 {lv1 lv2 lv3 lv4 lv6 lv7 lv8 lv9 lv10 lv11 lv12 lv13 lv14 lv15 lv16 lv17 lv18 lv19 lv20 lv21 lv22 lv23 lv24 lv25 lv26 lv27 lv28 lv29 lv30 lv31 lv32 lv33 lv34 lv35 lv36 lv37 lv38 lv39 lv40 lv41 lv42 lv43 lv44 lv45 lv46 lv47 lv48 lv49 lv50 lv51 lv52 lv53 lv54 lv55 lv56 lv57 lv58 lv59 lv60 lv61 lv62 lv63 lv64 lv65 lv66 lv67 lv68 lv69 lv70 lv71 lv72 lv73 lv74 lv75 lv76 lv77 lv78 lv79 lv80 lv81 lv82 lv83 lv84 lv85 lv86 lv87 lv88 lv89 lv90 lv91 lv92 lv93 lv94 lv95 lv96 lv97 lv98 : Value} {w wc : World} {B ga n : Nat} {V : Nat → Value} (BW : Hid (Fr2 B V w wc)) (D : Hid (Duo wc ga V)) (OV : Hid (∀ i, i < 2 → Oww B wc (V i) (List.replicate n (mk i)))) (hn : n ≤ 4000000) (hBw : B ≤ w.heap.size) :
    Code.wp Tryz.prog (suff 14 (Tryz.f22.body.getD .skip)) (bodyPost Tryz.prog Tryz.f22 (Good3 B V w)) ⟨(.slice (some ⟨ga, 0, none⟩) 2 2 :: lv1 :: lv2 :: lv3 :: lv4 :: .slice none 0 0 :: lv6 :: lv7 :: lv8 :: lv9 :: lv10 :: lv11 :: lv12 :: lv13 :: lv14 :: lv15 :: lv16 :: lv17 :: lv18 :: lv19 :: lv20 :: lv21 :: lv22 :: lv23 :: lv24 :: lv25 :: lv26 :: lv27 :: lv28 :: lv29 :: lv30 :: lv31 :: lv32 :: lv33 :: lv34 :: lv35 :: lv36 :: lv37 :: lv38 :: lv39 :: lv40 :: lv41 :: lv42 :: lv43 :: lv44 :: lv45 :: lv46 :: lv47 :: lv48 :: lv49 :: lv50 :: lv51 :: lv52 :: lv53 :: lv54 :: lv55 :: lv56 :: lv57 :: lv58 :: lv59 :: lv60 :: lv61 :: lv62 :: lv63 :: lv64 :: lv65 :: lv66 :: lv67 :: lv68 :: lv69 :: lv70 :: lv71 :: lv72 :: lv73 :: lv74 :: lv75 :: lv76 :: lv77 :: lv78 :: lv79 :: lv80 :: lv81 :: lv82 :: lv83 :: lv84 :: lv85 :: lv86 :: lv87 :: lv88 :: lv89 :: lv90 :: lv91 :: lv92 :: lv93 :: lv94 :: lv95 :: lv96 :: lv97 :: lv98 :: []).toArray, []⟩ wc := by
  conv => arg 2; whnf
  refine wp_seq_k fun K hK => ?_
  have HK : Hid _ := hK
  clear hK
  go_wp2_with fail
  go_loopw [5, 9] (fun m i wr => ∃ (k : Nat) (U : Nat → Value), k ≤ 2 ∧ i = .int .i64 k ∧ P3 B w wr ga V n k m U) (fun _ i _ => 2 - (intOf i).toNat)
  case atStart => exact ⟨0, fun _ => .slice none 0 0, by omega, rfl, ⟨D.out, BW.out, fun i hi => (OV.out i hi).bs, fun i hi _ => OV.out i hi, World.ownsRow_nil _ _ _ _, fun i hi => by omega, by simp [Value.ownBlock], fun i hi g hg => by simp [Value.ownBlock] at hg, fun i hi => by omega, fun i hi => by omega, fun i hi _ j hj => by omega⟩⟩
  case round =>
    obtain ⟨k, U, hk, rfl, hp⟩ := hrel
    obtain ⟨wo, hwo⟩ : ∃ wo, wo = wr := ⟨_, rfl⟩
    subst hwo
    have P : Hid (P3 B w wo ga V n k u5 U) := hp
    clear hp
    have hBo : B ≤ wo.heap.size := by
      have := P.out.below.below.size
      omega
    by_cases hlt : k < 2
    · have c1 := P.out.duo.cell k hlt
      have ho := P.out.own k hlt (Nat.le_refl _)
      obtain ⟨v, hv⟩ : ∃ v, V k = v := ⟨_, rfl⟩
      rw [hv] at c1 ho
      have I0 : Hid (In3 B wo wo v v n 0 k) := ⟨by simpa using ho, (by obtain ⟨a, c, e⟩ := ho.len; exact .inl ⟨a, _, c, _, c, e, e⟩), ho.bs, Only.refl _ _⟩
      have HV : Hid (Oww B wo v (List.replicate n (mk k))) := ho
      have HVE : Hid (V k = v) := hv
      clear ho hv
      have k1 : (0 : Int) ≤ (k : Int) := by omega
      have k2 : (k : Int) < 2 := by omega
      go_wp2_with fail
      go_loopw [10, 11] (fun g i wr => ∃ j : Nat, j ≤ 40 ∧ i = .int .i64 j ∧ In3 B wo wr v g n j k) (fun _ i _ => 40 - (intOf i).toNat)
      case atStart => exact ⟨0, by omega, rfl, I0.out⟩
      case round =>
        obtain ⟨j, hj, rfl, hi3⟩ := hrel
        have I3 : Hid (In3 B wo wr v u10 n j k) := hi3
        have hz : B ≤ wr.heap.size := by have := hi3.only.size; omega
        clear hi3
        by_cases hltj : j < 40
        · have hl : (List.replicate (n + j) (mk k)).length + 1 ≤ 8796093022208 := by simp; omega
          have HL : Hid ((List.replicate (n + j) (mk k)).length + 1 ≤ 8796093022208) := hl
          clear hl
          go_wp2_with fail
          refine (mark_any k _ (by omega)).mono ?_
          rintro e w1 ⟨rfl, rfl⟩
          go_wp2_with (at_builtin; refine app_putW (base := B) (mk k) I3.out.own HL.out hz rfl (.tmp 66) (.tmp 69) rfl rfl rfl ?_; intro v' w' ho hc)
          have I5 : Hid (In3 B wo w' v v' n (j + 1) k) := in3_step I3.out HV.out ho hc
          clear ho hc
          go_wp2_with fail
          go_roundw
          case rel => exact ⟨j + 1, by omega, by go_num, I5.out⟩
          case measure => simp [intOf]; omega
        · obtain rfl : j = 40 := by omega
          obtain ⟨ag, cg, ng, hng, rfl⟩ := I3.out.own.bs.len'
          clear hng
          have I40 : Hid (In3 B wo wr (V k) (.slice ag ng cg) n 40 k) := by rw [HVE.out]; exact I3.out
          have hzw : w.heap.size ≤ wr.heap.size := by have := I3.out.only.size; have := P.out.below.below.size; omega
          have HMO : Hid (wr.ownsRow w.heap.size 42 1 u5 k ((List.range k).map U)) := by
            have h1 := P.out.more
            refine ⟨h1.1, ?_⟩
            rcases h1.2 with ⟨e, h0⟩ | ⟨g, cap, cur, e, hb, hg, hr⟩
            · exact .inl ⟨e, h0⟩
            · refine .inr ⟨g, cap, cur, e, hb, ?_, hr⟩
              rw [I40.out.only.block g (Array.getElem?_eq_some_iff.1 hg).1 (fun e2 => ?_)]
              · exact hg
              · exact P.out.mV k hlt g (by rw [e]; rfl) (mem_bl.1 e2)
          go_wp2_with (at_builtin; refine app_more (base := w.heap.size) (k := k) (xs := (List.range k).map U) (g := .slice ag ng cg) rfl HMO.out (by omega) hzw rfl (.tmp 71) (.tmp 73) rfl rfl rfl ?_; intro m' w' hm hg hw)
          have P5 : Hid (P3 B w w' ga V n (k + 1) m' (fun i => if i = k then .slice ag ng cg else U i)) := p3_next P.out hlt I40.out hBo hBw hm hg hw
          clear hm hg hw
          go_wp2_with fail
          go_roundw
          case rel => exact ⟨k + 1, _, by omega, by go_num, P5.out⟩
          case measure => simp [intOf]; omega
    · obtain rfl : k = 2 := by omega
      have hm := P.out.more
      rcases hm.2 with ⟨_, h0⟩ | ⟨gm, cm, cur, rfl, hbg, hgm, hnc, _, _, _⟩
      · exact absurd h0 (by omega)
      · have CU : Hid (∀ i, i < 2 → wo.cell? ⟨gm, i, none⟩ = some (U i)) := fun i hi => by
          have := World.ownsRow.cells hm (g := gm) rfl i (U i) (by simp [hi])
          rw [add_lit, Nat.zero_add] at this
          exact this
        have hgl : gm < wo.heap.size := (Array.getElem?_eq_some_iff.1 hgm).1
        clear hm hgm
        go_wp2_with fail
        refine HK.out _ _ ?_
        exact a23 P.out.below P.out.duo P.out.ss hgl CU P.out.su hn hBo

end Go.Proofs.YtlkkmcibjhoneaaGreatDoor

namespace Go.Proofs.YtlkkmcibjhoneaaGreatDoor
open Go.RowKit

set_option maxHeartbeats 4000000 in
set_option maxRecDepth 100000 in
theorem r13 {lv1 lv2 lv3 lv4 lv5 lv6 lv9 lv10 lv11 lv12 lv13 lv14 lv15 lv16 lv17 lv18 lv19 lv20 lv21 lv22 lv23 lv24 lv25 lv26 lv27 lv28 lv29 lv30 lv31 lv32 lv33 lv34 lv35 lv36 lv37 lv38 lv39 lv40 lv41 lv42 lv43 lv44 lv45 lv46 lv47 lv48 lv49 lv50 lv51 lv52 lv53 lv54 lv55 lv56 lv57 lv58 lv59 lv60 lv61 lv62 lv63 lv64 lv65 lv66 lv67 lv68 lv69 lv70 lv71 lv72 lv73 lv74 lv75 lv76 lv77 lv78 lv79 lv80 lv81 lv82 lv83 lv84 lv85 lv86 lv87 lv88 lv89 lv90 lv91 lv92 lv93 lv94 lv95 lv96 lv97 lv98 : Value} {wr : World} {ga k j g off n c : Nat} {p : List UInt8} (hlt : k < 2) (hj : j < n) (hcv : wr.cell? ⟨ga, k, none⟩ = some (.slice (some ⟨g, off, none⟩) n c)) (hct : wr.cell? ⟨g, off + j, none⟩ = some (.string (bs p))) (hcf : wr.frozen? ⟨g, off + j, none⟩ = false) (Q : Exit → Act → World → Prop)
    (hQ : ∀ (s44 s45 s46 s47 s48 s49 s50 s51 : Value) (w2 : World), (∃ q, w2 = wr.drewN q) → Q .normal ⟨(.slice (some ⟨ga, 0, none⟩) 2 2 :: lv1 :: lv2 :: lv3 :: lv4 :: lv5 :: lv6 :: .int .i64 ((k : Nat) : Int) :: .int .i64 ((j : Nat) : Int) :: lv9 :: lv10 :: lv11 :: lv12 :: lv13 :: lv14 :: lv15 :: lv16 :: lv17 :: lv18 :: lv19 :: lv20 :: lv21 :: lv22 :: lv23 :: lv24 :: lv25 :: lv26 :: lv27 :: lv28 :: lv29 :: lv30 :: lv31 :: lv32 :: lv33 :: lv34 :: lv35 :: lv36 :: lv37 :: lv38 :: lv39 :: lv40 :: lv41 :: lv42 :: lv43 :: s44 :: s45 :: s46 :: s47 :: s48 :: s49 :: s50 :: s51 :: lv52 :: lv53 :: lv54 :: lv55 :: lv56 :: lv57 :: lv58 :: lv59 :: lv60 :: lv61 :: lv62 :: lv63 :: lv64 :: lv65 :: lv66 :: lv67 :: lv68 :: lv69 :: lv70 :: lv71 :: lv72 :: lv73 :: lv74 :: lv75 :: lv76 :: lv77 :: lv78 :: lv79 :: lv80 :: lv81 :: lv82 :: lv83 :: lv84 :: lv85 :: lv86 :: lv87 :: lv88 :: lv89 :: lv90 :: lv91 :: lv92 :: lv93 :: lv94 :: lv95 :: lv96 :: lv97 :: lv98 :: []).toArray, []⟩ (w2.setCell ⟨g, off + j, none⟩ (.string (bs (mk k))))) :
    Code.wp Tryz.prog ((findReg 13 (Tryz.f22.body.getD .skip)).getD .skip) Q ⟨(.slice (some ⟨ga, 0, none⟩) 2 2 :: lv1 :: lv2 :: lv3 :: lv4 :: lv5 :: lv6 :: .int .i64 ((k : Nat) : Int) :: .int .i64 ((j : Nat) : Int) :: lv9 :: lv10 :: lv11 :: lv12 :: lv13 :: lv14 :: lv15 :: lv16 :: lv17 :: lv18 :: lv19 :: lv20 :: lv21 :: lv22 :: lv23 :: lv24 :: lv25 :: lv26 :: lv27 :: lv28 :: lv29 :: lv30 :: lv31 :: lv32 :: lv33 :: lv34 :: lv35 :: lv36 :: lv37 :: lv38 :: lv39 :: lv40 :: lv41 :: lv42 :: lv43 :: lv44 :: lv45 :: lv46 :: lv47 :: lv48 :: lv49 :: lv50 :: lv51 :: lv52 :: lv53 :: lv54 :: lv55 :: lv56 :: lv57 :: lv58 :: lv59 :: lv60 :: lv61 :: lv62 :: lv63 :: lv64 :: lv65 :: lv66 :: lv67 :: lv68 :: lv69 :: lv70 :: lv71 :: lv72 :: lv73 :: lv74 :: lv75 :: lv76 :: lv77 :: lv78 :: lv79 :: lv80 :: lv81 :: lv82 :: lv83 :: lv84 :: lv85 :: lv86 :: lv87 :: lv88 :: lv89 :: lv90 :: lv91 :: lv92 :: lv93 :: lv94 :: lv95 :: lv96 :: lv97 :: lv98 :: []).toArray, []⟩ wr := by
  conv => arg 2; whnf
  have HQ : Hid _ := hQ
  clear hQ
  have i0 : (0 : Int) ≤ (k : Int) := by omega
  have i1 : (k : Int) < 2 := by omega
  have i2 : (0 : Int) ≤ (j : Int) := by omega
  have i3 : (j : Int) < (n : Int) := by omega
  refine wp_region_noPanic ?_
  go_region_law (refine step_mark rfl (.tmp 49) rfl k (by omega) rfl ?_)
  all_goals exact NoPanic.normal (HQ.out _ _ _ _ _ _ _ _ _ ⟨1, rfl⟩)
end Go.Proofs.YtlkkmcibjhoneaaGreatDoor

namespace Go.Proofs.YtlkkmcibjhoneaaGreatDoor
open Go.RowKit

set_option maxHeartbeats 4000000 in
set_option maxRecDepth 100000 in
theorem a7 {lv1 lv2 lv3 lv4 lv6 lv7 lv8 lv9 lv10 lv11 lv12 lv13 lv14 lv15 lv16 lv17 lv18 lv19 lv20 lv21 lv22 lv23 lv24 lv25 lv26 lv27 lv28 lv29 lv30 lv31 lv32 lv33 lv34 lv35 lv36 lv37 lv38 lv39 lv40 lv41 lv42 lv43 lv44 lv45 lv46 lv47 lv48 lv49 lv50 lv51 lv52 lv53 lv54 lv55 lv56 lv57 lv58 lv59 lv60 lv61 lv62 lv63 lv64 lv65 lv66 lv67 lv68 lv69 lv70 lv71 lv72 lv73 lv74 lv75 lv76 lv77 lv78 lv79 lv80 lv81 lv82 lv83 lv84 lv85 lv86 lv87 lv88 lv89 lv90 lv91 lv92 lv93 lv94 lv95 lv96 lv97 lv98 : Value} {w wc : World} {B ga n : Nat} {V : Nat → Value} {R : List (List UInt8)} (BW : Hid (Fr2 B V w wc)) (D : Hid (Duo wc ga V)) (OV : Hid (∀ i, i < 2 → Oww B wc (V i) R)) (HRN : Hid (R.length = n)) (hn : n ≤ 4000000) (hBw : B ≤ w.heap.size) :
    Code.wp Tryz.prog (suff 7 (Tryz.f22.body.getD .skip)) (bodyPost Tryz.prog Tryz.f22 (Good3 B V w)) ⟨(.slice (some ⟨ga, 0, none⟩) 2 2 :: lv1 :: lv2 :: lv3 :: lv4 :: .slice none 0 0 :: lv6 :: lv7 :: lv8 :: lv9 :: lv10 :: lv11 :: lv12 :: lv13 :: lv14 :: lv15 :: lv16 :: lv17 :: lv18 :: lv19 :: lv20 :: lv21 :: lv22 :: lv23 :: lv24 :: lv25 :: lv26 :: lv27 :: lv28 :: lv29 :: lv30 :: lv31 :: lv32 :: lv33 :: lv34 :: lv35 :: lv36 :: lv37 :: lv38 :: lv39 :: lv40 :: lv41 :: lv42 :: lv43 :: lv44 :: lv45 :: lv46 :: lv47 :: lv48 :: lv49 :: lv50 :: lv51 :: lv52 :: lv53 :: lv54 :: lv55 :: lv56 :: lv57 :: lv58 :: lv59 :: lv60 :: lv61 :: lv62 :: lv63 :: lv64 :: lv65 :: lv66 :: lv67 :: lv68 :: lv69 :: lv70 :: lv71 :: lv72 :: lv73 :: lv74 :: lv75 :: lv76 :: lv77 :: lv78 :: lv79 :: lv80 :: lv81 :: lv82 :: lv83 :: lv84 :: lv85 :: lv86 :: lv87 :: lv88 :: lv89 :: lv90 :: lv91 :: lv92 :: lv93 :: lv94 :: lv95 :: lv96 :: lv97 :: lv98 :: []).toArray, []⟩ wc := by
  conv => arg 2; whnf
  refine wp_seq_k fun K hK => ?_
  have HK : Hid _ := hK
  clear hK
  go_wp2_with fail
  go_loopw [7] (fun i wr => ∃ k : Nat, k ≤ 2 ∧ i = .int .i64 k ∧ Duo wr ga V ∧ Fr2 B V w wr ∧ ∀ i, i < 2 → Oww B wr (V i) (if i < k then List.replicate n (mk i) else R)) (fun i _ => 2 - (intOf i).toNat)
  case atStart => exact ⟨0, by omega, rfl, D.out, BW.out, fun i hi => by simpa using OV.out i hi⟩
  case round =>
    obtain ⟨k, hk, rfl, hd, hbw, hov⟩ := hrel
    obtain ⟨wo, hwo⟩ : ∃ wo, wo = wr := ⟨_, rfl⟩
    subst hwo
    have DO : Hid (Duo wo ga V) := hd
    have BO : Hid (Fr2 B V w wo) := hbw
    have OO : Hid (∀ i, i < 2 → Oww B wo (V i) (if i < k then List.replicate n (mk i) else R)) := hov
    have hBo : B ≤ wo.heap.size := by have := hbw.below.size; omega
    clear hd hbw hov
    by_cases hlt : k < 2
    · have ho : Oww B wo (V k) R := by have := OO.out k hlt; simpa using this
      have hVB : ∀ x, x ∈ bl (V k) → B ≤ x := fun x hx => (ho.lt (mem_bl.1 hx)).1
      have hgan : ga ∉ bl (V k) := fun e => DO.out.ne k hlt (mem_bl.1 e)
      have HVB : Hid (∀ x, x ∈ bl (V k) → B ≤ x) := hVB
      obtain ⟨a, c, m, hm, hv⟩ := ho.bs.len'
      have hmn : m = n := by rw [hm, HRN.out]
      subst hmn
      have HO : Hid (Oww B wo (V k) R) := ho
      have HV : Hid (V k = .slice a m c) := hv
      have k1 : (0 : Int) ≤ (k : Int) := by omega
      have k2 : (k : Int) < 2 := by omega
      clear ho hVB hm hv
      go_wp2_with fail
      go_loopw [8] (fun i wr => ∃ j : Nat, j ≤ m ∧ i = .int .i64 j ∧ Only (bl (V k)) wo wr ∧ Oww B wr (V k) (List.replicate j (mk k) ++ R.drop j)) (fun i _ => m - (intOf i).toNat)
      case atStart => exact ⟨0, by omega, rfl, Only.refl _ _, by simpa using HO.out⟩
      case round =>
        obtain ⟨j, hj, rfl, hon, how⟩ := hrel
        have HON : Hid (Only (bl (V k)) wo wr) := hon
        have HOW : Hid (Oww B wr (V k) (List.replicate j (mk k) ++ R.drop j)) := how
        have c1 : wr.cell? ⟨ga, k, none⟩ = some (.slice a m c) := by rw [← HV.out]; exact (DO.out.only hon hgan).cell k hlt
        have hgal := (DO.out.only hon hgan).galt
        have hz := hon.size
        clear hon how
        by_cases hltj : j < m
        · rcases HO.out.form with ⟨_, h0⟩ | ⟨g, off, c', e, hle, hbg, hgl⟩
          · have := HRN.out; rw [h0] at this; simp at this; omega
          · rw [HV.out] at e
            injection e with e1 e2 e3
            subst e1
            subst e3
            clear e2
            have how := HOW.out
            rw [HV.out] at how
            have hlen : (List.replicate j (mk k) ++ R.drop j).length = m := by have := HRN.out; simp; omega
            obtain ⟨hc, hf, _, hgl2⟩ := ww_cell how j (by omega)
            have HGV : Hid (bl (V k) = [g]) := by rw [HV.out]; rfl
            obtain ⟨p, hp⟩ : ∃ p, (List.replicate j (mk k) ++ R.drop j)[j]'(by omega) = p := ⟨_, rfl⟩
            rw [hp] at hc
            have hset : (List.replicate j (mk k) ++ R.drop j).set j (mk k) = List.replicate (j + 1) (mk k) ++ R.drop (j + 1) := by
              have hjR : j < R.length := by have := HRN.out; omega
              rw [List.drop_eq_getElem_cons hjR, List.set_append_right _ _ (by simp), List.length_replicate, Nat.sub_self, List.set_cons_zero, List.replicate_succ', List.append_assoc]
              rfl
            have HSET : Hid ((List.replicate j (mk k) ++ R.drop j).set j (mk k) = List.replicate (j + 1) (mk k) ++ R.drop (j + 1)) := hset
            clear hset
            have HOW2 : Hid (Oww B wr (.slice (some ⟨g, off, none⟩) m c) (List.replicate j (mk k) ++ R.drop j)) := how
            have HLEN : Hid ((List.replicate j (mk k) ++ R.drop j).length = m) := hlen
            clear how hlen hp
            go_wp2_with fail
            refine r13 hlt hltj c1 hc hf _ ?_
            rintro s44 s45 s46 s47 s48 s49 s50 s51 w2 ⟨q, rfl⟩
            have H5 : Hid (Only (bl (V k)) wo ((wr.drewN q).setCell ⟨g, off + j, none⟩ (.string (bs (mk k)))) ∧ Oww B ((wr.drewN q).setCell ⟨g, off + j, none⟩ (.string (bs (mk k)))) (V k) (List.replicate (j + 1) (mk k) ++ R.drop (j + 1))) := by
              refine ⟨(HON.out.trans (Only.drew _ wr q)).trans (by rw [HGV.out]; exact Only.set _ _ _ _), ?_⟩
              rw [HV.out, ← HSET.out]
              exact ww_set (HOW2.out.later (bd _ _)) j (by rw [HLEN.out]; exact hltj) (mk k)
            clear c1 hc hf
            go_wp2_with fail
            go_roundw
            case rel => exact ⟨j + 1, by omega, by go_num, H5.out.1, H5.out.2⟩
            case measure => simp [intOf]; omega
        · obtain rfl : j = m := by omega
          have hRd : R.drop j = [] := List.drop_eq_nil_of_le (by have := HRN.out; omega)
          have hE : Oww B wr (V k) (List.replicate j (mk k)) := by
            have := HOW.out
            rw [hRd, List.append_nil] at this
            exact this
          have R5 : Hid (Duo wr ga V ∧ Fr2 B V w wr ∧ ∀ i, i < 2 → Oww B wr (V i) (if i < k + 1 then List.replicate j (mk i) else R)) := by
            refine ⟨DO.out.only HON.out hgan, ⟨below_trans BO.out.below (HON.out.below hBo HVB.out), BO.out.only.trans (HON.out.mono (bl_two hlt))⟩, fun i hi => ?_⟩
            by_cases hik : i = k
            · subst hik
              rw [if_pos (by omega)]; exact hE
            · have := (OO.out i hi).only HON.out (fun b hb e => DO.out.apart i k hi hlt hik b hb (mem_bl.1 e))
              by_cases hik2 : i < k
              · rw [if_pos hik2] at this
                rw [if_pos (by omega)]; exact this
              · rw [if_neg hik2] at this
                rw [if_neg (by omega)]; exact this
          clear hE
          go_wp2_with fail
          go_roundw
          case rel => exact ⟨k + 1, by omega, by go_num, R5.out.1, R5.out.2.1, R5.out.2.2⟩
          case measure => simp [intOf]; omega
    · obtain rfl : k = 2 := by omega
      go_wp2_with fail
      refine HK.out _ _ ?_
      exact a14 BO DO (fun i hi => by have := OO.out i hi; rw [if_pos hi] at this; exact this) hn hBw

end Go.Proofs.YtlkkmcibjhoneaaGreatDoor
