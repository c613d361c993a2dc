import Derived.Test.YtpnlajbcbcheeabR16a
import Derived.Test.YtpnlajbcbcheeabR16b
namespace Go.Proofs.Ytpnlajbcbcheeab
open Go.RowKit

set_option maxHeartbeats 4000000 in
set_option maxRecDepth 100000 in
theorem p9 {lv1 lv2 lv3 lv4 lv6 lv7 lv8 lv9 lv10 lv11 lv12 lv13 lv14 lv15 lv16 lv17 lv18 lv19 lv20 lv21 lv22 lv23 lv24 lv25 lv26 lv27 lv28 lv29 lv30 lv31 lv32 lv33 lv34 lv35 lv36 lv37 lv38 lv39 lv40 lv41 lv42 lv43 lv44 lv45 lv46 lv47 lv48 lv49 lv50 lv51 lv52 lv53 lv54 lv55 lv56 lv57 lv58 lv59 lv60 lv61 lv62 lv63 lv64 lv65 lv66 lv67 lv68 lv69 lv70 lv71 lv72 lv73 lv74 lv75 lv76 lv77 lv78 lv79 lv80 lv81 lv82 lv83 lv84 lv85 lv86 lv87 lv88 lv89 lv90 lv91 lv92 lv93 lv94 lv95 lv96 lv97 lv98 lv99 lv100 lv101 lv102 lv103 lv104 lv105 lv106 lv107 lv108 lv109 lv110 lv111 lv112 lv113 lv114 lv115 lv116 lv117 lv118 lv119 lv120 lv121 lv122 lv123 lv124 lv125 lv126 lv127 lv128 lv129 lv130 lv131 lv132 lv133 lv134 lv135 lv136 lv137 lv138 lv139 lv140 lv141 lv142 lv143 lv144 lv145 lv146 lv147 lv148 lv149 lv150 lv151 lv152 lv153 : Value} {w wc : World} {ga gl : Nat} {gb nn : Nat → Nat} (F4 : Hid (Four wc ga gb nn)) (O : Hid (Only (S4 gb) w wc)) (TT : Hid (∀ i, i < 4 → TX wc (gb i) (nn i) (fun _ => mk i))) (SL : Hid (Slots wc gl)) (hga : ga < gl) (HGB : Hid (∀ i, i < 4 → gb i < gl)) (hwgl : w.heap.size ≤ gl) :
    Code.wp Try.prog (suff20 9 (Try.f20.body.getD .skip)) (bodyPost Try.prog Try.f20 (Good2 (S4 gb) w)) ⟨(.slice (some ⟨ga, 0, none⟩) 4 4 :: lv1 :: lv2 :: lv3 :: lv4 :: .slice (some ⟨gl, 0, none⟩) 4 4 :: lv6 :: lv7 :: lv8 :: lv9 :: lv10 :: lv11 :: lv12 :: lv13 :: lv14 :: lv15 :: lv16 :: lv17 :: lv18 :: lv19 :: lv20 :: lv21 :: lv22 :: lv23 :: lv24 :: lv25 :: lv26 :: lv27 :: lv28 :: lv29 :: lv30 :: lv31 :: lv32 :: lv33 :: lv34 :: lv35 :: lv36 :: lv37 :: lv38 :: lv39 :: lv40 :: lv41 :: lv42 :: lv43 :: lv44 :: lv45 :: lv46 :: lv47 :: lv48 :: lv49 :: lv50 :: lv51 :: lv52 :: lv53 :: lv54 :: lv55 :: lv56 :: lv57 :: lv58 :: lv59 :: lv60 :: lv61 :: lv62 :: lv63 :: lv64 :: lv65 :: lv66 :: lv67 :: lv68 :: lv69 :: lv70 :: lv71 :: lv72 :: lv73 :: lv74 :: lv75 :: lv76 :: lv77 :: lv78 :: lv79 :: lv80 :: lv81 :: lv82 :: lv83 :: lv84 :: lv85 :: lv86 :: lv87 :: lv88 :: lv89 :: lv90 :: lv91 :: lv92 :: lv93 :: lv94 :: lv95 :: lv96 :: lv97 :: lv98 :: lv99 :: lv100 :: lv101 :: lv102 :: lv103 :: lv104 :: lv105 :: lv106 :: lv107 :: lv108 :: lv109 :: lv110 :: lv111 :: lv112 :: lv113 :: lv114 :: lv115 :: lv116 :: lv117 :: lv118 :: lv119 :: lv120 :: lv121 :: lv122 :: lv123 :: lv124 :: lv125 :: lv126 :: lv127 :: lv128 :: lv129 :: lv130 :: lv131 :: lv132 :: lv133 :: lv134 :: lv135 :: lv136 :: lv137 :: lv138 :: lv139 :: lv140 :: lv141 :: lv142 :: lv143 :: lv144 :: lv145 :: lv146 :: lv147 :: lv148 :: lv149 :: lv150 :: lv151 :: lv152 :: lv153 :: []).toArray, []⟩ wc := by
  conv => arg 2; whnf
  refine wp_seq_k fun K hK => ?_
  have HK : Hid _ := hK
  clear hK
  go_wp2_with fail
  go_loopw [6] (fun i wr => ∃ k : Nat, k ≤ 4 ∧ i = .int .i64 k ∧ Only [gl] wc wr ∧ Slots wr gl ∧ ∃ hb cp, Long wr gl nn hb cp k ∧ (∀ i, i < k → gl < hb i)) (fun i _ => 4 - (intOf i).toNat)
  case atStart => exact ⟨0, by omega, rfl, Only.refl _ _, SL.out, fun _ => 0, fun _ => 0, ⟨fun i hi => by omega, fun i hi => by omega, fun i hi => by omega, SL.out.1⟩, fun i hi => by omega⟩
  case round =>
    obtain ⟨k, hk, rfl, hO, hS, hb, cp, hL, hHB⟩ := hrel
    obtain ⟨wo, hwo⟩ : ∃ wo, wo = wr := ⟨_, rfl⟩
    subst hwo
    have OW : Hid (Only [gl] wc wo) := hO
    have SW : Hid (Slots wo gl) := hS
    have LW : Hid (Long wo gl nn hb cp k) := hL
    have HBW : Hid (∀ i, i < k → gl < hb i) := hHB
    clear hO hS hL hHB
    have hgan : ga ∉ [gl] := by simp; omega
    by_cases hlt : k < 4
    · have hln := F4.out.len k hlt
      have G2 := F4.out.only OW.out hgan
      have c3 := G2.cell k hlt
      have hg3 := G2.galt
      have hg4 := G2.lt k hlt
      have hgbl := HGB.out k hlt
      have HTY : Hid (∀ j, j < nn k → wo.cell? ⟨gb k, j, none⟩ = some (.string (bs (mk k)))) := fun j hj =>
        ((TT.out k hlt).only OW.out (F4.out.lt k hlt) (by simp; omega) j hj).1
      obtain ⟨nk, hnk⟩ : ∃ n, nn k = n := ⟨_, rfl⟩
      obtain ⟨g2, hg2e⟩ : ∃ g, gb k = g := ⟨_, rfl⟩
      rw [hnk, hg2e] at HTY c3
      rw [hnk] at hln
      rw [hg2e] at hg4 hgbl
      have HNK : Hid (nn k = nk) := hnk
      clear G2 hnk hg2e
      have hglo := SW.out.1
      obtain ⟨⟨v9, cs⟩, cf⟩ := SW.out.2 k hlt
      go_wp2_with fail
      obtain ⟨w1, hw1⟩ : ∃ w1, w1 = wo.setCell ⟨gl, k, none⟩ (.slice (some ⟨g2, 0, none⟩) nk nk) := ⟨_, rfl⟩
      rw [← hw1]
      have S1 : Slots w1 gl := by rw [hw1]; exact SW.out.set hlt _
      have I0 : Hid (In w1 w1 gl k nk 0 (.slice (some ⟨g2, 0, none⟩) nk nk) (mk k)) := ⟨_, by rw [hw1]; exact set_same SW.out hlt _, .inl ⟨rfl, rfl⟩, Only.refl _ _, fun _ _ _ => rfl, S1⟩
      have hsz : w1.heap.size = wo.heap.size := by rw [hw1]; simp
      have HW1 : Hid (w1 = wo.setCell ⟨gl, k, none⟩ (.slice (some ⟨g2, 0, none⟩) nk nk)) := hw1
      have hgl1 : gl < w1.heap.size := by omega
      have hg41 : g2 < w1.heap.size := by omega
      have HAP : Hid (∀ w' : World, Only [gl] w1 w' → ∀ j u, (sc (List.replicate nk (mk k)))[j]? = some u → w'.cell? ⟨g2, j, none⟩ = some u) := fun w' ho j u hu => by
        rw [World.cell?_of_block (w := w1) (ho.block g2 hg41 (by simp; omega)), HW1.out, World.cell?_of_block (w := wo) (Below.heap_setCell _ _ _ _ (by simp; omega))]
        rw [sc_get, List.getElem?_replicate] at hu
        split at hu
        · simp at hu; subst hu; exact HTY.out j (by assumption)
        · simp at hu
      clear hw1 S1 c3 hg3 hg4 cs cf HTY hsz hglo
      go_loopw [7] (fun i wr => ∃ j : Nat, j ≤ 16 ∧ i = .int .i64 j ∧ In w1 wr gl k nk j (.slice (some ⟨g2, 0, none⟩) nk nk) (mk k)) (fun i _ => 16 - (intOf i).toNat)
      case atStart => exact ⟨0, by omega, rfl, I0.out⟩
      case round =>
        obtain ⟨j, hj, rfl, hI⟩ := hrel
        have IJ : Hid (In w1 wr gl k nk j (.slice (some ⟨g2, 0, none⟩) nk nk) (mk k)) := hI
        obtain ⟨v, hcv, hor, hO1, hoth, hS1⟩ := hI
        have O1 : Hid (Only [gl] w1 wr) := hO1
        have hglr := hS1.1
        have hcf := (hS1.2 k hlt).2
        clear hoth hS1
        by_cases hltj : j < 16
        · rcases hor with ⟨rfl, rfl⟩ | ⟨hj0, g, cj, rfl, hown⟩
          · clear hO1
            have HCV : Hid (wr.cell? ⟨gl, k, none⟩ = some (.slice (some ⟨g2, 0, none⟩) nk nk)) := hcv
            clear hcv
            go_wp2_with fail
            refine r16a hlt hln hglr HCV.out hcf (fun w' hb => HAP.out w' (only_below O1.out hb)) _ ?_
            intro s56 s57 s58 s59 s60 s61 s62 s63 s64 s65 s66 d cap base w2 hbase hb6 ho9
            have I1 : Hid (In w1 (w2.setCell ⟨gl, k, none⟩ (.slice (some ⟨d, 0, none⟩) (nk + 1) cap)) gl k nk 1 (.slice (some ⟨g2, 0, none⟩) nk nk) (mk k)) := IJ.out.first hlt hb6 hbase ho9
            clear ho9 hb6 hbase
            go_wp2_with fail
            go_roundw
            case rel => exact ⟨1, by omega, by go_num, I1.out⟩
            case measure => simp [intOf]
          · have HCV : Hid (wr.cell? ⟨gl, k, none⟩ = some (.slice (some ⟨g, 0, none⟩) (nk + j) cj)) := hcv
            have HOW : Hid (Own w1.heap.size wr (.slice (some ⟨g, 0, none⟩) (nk + j) cj) (List.replicate (nk + j) (mk k))) := hown
            have hgg := (hown.lt (k := g) rfl).1
            have hsz1 := hO1.size
            clear hcv hown hO1
            go_wp2_with fail
            refine r16b (base := w1.heap.size) (l := List.replicate (nk + j) (mk k)) hlt (by omega) hglr HCV.out hcf HOW (by simp) hsz1 (by omega) _ ?_
            intro s56 s57 s58 s59 s60 s61 s62 s63 s64 s65 s66 d cap wa w2 hb6 hgr ho9
            have I1 : Hid (In w1 (w2.setCell ⟨gl, k, none⟩ (.slice (some ⟨d, 0, none⟩) (nk + j + 1) cap)) gl k nk (j + 1) (.slice (some ⟨g2, 0, none⟩) nk nk) (mk k)) := IJ.out.next hlt hj0 hb6 hgr hgl1 HCV.out ho9
            clear ho9 hb6 hgr
            go_wp2_with fail
            go_roundw
            case rel => exact ⟨j + 1, by omega, by go_num, I1.out⟩
            case measure => simp [intOf]; omega
        · obtain rfl : j = 16 := by omega
          have hgo := SW.out.1
          have hSr := IJ.out
          obtain ⟨_, _, _, _, _, hS2⟩ := hSr
          have SR : Hid (Slots wr gl) := hS2
          have OR : Hid (Only [gl] wc wr) := (OW.out.trans (by rw [HW1.out]; exact Only.set _ _ _ _)).trans O1.out
          obtain ⟨hb', cp', hL', hHB'⟩ := IJ.out.done HNK.out hlt HW1.out LW.out HBW.out hgo
          have LR : Hid (Long wr gl nn hb' cp' (k + 1)) := hL'
          have HBR : Hid (∀ i, i < k + 1 → gl < hb' i) := hHB'
          clear hS2 hL' hHB' hor hcv hO1
          go_wp2_with fail
          go_roundw
          case rel => exact ⟨k + 1, by omega, by go_num, OR.out, SR.out, hb', cp', LR.out, HBR.out⟩
          case measure => simp [intOf]; omega
    · obtain rfl : k = 4 := by omega
      go_wp2_with fail
      refine HK.out _ _ ?_
      have hOS : Only (S4 gb) w wo := by
        have h1 := O.out
        have h2 := OW.out
        refine ⟨by rw [h2.os, h1.os], by rw [h2.tape, h1.tape], by rw [h2.output, h1.output], Nat.le_trans h1.size h2.size, fun i hi hn => ?_⟩
        rw [h2.block i (Nat.lt_of_lt_of_le hi h1.size) (by simp; omega), h1.block i hi hn]
      exact p17 (F4.out.only OW.out hgan) hOS (fun i hi => (TT.out i hi).only OW.out (F4.out.lt i hi) (by have := HGB.out i hi; simp; omega)) LW

end Go.Proofs.Ytpnlajbcbcheeab
