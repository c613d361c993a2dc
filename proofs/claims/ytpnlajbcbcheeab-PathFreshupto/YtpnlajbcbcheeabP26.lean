import Derived.Test.YtpnlajbcbcheeabMark
namespace Go.Proofs.Ytpnlajbcbcheeab
open Go.RowKit

set_option maxHeartbeats 4000000 in
set_option maxRecDepth 100000 in
theorem p26 {lv1 lv2 lv3 lv4 lv6 lv7 lv8 lv9 lv10 lv11 lv12 lv13 lv14 lv15 lv16 lv17 lv18 lv19 lv20 lv21 lv22 lv23 lv24 lv25 lv26 lv27 lv28 lv29 lv30 lv31 lv32 lv33 lv34 lv35 lv36 lv37 lv38 lv39 lv40 lv41 lv42 lv43 lv44 lv45 lv46 lv47 lv48 lv49 lv50 lv51 lv52 lv53 lv54 lv55 lv56 lv57 lv58 lv59 lv60 lv61 lv62 lv63 lv64 lv65 lv66 lv67 lv68 lv69 lv70 lv71 lv72 lv73 lv74 lv75 lv76 lv77 lv78 lv79 lv80 lv81 lv82 lv83 lv84 lv85 lv86 lv87 lv88 lv89 lv90 lv91 lv92 lv93 lv94 lv95 lv96 lv97 lv98 lv99 lv100 lv101 lv102 lv103 lv104 lv105 lv106 lv107 lv108 lv109 lv110 lv111 lv112 lv113 lv114 lv115 lv116 lv117 lv118 lv119 lv120 lv121 lv122 lv123 lv124 lv125 lv126 lv127 lv128 lv129 lv130 lv131 lv132 lv133 lv134 lv135 lv136 lv137 lv138 lv139 lv140 lv141 lv142 lv143 lv144 lv145 lv146 lv147 lv148 lv149 lv150 lv151 lv152 lv153 : Value} {w wc : World} {ga gl : Nat} {gb nn : Nat → Nat} (F4 : Hid (Four wc ga gb nn)) (O : Hid (Only (S4 gb) w wc)) (TT : Hid (∀ i, i < 4 → TX wc (gb i) (nn i) (fun _ => mk i))) {hb cp : Nat → Nat} (LG : Hid (Long wc gl nn hb cp 4)) :
    Code.wp Try.prog (suff20 26 (Try.f20.body.getD .skip)) (bodyPost Try.prog Try.f20 (Good2 (S4 gb) w)) ⟨(.slice (some ⟨ga, 0, none⟩) 4 4 :: lv1 :: lv2 :: lv3 :: lv4 :: .slice (some ⟨gl, 0, none⟩) 4 4 :: lv6 :: lv7 :: lv8 :: lv9 :: lv10 :: lv11 :: lv12 :: lv13 :: lv14 :: lv15 :: lv16 :: lv17 :: lv18 :: lv19 :: lv20 :: lv21 :: lv22 :: lv23 :: lv24 :: lv25 :: lv26 :: lv27 :: lv28 :: lv29 :: lv30 :: lv31 :: lv32 :: lv33 :: lv34 :: lv35 :: lv36 :: lv37 :: lv38 :: lv39 :: lv40 :: lv41 :: lv42 :: lv43 :: lv44 :: lv45 :: lv46 :: lv47 :: lv48 :: lv49 :: lv50 :: lv51 :: lv52 :: lv53 :: lv54 :: lv55 :: lv56 :: lv57 :: lv58 :: lv59 :: lv60 :: lv61 :: lv62 :: lv63 :: lv64 :: lv65 :: lv66 :: lv67 :: lv68 :: lv69 :: lv70 :: lv71 :: lv72 :: lv73 :: lv74 :: lv75 :: lv76 :: lv77 :: lv78 :: lv79 :: lv80 :: lv81 :: lv82 :: lv83 :: lv84 :: lv85 :: lv86 :: lv87 :: lv88 :: lv89 :: lv90 :: lv91 :: lv92 :: lv93 :: lv94 :: lv95 :: lv96 :: lv97 :: lv98 :: lv99 :: lv100 :: lv101 :: lv102 :: lv103 :: lv104 :: lv105 :: lv106 :: lv107 :: lv108 :: lv109 :: lv110 :: lv111 :: lv112 :: lv113 :: lv114 :: lv115 :: lv116 :: lv117 :: lv118 :: lv119 :: lv120 :: lv121 :: lv122 :: lv123 :: lv124 :: lv125 :: lv126 :: lv127 :: lv128 :: lv129 :: lv130 :: lv131 :: lv132 :: lv133 :: lv134 :: lv135 :: lv136 :: lv137 :: lv138 :: lv139 :: lv140 :: lv141 :: lv142 :: lv143 :: lv144 :: lv145 :: lv146 :: lv147 :: lv148 :: lv149 :: lv150 :: lv151 :: lv152 :: lv153 :: []).toArray, []⟩ wc := by
  conv => arg 2; whnf
  go_wp2_with fail
  go_loopw [11] (fun i wr => ∃ k : Nat, k ≤ 4 ∧ i = .int .i64 k ∧ Below wc.heap.size wc wr) (fun i _ => 4 - (intOf i).toNat)
  case atStart => exact ⟨0, by omega, rfl, Below.refl _ _⟩
  case round =>
    obtain ⟨k, hk, rfl, hbw⟩ := hrel
    obtain ⟨wo, hwo⟩ : ∃ wo, wo = wr := ⟨_, rfl⟩
    subst hwo
    have BW : Hid (Below wc.heap.size wc wo) := hbw
    clear hbw
    by_cases hlt : k < 4
    · have hln := F4.out.len k hlt
      obtain ⟨nk, hnk⟩ : ∃ n, nn k = n := ⟨_, rfl⟩
      rw [hnk] at hln
      have HNK : Hid (nn k = nk) := hnk
      clear hnk
      go_wp2_with fail
      go_loopw [12] (fun j wr => ∃ m : Nat, m ≤ nk + 16 ∧ j = .int .i64 m ∧ Below wc.heap.size wc wr) (fun j _ => nk + 16 - (intOf j).toNat)
      case atStart => exact ⟨0, by omega, rfl, BW.out⟩
      case round =>
        obtain ⟨m, hm, rfl, hbw⟩ := hrel
        have B2 : Hid (Below wc.heap.size wc wr) := hbw
        have L2 := LG.out.later hbw
        have c1 := L2.cell k hlt
        have G2 := F4.out.later hbw
        have c3 := G2.cell k hlt
        have hg1 := L2.gllt
        have hg2 := L2.lt k hlt
        have hg3 := G2.galt
        have hg4 := G2.lt k hlt
        rw [HNK.out] at c1 c3
        have HTX : Hid (∀ j, j < nk + 16 → wr.cell? ⟨hb k, j, none⟩ = some (.string (bs (mk k)))) := by have := L2.text k hlt; rw [HNK.out] at this; exact this
        have HTY : Hid (∀ j, j < nk → wr.cell? ⟨gb k, j, none⟩ = some (.string (bs (mk k)))) := fun j hj => by
          have h1 := (TT.out k hlt j (by rw [HNK.out]; exact hj)).1
          rw [hbw.cell (p := ⟨gb k, j, none⟩) (F4.out.lt k hlt)]; exact h1
        obtain ⟨g1, hg1e⟩ : ∃ g, hb k = g := ⟨_, rfl⟩
        obtain ⟨g2, hg2e⟩ : ∃ g, gb k = g := ⟨_, rfl⟩
        obtain ⟨q1, hq1e⟩ : ∃ g, cp k = g := ⟨_, rfl⟩
        rw [hg1e, hq1e] at c1
        rw [hg2e] at c3 hg4 HTY
        rw [hg1e] at hg2 HTX
        clear hbw L2 G2 hg1e hg2e hq1e
        by_cases hlt2 : m < nk + 16
        · have c2 := HTX.out m hlt2
          by_cases hlt3 : m < nk
          · have c4 := HTY.out m hlt3
            go_wp2_with fail
            have x1 : ∀ X : GW wr, X.it.cell? ⟨gl, k, none⟩ = some (.slice (some ⟨g1, 0, none⟩) (nk + 16) q1) := fun X => X.cell hg1 c1
            have x2 : ∀ X : GW wr, X.it.cell? ⟨g1, m, none⟩ = some (.string (bs (mk k))) := fun X => X.cell hg2 c2
            have x3 : ∀ X : GW wr, X.it.cell? ⟨ga, k, none⟩ = some (.slice (some ⟨g2, 0, none⟩) nk nk) := fun X => X.cell hg3 c3
            have x4 : ∀ X : GW wr, X.it.cell? ⟨g2, m, none⟩ = some (.string (bs (mk k))) := fun X => X.cell hg4 c4
            have xne := gw_ne wr
            refine wp_region_grow (by kernel_rfl) (by kernel_rfl) ?_
            repeat (go_big_quiet_step (exact mark_grow k hlt _))
            refine wpQuiet_nil ?_
            rintro w' ⟨⟨w', bx⟩, rfl⟩
            go_wp2_with fail
            go_roundw
            case rel => exact ⟨m + 1, by omega, by go_num, bstep B2.out bx⟩
            case measure => simp [intOf]; omega
          · have d3 : decide ((m : Int) < (nk : Int)) = false := by simp; omega
            go_wp2_with fail
            have x1 : ∀ X : GW wr, X.it.cell? ⟨gl, k, none⟩ = some (.slice (some ⟨g1, 0, none⟩) (nk + 16) q1) := fun X => X.cell hg1 c1
            have x2 : ∀ X : GW wr, X.it.cell? ⟨g1, m, none⟩ = some (.string (bs (mk k))) := fun X => X.cell hg2 c2
            have x3 : ∀ X : GW wr, X.it.cell? ⟨ga, k, none⟩ = some (.slice (some ⟨g2, 0, none⟩) nk nk) := fun X => X.cell hg3 c3
            have xne := gw_ne wr
            refine wp_region_grow (by kernel_rfl) (by kernel_rfl) ?_
            repeat (go_big_quiet_step (exact mark_grow k hlt _))
            refine wpQuiet_nil ?_
            rintro w' ⟨⟨w', bx⟩, rfl⟩
            go_wp2_with fail
            go_roundw
            case rel => exact ⟨m + 1, by omega, by go_num, bstep B2.out bx⟩
            case measure => simp [intOf]; omega
        · obtain rfl : m = nk + 16 := by omega
          go_wp2_with fail
          go_roundw
          case rel => exact ⟨k + 1, by omega, by go_num, B2.out⟩
          case measure => simp [intOf]; omega
    · obtain rfl : k = 4 := by omega
      go_wp2_with fail
      go_ret
      exact ⟨rfl, only_below O.out BW.out⟩

end Go.Proofs.Ytpnlajbcbcheeab
