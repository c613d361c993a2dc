/-
  'marked': the last loops.
-/
import Derived.Test.YtkopjamednedfaaGreatMark
import Derived.Deep.RegionHeld3
import Derived.BigQuiet
namespace Go.Proofs.YtkopjamednedfaaGreat
open Go.RowKit

set_option maxHeartbeats 4000000 in
set_option maxRecDepth 100000 in
theorem p26 {lv1 lv2 lv3 lv4 lv6 lv7 lv8 lv9 lv10 lv11 lv12 lv13 lv14 lv15 lv16 lv17 lv18 lv19 lv20 lv21 lv22 lv23 lv24 lv25 lv26 lv27 lv28 lv29 lv30 lv31 lv32 lv33 lv34 lv35 lv36 lv37 lv38 lv39 lv40 lv41 lv42 lv43 lv44 lv45 lv46 lv47 lv48 lv49 lv50 lv51 lv52 lv53 lv54 lv55 lv56 lv57 lv58 lv59 lv60 lv61 lv62 lv63 lv64 lv65 lv66 lv67 lv68 lv69 lv70 lv71 lv72 lv73 lv74 lv75 lv76 lv77 lv78 lv79 lv80 lv81 lv82 lv83 lv84 lv85 lv86 lv87 lv88 lv89 lv90 lv91 lv92 lv93 lv94 lv95 lv96 lv97 lv98 lv99 lv100 lv101 lv102 lv103 lv104 lv105 lv106 lv107 lv108 lv109 lv110 lv111 lv112 lv113 lv114 lv115 lv116 lv117 lv118 lv119 lv120 lv121 lv122 lv123 lv124 lv125 lv126 lv127 lv128 lv129 lv130 lv131 lv132 lv133 lv134 lv135 lv136 lv137 lv138 lv139 lv140 lv141 lv142 lv143 lv144 lv145 lv146 lv147 lv148 lv149 lv150 lv151 lv152 lv153 : Value} {w wc : World} {B ga gl : Nat} {V U : Nat → Value} {n m : Nat → Nat} {D : Nat → Nat → Prop} (H : Hid (M5 B w wc ga gl V n 4 U m D)) (HM : Hid (∀ i, i < 4 → m i = n i + 16)) (HN : Hid (∀ i, i < 4 → n i ≤ 100000000)) :
    Code.wp Tryz.prog (suff 26 (Tryz.f16.body.getD .skip)) (bodyPost Tryz.prog Tryz.f16 (GoodM B w)) ⟨(.slice (some ⟨ga, 0, none⟩) 4 4 :: lv1 :: lv2 :: lv3 :: lv4 :: .slice (some ⟨gl, 0, none⟩) 4 4 :: lv6 :: lv7 :: lv8 :: lv9 :: lv10 :: lv11 :: lv12 :: lv13 :: lv14 :: lv15 :: lv16 :: lv17 :: lv18 :: lv19 :: lv20 :: lv21 :: lv22 :: lv23 :: lv24 :: lv25 :: lv26 :: lv27 :: lv28 :: lv29 :: lv30 :: lv31 :: lv32 :: lv33 :: lv34 :: lv35 :: lv36 :: lv37 :: lv38 :: lv39 :: lv40 :: lv41 :: lv42 :: lv43 :: lv44 :: lv45 :: lv46 :: lv47 :: lv48 :: lv49 :: lv50 :: lv51 :: lv52 :: lv53 :: lv54 :: lv55 :: lv56 :: lv57 :: lv58 :: lv59 :: lv60 :: lv61 :: lv62 :: lv63 :: lv64 :: lv65 :: lv66 :: lv67 :: lv68 :: lv69 :: lv70 :: lv71 :: lv72 :: lv73 :: lv74 :: lv75 :: lv76 :: lv77 :: lv78 :: lv79 :: lv80 :: lv81 :: lv82 :: lv83 :: lv84 :: lv85 :: lv86 :: lv87 :: lv88 :: lv89 :: lv90 :: lv91 :: lv92 :: lv93 :: lv94 :: lv95 :: lv96 :: lv97 :: lv98 :: lv99 :: lv100 :: lv101 :: lv102 :: lv103 :: lv104 :: lv105 :: lv106 :: lv107 :: lv108 :: lv109 :: lv110 :: lv111 :: lv112 :: lv113 :: lv114 :: lv115 :: lv116 :: lv117 :: lv118 :: lv119 :: lv120 :: lv121 :: lv122 :: lv123 :: lv124 :: lv125 :: lv126 :: lv127 :: lv128 :: lv129 :: lv130 :: lv131 :: lv132 :: lv133 :: lv134 :: lv135 :: lv136 :: lv137 :: lv138 :: lv139 :: lv140 :: lv141 :: lv142 :: lv143 :: lv144 :: lv145 :: lv146 :: lv147 :: lv148 :: lv149 :: lv150 :: lv151 :: lv152 :: lv153 :: []).toArray, []⟩ wc := by
  conv => arg 2; whnf
  go_wp2_with fail
  go_loopw [11] (fun i wr => ∃ k : Nat, k ≤ 4 ∧ i = .int .i64 k ∧ Below wc.heap.size wc wr) (fun i _ => 4 - (intOf i).toNat)
  case atStart => exact ⟨0, by omega, rfl, Below.refl _ _⟩
  case round =>
    obtain ⟨k, hk, rfl, hbw⟩ := hrel
    obtain ⟨wo, hwo⟩ : ∃ wo, wo = wr := ⟨_, rfl⟩
    subst hwo
    have BW : Hid (Below wc.heap.size wc wo) := hbw
    clear hbw
    by_cases hlt : k < 4
    · have hln := HN.out k hlt
      obtain ⟨nk, hnk⟩ : ∃ x, n k = x := ⟨_, rfl⟩
      rw [hnk] at hln
      have HNK : Hid (n k = nk) := hnk
      clear hnk
      go_wp2_with fail
      go_loopw [12] (fun j wr => ∃ j' : Nat, j' ≤ nk + 16 ∧ j = .int .i64 j' ∧ Below wc.heap.size wc wr) (fun j _ => nk + 16 - (intOf j).toNat)
      case atStart => exact ⟨0, by omega, rfl, BW.out⟩
      case round =>
        obtain ⟨j, hm, rfl, hbw⟩ := hrel
        have B2 : Hid (Below wc.heap.size wc wr) := hbw
        have L2 := H.out.later hbw
        have c1 := L2.cell k hlt
        have c3 := L2.q.cell k hlt
        have hg1 := L2.gllt.2
        have hg3 := L2.q.galt
        have o1 := L2.own k hlt
        have o3 := L2.q.own k hlt
        rw [HM.out k hlt] at o1
        rw [HNK.out] at o1 o3
        rcases own_formS o1 with ⟨_, e0⟩ | ⟨g1, q1, e1, _, _, hg2⟩
        · simp at e0
        rw [List.length_replicate] at e1
        rw [e1] at c1 o1
        clear hbw L2
        by_cases hlt2 : j < nk + 16
        · have c2 := (own_cellS o1 j (by simpa using hlt2)).1
          rw [List.getElem_replicate] at c2
          clear o1 e1
          by_cases hlt3 : j < nk
          · rcases own_formS o3 with ⟨_, e0⟩ | ⟨g2, q2, e2, _, _, hg4⟩
            · simp at e0; omega
            rw [List.length_replicate] at e2
            rw [e2] at c3 o3
            have c4 := (own_cellS o3 j (by simpa using hlt3)).1
            rw [List.getElem_replicate] at c4
            clear o3 e2
            go_wp2_with fail
            have x1 : ∀ X : GW wr, X.it.cell? ⟨gl, k, none⟩ = some (.slice (some ⟨g1, 0, none⟩) (nk + 16) q1) := fun X => X.cell hg1 c1
            have x2 : ∀ X : GW wr, X.it.cell? ⟨g1, j, none⟩ = some (.string (bs (mkS k))) := fun X => X.cell hg2 c2
            have x3 : ∀ X : GW wr, X.it.cell? ⟨ga, k, none⟩ = some (.slice (some ⟨g2, 0, none⟩) nk q2) := fun X => X.cell hg3 c3
            have x4 : ∀ X : GW wr, X.it.cell? ⟨g2, j, none⟩ = some (.string (bs (mkS k))) := fun X => X.cell hg4 c4
            have xne := gw_ne wr
            refine wp_region_grow (by kernel_rfl) (by kernel_rfl) ?_
            repeat (go_big_quiet_step (exact mark_grow k hlt _))
            refine wpQuiet_nil ?_
            rintro w' ⟨⟨w', bx⟩, rfl⟩
            go_wp2_with fail
            go_roundw
            case rel => exact ⟨j + 1, by omega, by go_num, bstep B2.out bx⟩
            case measure => simp [intOf]; omega
          · have d3 : decide ((j : Int) < (nk : Int)) = false := by simp; omega
            obtain ⟨a2, q2, e2⟩ := o3.len
            rw [List.length_replicate] at e2
            rw [e2] at c3
            clear o3 e2
            go_wp2_with fail
            have x1 : ∀ X : GW wr, X.it.cell? ⟨gl, k, none⟩ = some (.slice (some ⟨g1, 0, none⟩) (nk + 16) q1) := fun X => X.cell hg1 c1
            have x2 : ∀ X : GW wr, X.it.cell? ⟨g1, j, none⟩ = some (.string (bs (mkS k))) := fun X => X.cell hg2 c2
            have x3 : ∀ X : GW wr, X.it.cell? ⟨ga, k, none⟩ = some (.slice a2 nk q2) := fun X => X.cell hg3 c3
            have xne := gw_ne wr
            refine wp_region_grow (by kernel_rfl) (by kernel_rfl) ?_
            repeat (go_big_quiet_step (exact mark_grow k hlt _))
            refine wpQuiet_nil ?_
            rintro w' ⟨⟨w', bx⟩, rfl⟩
            go_wp2_with fail
            go_roundw
            case rel => exact ⟨j + 1, by omega, by go_num, bstep B2.out bx⟩
            case measure => simp [intOf]; omega
        · obtain rfl : j = nk + 16 := by omega
          clear o1 o3
          go_wp2_with fail
          go_roundw
          case rel => exact ⟨k + 1, by omega, by go_num, B2.out⟩
          case measure => simp [intOf]; omega
    · obtain rfl : k = 4 := by omega
      go_wp2_with fail
      go_ret
      exact ⟨rfl, below_trans H.out.q.below (below_mono BW.out H.out.q.base)⟩

set_option maxHeartbeats 4000000 in
set_option maxRecDepth 100000 in
theorem p17 {lv1 lv2 lv3 lv4 lv6 lv7 lv8 lv9 lv10 lv11 lv12 lv13 lv14 lv15 lv16 lv17 lv18 lv19 lv20 lv21 lv22 lv23 lv24 lv25 lv26 lv27 lv28 lv29 lv30 lv31 lv32 lv33 lv34 lv35 lv36 lv37 lv38 lv39 lv40 lv41 lv42 lv43 lv44 lv45 lv46 lv47 lv48 lv49 lv50 lv51 lv52 lv53 lv54 lv55 lv56 lv57 lv58 lv59 lv60 lv61 lv62 lv63 lv64 lv65 lv66 lv67 lv68 lv69 lv70 lv71 lv72 lv73 lv74 lv75 lv76 lv77 lv78 lv79 lv80 lv81 lv82 lv83 lv84 lv85 lv86 lv87 lv88 lv89 lv90 lv91 lv92 lv93 lv94 lv95 lv96 lv97 lv98 lv99 lv100 lv101 lv102 lv103 lv104 lv105 lv106 lv107 lv108 lv109 lv110 lv111 lv112 lv113 lv114 lv115 lv116 lv117 lv118 lv119 lv120 lv121 lv122 lv123 lv124 lv125 lv126 lv127 lv128 lv129 lv130 lv131 lv132 lv133 lv134 lv135 lv136 lv137 lv138 lv139 lv140 lv141 lv142 lv143 lv144 lv145 lv146 lv147 lv148 lv149 lv150 lv151 lv152 lv153 : Value} {w wc : World} {B ga gl : Nat} {V U : Nat → Value} {n m : Nat → Nat} {D : Nat → Nat → Prop} (H : Hid (M5 B w wc ga gl V n 4 U m D)) (HM : Hid (∀ i, i < 4 → m i = n i + 16)) (HN : Hid (∀ i, i < 4 → n i ≤ 100000000)) :
    Code.wp Tryz.prog (suff 17 (Tryz.f16.body.getD .skip)) (bodyPost Tryz.prog Tryz.f16 (GoodM B w)) ⟨(.slice (some ⟨ga, 0, none⟩) 4 4 :: lv1 :: lv2 :: lv3 :: lv4 :: .slice (some ⟨gl, 0, none⟩) 4 4 :: lv6 :: lv7 :: lv8 :: lv9 :: lv10 :: lv11 :: lv12 :: lv13 :: lv14 :: lv15 :: lv16 :: lv17 :: lv18 :: lv19 :: lv20 :: lv21 :: lv22 :: lv23 :: lv24 :: lv25 :: lv26 :: lv27 :: lv28 :: lv29 :: lv30 :: lv31 :: lv32 :: lv33 :: lv34 :: lv35 :: lv36 :: lv37 :: lv38 :: lv39 :: lv40 :: lv41 :: lv42 :: lv43 :: lv44 :: lv45 :: lv46 :: lv47 :: lv48 :: lv49 :: lv50 :: lv51 :: lv52 :: lv53 :: lv54 :: lv55 :: lv56 :: lv57 :: lv58 :: lv59 :: lv60 :: lv61 :: lv62 :: lv63 :: lv64 :: lv65 :: lv66 :: lv67 :: lv68 :: lv69 :: lv70 :: lv71 :: lv72 :: lv73 :: lv74 :: lv75 :: lv76 :: lv77 :: lv78 :: lv79 :: lv80 :: lv81 :: lv82 :: lv83 :: lv84 :: lv85 :: lv86 :: lv87 :: lv88 :: lv89 :: lv90 :: lv91 :: lv92 :: lv93 :: lv94 :: lv95 :: lv96 :: lv97 :: lv98 :: lv99 :: lv100 :: lv101 :: lv102 :: lv103 :: lv104 :: lv105 :: lv106 :: lv107 :: lv108 :: lv109 :: lv110 :: lv111 :: lv112 :: lv113 :: lv114 :: lv115 :: lv116 :: lv117 :: lv118 :: lv119 :: lv120 :: lv121 :: lv122 :: lv123 :: lv124 :: lv125 :: lv126 :: lv127 :: lv128 :: lv129 :: lv130 :: lv131 :: lv132 :: lv133 :: lv134 :: lv135 :: lv136 :: lv137 :: lv138 :: lv139 :: lv140 :: lv141 :: lv142 :: lv143 :: lv144 :: lv145 :: lv146 :: lv147 :: lv148 :: lv149 :: lv150 :: lv151 :: lv152 :: lv153 :: []).toArray, []⟩ wc := by
  conv => arg 2; whnf
  refine wp_seq_k fun K hK => ?_
  have HK : Hid _ := hK
  clear hK
  go_wp2_with fail
  go_loopw [8] (fun i wr => ∃ k : Nat, k ≤ 4 ∧ i = .int .i64 k ∧ M5 B w wr ga gl V n 4 U m D) (fun i _ => 4 - (intOf i).toNat)
  case atStart => exact ⟨0, by omega, rfl, H.out⟩
  case round =>
    obtain ⟨k, hk, rfl, hbw⟩ := hrel
    obtain ⟨wo, hwo⟩ : ∃ wo, wo = wr := ⟨_, rfl⟩
    subst hwo
    have BW : Hid (M5 B w wo ga gl V n 4 U m D) := hbw
    by_cases hlt : k < 4
    · have hln := HN.out k hlt
      have c3 := hbw.q.cell k hlt
      have hg3 := hbw.q.galt
      have hbs := hbw.q.base
      have o3 := hbw.q.own k hlt
      have hvd := hbw.q.vd k hlt
      have hgn : ∀ g, D k g → g ≠ ga := fun g hd => (hbw.q.dlt k g hd).2.2
      obtain ⟨nk, hnk⟩ : ∃ x, n k = x := ⟨_, rfl⟩
      rw [hnk] at o3 hln
      obtain ⟨a2, q2, e2⟩ := o3.len
      rw [List.length_replicate] at e2
      rw [e2] at c3 o3 hvd
      have HO : Hid (Own B wo (.slice a2 nk q2) (List.replicate nk (mkS k))) := o3
      have HVD : Hid (∀ g, (Value.slice a2 nk q2).ownBlock = some g → D k g) := hvd
      have HNG : Hid (ga ∉ bl (.slice a2 nk q2)) := fun e => hgn ga (hvd ga (mem_bl.1 e)) rfl
      have KA : Hid (∀ wa w' : World, Below wo.heap.size wo wa → Only (bl (.slice a2 nk q2)) wa w' → w'.cell? ⟨ga, k, none⟩ = some (.slice a2 nk q2)) := fun wa w' h1 h2 => by
        rw [World.cell?_of_block (w := wa) (h2.block ga (Nat.lt_of_lt_of_le hg3 h1.size) HNG.out), h1.cell (p := ⟨ga, k, none⟩) hg3]; exact c3
      clear hbw hnk e2 o3 hvd hgn
      go_wp2_with fail
      go_region_held3 (fun w' => w'.cell? ⟨ga, k, none⟩ = some (.slice a2 nk q2)) (first | (with_reducible exact KA.out _ _ (bstep hb8 (balloc _ _)) hO7) | go_keep | (exact (by rw [hb8.cell (p := ⟨ga, k, none⟩) hg3]; exact c3)) | (exact (by rw [(bstep hb8 (balloc _ _)).cell (p := ⟨ga, k, none⟩) hg3]; exact c3))) (first | (go_at_call 31; refine (mark_any k _ hlt).mono ?_; rintro e w' ⟨rfl, hb9⟩; have hb8 : Below wo.heap.size wo w' := (by first | exact bstep hb8 hb9 | exact bstep (Below.refl _ _).drew hb9)) | (refine step_append_p rfl (.tmp 76) (.tmp 93) rfl B nk (mkS k) (List.replicate 8 (mkS k)) (.slice a2 nk q2) _ rfl rfl (HO.out.later (bstep hb8 (balloc _ _))) rfl (src_eight _ _) (by simp; omega) (by have := (bstep hb8 (balloc w' (.cells #[.string (bs (mkS k)), .string (bs (mkS k)), .string (bs (mkS k)), .string (bs (mkS k)), .string (bs (mkS k)), .string (bs (mkS k)), .string (bs (mkS k)), .string (bs (mkS k))] 9))).size; omega) ?_; intro A7 C7 w' ho9 hO7 hw7 hk7))
      obtain ⟨wx, hwx⟩ : ∃ wx, wx = w' := ⟨_, rfl⟩
      subst hwx
      have MX : Hid (M5 B w wx ga gl V n 4 U m D) := (BW.out.later (bstep hb8 (balloc _ _))).grow HVD.out hO7 hk7
      have ho8 : Own B wx (.slice A7 (nk + 8) C7) (List.replicate (nk + 8) (mkS k)) := ho9
      rcases own_formS ho8 with ⟨_, e0⟩ | ⟨d, c7, e7, _, _, hdx⟩
      · simp at e0
      injection e7 with e71 e72 e73
      subst e71
      have HD : Hid (∀ j, j < nk + 8 → wx.cell? ⟨d, j, none⟩ = some (.string (bs (mkS k)))) := fun j hj => by
        have hc := (own_cellS ho8 j (by simpa using hj)).1
        rw [List.getElem_replicate] at hc
        exact hc
      clear ho9 hb8 hb9 c3 hg3 hO7 hw7 hk7 ho8 e72 e73
      go_wp2_with fail
      go_loopw [10] (fun j wr => ∃ m : Nat, m ≤ nk + 8 ∧ j = .int .i64 m ∧ Below wx.heap.size wx wr) (fun j _ => nk + 8 - (intOf j).toNat)
      case atStart => exact ⟨0, by omega, rfl, Below.refl _ _⟩
      case round =>
        obtain ⟨j, hm, rfl, hbw⟩ := hrel
        have B2 : Hid (Below wx.heap.size wx wr) := hbw
        clear hbw
        by_cases hlt2 : j < nk + 8
        · have c2 : wr.cell? ⟨d, j, none⟩ = some (.string (bs (mkS k))) := by rw [B2.out.cell (p := ⟨d, j, none⟩) hdx]; exact HD.out j hlt2
          have hdr := Nat.lt_of_lt_of_le hdx B2.out.size
          go_wp2_with fail
          have x2 : ∀ X : GW wr, X.it.cell? ⟨d, j, none⟩ = some (.string (bs (mkS k))) := fun X => X.cell hdr c2
          have xne := gw_ne wr
          refine wp_region_grow (by kernel_rfl) (by kernel_rfl) ?_
          repeat (go_big_quiet_step (exact mark_grow k hlt _))
          refine wpQuiet_nil ?_
          rintro w' ⟨⟨w', bx⟩, rfl⟩
          go_wp2_with fail
          go_roundw
          case rel => exact ⟨j + 1, by omega, by go_num, bstep B2.out bx⟩
          case measure => simp [intOf]; omega
        · obtain rfl : j = nk + 8 := by omega
          go_wp2_with fail
          go_roundw
          case rel => exact ⟨k + 1, by omega, by go_num, MX.out.later B2.out⟩
          case measure => simp [intOf]; omega
    · obtain rfl : k = 4 := by omega
      go_wp2_with fail
      refine HK.out _ _ ?_
      exact p26 BW HM HN
end Go.Proofs.YtkopjamednedfaaGreat
