import Derived.Test.YtpnlajbcbcheeabP26
namespace Go.Proofs.Ytpnlajbcbcheeab
open Go.RowKit

set_option maxHeartbeats 4000000 in
set_option maxRecDepth 100000 in
theorem p17 {lv1 lv2 lv3 lv4 lv6 lv7 lv8 lv9 lv10 lv11 lv12 lv13 lv14 lv15 lv16 lv17 lv18 lv19 lv20 lv21 lv22 lv23 lv24 lv25 lv26 lv27 lv28 lv29 lv30 lv31 lv32 lv33 lv34 lv35 lv36 lv37 lv38 lv39 lv40 lv41 lv42 lv43 lv44 lv45 lv46 lv47 lv48 lv49 lv50 lv51 lv52 lv53 lv54 lv55 lv56 lv57 lv58 lv59 lv60 lv61 lv62 lv63 lv64 lv65 lv66 lv67 lv68 lv69 lv70 lv71 lv72 lv73 lv74 lv75 lv76 lv77 lv78 lv79 lv80 lv81 lv82 lv83 lv84 lv85 lv86 lv87 lv88 lv89 lv90 lv91 lv92 lv93 lv94 lv95 lv96 lv97 lv98 lv99 lv100 lv101 lv102 lv103 lv104 lv105 lv106 lv107 lv108 lv109 lv110 lv111 lv112 lv113 lv114 lv115 lv116 lv117 lv118 lv119 lv120 lv121 lv122 lv123 lv124 lv125 lv126 lv127 lv128 lv129 lv130 lv131 lv132 lv133 lv134 lv135 lv136 lv137 lv138 lv139 lv140 lv141 lv142 lv143 lv144 lv145 lv146 lv147 lv148 lv149 lv150 lv151 lv152 lv153 : Value} {w wc : World} {ga gl : Nat} {gb nn : Nat → Nat} (F4 : Hid (Four wc ga gb nn)) (O : Hid (Only (S4 gb) w wc)) (TT : Hid (∀ i, i < 4 → TX wc (gb i) (nn i) (fun _ => mk i))) {hb cp : Nat → Nat} (LG : Hid (Long wc gl nn hb cp 4)) :
    Code.wp Try.prog (suff20 17 (Try.f20.body.getD .skip)) (bodyPost Try.prog Try.f20 (Good2 (S4 gb) w)) ⟨(.slice (some ⟨ga, 0, none⟩) 4 4 :: lv1 :: lv2 :: lv3 :: lv4 :: .slice (some ⟨gl, 0, none⟩) 4 4 :: lv6 :: lv7 :: lv8 :: lv9 :: lv10 :: lv11 :: lv12 :: lv13 :: lv14 :: lv15 :: lv16 :: lv17 :: lv18 :: lv19 :: lv20 :: lv21 :: lv22 :: lv23 :: lv24 :: lv25 :: lv26 :: lv27 :: lv28 :: lv29 :: lv30 :: lv31 :: lv32 :: lv33 :: lv34 :: lv35 :: lv36 :: lv37 :: lv38 :: lv39 :: lv40 :: lv41 :: lv42 :: lv43 :: lv44 :: lv45 :: lv46 :: lv47 :: lv48 :: lv49 :: lv50 :: lv51 :: lv52 :: lv53 :: lv54 :: lv55 :: lv56 :: lv57 :: lv58 :: lv59 :: lv60 :: lv61 :: lv62 :: lv63 :: lv64 :: lv65 :: lv66 :: lv67 :: lv68 :: lv69 :: lv70 :: lv71 :: lv72 :: lv73 :: lv74 :: lv75 :: lv76 :: lv77 :: lv78 :: lv79 :: lv80 :: lv81 :: lv82 :: lv83 :: lv84 :: lv85 :: lv86 :: lv87 :: lv88 :: lv89 :: lv90 :: lv91 :: lv92 :: lv93 :: lv94 :: lv95 :: lv96 :: lv97 :: lv98 :: lv99 :: lv100 :: lv101 :: lv102 :: lv103 :: lv104 :: lv105 :: lv106 :: lv107 :: lv108 :: lv109 :: lv110 :: lv111 :: lv112 :: lv113 :: lv114 :: lv115 :: lv116 :: lv117 :: lv118 :: lv119 :: lv120 :: lv121 :: lv122 :: lv123 :: lv124 :: lv125 :: lv126 :: lv127 :: lv128 :: lv129 :: lv130 :: lv131 :: lv132 :: lv133 :: lv134 :: lv135 :: lv136 :: lv137 :: lv138 :: lv139 :: lv140 :: lv141 :: lv142 :: lv143 :: lv144 :: lv145 :: lv146 :: lv147 :: lv148 :: lv149 :: lv150 :: lv151 :: lv152 :: lv153 :: []).toArray, []⟩ wc := by
  conv => arg 2; whnf
  refine wp_seq_k fun K hK => ?_
  have HK : Hid _ := hK
  clear hK
  go_wp2_with fail
  go_loopw [8] (fun i wr => ∃ k : Nat, k ≤ 4 ∧ i = .int .i64 k ∧ Below wc.heap.size wc wr) (fun i _ => 4 - (intOf i).toNat)
  case atStart => exact ⟨0, by omega, rfl, Below.refl _ _⟩
  case round =>
    obtain ⟨k, hk, rfl, hbw⟩ := hrel
    obtain ⟨wo, hwo⟩ : ∃ wo, wo = wr := ⟨_, rfl⟩
    subst hwo
    have BW : Hid (Below wc.heap.size wc wo) := hbw
    by_cases hlt : k < 4
    · have hln := F4.out.len k hlt
      have G2 := F4.out.later hbw
      have c3 := G2.cell k hlt
      have hg3 := G2.galt
      have hg4 := G2.lt k hlt
      have HTY : Hid (∀ j, j < nn k → wo.cell? ⟨gb k, j, none⟩ = some (.string (bs (mk k)))) := fun j hj => by
        have h1 := (TT.out k hlt j hj).1
        rw [hbw.cell (p := ⟨gb k, j, none⟩) (F4.out.lt k hlt)]; exact h1
      obtain ⟨nk, hnk⟩ : ∃ n, nn k = n := ⟨_, rfl⟩
      obtain ⟨g2, hg2e⟩ : ∃ g, gb k = g := ⟨_, rfl⟩
      rw [hnk, hg2e] at HTY c3
      rw [hnk] at hln
      rw [hg2e] at hg4
      clear hbw G2 hnk hg2e
      have HAP : Hid (∀ w' : World, Below wo.heap.size wo w' → ∀ j u, (sc (List.replicate nk (mk k)))[j]? = some u → w'.cell? ⟨g2, j, none⟩ = some u) := fun w' hb j u hu => by
        rw [hb.cell (p := ⟨g2, j, none⟩) hg4]
        rw [sc_get, List.getElem?_replicate] at hu
        split at hu
        · simp at hu; subst hu; exact HTY.out j (by assumption)
        · simp at hu
      go_wp2_with fail
      go_region_held3 (fun w' => w'.cell? ⟨ga, k, none⟩ = some (.slice (some ⟨g2, 0, none⟩) nk nk)) (first | go_keep | (exact (by rw [hb8.cell (p := ⟨ga, k, none⟩) hg3]; exact c3)) | (exact (by rw [(bstep hb8 (balloc _ _)).cell (p := ⟨ga, k, none⟩) hg3]; exact c3)) | (exact (by rw [(bstep (bstep hb8 (balloc _ _)) hb7).cell (p := ⟨ga, k, none⟩) hg3]; exact c3))) (first | (go_at_call 35; refine (mark_any k _ hlt).mono ?_; rintro e w' ⟨rfl, hb9⟩; have hb8 : Below wo.heap.size wo w' := (by first | exact bstep hb8 hb9 | exact bstep (Below.refl _ _).drew hb9)) | (refine step_append_full rfl (.tmp 76) (.tmp 93) rfl g2 nk (List.replicate nk (mk k)) (List.replicate 8 (mk k)) _ rfl rfl (HAP.out _ (bstep hb8 (balloc _ _))) (by simp) (src_eight _ _) (by simp) (by simp; omega) ?_; intro d cap w' ho9 hb7))
      obtain ⟨wx, hwx⟩ : ∃ wx, wx = w' := ⟨_, rfl⟩
      subst hwx
      have B7 : Hid (Below wo.heap.size wo wx) := bstep (bstep hb8 (balloc _ _)) hb7
      have hdx := (ho9.lt (k := d) rfl).2
      have HD : Hid (∀ j, j < nk + 8 → wx.cell? ⟨d, j, none⟩ = some (.string (bs (mk k)))) := fun j hj => by
        have hc := World.ownsRow.cells ho9 (g := d) rfl j (.string (bs (mk k))) (by
          rw [sc_get, List.getElem?_append, List.getElem?_replicate, List.getElem?_replicate]
          by_cases h1 : j < nk
          · simp [h1]
          · simp [h1]; omega)
        rw [add_lit, Nat.zero_add] at hc
        exact hc
      clear hb7 ho9 hb8 hb9 HAP c3 hg3 hg4 HTY
      go_wp2_with fail
      go_loopw [10] (fun j wr => ∃ m : Nat, m ≤ nk + 8 ∧ j = .int .i64 m ∧ Below wx.heap.size wx wr) (fun j _ => nk + 8 - (intOf j).toNat)
      case atStart => exact ⟨0, by omega, rfl, Below.refl _ _⟩
      case round =>
        obtain ⟨m, hm, rfl, hbw⟩ := hrel
        have B2 : Hid (Below wx.heap.size wx wr) := hbw
        clear hbw
        by_cases hlt2 : m < nk + 8
        · have c2 : wr.cell? ⟨d, m, none⟩ = some (.string (bs (mk k))) := by rw [B2.out.cell (p := ⟨d, m, none⟩) hdx]; exact HD.out m hlt2
          have hdr := Nat.lt_of_lt_of_le hdx B2.out.size
          go_wp2_with fail
          have x2 : ∀ X : GW wr, X.it.cell? ⟨d, m, none⟩ = some (.string (bs (mk k))) := fun X => X.cell hdr c2
          have xne := gw_ne wr
          refine wp_region_grow (by kernel_rfl) (by kernel_rfl) ?_
          repeat (go_big_quiet_step (exact mark_grow k hlt _))
          refine wpQuiet_nil ?_
          rintro w' ⟨⟨w', bx⟩, rfl⟩
          go_wp2_with fail
          go_roundw
          case rel => exact ⟨m + 1, by omega, by go_num, bstep B2.out bx⟩
          case measure => simp [intOf]; omega
        · obtain rfl : m = nk + 8 := by omega
          go_wp2_with fail
          go_roundw
          case rel => exact ⟨k + 1, by omega, by go_num, bstep BW.out (bstep B7.out B2.out)⟩
          case measure => simp [intOf]; omega
    · obtain rfl : k = 4 := by omega
      go_wp2_with fail
      refine HK.out _ _ ?_
      exact p26 (F4.out.later BW.out) (only_below O.out BW.out) (fun i hi => (TT.out i hi).only (Only.of_below BW.out []) (F4.out.lt i hi) (by simp)) (LG.out.later BW.out)

end Go.Proofs.Ytpnlajbcbcheeab
