import Derived.Test.YtpnlajbcbcheeabP9
import Derived.Test.YtpnlajbcbcheeabR7
import Derived.Deep.DeepCutAuto
namespace Go.Proofs.Ytpnlajbcbcheeab
open Go.RowKit

set_option maxHeartbeats 4000000 in
set_option maxRecDepth 100000 in
theorem p8 {lv1 lv2 lv3 lv4 lv5 lv6 lv7 lv8 lv9 lv10 lv11 lv12 lv13 lv14 lv15 lv16 lv17 lv18 lv19 lv20 lv21 lv22 lv23 lv24 lv25 lv26 lv27 lv28 lv29 lv30 lv31 lv32 lv33 lv34 lv35 lv36 lv37 lv38 lv39 lv40 lv41 lv42 lv43 lv44 lv45 lv46 lv47 lv48 lv49 lv50 lv51 lv52 lv53 lv54 lv55 lv56 lv57 lv58 lv59 lv60 lv61 lv62 lv63 lv64 lv65 lv66 lv67 lv68 lv69 lv70 lv71 lv72 lv73 lv74 lv75 lv76 lv77 lv78 lv79 lv80 lv81 lv82 lv83 lv84 lv85 lv86 lv87 lv88 lv89 lv90 lv91 lv92 lv93 lv94 lv95 lv96 lv97 lv98 lv99 lv100 lv101 lv102 lv103 lv104 lv105 lv106 lv107 lv108 lv109 lv110 lv111 lv112 lv113 lv114 lv115 lv116 lv117 lv118 lv119 lv120 lv121 lv122 lv123 lv124 lv125 lv126 lv127 lv128 lv129 lv130 lv131 lv132 lv133 lv134 lv135 lv136 lv137 lv138 lv139 lv140 lv141 lv142 lv143 lv144 lv145 lv146 lv147 lv148 lv149 lv150 lv151 lv152 lv153 : Value} {w wc : World} {ga : Nat} {gb nn : Nat → Nat} (F4 : Hid (Four wc ga gb nn)) (O : Hid (Only (S4 gb) w wc)) (TT : Hid (∀ i, i < 4 → TX wc (gb i) (nn i) (fun _ => mk i)))
    (K : Act → World → Prop) (hK : ∀ a' w', Code.wp Try.prog (tl20 (suff20 8 (Try.f20.body.getD .skip))) (bodyPost Try.prog Try.f20 (Good2 (S4 gb) w)) a' w' → K a' w') :
    Code.wp Try.prog (hd20 (suff20 8 (Try.f20.body.getD .skip))) (Exit.then K (bodyPost Try.prog Try.f20 (Good2 (S4 gb) w))) ⟨(.slice (some ⟨ga, 0, none⟩) 4 4 :: lv1 :: lv2 :: lv3 :: lv4 :: lv5 :: lv6 :: lv7 :: lv8 :: lv9 :: lv10 :: lv11 :: lv12 :: lv13 :: lv14 :: lv15 :: lv16 :: lv17 :: lv18 :: lv19 :: lv20 :: lv21 :: lv22 :: lv23 :: lv24 :: lv25 :: lv26 :: lv27 :: lv28 :: lv29 :: lv30 :: lv31 :: lv32 :: lv33 :: lv34 :: lv35 :: lv36 :: lv37 :: lv38 :: lv39 :: lv40 :: lv41 :: lv42 :: lv43 :: lv44 :: lv45 :: lv46 :: lv47 :: lv48 :: lv49 :: lv50 :: lv51 :: lv52 :: lv53 :: lv54 :: lv55 :: lv56 :: lv57 :: lv58 :: lv59 :: lv60 :: lv61 :: lv62 :: lv63 :: lv64 :: lv65 :: lv66 :: lv67 :: lv68 :: lv69 :: lv70 :: lv71 :: lv72 :: lv73 :: lv74 :: lv75 :: lv76 :: lv77 :: lv78 :: lv79 :: lv80 :: lv81 :: lv82 :: lv83 :: lv84 :: lv85 :: lv86 :: lv87 :: lv88 :: lv89 :: lv90 :: lv91 :: lv92 :: lv93 :: lv94 :: lv95 :: lv96 :: lv97 :: lv98 :: lv99 :: lv100 :: lv101 :: lv102 :: lv103 :: lv104 :: lv105 :: lv106 :: lv107 :: lv108 :: lv109 :: lv110 :: lv111 :: lv112 :: lv113 :: lv114 :: lv115 :: lv116 :: lv117 :: lv118 :: lv119 :: lv120 :: lv121 :: lv122 :: lv123 :: lv124 :: lv125 :: lv126 :: lv127 :: lv128 :: lv129 :: lv130 :: lv131 :: lv132 :: lv133 :: lv134 :: lv135 :: lv136 :: lv137 :: lv138 :: lv139 :: lv140 :: lv141 :: lv142 :: lv143 :: lv144 :: lv145 :: lv146 :: lv147 :: lv148 :: lv149 :: lv150 :: lv151 :: lv152 :: lv153 :: []).toArray, []⟩ wc := by
  conv => arg 2; whnf
  have HK : Hid _ := hK
  clear hK
  have hmk : ∀ u : World, (Instr.makeSlice 37 (.int .i64 4) (.int .i64 4)).run Try.prog u = .ok (.slice (some ⟨u.heap.size, 0, none⟩) 4 4) (u.alloc (.cells #[.slice none 0 0, .slice none 0 0, .slice none 0 0, .slice none 0 0] 26)) := fun _ => by kernel_rfl
  go_wp2_with fail
  refine HK.out _ _ ?_
  have hB := balloc wc (.cells #[.slice none 0 0, .slice none 0 0, .slice none 0 0, .slice none 0 0] 26)
  refine p9 (F4.out.later hB) (only_below O.out hB) (fun i hi => (TT.out i hi).only (Only.of_below hB []) (F4.out.lt i hi) (by simp)) ⟨by simp, fun i hi => ?_⟩ F4.out.galt (fun i hi => F4.out.lt i hi) O.out.size
  have : i = 0 ∨ i = 1 ∨ i = 2 ∨ i = 3 := by omega
  rcases this with rfl | rfl | rfl | rfl <;> exact ⟨⟨_, by simp; rfl⟩, by simp⟩
/-- which texts are marked by now -/
def FF (X : Nat → Nat → List UInt8) (k m i j : Nat) : List UInt8 := if i < k ∨ (i = k ∧ j < m) then mk i else X i j
theorem FF_step {w wr w2 : World} {ga k m : Nat} {gb nn : Nat → Nat} {X : Nat → Nat → List UInt8} (F4 : Four w ga gb nn) (hT : ∀ i, i < 4 → TX wr (gb i) (nn i) (FF X k m i)) (hO : Only (S4 gb) w wr) (hk : k < 4) (hm : m < nn k) (hB : Below wr.heap.size wr w2) :
    (∀ i, i < 4 → TX (w2.setCell ⟨gb k, m, none⟩ (.string (bs (mk k)))) (gb i) (nn i) (FF X k (m + 1) i)) ∧ Only (S4 gb) w (w2.setCell ⟨gb k, m, none⟩ (.string (bs (mk k)))) := by
  have hlt : ∀ i, i < 4 → gb i < wr.heap.size := fun i hi => Nat.lt_of_lt_of_le (F4.lt i hi) hO.size
  have hT2 : ∀ i, i < 4 → TX w2 (gb i) (nn i) (FF X k m i) := fun i hi => (hT i hi).only (Only.of_below hB []) (hlt i hi) (by simp)
  refine ⟨fun i hi => ?_, (only_below hO hB).trans ((Only.set _ _ _ _).mono (fun g hg => by simp at hg; subst hg; exact S4_mem hk))⟩
  by_cases e : i = k
  · subst e
    refine ((hT2 i hi).set hm (mk i)).congr (fun j hj => ?_)
    show (if j = m then mk i else FF X i m i j) = FF X i (m + 1) i j
    unfold FF
    by_cases h1 : j = m
    · subst h1; simp
    · rw [if_neg h1]
      by_cases h2 : j < m
      · rw [if_pos (.inr ⟨rfl, h2⟩), if_pos (.inr ⟨rfl, by omega⟩)]
      · rw [if_neg (by omega), if_neg (by omega)]
  · refine ((hT2 i hi).only (Only.set w2 (gb k) m _) (Nat.lt_of_lt_of_le (hlt i hi) hB.size) (by simp; exact fun h => e (F4.inj i hi k hk h))).congr (fun j hj => ?_)
    unfold FF
    by_cases h1 : i < k
    · rw [if_pos (.inl h1), if_pos (.inl h1)]
    · rw [if_neg (by omega), if_neg (by omega)]
theorem FF_next (X : Nat → Nat → List UInt8) (k n i j : Nat) (h : i = k → j < n) : FF X k n i j = FF X (k + 1) 0 i j := by
  unfold FF
  by_cases h1 : i < k
  · rw [if_pos (.inl h1), if_pos (.inl (by omega))]
  · by_cases h2 : i = k
    · rw [if_pos (.inr ⟨h2, h h2⟩), if_pos (.inl (by omega))]
    · rw [if_neg (by omega), if_neg (by omega)]

set_option maxHeartbeats 4000000 in
set_option maxRecDepth 100000 in
theorem marked_any {w : World} {ga : Nat} {gb nn : Nat → Nat} {X : Nat → Nat → List UInt8} (F4 : Hid (Four w ga gb nn)) (TT : Hid (∀ i, i < 4 → TX w (gb i) (nn i) (X i))) :
    Calls Try.prog 20 #[.slice (some ⟨ga, 0, none⟩) 4 4] w (Good2 (S4 gb) w) := by
  go_enter Try.func20, Try.ntmps20
  go_wp2_with fail
  go_loopw [3] (fun i wr => ∃ k : Nat, k ≤ 4 ∧ i = .int .i64 k ∧ (∀ i, i < 4 → TX wr (gb i) (nn i) (FF X k 0 i)) ∧ Only (S4 gb) w wr) (fun i _ => 4 - (intOf i).toNat)
  case atStart => exact ⟨0, by omega, rfl, fun i hi => (TT.out i hi).congr (fun j hj => by unfold FF; rw [if_neg (by omega)]), Only.refl _ _⟩
  case round =>
    obtain ⟨k, hk, rfl, hT, hO⟩ := hrel
    obtain ⟨wo, hwo⟩ : ∃ wo, wo = wr := ⟨_, rfl⟩
    subst hwo
    have TW : Hid (∀ i, i < 4 → TX wo (gb i) (nn i) (FF X k 0 i)) := hT
    have OW : Hid (Only (S4 gb) w wo) := hO
    clear hT hO
    by_cases hlt : k < 4
    · have hln := F4.out.len k hlt
      obtain ⟨nk, hnk⟩ : ∃ n, nn k = n := ⟨_, rfl⟩
      rw [hnk] at hln
      have HNK : Hid (nn k = nk) := hnk
      clear hnk
      go_wp2_with fail
      go_loopw [4] (fun i wr => ∃ m : Nat, m ≤ nk ∧ i = .int .i64 m ∧ (∀ i, i < 4 → TX wr (gb i) (nn i) (FF X k m i)) ∧ Only (S4 gb) w wr) (fun i _ => nk - (intOf i).toNat)
      case atStart => exact ⟨0, by omega, rfl, TW.out, OW.out⟩
      case round =>
        obtain ⟨m, hm, rfl, hT, hO⟩ := hrel
        have T1 : Hid (∀ i, i < 4 → TX wr (gb i) (nn i) (FF X k m i)) := hT
        have O1 : Hid (Only (S4 gb) w wr) := hO
        have G2 := F4.out.only hO F4.out.notin
        have c3 := G2.cell k hlt
        have hg3 := G2.galt
        have hg4 := G2.lt k hlt
        have hty := hT k hlt
        obtain ⟨g2, hg2e⟩ : ∃ g, gb k = g := ⟨_, rfl⟩
        have HG2 : Hid (gb k = g2) := hg2e
        rw [HNK.out, hg2e] at c3 hty
        rw [hg2e] at hg4
        have HTY : Hid (TX wr g2 nk (FF X k m k)) := hty
        clear hT hO G2 hty hg2e
        by_cases hlt2 : m < nk
        · obtain ⟨ct, cf⟩ := HTY.out m hlt2
          go_wp2_with fail
          refine r7 hlt hlt2 hg3 hg4 c3 ct cf _ ?_
          intro s28 s29 s30 s31 s32 s33 s34 s35 w2 hb8
          have hst := FF_step F4.out T1.out O1.out hlt (by rw [HNK.out]; exact hlt2) hb8
          rw [HG2.out] at hst
          have HST : Hid ((∀ i, i < 4 → TX (w2.setCell ⟨g2, m, none⟩ (.string (bs (mk k)))) (gb i) (nn i) (FF X k (m + 1) i)) ∧ Only (S4 gb) w (w2.setCell ⟨g2, m, none⟩ (.string (bs (mk k))))) := hst
          clear hst hb8 ct cf c3
          go_wp2_with fail
          go_roundw
          case rel => exact ⟨m + 1, by omega, by go_num, HST.out.1, HST.out.2⟩
          case measure => simp [intOf]; omega
        · obtain rfl : m = nk := by omega
          go_wp2_with fail
          go_roundw
          case rel => exact ⟨k + 1, by omega, by go_num, fun i hi => (T1.out i hi).congr (fun j hj => FF_next X k m i j (fun e => by subst e; rw [HNK.out] at hj; exact hj)), O1.out⟩
          case measure => simp [intOf]; omega
    · obtain rfl : k = 4 := by omega
      have T4 : Hid (∀ i, i < 4 → TX wo (gb i) (nn i) (fun _ => mk i)) := fun i hi => (TW.out i hi).congr (fun j hj => by unfold FF; rw [if_pos (.inl hi)])
      have F5 : Hid (Four wo ga gb nn) := F4.out.only OW.out F4.out.notin
      go_upto_region 8 with fail
      exact p8 F5 OW T4 _ (by assumption)
end Go.Proofs.Ytpnlajbcbcheeab
