import Derived.Test.YtpaohkegekhgdacDuo
namespace Go.Proofs.Ytpaohkegekhgdac
open Go.RowKit

set_option maxHeartbeats 4000000 in
set_option maxRecDepth 100000 in
theorem a23 {lv1 lv2 lv3 lv4 lv6 lv7 lv8 lv9 lv10 lv11 lv12 lv13 lv14 lv15 lv16 lv17 lv18 lv19 lv20 lv21 lv22 lv23 lv24 lv25 lv26 lv27 lv28 lv29 lv30 lv31 lv32 lv33 lv34 lv35 lv36 lv37 lv38 lv39 lv40 lv41 lv42 lv43 lv44 lv45 lv46 lv47 lv48 lv49 lv50 lv51 lv52 lv53 lv54 lv55 lv56 lv57 lv58 lv59 lv60 lv61 lv62 lv63 lv64 lv65 lv66 lv67 lv68 lv69 lv70 lv71 lv72 lv73 lv74 lv75 lv76 lv77 lv78 lv79 lv80 lv81 lv82 lv83 lv84 lv85 lv86 lv87 lv88 lv89 lv90 lv91 lv92 lv93 lv94 lv95 lv96 lv97 lv98 : Value} {w wc : World} {B ga gm cm n : Nat} {V U : Nat → Value} (BW : Hid (Below B w wc)) (D : Hid (Duo wc ga V)) (SV : Hid (∀ i, i < 2 → SS wc (V i) (List.replicate n (mk i)))) (hgm : gm < wc.heap.size) (CU : Hid (∀ i, i < 2 → wc.cell? ⟨gm, i, none⟩ = some (U i))) (SU : Hid (∀ i, i < 2 → SS wc (U i) (List.replicate (n + 40) (mk i)))) (hn : n ≤ 4000000) (hB : B ≤ wc.heap.size) :
    Code.wp Try.prog (suff 23 (Try.f22.body.getD .skip)) (bodyPost Try.prog Try.f22 (Good3 B w)) ⟨(.slice (some ⟨ga, 0, none⟩) 2 2 :: lv1 :: lv2 :: lv3 :: lv4 :: .slice (some ⟨gm, 0, none⟩) 2 cm :: lv6 :: lv7 :: lv8 :: lv9 :: lv10 :: lv11 :: lv12 :: lv13 :: lv14 :: lv15 :: lv16 :: lv17 :: lv18 :: lv19 :: lv20 :: lv21 :: lv22 :: lv23 :: lv24 :: lv25 :: lv26 :: lv27 :: lv28 :: lv29 :: lv30 :: lv31 :: lv32 :: lv33 :: lv34 :: lv35 :: lv36 :: lv37 :: lv38 :: lv39 :: lv40 :: lv41 :: lv42 :: lv43 :: lv44 :: lv45 :: lv46 :: lv47 :: lv48 :: lv49 :: lv50 :: lv51 :: lv52 :: lv53 :: lv54 :: lv55 :: lv56 :: lv57 :: lv58 :: lv59 :: lv60 :: lv61 :: lv62 :: lv63 :: lv64 :: lv65 :: lv66 :: lv67 :: lv68 :: lv69 :: lv70 :: lv71 :: lv72 :: lv73 :: lv74 :: lv75 :: lv76 :: lv77 :: lv78 :: lv79 :: lv80 :: lv81 :: lv82 :: lv83 :: lv84 :: lv85 :: lv86 :: lv87 :: lv88 :: lv89 :: lv90 :: lv91 :: lv92 :: lv93 :: lv94 :: lv95 :: lv96 :: lv97 :: lv98 :: []).toArray, []⟩ wc := by
  conv => arg 2; whnf
  go_wp2_with fail
  go_loopw [12] (fun i wr => ∃ k : Nat, k ≤ 2 ∧ i = .int .i64 k ∧ Below wc.heap.size wc wr) (fun i _ => 2 - (intOf i).toNat)
  case atStart => exact ⟨0, by omega, rfl, Below.refl _ _⟩
  case round =>
    obtain ⟨k, hk, rfl, hbw⟩ := hrel
    have HW : Hid (Below wc.heap.size wc wr) := hbw
    have hz := hbw.size
    clear hbw
    by_cases hlt : k < 2
    · have s1 := (SV.out k hlt).later HW.out
      have s2 := (SU.out k hlt).later HW.out
      have c1 := (D.out.later HW.out).cell k hlt
      have c2 : wr.cell? ⟨gm, k, none⟩ = some (U k) := by rw [HW.out.cell (p := ⟨gm, k, none⟩) hgm]; exact CU.out k hlt
      have hgal := (D.out.later HW.out).galt
      obtain ⟨v1, hv1⟩ : ∃ v, V k = v := ⟨_, rfl⟩
      obtain ⟨v2, hv2⟩ : ∃ v, U k = v := ⟨_, rfl⟩
      rw [hv1] at s1 c1
      rw [hv2] at s2 c2
      obtain ⟨a1, d1, n1, hn1, rfl⟩ := s1.len'
      obtain ⟨a2, d2, n2, hn2, rfl⟩ := s2.len'
      clear hn1 hn2
      have S1 : Hid (SS wr (.slice a1 n1 d1) (List.replicate n (mk k))) := s1
      have S2 : Hid (SS wr (.slice a2 n2 d2) (List.replicate (n + 40) (mk k))) := s2
      have x1 : ∀ X : GW wr, X.it.cell? ⟨ga, k, none⟩ = some (.slice a1 n1 d1) := fun X => X.cell hgal c1
      have x2 : ∀ X : GW wr, X.it.cell? ⟨gm, k, none⟩ = some (.slice a2 n2 d2) := fun X => X.cell (by show gm < wr.heap.size; omega) c2
      have xne := gw_ne wr
      have k1 : (0 : Int) ≤ (k : Int) := by omega
      have k2 : (k : Int) < 2 := by omega
      have HM : Hid (∀ X : GW wr, Calls Try.prog 36 #[.int .i64 k] X.it fun e w' => e = .returned (.string (bs (mk k))) ∧ ∃ Y : GW wr, w' = Y.it) := fun X => mark_grow k (by omega) X
      have HF1 : Hid (∀ X : GW wr, Calls Try.prog 37 #[.slice a1 n1 d1, .string (bs (mk k))] X.it fun e w' => e = .returned (.bool true) ∧ ∃ Y : GW wr, w' = Y.it) := fun X => full_grow S1.out (by simp; omega) (rep_all _ _) X
      have HF2 : Hid (∀ X : GW wr, Calls Try.prog 37 #[.slice a2 n2 d2, .string (bs (mk k))] X.it fun e w' => e = .returned (.bool true) ∧ ∃ Y : GW wr, w' = Y.it) := fun X => full_grow S2.out (by simp; omega) (rep_all _ _) X
      clear s1 s2 hv1 hv2 c1 c2
      go_wp2_with fail
      refine wp_region_grow (by kernel_rfl) (by kernel_rfl) ?_
      repeat (go_big_quiet_step (fail))
      go_big_quiet_step (exact HM.out _)
      go_big_quiet_step (exact HF1.out _)
      repeat (go_big_quiet_step (fail))
      go_big_quiet_step (exact HM.out _)
      go_big_quiet_step (exact HF2.out _)
      repeat (go_big_quiet_step (fail))
      refine wpQuiet_nil ?_
      rintro w2 ⟨⟨w2, bx⟩, rfl⟩
      have HB5 : Hid (Below wc.heap.size wc w2) := bstep HW.out bx
      clear bx
      go_wp2_with fail
      go_roundw
      case rel => exact ⟨k + 1, by omega, by go_num, HB5.out⟩
      case measure => simp [intOf]; omega
    · obtain rfl : k = 2 := by omega
      go_wp2_with fail
      go_ret
      exact ⟨rfl, below_trans BW.out (below_mono HW.out hB)⟩

end Go.Proofs.Ytpaohkegekhgdac
