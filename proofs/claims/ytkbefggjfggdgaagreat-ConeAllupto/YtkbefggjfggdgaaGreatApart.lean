import Derived.Test.YtkbefggjfggdgaaGreatA7
namespace Go.Proofs.YtkbefggjfggdgaaGreat
open Go.RowKit

set_option maxHeartbeats 4000000 in
set_option maxRecDepth 100000 in
theorem a2 {lv2 lv3 lv4 lv6 lv7 lv8 lv9 lv10 lv11 lv12 lv13 lv14 lv15 lv16 lv17 lv18 lv19 lv20 lv21 lv22 lv23 lv24 lv25 lv26 lv27 lv28 lv29 lv30 lv31 lv32 lv33 lv34 lv35 lv36 lv37 lv38 lv39 lv40 lv41 lv42 lv43 lv44 lv45 lv46 lv47 lv48 lv49 lv50 lv51 lv52 lv53 lv54 lv55 lv56 lv57 lv58 lv59 lv60 lv61 lv62 lv63 lv64 lv65 lv66 lv67 lv68 lv69 lv70 lv71 lv72 lv73 lv74 lv75 lv76 lv77 lv78 lv79 lv80 lv81 lv82 lv83 lv84 lv85 lv86 lv87 lv88 lv89 lv90 lv91 lv92 lv93 lv94 lv95 lv96 lv97 lv98 : Value} {w : World} {B ga gw n : Nat} {V U : Nat → Value} {R : List (List UInt8)} (D : Hid (Duo w ga V)) (OV : Hid (∀ i, i < 2 → Own B w (V i) R)) (hgw : gw < w.heap.size) (CU : Hid (∀ i, i < 2 → w.cell? ⟨gw, i, none⟩ = some (U i) ∧ SS w (U i) R)) (HRN : Hid (R.length = n)) (hn : n ≤ 4000000) (hBw : B ≤ w.heap.size) :
    Code.wp Tryz.prog (suff 2 (Tryz.f19.body.getD .skip)) (bodyPost Tryz.prog Tryz.f19 (Good3 B V w)) ⟨(.slice (some ⟨ga, 0, none⟩) 2 2 :: .slice (some ⟨gw, 0, none⟩) 2 2 :: lv2 :: lv3 :: lv4 :: .slice none 0 0 :: lv6 :: lv7 :: lv8 :: lv9 :: lv10 :: lv11 :: lv12 :: lv13 :: lv14 :: lv15 :: lv16 :: lv17 :: lv18 :: lv19 :: lv20 :: lv21 :: lv22 :: lv23 :: lv24 :: lv25 :: lv26 :: lv27 :: lv28 :: lv29 :: lv30 :: lv31 :: lv32 :: lv33 :: lv34 :: lv35 :: lv36 :: lv37 :: lv38 :: lv39 :: lv40 :: lv41 :: lv42 :: lv43 :: lv44 :: lv45 :: lv46 :: lv47 :: lv48 :: lv49 :: lv50 :: lv51 :: lv52 :: lv53 :: lv54 :: lv55 :: lv56 :: lv57 :: lv58 :: lv59 :: lv60 :: lv61 :: lv62 :: lv63 :: lv64 :: lv65 :: lv66 :: lv67 :: lv68 :: lv69 :: lv70 :: lv71 :: lv72 :: lv73 :: lv74 :: lv75 :: lv76 :: lv77 :: lv78 :: lv79 :: lv80 :: lv81 :: lv82 :: lv83 :: lv84 :: lv85 :: lv86 :: lv87 :: lv88 :: lv89 :: lv90 :: lv91 :: lv92 :: lv93 :: lv94 :: lv95 :: lv96 :: lv97 :: lv98 :: []).toArray, []⟩ w := by
  conv => arg 2; whnf
  refine wp_seq_k fun K hK => ?_
  have HK : Hid _ := hK
  clear hK
  go_wp2_with fail
  go_loopw [6] (fun i wr => ∃ k : Nat, k ≤ 2 ∧ i = .int .i64 k ∧ Below w.heap.size w wr) (fun i _ => 2 - (intOf i).toNat)
  case atStart => exact ⟨0, by omega, rfl, Below.refl _ _⟩
  case round =>
    obtain ⟨k, hk, rfl, hbw⟩ := hrel
    have HW : Hid (Below w.heap.size w wr) := hbw
    have hz := hbw.size
    clear hbw
    by_cases hlt : k < 2
    · have s1 := ((OV.out k hlt).later HW.out).bs
      have s2 := (CU.out k hlt).2.later HW.out
      have c1 := (D.out.later HW.out).cell k hlt
      have c2 : wr.cell? ⟨gw, k, none⟩ = some (U k) := by rw [HW.out.cell (p := ⟨gw, k, none⟩) hgw]; exact (CU.out k hlt).1
      have hgal := (D.out.later HW.out).galt
      obtain ⟨v1, hv1⟩ : ∃ v, V k = v := ⟨_, rfl⟩
      obtain ⟨v2, hv2⟩ : ∃ v, U k = v := ⟨_, rfl⟩
      rw [hv1] at s1 c1
      rw [hv2] at s2 c2
      obtain ⟨a1, d1, n1, hn1, rfl⟩ := s1.len'
      obtain ⟨a2, d2, n2, hn2, rfl⟩ := s2.len'
      clear hn1 hn2
      have S1 : Hid (SS wr (.slice a1 n1 d1) R ∧ SS wr (.slice a2 n2 d2) R) := ⟨s1, s2⟩
      have x1 : ∀ X : GW wr, X.it.cell? ⟨ga, k, none⟩ = some (.slice a1 n1 d1) := fun X => X.cell hgal c1
      have x2 : ∀ X : GW wr, X.it.cell? ⟨gw, k, none⟩ = some (.slice a2 n2 d2) := fun X => X.cell (by show gw < wr.heap.size; omega) c2
      have xne := gw_ne wr
      have k1 : (0 : Int) ≤ (k : Int) := by omega
      have k2 : (k : Int) < 2 := by omega
      clear s1 s2 hv1 hv2 c1 c2
      go_wp2_with fail
      refine wp_region_grow (by kernel_rfl) (by kernel_rfl) ?_
      repeat (go_big_quiet_step (exact texts_grow S1.out.1 S1.out.2 (by have := HRN.out; omega) _))
      refine wpQuiet_nil ?_
      rintro w2 ⟨⟨w2, bx⟩, rfl⟩
      have HB5 : Hid (Below w.heap.size w w2) := bstep HW.out bx
      clear bx
      go_wp2_with fail
      go_roundw
      case rel => exact ⟨k + 1, by omega, by go_num, HB5.out⟩
      case measure => simp [intOf]; omega
    · obtain rfl : k = 2 := by omega
      go_wp2_with fail
      refine HK.out _ _ ?_
      exact a7 ⟨below_mono HW.out hBw, Only.of_below HW.out _⟩ (D.out.later HW.out) (fun i hi => (OV.out i hi).later HW.out) HRN hn hBw

set_option maxHeartbeats 4000000 in
set_option maxRecDepth 100000 in
theorem a0 {lv2 lv3 lv4 lv5 lv6 lv7 lv8 lv9 lv10 lv11 lv12 lv13 lv14 lv15 lv16 lv17 lv18 lv19 lv20 lv21 lv22 lv23 lv24 lv25 lv26 lv27 lv28 lv29 lv30 lv31 lv32 lv33 lv34 lv35 lv36 lv37 lv38 lv39 lv40 lv41 lv42 lv43 lv44 lv45 lv46 lv47 lv48 lv49 lv50 lv51 lv52 lv53 lv54 lv55 lv56 lv57 lv58 lv59 lv60 lv61 lv62 lv63 lv64 lv65 lv66 lv67 lv68 lv69 lv70 lv71 lv72 lv73 lv74 lv75 lv76 lv77 lv78 lv79 lv80 lv81 lv82 lv83 lv84 lv85 lv86 lv87 lv88 lv89 lv90 lv91 lv92 lv93 lv94 lv95 lv96 lv97 lv98 : Value} {w : World} {B ga gw n : Nat} {V U : Nat → Value} {R : List (List UInt8)} (D : Hid (Duo w ga V)) (OV : Hid (∀ i, i < 2 → Own B w (V i) R)) (hgw : gw < w.heap.size) (CU : Hid (∀ i, i < 2 → w.cell? ⟨gw, i, none⟩ = some (U i) ∧ SS w (U i) R)) (HRN : Hid (R.length = n)) (hn : n ≤ 4000000) (hBw : B ≤ w.heap.size) :
    Code.wp Tryz.prog (suff 0 (Tryz.f19.body.getD .skip)) (bodyPost Tryz.prog Tryz.f19 (Good3 B V w)) ⟨(.slice (some ⟨ga, 0, none⟩) 2 2 :: .slice (some ⟨gw, 0, none⟩) 2 2 :: lv2 :: lv3 :: lv4 :: lv5 :: lv6 :: lv7 :: lv8 :: lv9 :: lv10 :: lv11 :: lv12 :: lv13 :: lv14 :: lv15 :: lv16 :: lv17 :: lv18 :: lv19 :: lv20 :: lv21 :: lv22 :: lv23 :: lv24 :: lv25 :: lv26 :: lv27 :: lv28 :: lv29 :: lv30 :: lv31 :: lv32 :: lv33 :: lv34 :: lv35 :: lv36 :: lv37 :: lv38 :: lv39 :: lv40 :: lv41 :: lv42 :: lv43 :: lv44 :: lv45 :: lv46 :: lv47 :: lv48 :: lv49 :: lv50 :: lv51 :: lv52 :: lv53 :: lv54 :: lv55 :: lv56 :: lv57 :: lv58 :: lv59 :: lv60 :: lv61 :: lv62 :: lv63 :: lv64 :: lv65 :: lv66 :: lv67 :: lv68 :: lv69 :: lv70 :: lv71 :: lv72 :: lv73 :: lv74 :: lv75 :: lv76 :: lv77 :: lv78 :: lv79 :: lv80 :: lv81 :: lv82 :: lv83 :: lv84 :: lv85 :: lv86 :: lv87 :: lv88 :: lv89 :: lv90 :: lv91 :: lv92 :: lv93 :: lv94 :: lv95 :: lv96 :: lv97 :: lv98 :: []).toArray, []⟩ w := by
  conv => arg 2; whnf
  refine wp_seq_k fun K hK => ?_
  have HK : Hid _ := hK
  clear hK
  go_wp2_with fail
  refine HK.out _ _ ?_
  clear HK
  conv => arg 2; whnf
  refine wp_seq_k fun K hK => ?_
  have HK : Hid _ := hK
  clear hK
  go_wp2_with fail
  refine HK.out _ _ ?_
  exact a2 D OV hgw CU HRN hn hBw

set_option maxHeartbeats 4000000 in
set_option maxRecDepth 100000 in
theorem apart_any {w : World} {B ga gw n : Nat} {V U : Nat → Value} {R : List (List UInt8)} (D : Hid (Duo w ga V)) (OV : Hid (∀ i, i < 2 → Own B w (V i) R)) (hgw : gw < w.heap.size) (CU : Hid (∀ i, i < 2 → w.cell? ⟨gw, i, none⟩ = some (U i) ∧ SS w (U i) R)) (HRN : Hid (R.length = n)) (hn : n ≤ 4000000) (hBw : B ≤ w.heap.size) :
    Calls Tryz.prog 19 #[.slice (some ⟨ga, 0, none⟩) 2 2, .slice (some ⟨gw, 0, none⟩) 2 2] w (Good3 B V w) := by
  go_enter Tryz.func19, Tryz.ntmps19
  exact a0 D OV hgw CU HRN hn hBw
end Go.Proofs.YtkbefggjfggdgaaGreat
