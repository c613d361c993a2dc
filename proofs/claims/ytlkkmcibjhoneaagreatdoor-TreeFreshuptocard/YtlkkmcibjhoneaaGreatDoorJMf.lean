/-
  Lists of files marked.
-/
import Derived.Test.YtlkkmcibjhoneaaGreatDoorJA7
import Derived.Test.YtlkkmcibjhoneaaGreatDoorJFq
import Derived.Test.YtlkkmcibjhoneaaGreatDoorJLent
namespace Go.Proofs.YtlkkmcibjhoneaaGreatDoor
open Go.RowKit

set_option maxHeartbeats 4000000 in
set_option maxRecDepth 100000 in
theorem a2 {lv2 lv3 lv4 lv6 lv7 lv8 lv9 lv10 lv11 lv12 lv13 lv14 lv15 lv16 lv17 lv18 lv19 lv20 lv21 lv22 lv23 lv24 lv25 lv26 lv27 lv28 lv29 lv30 lv31 lv32 lv33 lv34 lv35 lv36 lv37 lv38 lv39 lv40 lv41 lv42 lv43 lv44 lv45 lv46 lv47 lv48 lv49 lv50 lv51 lv52 lv53 lv54 lv55 lv56 lv57 lv58 lv59 lv60 lv61 lv62 lv63 lv64 lv65 lv66 lv67 lv68 lv69 lv70 lv71 lv72 lv73 lv74 lv75 lv76 lv77 lv78 lv79 lv80 lv81 lv82 lv83 lv84 lv85 lv86 lv87 lv88 lv89 lv90 lv91 lv92 lv93 lv94 lv95 lv96 lv97 lv98 : Value} {w : World} {B ga gw n : Nat} {V U : Nat → Value} {R : List (List UInt8)} (D : Hid (Duo w ga V)) (OV : Hid (∀ i, i < 2 → Oww B w (V i) R)) (hgw : gw < w.heap.size) (CU : Hid (∀ i, i < 2 → w.cell? ⟨gw, i, none⟩ = some (U i) ∧ SS w (U i) R)) (HRN : Hid (R.length = n)) (hn : n ≤ 4000000) (hBw : B ≤ w.heap.size) :
    Code.wp Tryz.prog (suff 2 (Tryz.f22.body.getD .skip)) (bodyPost Tryz.prog Tryz.f22 (Good3 B V w)) ⟨(.slice (some ⟨ga, 0, none⟩) 2 2 :: .slice (some ⟨gw, 0, none⟩) 2 2 :: lv2 :: lv3 :: lv4 :: .slice none 0 0 :: lv6 :: lv7 :: lv8 :: lv9 :: lv10 :: lv11 :: lv12 :: lv13 :: lv14 :: lv15 :: lv16 :: lv17 :: lv18 :: lv19 :: lv20 :: lv21 :: lv22 :: lv23 :: lv24 :: lv25 :: lv26 :: lv27 :: lv28 :: lv29 :: lv30 :: lv31 :: lv32 :: lv33 :: lv34 :: lv35 :: lv36 :: lv37 :: lv38 :: lv39 :: lv40 :: lv41 :: lv42 :: lv43 :: lv44 :: lv45 :: lv46 :: lv47 :: lv48 :: lv49 :: lv50 :: lv51 :: lv52 :: lv53 :: lv54 :: lv55 :: lv56 :: lv57 :: lv58 :: lv59 :: lv60 :: lv61 :: lv62 :: lv63 :: lv64 :: lv65 :: lv66 :: lv67 :: lv68 :: lv69 :: lv70 :: lv71 :: lv72 :: lv73 :: lv74 :: lv75 :: lv76 :: lv77 :: lv78 :: lv79 :: lv80 :: lv81 :: lv82 :: lv83 :: lv84 :: lv85 :: lv86 :: lv87 :: lv88 :: lv89 :: lv90 :: lv91 :: lv92 :: lv93 :: lv94 :: lv95 :: lv96 :: lv97 :: lv98 :: []).toArray, []⟩ w := by
  conv => arg 2; whnf
  refine wp_seq_k fun K hK => ?_
  have HK : Hid _ := hK
  clear hK
  go_wp2_with fail
  go_loopw [6] (fun i wr => ∃ k : Nat, k ≤ 2 ∧ i = .int .i64 k ∧ Below w.heap.size w wr) (fun i _ => 2 - (intOf i).toNat)
  case atStart => exact ⟨0, by omega, rfl, Below.refl _ _⟩
  case round =>
    obtain ⟨k, hk, rfl, hbw⟩ := hrel
    have HW : Hid (Below w.heap.size w wr) := hbw
    have hz := hbw.size
    clear hbw
    by_cases hlt : k < 2
    · have s1 := ((OV.out k hlt).later HW.out).bs
      have s2 := (CU.out k hlt).2.later HW.out
      have c1 := (D.out.later HW.out).cell k hlt
      have c2 : wr.cell? ⟨gw, k, none⟩ = some (U k) := by rw [HW.out.cell (p := ⟨gw, k, none⟩) hgw]; exact (CU.out k hlt).1
      have hgal := (D.out.later HW.out).galt
      obtain ⟨v1, hv1⟩ : ∃ v, V k = v := ⟨_, rfl⟩
      obtain ⟨v2, hv2⟩ : ∃ v, U k = v := ⟨_, rfl⟩
      rw [hv1] at s1 c1
      rw [hv2] at s2 c2
      obtain ⟨a1, d1, n1, hn1, rfl⟩ := s1.len'
      obtain ⟨a2, d2, n2, hn2, rfl⟩ := s2.len'
      clear hn1 hn2
      have S1 : Hid (SS wr (.slice a1 n1 d1) R ∧ SS wr (.slice a2 n2 d2) R) := ⟨s1, s2⟩
      have x1 : ∀ X : GW wr, X.it.cell? ⟨ga, k, none⟩ = some (.slice a1 n1 d1) := fun X => X.cell hgal c1
      have x2 : ∀ X : GW wr, X.it.cell? ⟨gw, k, none⟩ = some (.slice a2 n2 d2) := fun X => X.cell (by show gw < wr.heap.size; omega) c2
      have xne := gw_ne wr
      have k1 : (0 : Int) ≤ (k : Int) := by omega
      have k2 : (k : Int) < 2 := by omega
      clear s1 s2 hv1 hv2 c1 c2
      go_wp2_with fail
      refine wp_region_grow (by kernel_rfl) (by kernel_rfl) ?_
      repeat (go_big_quiet_step (exact texts_grow S1.out.1 S1.out.2 (by have := HRN.out; omega) _))
      refine wpQuiet_nil ?_
      rintro w2 ⟨⟨w2, bx⟩, rfl⟩
      have HB5 : Hid (Below w.heap.size w w2) := bstep HW.out bx
      clear bx
      go_wp2_with fail
      go_roundw
      case rel => exact ⟨k + 1, by omega, by go_num, HB5.out⟩
      case measure => simp [intOf]; omega
    · obtain rfl : k = 2 := by omega
      go_wp2_with fail
      refine HK.out _ _ ?_
      exact a7 ⟨below_mono HW.out hBw, Only.of_below HW.out _⟩ (D.out.later HW.out) (fun i hi => (OV.out i hi).later HW.out) HRN hn hBw

set_option maxHeartbeats 4000000 in
set_option maxRecDepth 100000 in
theorem a0 {lv2 lv3 lv4 lv5 lv6 lv7 lv8 lv9 lv10 lv11 lv12 lv13 lv14 lv15 lv16 lv17 lv18 lv19 lv20 lv21 lv22 lv23 lv24 lv25 lv26 lv27 lv28 lv29 lv30 lv31 lv32 lv33 lv34 lv35 lv36 lv37 lv38 lv39 lv40 lv41 lv42 lv43 lv44 lv45 lv46 lv47 lv48 lv49 lv50 lv51 lv52 lv53 lv54 lv55 lv56 lv57 lv58 lv59 lv60 lv61 lv62 lv63 lv64 lv65 lv66 lv67 lv68 lv69 lv70 lv71 lv72 lv73 lv74 lv75 lv76 lv77 lv78 lv79 lv80 lv81 lv82 lv83 lv84 lv85 lv86 lv87 lv88 lv89 lv90 lv91 lv92 lv93 lv94 lv95 lv96 lv97 lv98 : Value} {w : World} {B ga gw n : Nat} {V U : Nat → Value} {R : List (List UInt8)} (D : Hid (Duo w ga V)) (OV : Hid (∀ i, i < 2 → Oww B w (V i) R)) (hgw : gw < w.heap.size) (CU : Hid (∀ i, i < 2 → w.cell? ⟨gw, i, none⟩ = some (U i) ∧ SS w (U i) R)) (HRN : Hid (R.length = n)) (hn : n ≤ 4000000) (hBw : B ≤ w.heap.size) :
    Code.wp Tryz.prog (suff 0 (Tryz.f22.body.getD .skip)) (bodyPost Tryz.prog Tryz.f22 (Good3 B V w)) ⟨(.slice (some ⟨ga, 0, none⟩) 2 2 :: .slice (some ⟨gw, 0, none⟩) 2 2 :: lv2 :: lv3 :: lv4 :: lv5 :: lv6 :: lv7 :: lv8 :: lv9 :: lv10 :: lv11 :: lv12 :: lv13 :: lv14 :: lv15 :: lv16 :: lv17 :: lv18 :: lv19 :: lv20 :: lv21 :: lv22 :: lv23 :: lv24 :: lv25 :: lv26 :: lv27 :: lv28 :: lv29 :: lv30 :: lv31 :: lv32 :: lv33 :: lv34 :: lv35 :: lv36 :: lv37 :: lv38 :: lv39 :: lv40 :: lv41 :: lv42 :: lv43 :: lv44 :: lv45 :: lv46 :: lv47 :: lv48 :: lv49 :: lv50 :: lv51 :: lv52 :: lv53 :: lv54 :: lv55 :: lv56 :: lv57 :: lv58 :: lv59 :: lv60 :: lv61 :: lv62 :: lv63 :: lv64 :: lv65 :: lv66 :: lv67 :: lv68 :: lv69 :: lv70 :: lv71 :: lv72 :: lv73 :: lv74 :: lv75 :: lv76 :: lv77 :: lv78 :: lv79 :: lv80 :: lv81 :: lv82 :: lv83 :: lv84 :: lv85 :: lv86 :: lv87 :: lv88 :: lv89 :: lv90 :: lv91 :: lv92 :: lv93 :: lv94 :: lv95 :: lv96 :: lv97 :: lv98 :: []).toArray, []⟩ w := by
  conv => arg 2; whnf
  refine wp_seq_k fun K hK => ?_
  have HK : Hid _ := hK
  clear hK
  go_wp2_with fail
  refine HK.out _ _ ?_
  clear HK
  conv => arg 2; whnf
  refine wp_seq_k fun K hK => ?_
  have HK : Hid _ := hK
  clear hK
  go_wp2_with fail
  refine HK.out _ _ ?_
  exact a2 D OV hgw CU HRN hn hBw

set_option maxHeartbeats 4000000 in
set_option maxRecDepth 100000 in
theorem apart_any {w : World} {B ga gw n : Nat} {V U : Nat → Value} {R : List (List UInt8)} (D : Hid (Duo w ga V)) (OV : Hid (∀ i, i < 2 → Oww B w (V i) R)) (hgw : gw < w.heap.size) (CU : Hid (∀ i, i < 2 → w.cell? ⟨gw, i, none⟩ = some (U i) ∧ SS w (U i) R)) (HRN : Hid (R.length = n)) (hn : n ≤ 4000000) (hBw : B ≤ w.heap.size) :
    Calls Tryz.prog 22 #[.slice (some ⟨ga, 0, none⟩) 2 2, .slice (some ⟨gw, 0, none⟩) 2 2] w (Good3 B V w) := by
  go_enter Tryz.func22, Tryz.ntmps22
  exact a0 D OV hgw CU HRN hn hBw
end Go.Proofs.YtlkkmcibjhoneaaGreatDoor

namespace Go.Proofs.YtlkkmcibjhoneaaGreatDoor
open Go.RowKit

theorem fc_set : ∀ (l : List Fl) (i : Nat) (f : Fl), fc (l.set i f) = ((((fc l).set (i * 4) (.string (bs f.path))).set (i * 4 + 1) (.string (bs f.text))).set (i * 4 + 2) (.int .i64 f.blob)).set (i * 4 + 3) (.int .i64 f.size)
  | [], i, f => by simp [fc]
  | g :: r, 0, f => by simp [fc]
  | g :: r, i + 1, f => by
    rw [List.set_cons_succ, fc, fc_set r i f, show (i + 1) * 4 = i * 4 + 4 by omega]
    simp [fc]
theorem own_setF {base : Nat} {w : World} {g n cap : Nat} {l : List Fl} (h : OwnF base w (.slice (some ⟨g, 0, none⟩) n cap) l) (i : Nat) (f : Fl) :
    OwnF base ((((w.setCell ⟨g, i * 4, none⟩ (.string (bs f.path))).setCell ⟨g, i * 4 + 1, none⟩ (.string (bs f.text))).setCell ⟨g, i * 4 + 2, none⟩ (.int .i64 f.blob)).setCell ⟨g, i * 4 + 3, none⟩ (.int .i64 f.size)) (.slice (some ⟨g, 0, none⟩) n cap) (l.set i f) := by
  rcases h.2 with ⟨e, _⟩ | ⟨g', cap', cur, e, hbg, hg, hn, hcm, hcs, htake⟩
  · cases e
  · injection e with e1 e2 e3
    injection e1 with e1
    injection e1 with e1 _ _
    subst e1
    subst e3
    refine ⟨by rw [fc_length, List.length_set], .inr ⟨g, cap, _, by rw [List.length_set, e2], hbg, heap_setCell _ _ _ _ (heap_setCell _ _ _ _ (heap_setCell _ _ _ _ (heap_setCell w g _ _ hg))), by rw [List.length_set]; exact hn, hcm, by simpa using hcs, ?_⟩⟩
    rw [List.length_set, fc_set]
    have h2 : cur.toList.take (l.length * 4) = fc l := htake
    rw [← h2]
    simp only [Array.toList_setIfInBounds, List.take_set]
theorem own_cellF {base : Nat} {w : World} {g n cap : Nat} {l : List Fl} (h : OwnF base w (.slice (some ⟨g, 0, none⟩) n cap) l) (i : Nat) (hi : i < l.length) :
    (w.cell? ⟨g, i * 4, none⟩ = some (.string (bs l[i].path)) ∧ w.cell? ⟨g, i * 4 + 1, none⟩ = some (.string (bs l[i].text)) ∧ w.cell? ⟨g, i * 4 + 2, none⟩ = some (.int .i64 l[i].blob) ∧ w.cell? ⟨g, i * 4 + 3, none⟩ = some (.int .i64 l[i].size)) ∧
    (w.frozen? ⟨g, i * 4, none⟩ = false ∧ w.frozen? ⟨g, i * 4 + 1, none⟩ = false ∧ w.frozen? ⟨g, i * 4 + 2, none⟩ = false ∧ w.frozen? ⟨g, i * 4 + 3, none⟩ = false) ∧ base ≤ g ∧ g < w.heap.size := by
  have hlt := h.lt (k := g) rfl
  obtain ⟨c0, c1, c2, c3⟩ := fc_get l i hi
  have hc : ∀ j u, (fc l)[j]? = some u → w.cell? ⟨g, j, none⟩ = some u := fun j u hu => by
    have := World.ownsRow.cells h (g := g) rfl j u hu
    rw [add_lit, Nat.zero_add] at this
    exact this
  have hf : ∀ j, w.frozen? ⟨g, j, none⟩ = false := fun j => by
    rcases h.2 with ⟨e, _⟩ | ⟨g', cap', cur, e, hbg, hg, _⟩
    · cases e
    · injection e with e1 e2 e3
      injection e1 with e1
      injection e1 with e1 _ _
      subst e1
      simp [World.frozen?, hg]
  exact ⟨⟨hc _ _ c0, hc _ _ c1, hc _ _ c2, hc _ _ c3⟩, ⟨hf _, hf _, hf _, hf _⟩, hlt⟩
theorem OwnF.form' {base : Nat} {w : World} {v : Value} {l : List Fl} (h : OwnF base w v l) : (v = .slice none 0 0 ∧ l = []) ∨ ∃ g c, v = .slice (some ⟨g, 0, none⟩) l.length c ∧ l.length ≤ c ∧ base ≤ g ∧ g < w.heap.size := by
  rcases h.2 with ⟨rfl, h0⟩ | ⟨g, cap, cur, rfl, hb, hg, hn, _⟩
  · exact .inl ⟨rfl, List.eq_nil_of_length_eq_zero h0⟩
  · exact .inr ⟨g, cap, rfl, hn, hb, (Array.getElem?_eq_some_iff.1 hg).1⟩
/-- a marked file -/
def mkP (c : UInt8) : Fl := ⟨[c], [], 0, 0⟩
end Go.Proofs.YtlkkmcibjhoneaaGreatDoor
