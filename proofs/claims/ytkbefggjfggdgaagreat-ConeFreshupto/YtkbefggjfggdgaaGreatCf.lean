/-
  ConeFresh.
-/
import Derived.Test.YtkbefggjfggdgaaGreatMf
import Derived.Test.YtkbefggjfggdgaaGreatApart
namespace Go.Proofs.YtkbefggjfggdgaaGreat
open Go.RowKit

def two (x y : Value) : Nat → Value := fun i => if i = 0 then x else y
set_option maxRecDepth 100000 in
set_option maxHeartbeats 16000000 in
theorem cfresh_law (C : CC) {w : World} {v u : Value} {l : List Fl} {k : List (List UInt8)} (h : FS w v l) (sm : FSm l) (hl : l.length ≤ 1048576) (hpl : ∀ f ∈ l, f.path.length ≤ 100000000) (hu : SS w u k) (sk : Sm k) :
    Calls Tryz.prog 4 #[v, u] w fun e w' => e = .returned (.bool true) ∧ Below w.heap.size w w' := by
  have H : Hid (FS w v l ∧ SS w u k ∧ FSm l ∧ ∀ f ∈ l, f.path.length ≤ 100000000) := ⟨h, hu, sm, hpl⟩
  obtain ⟨R, hR⟩ : ∃ R, cov k = R := ⟨_, rfl⟩
  have sR : Sm R := by rw [← hR]; exact sk.cov
  obtain ⟨n, hn⟩ : ∃ n, R.length = n := ⟨_, rfl⟩
  have hnl : n ≤ 4000000 := by rw [← hn]; exact sR.len
  have HRN : Hid (R.length = n) := hn
  have HAl : Hid (∀ W : World, Calls Tryz.prog 15 #[] W fun e w' => e = .returned (.bool true) ∧ Below W.heap.size W w') := fun W => alive_any C W
  have HCo : Hid (∀ (W : World), Below w.heap.size w W → Calls Tryz.prog 9 #[u] W fun e w' => ∃ v', e = .returned v' ∧ Own W.heap.size w' v' R ∧ Below W.heap.size W w') := fun W hW => by rw [← hR]; exact C.cover (hu.later hW) sk
  have HRo : Hid (∀ (W : World), Below w.heap.size w W → Calls Tryz.prog 18 #[u] W fun e w' => ∃ v', e = .returned v' ∧ Own W.heap.size w' v' R ∧ Below W.heap.size W w') := fun W hW => by rw [← hR]; exact rccover_any (hu.later hW) sk
  have HTm : Hid (∀ (W : World) (u1 u2 : Value), SS W u1 R → SS W u2 R → Calls Tryz.prog 17 #[u1, u2] W fun e w' => e = .returned (.bool true) ∧ Below W.heap.size W w') := fun W u1 u2 h1 h2 => by
    refine (same_any h1 h2 (by omega)).mono ?_
    rintro e w' ⟨rfl, q, rfl⟩
    exact ⟨by simp, bd _ _⟩
  have hVl := viw_len l R
  obtain ⟨X, hX⟩ : ∃ X, (viw l R).1 = X := ⟨_, rfl⟩
  obtain ⟨z, hz⟩ : ∃ z, (viw l R).2 = z := ⟨_, rfl⟩
  rw [hX] at hVl
  have HVw : Hid (∀ (W : World) (y : Value), Below w.heap.size w W → SS W y R → Calls Tryz.prog 7 #[v, y] W fun e w' => ∃ v', e = .returned (.tuple #[v', .int .i64 z]) ∧ OwnF W.heap.size w' v' X ∧ Below W.heap.size W w') := fun W y h1 h2 => by
    rw [← hX, ← hz]; exact C.view (h.later h1) sm h2 sR
  have HRw : Hid (∀ (W : World) (y : Value), Below w.heap.size w W → SS W y R → Calls Tryz.prog 8 #[v, y] W fun e w' => ∃ v', e = .returned (.tuple #[v', .int .i64 z]) ∧ OwnF W.heap.size w' v' X ∧ Below W.heap.size W w') := fun W y h1 h2 => by
    rw [← hX, ← hz]; exact rcview_any (h.later h1) (by omega) sm.each hpl h2 sR
  have HFl : Hid (∀ (W : World) (u1 u2 : Value), FS W u1 X → FS W u2 X → Calls Tryz.prog 16 #[u1, u2] W fun e w' => e = .returned (.bool true) ∧ Below W.heap.size W w') := fun W u1 u2 h1 h2 => by
    have := files_any h1 h2 (by omega)
    rw [(leq_iff _ _).2 rfl] at this; exact this
  obtain ⟨N, hN⟩ : ∃ N, X.length = N := ⟨_, rfl⟩
  have HNV : Hid (X.length = N) := hN
  have hNl : N ≤ 1048576 := by omega
  clear C h sm hpl hu sk hR sR hn hVl hX hz hN
  go_enter Tryz.func4, Tryz.ntmps4
  go_wp2_with fail
  refine (HCo.out _ (Below.refl _ _)).mono ?_
  rintro e x1 ⟨ra, rfl, hra, hb1⟩
  have A1 : Hid (Own w.heap.size x1 ra R ∧ Below w.heap.size w x1) := ⟨hra, hb1⟩
  clear hra hb1
  go_wp2_with fail
  refine (HCo.out _ A1.out.2).mono ?_
  rintro e x2 ⟨rb, rfl, hrb, hb2⟩
  have A2 : Hid (Own w.heap.size x2 ra R ∧ Own x1.heap.size x2 rb R ∧ Below w.heap.size w x2 ∧ x1.heap.size ≤ x2.heap.size) := ⟨A1.out.1.later hb2, hrb, bstep A1.out.2 hb2, hb2.size⟩
  clear hrb hb2
  go_wp2_with fail
  refine (HRo.out _ A2.out.2.2.1).mono ?_
  rintro e x3 ⟨rc, rfl, hrc, hb3⟩
  have A3 : Hid (Own w.heap.size x3 ra R ∧ Own x1.heap.size x3 rb R ∧ Own x2.heap.size x3 rc R ∧ Below w.heap.size w x3 ∧ x2.heap.size ≤ x3.heap.size) := ⟨A2.out.1.later hb3, A2.out.2.1.later hb3, hrc, bstep A2.out.2.2.1 hb3, hb3.size⟩
  clear hrc hb3
  obtain ⟨aa0, ca0, e0⟩ := A3.out.1.bs.len2
  obtain ⟨ab0, cb0, e1⟩ := A3.out.2.1.bs.len2
  obtain ⟨ac0, cc0, e2⟩ := A3.out.2.2.1.bs.len2
  rw [HRN.out] at e0 e1 e2
  subst e0 e1 e2
  go_wp2_with fail
  refine (HAl.out _).mono ?_
  rintro e x4 ⟨rfl, hb4⟩
  have hx4 : x3.heap.size ≤ x4.heap.size := hb4.size
  obtain ⟨x5, hx5⟩ : ∃ x5, x4.alloc (.cells #[.slice aa0 n ca0, .slice ab0 n cb0] 23) = x5 := ⟨_, rfl⟩
  obtain ⟨x6, hx6⟩ : ∃ x6, x5.alloc (.cells #[.slice ac0 n cc0, .slice ac0 n cc0] 23) = x6 := ⟨_, rfl⟩
  have e5 : x5.heap.size = x4.heap.size + 1 := by rw [← hx5]; simp
  have e6 : x6.heap.size = x4.heap.size + 2 := by rw [← hx6]; simp [e5]
  have b5 : Below x4.heap.size x4 x5 := by rw [← hx5]; exact balloc _ _
  have b6 : Below x5.heap.size x5 x6 := by rw [← hx6]; exact balloc _ _
  have b46 : Below x4.heap.size x4 x6 := bstep b5 b6
  have b36 : Below x3.heap.size x3 x6 := bstep hb4 b46
  have HE6 : Hid (x4.alloc (.cells #[.slice aa0 n ca0, .slice ab0 n cb0] 23) = x5 ∧ x5.alloc (.cells #[.slice ac0 n cc0, .slice ac0 n cc0] 23) = x6 ∧ x5.heap.size = x4.heap.size + 1) := ⟨hx5, hx6, e5⟩
  have K1 : ∀ j, (Value.slice aa0 n ca0).ownBlock = some j → w.heap.size ≤ j ∧ j < x1.heap.size := fun j hj => A1.out.1.lt hj
  have K2 : ∀ j, (Value.slice ab0 n cb0).ownBlock = some j → x1.heap.size ≤ j ∧ j < x2.heap.size := fun j hj => A2.out.2.1.lt hj
  have K3 : ∀ j, (Value.slice ac0 n cc0).ownBlock = some j → x2.heap.size ≤ j ∧ j < x3.heap.size := fun j hj => A3.out.2.2.1.lt hj
  have hs1 : w.heap.size ≤ x1.heap.size := A1.out.2.size
  have hs2 := A2.out.2.2.2
  have hs3 := A3.out.2.2.2.2
  have HD : Hid (Duo x6 x4.heap.size (two (.slice aa0 n ca0) (.slice ab0 n cb0))) := by
    refine ⟨fun i hi => ?_, by omega, fun i hi e => ?_, fun i hi g hg => ?_, fun i j hi hj hij g hg e => ?_⟩
    · rw [b6.cell (p := ⟨x4.heap.size, i, none⟩) (by simp [e5])]
      rcases (show i = 0 ∨ i = 1 by omega) with rfl | rfl
      · rw [← hx5]; simp [two]
      · rw [← hx5]; simp [two]
    · rcases (show i = 0 ∨ i = 1 by omega) with rfl | rfl
      · have := K1 _ e; omega
      · have := K2 _ e; omega
    · rcases (show i = 0 ∨ i = 1 by omega) with rfl | rfl
      · have := K1 _ hg; omega
      · have := K2 _ hg; omega
    · rcases (show i = 0 ∨ i = 1 by omega) with rfl | rfl
      · rcases (show j = 0 ∨ j = 1 by omega) with rfl | rfl
        · exact hij rfl
        · have := K1 _ hg; have := K2 _ e; omega
      · rcases (show j = 0 ∨ j = 1 by omega) with rfl | rfl
        · have := K2 _ hg; have := K1 _ e; omega
        · exact hij rfl
  have HOV : Hid (∀ i, i < 2 → Own w.heap.size x6 (two (.slice aa0 n ca0) (.slice ab0 n cb0) i) R) := fun i hi => by
    rcases (show i = 0 ∨ i = 1 by omega) with rfl | rfl
    · exact A3.out.1.later b36
    · exact (A3.out.2.1.later b36).mono hs1
  have HCU : Hid (∀ i, i < 2 → x6.cell? ⟨x4.heap.size + 1, i, none⟩ = some (two (.slice ac0 n cc0) (.slice ac0 n cc0) i) ∧ SS x6 (two (.slice ac0 n cc0) (.slice ac0 n cc0) i) R) := fun i hi => by
    have hs := (A3.out.2.2.1.later b36).bs
    rcases (show i = 0 ∨ i = 1 by omega) with rfl | rfl
    · exact ⟨by rw [← hx6, ← e5]; simp [two], hs⟩
    · exact ⟨by rw [← hx6, ← e5]; simp [two], hs⟩
  have HAP : Hid (Calls Tryz.prog 19 #[.slice (some ⟨x4.heap.size, 0, none⟩) 2 2, .slice (some ⟨x4.heap.size + 1, 0, none⟩) 2 2] x6 (Good3 w.heap.size (two (.slice aa0 n ca0) (.slice ab0 n cb0)) x6)) := apart_any HD HOV (by omega) HCU HRN hnl (by omega)
  have HB6 : Hid (Below w.heap.size w x6 ∧ SS x6 (.slice ac0 n cc0) R) := ⟨bstep A3.out.2.2.2.1 b36, (A3.out.2.2.1.later b36).bs⟩
  have HKK : Hid ((∀ j, (Value.slice aa0 n ca0).ownBlock = some j → j < x2.heap.size) ∧ (∀ j, (Value.slice ab0 n cb0).ownBlock = some j → j < x2.heap.size) ∧ ∀ j, (Value.slice ac0 n cc0).ownBlock = some j → x2.heap.size ≤ j) := ⟨fun j hj => by have := K1 j hj; omega, fun j hj => (K2 j hj).2, fun j hj => (K3 j hj).1⟩
  clear hb4 hx5 hx6 e5 e6 b5 b6 b46 b36 K1 K2 K3 hs1 hs2 hs3 hx4 HD HOV HCU A1 A2 A3
  go_wp2_with fail
  rw [HE6.out.1, HE6.out.2.1]
  refine HAP.out.mono ?_
  rintro e x7 ⟨rfl, hf7⟩
  have HB7x : Hid (Below w.heap.size w x7 ∧ SS x7 (.slice ac0 n cc0) R) := ⟨below_trans HB6.out.1 hf7.below, HB6.out.2.only3 hf7.only (fun j hj hm => by
    have h1 := HKK.out.2.2 j hj
    rcases List.mem_append.1 hm with h2 | h2
    · have := HKK.out.1 j (mem_bl.1 h2); omega
    · have := HKK.out.2.1 j (mem_bl.1 h2); omega)⟩
  clear hf7 HB6 HAP
  go_wp2_with fail
  refine (HCo.out _ HB7x.out.1).mono ?_
  rintro e x8 ⟨rd, rfl, hrd, hb8⟩
  obtain ⟨ad0, cd0, e3⟩ := hrd.bs.len2
  rw [HRN.out] at e3
  subst e3
  have HB8x : Hid (Below w.heap.size w x8 ∧ SS x8 (.slice ac0 n cc0) R ∧ SS x8 (.slice ad0 n cd0) R) := ⟨bstep HB7x.out.1 hb8, HB7x.out.2.later hb8, hrd.bs⟩
  clear hb8 hrd HB7x
  go_wp2_with fail
  refine (HTm.out _ _ _ HB8x.out.2.2 HB8x.out.2.1).mono ?_
  rintro e wP ⟨rfl, hb9⟩
  have HBP : Hid (Below w.heap.size w wP ∧ SS wP (.slice ac0 n cc0) R) := ⟨bstep HB8x.out.1 hb9, HB8x.out.2.1.later hb9⟩
  clear hb9 HB8x HKK HE6
  go_wp2_with fail
  refine (HVw.out _ _ HBP.out.1 HBP.out.2).mono ?_
  rintro e wQ ⟨rv, rfl, hrv, hbQ⟩
  have HQ : Hid (OwnF wP.heap.size wQ rv X ∧ Below w.heap.size w wQ ∧ Below wP.heap.size wP wQ) := ⟨hrv, bstep HBP.out.1 hbQ, hbQ⟩
  clear hrv hbQ
  go_wp2_with fail
  refine (HVw.out _ _ HQ.out.2.1 (HBP.out.2.later HQ.out.2.2)).mono ?_
  rintro e wR ⟨rw1, rfl, hrw, hbR⟩
  have HRr : Hid (OwnF wP.heap.size wR rv X ∧ OwnF wQ.heap.size wR rw1 X ∧ Below w.heap.size w wR ∧ Below wP.heap.size wP wR) := ⟨HQ.out.1.later hbR, hrw, bstep HQ.out.2.1 hbR, bstep HQ.out.2.2 hbR⟩
  have Z2 : Hid (wQ.heap.size ≤ wR.heap.size ∧ wP.heap.size ≤ wQ.heap.size ∧ w.heap.size ≤ wP.heap.size) := ⟨hbR.size, HQ.out.2.2.size, HBP.out.1.size⟩
  clear hrw hbR
  go_wp2_with fail
  refine (HRw.out _ _ HRr.out.2.2.1 (HBP.out.2.later HRr.out.2.2.2)).mono ?_
  rintro e w5 ⟨rc, rfl, hrc, hb5⟩
  have H5 : Hid (OwnF wP.heap.size w5 rv X ∧ OwnF wQ.heap.size w5 rw1 X ∧ OwnF wR.heap.size w5 rc X ∧ Below w.heap.size w w5 ∧ Below wP.heap.size wP w5 ∧ wR.heap.size ≤ w5.heap.size) := ⟨HRr.out.1.later hb5, HRr.out.2.1.later hb5, hrc, bstep HRr.out.2.2.1 hb5, bstep HRr.out.2.2.2 hb5, hb5.size⟩
  have K1 : Hid (∀ j, rv.ownBlock = some j → wP.heap.size ≤ j ∧ j < wQ.heap.size) := fun j hj => HQ.out.1.lt hj
  have K2 : Hid (∀ j, rw1.ownBlock = some j → wQ.heap.size ≤ j ∧ j < wR.heap.size) := fun j hj => HRr.out.2.1.lt hj
  have K3 : Hid (∀ j, rc.ownBlock = some j → wR.heap.size ≤ j) := fun j hj => (hrc.lt hj).1
  clear hrc hb5 HQ HRr
  obtain ⟨aru, cru, eru⟩ : ∃ a c, rc = .slice a X.length c := by obtain ⟨a, c, h, _⟩ := H5.out.2.2.1.fs.form; exact ⟨a, c, h⟩
  rw [HNV.out] at eru
  subst eru
  obtain ⟨arv, crv, erv⟩ : ∃ a c, rv = .slice a X.length c := by obtain ⟨a, c, h, _⟩ := H5.out.1.fs.form; exact ⟨a, c, h⟩
  rw [HNV.out] at erv
  subst erv
  obtain ⟨arw, crw, erw⟩ : ∃ a c, rw1 = .slice a X.length c := by obtain ⟨a, c, h, _⟩ := H5.out.2.1.fs.form; exact ⟨a, c, h⟩
  rw [HNV.out] at erw
  subst erw
  go_wp2_with fail
  refine (HFl.out _ _ _ H5.out.1.fs H5.out.2.2.1.fs).mono ?_
  rintro e w6 ⟨rfl, hb6⟩
  have H6 : Hid (OwnF wP.heap.size w6 (.slice arv N crv) X ∧ OwnF wQ.heap.size w6 (.slice arw N crw) X ∧ OwnF wR.heap.size w6 (.slice aru N cru) X ∧ Below w.heap.size w w6 ∧ Below wP.heap.size wP w6 ∧ wR.heap.size ≤ w6.heap.size) := ⟨H5.out.1.later hb6, H5.out.2.1.later hb6, H5.out.2.2.1.later hb6, bstep H5.out.2.2.2.1 hb6, bstep H5.out.2.2.2.2.1 hb6, Nat.le_trans H5.out.2.2.2.2.2 hb6.size⟩
  clear hb6 H5
  go_wp2_with fail
  refine (HFl.out _ _ _ H6.out.2.1.fs H6.out.2.2.1.fs).mono ?_
  rintro e w7 ⟨rfl, hb7⟩
  have HA7 : Hid (OwnF wP.heap.size w7 (.slice arv N crv) X) := H6.out.1.later hb7
  have HR7 : Hid (OwnF wQ.heap.size w7 (.slice arw N crw) X) := H6.out.2.1.later hb7
  have HC7 : Hid (FS w7 (.slice aru N cru) X) := (H6.out.2.2.1.later hb7).fs
  have HB7 : Hid (Below w.heap.size w w7) := bstep H6.out.2.2.2.1 hb7
  have HS7 : Hid (SS w7 (.slice ac0 n cc0) R ∧ ∀ j, (Value.slice ac0 n cc0).ownBlock = some j → R ≠ [] → j < wP.heap.size) := ⟨HBP.out.2.later (bstep H6.out.2.2.2.2.1 hb7), fun j hj hne => by
    rcases HBP.out.2 with ⟨_, e⟩ | ⟨b, off, cap, e, _, hlt, _⟩
    · exact absurd e hne
    · injection e with e _ _
      rw [e] at hj
      have : b = j := by simpa [Value.ownBlock] using hj
      omega⟩
  have HZ7 : Hid (wR.heap.size ≤ w7.heap.size ∧ wQ.heap.size ≤ wR.heap.size ∧ wP.heap.size ≤ wQ.heap.size) := ⟨by have := H6.out.2.2.2.2.2; have := hb7.size; omega, Z2.out.1, Z2.out.2.1⟩
  have HZw : Hid (w.heap.size ≤ wP.heap.size) := Z2.out.2.2
  clear hb7 H6 Z2
  obtain ⟨aa, eaa⟩ : ∃ aa, aa = arv := ⟨_, rfl⟩
  obtain ⟨ca, eca⟩ : ∃ ca, ca = crv := ⟨_, rfl⟩
  obtain ⟨ab, eab⟩ : ∃ ab, ab = arw := ⟨_, rfl⟩
  obtain ⟨cb, ecb⟩ : ∃ cb, cb = crw := ⟨_, rfl⟩
  subst eaa eca eab ecb
  go_wp2_with fail
  go_loopw [14] (fun i wr => ∃ k : Nat, k ≤ N ∧ i = .int .i64 k ∧ OwnF wP.heap.size wr (.slice aa N ca) (mrk 49 k X) ∧ Only (bl (.slice aa N ca)) w7 wr) (fun i _ => N - (intOf i).toNat)
  case atStart => exact ⟨0, by omega, rfl, by rw [mrk_zero]; exact HA7.out, Only.refl _ _⟩
  case round =>
    obtain ⟨k, hk, rfl, ho, hon⟩ := hrel
    have HO : Hid (OwnF wP.heap.size wr (.slice aa N ca) (mrk 49 k X)) := ho
    have HOn : Hid (Only (bl (.slice aa N ca)) w7 wr) := hon
    clear ho hon
    by_cases hlt : k < N
    · have hml : (mrk 49 k X).length = N := by rw [mrk_len _ _ _ (by have := HNV.out; omega), HNV.out]
      rcases HO.out.form' with ⟨_, h0⟩ | ⟨g, c', e, _, _, _⟩
      · rw [h0] at hml; simp at hml; omega
      have eg : aa = some ⟨g, 0, none⟩ := by injection e
      subst eg
      clear e
      obtain ⟨⟨c0, c1, c2, c3⟩, ⟨f0, f1, f2, f3⟩, _, hgl⟩ := own_cellF HO.out k (by omega)
      have HS : Hid (OwnF wP.heap.size ((((wr.setCell ⟨g, k * 4, none⟩ (.string (bs [49]))).setCell ⟨g, k * 4 + 1, none⟩ (.string (bs []))).setCell ⟨g, k * 4 + 2, none⟩ (.int .i64 0)).setCell ⟨g, k * 4 + 3, none⟩ (.int .i64 0)) (.slice (some ⟨g, 0, none⟩) N ca) ((mrk 49 k X).set k (mkP 49))) := own_setF HO.out k (mkP 49)
      have k1 : (0 : Int) ≤ (k : Int) := by omega
      have k2 : (k : Int) < (N : Int) := by omega
      go_wp2_with fail
      go_roundw
      case rel =>
        refine ⟨k + 1, by omega, by go_num, by rw [← mrk_set _ _ _ (by have := HNV.out; omega)]; exact HS.out, ?_⟩
        exact HOn.out.trans ((((Only.set _ _ _ _).trans (Only.set _ _ _ _)).trans (Only.set _ _ _ _)).trans (Only.set _ _ _ _))
      case measure => simp [intOf]; omega
    · obtain rfl : k = N := by omega
      have HA8 : Hid (OwnF wP.heap.size wr (.slice aa k ca) (List.replicate k (mkP 49))) := by
        have := HO.out
        rw [← HNV.out, mrk_all, HNV.out] at this; exact this
      have HR8 : Hid (OwnF wQ.heap.size wr (.slice ab k cb) X) := HR7.out.only HOn.out (fun j hj hm => by
        have h1 := K1.out j (mem_bl.1 hm)
        have h2 := K2.out j hj
        omega)
      clear HO
      obtain ⟨wA, rfl⟩ : ∃ x, x = wr := ⟨_, rfl⟩
      go_wp2_with fail
      go_loopw [15] (fun i wr => ∃ m : Nat, m ≤ k ∧ i = .int .i64 m ∧ OwnF wP.heap.size wr (.slice aa k ca) (List.replicate k (mkP 49)) ∧ OwnF wQ.heap.size wr (.slice ab k cb) (mrk 50 m X) ∧ Only (bl (.slice aa k ca) ++ bl (.slice ab k cb)) w7 wr) (fun i _ => k - (intOf i).toNat)
      case atStart => exact ⟨0, by omega, rfl, HA8.out, by rw [mrk_zero]; exact HR8.out, HOn.out.mono (fun j hj => List.mem_append_left _ hj)⟩
      case round =>
        obtain ⟨m, hm, rfl, hoa, hob, hon⟩ := hrel
        have HOa : Hid (OwnF wP.heap.size wr (.slice aa k ca) (List.replicate k (mkP 49))) := hoa
        have HOb : Hid (OwnF wQ.heap.size wr (.slice ab k cb) (mrk 50 m X)) := hob
        have HO2 : Hid (Only (bl (.slice aa k ca) ++ bl (.slice ab k cb)) w7 wr) := hon
        clear hoa hob hon
        by_cases hlt : m < k
        · have hml : (mrk 50 m X).length = k := by rw [mrk_len _ _ _ (by have := HNV.out; omega), HNV.out]
          rcases HOb.out.form' with ⟨_, h0⟩ | ⟨g, c', e, _, _, _⟩
          · rw [h0] at hml; simp at hml; omega
          have eg : ab = some ⟨g, 0, none⟩ := by injection e
          subst eg
          clear e
          obtain ⟨⟨c0, c1, c2, c3⟩, ⟨f0, f1, f2, f3⟩, _, hgl⟩ := own_cellF HOb.out m (by omega)
          have HS : Hid (OwnF wQ.heap.size ((((wr.setCell ⟨g, m * 4, none⟩ (.string (bs [50]))).setCell ⟨g, m * 4 + 1, none⟩ (.string (bs []))).setCell ⟨g, m * 4 + 2, none⟩ (.int .i64 0)).setCell ⟨g, m * 4 + 3, none⟩ (.int .i64 0)) (.slice (some ⟨g, 0, none⟩) k cb) ((mrk 50 m X).set m (mkP 50))) := own_setF HOb.out m (mkP 50)
          have k1 : (0 : Int) ≤ (m : Int) := by omega
          have k2 : (m : Int) < (k : Int) := by omega
          go_wp2_with fail
          go_roundw
          case rel =>
            have o4 : Only [g] wr ((((wr.setCell ⟨g, m * 4, none⟩ (.string (bs [50]))).setCell ⟨g, m * 4 + 1, none⟩ (.string (bs []))).setCell ⟨g, m * 4 + 2, none⟩ (.int .i64 0)).setCell ⟨g, m * 4 + 3, none⟩ (.int .i64 0)) := (((Only.set _ _ _ _).trans (Only.set _ _ _ _)).trans (Only.set _ _ _ _)).trans (Only.set _ _ _ _)
            refine ⟨m + 1, by omega, by go_num, HOa.out.only o4 (fun j hj hm => ?_), by rw [← mrk_set _ _ _ (by have := HNV.out; omega)]; exact HS.out, HO2.out.trans (o4.mono (fun j hj => ?_))⟩
            · have h1 := K1.out j hj
              have h2 := K2.out j (by have : j = g := by simpa using hm
                                      rw [this]; rfl)
              omega
            · have : j = g := by simpa using hj
              exact List.mem_append_right _ (mem_bl.2 (by rw [this]; rfl))
          case measure => simp [intOf]; omega
        · obtain rfl : m = k := by omega
          have HB8 : Hid (OwnF wQ.heap.size wr (.slice ab m cb) (List.replicate m (mkP 50))) := by
            have := HOb.out
            rw [← HNV.out, mrk_all, HNV.out] at this; exact this
          clear HOb HA8 HR8 HOn
          obtain ⟨ws, rfl⟩ : ∃ x, x = wr := ⟨_, rfl⟩
          go_wp2_with fail
          go_loopw [16, 18] (fun x i wr => ∃ q : Nat, q ≤ 30 ∧ i = .int .i64 q ∧ OwnF wP.heap.size wr x (List.replicate (m + q) (mkP 49)) ∧ OwnF wQ.heap.size wr (.slice ab m cb) (List.replicate m (mkP 50)) ∧ Only (bl (.slice aa m ca) ++ bl (.slice ab m cb)) w7 wr ∧ (∀ j, x.ownBlock = some j → (Value.slice aa m ca).ownBlock = some j ∨ w7.heap.size ≤ j)) (fun _ i _ => 30 - (intOf i).toNat)
          case atStart => exact ⟨0, by omega, rfl, HOa.out, HB8.out, HO2.out, fun j hj => .inl hj⟩
          case round =>
            obtain ⟨q, hq, rfl, hox, hob, hon, hbx⟩ := hrel
            have HOx : Hid (OwnF wP.heap.size wr u16 (List.replicate (m + q) (mkP 49))) := hox
            have HOb : Hid (OwnF wQ.heap.size wr (.slice ab m cb) (List.replicate m (mkP 50))) := hob
            have HO3 : Hid (Only (bl (.slice aa m ca) ++ bl (.slice ab m cb)) w7 wr) := hon
            have HBx : Hid (∀ j, u16.ownBlock = some j → (Value.slice aa m ca).ownBlock = some j ∨ w7.heap.size ≤ j) := hbx
            clear hox hob hon hbx
            have hzt := HO3.out.size
            by_cases hlt : q < 30
            · have k2 : (q : Int) < 30 := by omega
              have HRl : Hid ((List.replicate (m + q) (mkP 49)).length = m + q) := List.length_replicate
              go_wp2_with (first | (at_builtin; refine app_files (base := wP.heap.size) (l := List.replicate (m + q) (mkP 49)) (k := [mkP 49]) (HOx.out.later (balloc _ _)) (src_file wr (mkP 49)) (by rw [HRl.out]; simp; omega) (by have := HZ7.out; simp; omega) rfl (.tmp 102) (.tmp 104) rfl rfl rfl ?_; intro v2 w8 ho2 hg2 hv2))
              have o8 : Only u16.ownBlock.toList wr w8 := (Only.of_below (balloc wr _) _).trans (only_grown hg2)
              have hsz8 : (wr.alloc (.cells #[.string (bs (mkP 49).path), .string (bs (mkP 49).text), .int .i64 (mkP 49).blob, .int .i64 (mkP 49).size] 39)).heap.size = wr.heap.size + 1 := by simp
              have H2 : Hid (OwnF wP.heap.size w8 v2 (List.replicate (m + (q + 1)) (mkP 49)) ∧ OwnF wQ.heap.size w8 (.slice ab m cb) (List.replicate m (mkP 50)) ∧ Only (bl (.slice aa m ca) ++ bl (.slice ab m cb)) w7 w8 ∧ (∀ j, v2.ownBlock = some j → (Value.slice aa m ca).ownBlock = some j ∨ w7.heap.size ≤ j)) := by
                refine ⟨by rw [rep_snoc] at ho2; exact ho2, HOb.out.only o8 (fun j hj hm => ?_), only_step HO3.out o8 (fun j hj => ?_), fun j hj => ?_⟩
                · have h0 : u16.ownBlock = some j := by simpa [Option.mem_toList] using hm
                  have h2 := K2.out j hj
                  have := HZ7.out
                  rcases HBx.out j h0 with h1 | h1
                  · have := K1.out j h1; omega
                  · omega
                · have h0 : u16.ownBlock = some j := by simpa [Option.mem_toList] using hj
                  rcases HBx.out j h0 with h1 | h1
                  · exact .inl (List.mem_append_left _ (mem_bl.2 h1))
                  · exact .inr h1
                · rcases hv2 with h1 | h1
                  · exact HBx.out j (h1 ▸ hj)
                  · rw [h1] at hj
                    have : j = wr.heap.size + 1 := by simpa using hj.symm
                    right; omega
              clear ho2 hg2 hv2 o8 hsz8
              go_wp2_with fail
              go_roundw
              case rel => exact ⟨q + 1, by omega, by go_num, H2.out.1, H2.out.2.1, H2.out.2.2.1, H2.out.2.2.2⟩
              case measure => simp [intOf]; omega
            · have hq30 : q = 30 := by omega
              have kq : ¬ (q : Int) < 30 := by omega
              have HOx3 : Hid (OwnF wP.heap.size wr u16 (List.replicate (m + 30) (mkP 49))) := by rw [hq30] at HOx; exact HOx.out
              clear hq30
              have HXl : Hid (∀ j, u16.ownBlock = some j → j < wr.heap.size) := fun j hj => (HOx.out.lt hj).2
              clear HOa HB8 HO2
              obtain ⟨wt, rfl⟩ : ∃ x, x = wr := ⟨_, rfl⟩
              go_wp2_with fail
              go_loopw [17, 19] (fun y i wr => ∃ q : Nat, q ≤ 30 ∧ i = .int .i64 q ∧ OwnF wP.heap.size wr u16 (List.replicate (m + 30) (mkP 49)) ∧ OwnF wQ.heap.size wr y (List.replicate (m + q) (mkP 50)) ∧ Only (bl (.slice aa m ca) ++ bl (.slice ab m cb)) w7 wr ∧ wt.heap.size ≤ wr.heap.size ∧ (∀ j, y.ownBlock = some j → (Value.slice ab m cb).ownBlock = some j ∨ wt.heap.size ≤ j)) (fun _ i _ => 30 - (intOf i).toNat)
              case atStart => exact ⟨0, by omega, rfl, HOx3.out, HOb.out, HO3.out, Nat.le_refl _, fun j hj => .inl hj⟩
              case round =>
                obtain ⟨r, hr, rfl, hox, hoy, hon, hzu, hby⟩ := hrel
                have HOx4 : Hid (OwnF wP.heap.size wr u16 (List.replicate (m + 30) (mkP 49))) := hox
                have HOy : Hid (OwnF wQ.heap.size wr u17 (List.replicate (m + r) (mkP 50))) := hoy
                have HO4 : Hid (Only (bl (.slice aa m ca) ++ bl (.slice ab m cb)) w7 wr) := hon
                have HBy : Hid (∀ j, u17.ownBlock = some j → (Value.slice ab m cb).ownBlock = some j ∨ wt.heap.size ≤ j) := hby
                clear hox hoy hon hby
                have hz7u := HO4.out.size
                by_cases hlt : r < 30
                · have k2 : (r : Int) < 30 := by omega
                  have HRl : Hid ((List.replicate (m + r) (mkP 50)).length = m + r) := List.length_replicate
                  go_wp2_with (first | (at_builtin; refine app_files (base := wQ.heap.size) (l := List.replicate (m + r) (mkP 50)) (k := [mkP 50]) (HOy.out.later (balloc _ _)) (src_file wr (mkP 50)) (by rw [HRl.out]; simp; omega) (by have := HZ7.out; simp; omega) rfl (.tmp 110) (.tmp 112) rfl rfl rfl ?_; intro v2 w8 ho2 hg2 hv2))
                  have o8 : Only u17.ownBlock.toList wr w8 := (Only.of_below (balloc wr _) _).trans (only_grown hg2)
                  have hsz8 : (wr.alloc (.cells #[.string (bs (mkP 50).path), .string (bs (mkP 50).text), .int .i64 (mkP 50).blob, .int .i64 (mkP 50).size] 39)).heap.size = wr.heap.size + 1 := by simp
                  have H2 : Hid (OwnF wP.heap.size w8 u16 (List.replicate (m + 30) (mkP 49)) ∧ OwnF wQ.heap.size w8 v2 (List.replicate (m + (r + 1)) (mkP 50)) ∧ Only (bl (.slice aa m ca) ++ bl (.slice ab m cb)) w7 w8 ∧ wt.heap.size ≤ w8.heap.size ∧ (∀ j, v2.ownBlock = some j → (Value.slice ab m cb).ownBlock = some j ∨ wt.heap.size ≤ j)) := by
                    refine ⟨HOx4.out.only o8 (fun j hj hm => ?_), by rw [rep_snoc] at ho2; exact ho2, only_step HO4.out o8 (fun j hj => ?_), Nat.le_trans hzu o8.size, fun j hj => ?_⟩
                    · have h0 : u17.ownBlock = some j := by simpa [Option.mem_toList] using hm
                      have h3 := HXl.out j hj
                      have := HZ7.out
                      rcases HBy.out j h0 with h1 | h1
                      · have h2 := K2.out j h1
                        rcases HBx.out j hj with h4 | h4
                        · have := K1.out j h4; omega
                        · omega
                      · omega
                    · have h0 : u17.ownBlock = some j := by simpa [Option.mem_toList] using hj
                      rcases HBy.out j h0 with h1 | h1
                      · exact .inl (List.mem_append_right _ (mem_bl.2 h1))
                      · right; omega
                    · rcases hv2 with h1 | h1
                      · exact HBy.out j (h1 ▸ hj)
                      · rw [h1] at hj
                        have : j = wr.heap.size + 1 := by simpa using hj.symm
                        right; omega
                  clear ho2 hg2 hv2 o8 hsz8
                  go_wp2_with fail
                  go_roundw
                  case rel => exact ⟨r + 1, by omega, by go_num, H2.out.1, H2.out.2.1, H2.out.2.2.1, H2.out.2.2.2.1, H2.out.2.2.2.2⟩
                  case measure => simp [intOf]; omega
                · have hr30 : r = 30 := by omega
                  have kr : ¬ (r : Int) < 30 := by omega
                  rw [hr30] at HOy
                  clear hr30
                  have HFx : Hid (FS wr u16 (List.replicate (m + 30) (mkP 49))) := HOx4.out.fs
                  have HFy : Hid (FS wr u17 (List.replicate (m + 30) (mkP 50))) := HOy.out.fs
                  obtain ⟨ax, cx, hfx⟩ := HOx4.out.form
                  obtain ⟨ay, cy, hfy⟩ := HOy.out.form
                  rw [List.length_replicate] at hfx hfy
                  clear HOx HOx3 HOb HO3 HOy HOx4
                  subst hfx hfy
                  obtain ⟨wu, rfl⟩ : ∃ x, x = wr := ⟨_, rfl⟩
                  go_wp2_with fail
                  go_loop [20] (fun i => ∃ z' : Nat, z' ≤ m + 30 ∧ i = .int .i64 z') (fun i => m + 30 - (intOf i).toNat)
                  case atStart => exact ⟨0, by omega, rfl⟩
                  case round =>
                    obtain ⟨z', hz, rfl⟩ := hrel
                    by_cases hlt : z' < m + 30
                    · have k1 : (0 : Int) ≤ (z' : Int) := by omega
                      have k2 : (z' : Int) < (m : Int) + 30 := by omega
                      have X1 : FS wu (.slice ax (List.replicate (m + 30) (mkP 49)).length cx) (List.replicate (m + 30) (mkP 49)) := by rw [List.length_replicate]; exact HFx.out
                      have Y1 : FS wu (.slice ay (List.replicate (m + 30) (mkP 50)).length cy) (List.replicate (m + 30) (mkP 50)) := by rw [List.length_replicate]; exact HFy.out
                      obtain ⟨b1, o1, e1, hb1, c1, _⟩ := X1.at (Below.refl _ _) (k := z') (by rw [List.length_replicate]; exact hlt)
                      obtain ⟨b2, o2, e2, hb2, c2, _⟩ := Y1.at (Below.refl _ _) (k := z') (by rw [List.length_replicate]; exact hlt)
                      rw [List.getElem_replicate] at c1 c2
                      clear X1 Y1
                      subst e1 e2
                      have c1' : wu.cell? ⟨b1, o1 + z' * 4, none⟩ = some (.string (bs [49])) := c1
                      have c2' : wu.cell? ⟨b2, o2 + z' * 4, none⟩ = some (.string (bs [50])) := c2
                      clear c1 c2
                      have s1 : (bs [49]).toList = [49] := bs_toList _
                      have s2 : (bs [50]).toList = [50] := bs_toList _
                      have s3 : (ByteArray.mk #[49]).toList = [49] := ByteArray.toList_mk [49]
                      have s4 : (ByteArray.mk #[50]).toList = [50] := ByteArray.toList_mk [50]
                      go_wp2_with fail
                      go_round
                      case rel => exact ⟨z' + 1, by omega, by go_num⟩
                      case measure => simp [intOf]; omega
                    · obtain rfl : z' = m + 30 := by omega
                      have HCu : Hid (FS wu (.slice aru m cru) X) := HC7.out.only HO4.out (fun j hj hm => by
                        have h3 := K3.out j hj
                        have := HZ7.out
                        rcases List.mem_append.1 hm with h1 | h1
                        · have := K1.out j (mem_bl.1 h1); omega
                        · have := K2.out j (mem_bl.1 h1); omega)
                      have HSu : Hid (SS wu (.slice ac0 n cc0) R) := by
                        by_cases hne : R = []
                        · have h1 := HS7.out.1
                          rcases h1 with h1 | ⟨_, _, _, e, _⟩
                          · exact .inl h1
                          · have h2 := HRN.out
                            rw [hne] at h2
                            have h3 : n = 0 := by simpa using h2.symm
                            subst h3
                            exact .inl ⟨⟨_, _, rfl⟩, hne⟩
                        · exact HS7.out.1.only3 HO4.out (fun j hj hm => by
                            have h3 := HS7.out.2 j hj hne
                            have := HZ7.out
                            rcases List.mem_append.1 hm with h1 | h1
                            · have := K1.out j (mem_bl.1 h1); omega
                            · have := K2.out j (mem_bl.1 h1); omega)
                      have HBu : Hid (Below w.heap.size w wu) := below_trans HB7.out (HO4.out.below HB7.out.size (fun j hj => by
                        have := HZ7.out
                        have := HZw.out
                        rcases List.mem_append.1 hj with h1 | h1
                        · have := K1.out j (mem_bl.1 h1); omega
                        · have := K2.out j (mem_bl.1 h1); omega))
                      go_wp2_with fail
                      refine (HVw.out _ _ HBu.out HSu.out).mono ?_
                      rintro e wa ⟨rd, rfl, hrd, hba⟩
                      have HDa : Hid (FS wa rd X ∧ FS wa (.slice aru m cru) X ∧ Below w.heap.size w wa) := ⟨hrd.fs, HCu.out.later hba, bstep HBu.out hba⟩
                      clear hrd hba
                      go_wp2_with fail
                      refine (HFl.out _ _ _ HDa.out.1 HDa.out.2.1).mono ?_
                      rintro e wb ⟨rfl, hbb⟩
                      have HBb : Hid (Below w.heap.size w wb) := bstep HDa.out.2.2 hbb
                      clear hbb
                      go_wp2_with fail
                      go_ret
                      exact ⟨rfl, HBb.out⟩
end Go.Proofs.YtkbefggjfggdgaaGreat
