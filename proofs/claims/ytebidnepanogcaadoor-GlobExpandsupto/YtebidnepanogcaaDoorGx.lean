/-
  GlobExpands.
-/
import Derived.Test.YtebidnepanogcaaDoorMk
namespace Go.Proofs.YtebidnepanogcaaDoor
open Go.RowKit

set_option maxRecDepth 100000 in
set_option maxHeartbeats 8000000 in
theorem expands_law {w : World} {v : Value} {l : List Fl} (E : Ev w) (p s : List UInt8) (h : FS w v l) (sm : FQ l) (hl : l.length ≤ 1048576) (hp : p.length ≤ 4000000) (hs : s.length ≤ 4000000) :
    Calls Tryd.prog 5 #[v, .string (bs p), .string (bs s)] w fun e w' => e = .returned (.bool true) ∧ Below w.heap.size w w' := by
  have H : Hid (FS w v l) := h
  have SM : Hid (FQ l) := sm
  have HAl : Hid (∀ W : World, Below w.heap.size w W → Calls Tryd.prog 8 #[] W fun e w' => e = .returned (.bool true) ∧ Below W.heap.size W w') := fun W hW => alive_any (E.later hW)
  have HX : Hid (∀ (W : World) (u : Value), Below w.heap.size w W → FS W u l → Calls Tryd.prog 7 #[u, .string (bs p), .string (bs s)] W fun e w' => ∃ r, e = .returned (.tuple #[r, .bool (exl l (whl p s)).2]) ∧ OwnF W.heap.size w' r (exl l (whl p s)).1 ∧ Below W.heap.size W w') := fun W u hW hu => expand_any p s hu sm (E.later hW) (by omega) (by omega)
  have HRX : Hid (∀ (W : World) (u : Value), FS W u l → Calls Tryd.prog 19 #[u, .string (bs p), .string (bs s)] W fun e w' => ∃ r, e = .returned (.tuple #[r, .bool (exl l (whl p s)).2]) ∧ OwnF W.heap.size w' r (exl l (whl p s)).1 ∧ Below W.heap.size W w') := fun W u hu => rexpand_any p s hu sm (by omega) (by omega)
  have HLt : Hid (∀ (W : World) (u : Value), FS W u l → Calls Tryd.prog 18 #[u] W fun e w' => ∃ g c, e = .returned (.slice (some ⟨g, 0, none⟩) (l.length + 20) c) ∧ l.length + 20 ≤ c ∧ OwnF W.heap.size w' (.slice (some ⟨g, 0, none⟩) (l.length + 20) c) (lentF l) ∧ Below W.heap.size W w') := fun W u hu => lentF_any hu (by omega)
  have hXl := exl_len l (whl p s)
  have HFl : Hid (∀ (W : World) (u1 u2 : Value), FS W u1 (exl l (whl p s)).1 → FS W u2 (exl l (whl p s)).1 → Calls Tryd.prog 20 #[u1, u2] W fun e w' => e = .returned (.bool true) ∧ Below W.heap.size W w') := fun W u1 u2 h1 h2 => by
    have := files_any h1 h2 (by omega)
    rw [(leq_iff _ _).2 rfl] at this; exact this
  have HFm : Hid (∀ (W : World) (u1 u2 : Value), FS W u1 (lentF l) → FS W u2 (lentF l) → Calls Tryd.prog 20 #[u1, u2] W fun e w' => e = .returned (.bool true) ∧ Below W.heap.size W w') := fun W u1 u2 h1 h2 => by
    have := files_any h1 h2 (by rw [lentF_len]; omega)
    rw [(leq_iff _ _).2 rfl] at this; exact this
  obtain ⟨a, c, hv, _⟩ := h.form
  have HVl : Hid (v = .slice a l.length c) := hv
  obtain ⟨n, hn⟩ : ∃ n, l.length = n := ⟨_, rfl⟩
  have HN : Hid (l.length = n) := hn
  rw [hn] at HLt hl HVl hv
  subst hv
  generalize (exl l (whl p s)).2 = ok at *
  generalize (exl l (whl p s)).1 = X at *
  have q0 : (ok != ok) = false := by cases ok <;> rfl
  clear h sm hn hXl hp hs HVl
  rename_i hform
  clear hform
  go_enter Tryd.func5, Tryd.ntmps5
  go_wp2_with fail
  refine (HLt.out _ _ H.out).mono ?_
  rintro e w1 ⟨g, cg, rfl, hcg, hg, hb1⟩
  have HG1 : Hid (OwnF w.heap.size w1 (.slice (some ⟨g, 0, none⟩) (n + 20) cg) (lentF l)) := hg
  have HB1 : Hid (Below w.heap.size w w1) := hb1
  have HF1 : Hid (FS w1 (.slice (some ⟨g, 0, none⟩) n cg) l) := by
    have := FS.front (l := l) hg.fs
    rw [HN.out] at this; exact this
  have hglt : w.heap.size ≤ g ∧ g < w1.heap.size := hg.lt rfl
  clear hg hb1
  have j1 : (n : Int) ≤ (cg : Int) := by omega
  go_wp2_with fail
  refine (HX.out _ _ HB1.out HF1.out).mono ?_
  rintro e w2 ⟨ra, rfl, hra, hb2⟩
  have HA2 : Hid (OwnF w1.heap.size w2 ra X) := hra
  have HB2 : Hid (Below w1.heap.size w1 w2) := hb2
  clear hra hb2
  go_wp2_with fail
  refine (HRX.out _ _ (H.out.later (bstep HB1.out HB2.out))).mono ?_
  rintro e w3 ⟨rb, rfl, hrb, hb3⟩
  have HR3 : Hid (OwnF w2.heap.size w3 rb X) := hrb
  have HA3 : Hid (OwnF w1.heap.size w3 ra X) := HA2.out.later hb3
  have HB3 : Hid (Below w1.heap.size w1 w3) := bstep HB2.out hb3
  clear hrb hb3
  go_wp2_with fail
  refine (HAl.out _ (bstep HB1.out HB3.out)).mono ?_
  rintro e w4 ⟨rfl, hb4⟩
  have HR4 : Hid (OwnF w2.heap.size w4 rb X) := HR3.out.later hb4
  have HA4 : Hid (OwnF w1.heap.size w4 ra X) := HA3.out.later hb4
  have HB4 : Hid (Below w1.heap.size w1 w4) := bstep HB3.out hb4
  clear hb4
  go_wp2_with fail
  refine (HFl.out _ _ _ HA4.out.fs HR4.out.fs).mono ?_
  rintro e w5 ⟨rfl, hb5⟩
  have HR5 : Hid (OwnF w2.heap.size w5 rb X) := HR4.out.later hb5
  have HA5 : Hid (OwnF w1.heap.size w5 ra X) := HA4.out.later hb5
  have HB5 : Hid (Below w1.heap.size w1 w5) := bstep HB4.out hb5
  clear hb5
  go_wp2_with fail
  refine (HLt.out _ _ (H.out.later (bstep HB1.out HB5.out))).mono ?_
  rintro e w6 ⟨g6, c6, rfl, _, hg6, hb6⟩
  have HG6 : Hid (FS w6 (.slice (some ⟨g6, 0, none⟩) (n + 20) c6) (lentF l)) := hg6.fs
  have HR6 : Hid (OwnF w2.heap.size w6 rb X) := HR5.out.later hb6
  have HA6 : Hid (OwnF w1.heap.size w6 ra X) := HA5.out.later hb6
  have HB6 : Hid (Below w1.heap.size w1 w6) := bstep HB5.out hb6
  clear hb6 hg6
  go_wp2_with fail
  refine (HFm.out _ _ _ (HG1.out.later HB6.out).fs HG6.out).mono ?_
  rintro e w7 ⟨rfl, hb7⟩
  have HR7 : Hid (OwnF w2.heap.size w7 rb X) := HR6.out.later hb7
  have HA7 : Hid (OwnF w1.heap.size w7 ra X) := HA6.out.later hb7
  have HB7 : Hid (Below w1.heap.size w1 w7) := bstep HB6.out hb7
  clear hb7 HR6 HA6 HB6 HG6 HR5 HA5 HB5 HR4 HA4 HB4 HR3 HA3 HB3 HA2
  have hz7 := HB7.out.size
  have hz2 := HB2.out.size
  go_wp2_with fail
  go_loopw [12] (fun i wr => ∃ (k : Nat) (L : List Fl), k ≤ n + 20 ∧ i = .int .i64 k ∧ L.length = n + 20 ∧ OwnF w.heap.size wr (.slice (some ⟨g, 0, none⟩) (n + 20) cg) L ∧ Only [g] w7 wr) (fun i _ => n + 20 - (intOf i).toNat)
  case atStart => exact ⟨0, lentF l, by omega, rfl, by rw [lentF_len, HN.out], HG1.out.later HB7.out, Only.refl _ _⟩
  case round =>
    obtain ⟨k, L, hk, rfl, hL, ho, hon⟩ := hrel
    have HO : Hid (OwnF w.heap.size wr (.slice (some ⟨g, 0, none⟩) (n + 20) cg) L) := ho
    have HLL : Hid (L.length = n + 20) := hL
    have HOn : Hid (Only [g] w7 wr) := hon
    clear ho hon hL
    by_cases hlt : k < n + 20
    · obtain ⟨⟨c0, c1, c2, c3⟩, ⟨f0, f1, f2, f3⟩, _, hgl⟩ := own_cellF HO.out k (by have := HLL.out; omega)
      have HS : Hid (OwnF w.heap.size ((((wr.setCell ⟨g, k * 4, none⟩ (.string (bs [37]))).setCell ⟨g, k * 4 + 1, none⟩ (.string (bs []))).setCell ⟨g, k * 4 + 2, none⟩ (.int .i64 0)).setCell ⟨g, k * 4 + 3, none⟩ (.int .i64 0)) (.slice (some ⟨g, 0, none⟩) (n + 20) cg) (L.set k (mkP 37))) := own_setF HO.out k (mkP 37)
      have k1 : (0 : Int) ≤ (k : Int) := by omega
      have k2 : (k : Int) < (n : Int) + 20 := by omega
      go_wp2_with fail
      go_roundw
      case rel =>
        refine ⟨k + 1, L.set k (mkP 37), by omega, by go_num, by rw [List.length_set]; exact HLL.out, HS.out, ?_⟩
        exact HOn.out.trans ((((Only.set _ _ _ _).trans (Only.set _ _ _ _)).trans (Only.set _ _ _ _)).trans (Only.set _ _ _ _))
      case measure => simp [intOf]; omega
    · have HA8 : Hid (FS wr ra X) := HA7.out.fs.only HOn.out (fs_ne HA7.out hglt.2)
      have HR8 : Hid (FS wr rb X) := HR7.out.fs.only HOn.out (fs_ne HR7.out (by omega))
      have k2 : ¬ (k : Int) < (n : Int) + 20 := by omega
      go_wp2_with fail
      refine (HFl.out _ _ _ HA8.out HR8.out).mono ?_
      rintro e w9 ⟨rfl, hb9⟩
      have HB9 : Hid (Below w.heap.size w w9) := bstep (below_trans (bstep HB1.out HB7.out) (HOn.out.below (by omega) (by simpa using hglt.1))) hb9
      clear hb9
      go_wp2_with fail
      go_ret
      exact ⟨rfl, HB9.out⟩
end Go.Proofs.YtebidnepanogcaaDoor
