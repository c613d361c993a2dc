/-
  ConeAll.
-/
import Derived.Test.YtkbefggjfggdgaaGreatMf
namespace Go.Proofs.YtkbefggjfggdgaaGreat
open Go.RowKit

set_option maxRecDepth 100000 in
set_option maxHeartbeats 16000000 in
theorem all_law (C : CC) {w : World} {v u : Value} {l : List Fl} {k : List (List UInt8)} (p : List UInt8) (h : FS w v l) (sm : FSm l) (hl : l.length ≤ 1048576) (hpl : ∀ f ∈ l, f.path.length ≤ 100000000) (hu : SS w u k) (sk : Sm k) (hp : p.length ≤ 1000000000) :
    Calls Tryz.prog 3 #[v, u, .string (bs p)] w fun e w' => e = .returned (.bool true) ∧ Below w.heap.size w w' := by
  have HC : Hid CC := C
  obtain ⟨a, c, e1⟩ : ∃ a c, v = .slice a l.length c := by obtain ⟨a, c, h, _⟩ := h.form; exact ⟨a, c, h⟩
  obtain ⟨a', c', e2⟩ := hu.len2
  obtain ⟨n, hn⟩ : ∃ n, l.length = n := ⟨_, rfl⟩
  obtain ⟨m, hm⟩ : ∃ m, k.length = m := ⟨_, rfl⟩
  rw [hn] at e1 hl
  rw [hm] at e2
  subst e1 e2
  have H : Hid (FS w (.slice a n c) l ∧ FSm l ∧ (∀ f ∈ l, f.path.length ≤ 100000000) ∧ SS w (.slice a' m c') k ∧ Sm k ∧ p.length ≤ 1000000000) := ⟨h, sm, hpl, hu, sk, hp⟩
  have HN : Hid (l.length = n ∧ k.length = m) := ⟨hn, hm⟩
  have hml : m ≤ 4000000 := by rw [← hm]; exact sk.len
  have HVl : Hid ((viw l k).1.length ≤ 1048576) := by have := viw_len l k; show _ ≤ _; omega
  obtain ⟨V, hV⟩ : ∃ V, (viw l k).1 = V := ⟨_, rfl⟩
  obtain ⟨z, hz⟩ : ∃ z, (viw l k).2 = z := ⟨_, rfl⟩
  obtain ⟨y, hy⟩ : ∃ y, coneE k = y := ⟨_, rfl⟩
  obtain ⟨b, hb⟩ : ∃ b, shw k p = b := ⟨_, rfl⟩
  have HLt : Hid (∀ (W : World), FS W (.slice a n c) l → Calls Tryz.prog 5 #[.slice a n c] W fun e w' => ∃ g q, e = .returned (.slice (some ⟨g, 0, none⟩) (n + 20) q) ∧ n + 20 ≤ q ∧ OwnF W.heap.size w' (.slice (some ⟨g, 0, none⟩) (n + 20) q) (lentF l) ∧ Below W.heap.size W w') := fun W hW => by
    have := lentF_any hW (by rw [hn]; omega)
    rw [hn] at this; exact this
  have HLk : Hid (∀ (W : World), SS W (.slice a' m c') k → Calls Tryz.prog 6 #[.slice a' m c'] W fun e w' => e = .returned (.slice (some ⟨W.heap.size, 0, none⟩) (m + 30) (m + 30)) ∧ Own W.heap.size w' (.slice (some ⟨W.heap.size, 0, none⟩) (m + 30) (m + 30)) (lentL k) ∧ Below W.heap.size W w') := fun W hW => by
    have := lent_any hW sk
    rw [hm] at this; exact this
  have HVw : Hid (∀ (W : World) (x y : Value), FS W x l → SS W y k → Calls Tryz.prog 7 #[x, y] W fun e w' => ∃ v', e = .returned (.tuple #[v', .int .i64 z]) ∧ OwnF W.heap.size w' v' V ∧ Below W.heap.size W w') := fun W x y h1 h2 => by
    rw [← hV, ← hz]; exact C.view h1 sm h2 sk
  have HRw : Hid (∀ (W : World) (x y : Value), FS W x l → SS W y k → Calls Tryz.prog 8 #[x, y] W fun e w' => ∃ v', e = .returned (.tuple #[v', .int .i64 z]) ∧ OwnF W.heap.size w' v' V ∧ Below W.heap.size W w') := fun W x y h1 h2 => by
    rw [← hV, ← hz]; exact rcview_any h1 (by rw [hn]; omega) sm.each hpl h2 sk
  have HCo : Hid (∀ (W : World) (y : Value), SS W y k → Calls Tryz.prog 9 #[y] W fun e w' => ∃ v', e = .returned v' ∧ Own W.heap.size w' v' (cov k) ∧ Below W.heap.size W w') := fun W y h2 => C.cover h2 sk
  have HRo : Hid (∀ (W : World) (y : Value), SS W y k → Calls Tryz.prog 18 #[y] W fun e w' => ∃ v', e = .returned v' ∧ Own W.heap.size w' v' (cov k) ∧ Below W.heap.size W w') := fun W y h2 => rccover_any h2 sk
  have HVa : Hid (∀ (W : World) (y' : Value), SS W y' k → Calls Tryz.prog 11 #[y'] W fun e w' => e = .returned (.int .i64 y) ∧ Below W.heap.size W w') := fun W y' h2 => by rw [← hy]; exact C.valid h2 sk
  have HRa : Hid (∀ (W : World) (y' : Value), SS W y' k → Calls Tryz.prog 12 #[y'] W fun e w' => e = .returned (.int .i64 y) ∧ Below W.heap.size W w') := fun W y' h2 => by rw [← hy]; exact rcvalid_any h2 sk
  have HSh : Hid (∀ (W : World) (y' : Value), SS W y' k → Calls Tryz.prog 13 #[y', .string (bs p)] W fun e w' => e = .returned (.bool b) ∧ Below W.heap.size W w') := fun W y' h2 => by rw [← hb]; exact C.shows p h2 sk hp
  have HRh : Hid (∀ (W : World) (y' : Value), SS W y' k → Calls Tryz.prog 14 #[y', .string (bs p)] W fun e w' => e = .returned (.bool b) ∧ Below W.heap.size W w') := fun W y' h2 => by rw [← hb]; exact rcshows_any p h2 sk hp
  have HFl : Hid (∀ (W : World) (u1 u2 : Value), FS W u1 V → FS W u2 V → Calls Tryz.prog 16 #[u1, u2] W fun e w' => e = .returned (.bool true) ∧ Below W.heap.size W w') := fun W u1 u2 h1 h2 => by
    have := files_any h1 h2 (by rw [← hV]; have := HVl.out; omega)
    rw [(leq_iff _ _).2 rfl] at this; exact this
  have HFm : Hid (∀ (W : World) (u1 u2 : Value), FS W u1 (lentF l) → FS W u2 (lentF l) → Calls Tryz.prog 16 #[u1, u2] W fun e w' => e = .returned (.bool true) ∧ Below W.heap.size W w') := fun W u1 u2 h1 h2 => by
    have := files_any h1 h2 (by rw [lentF_len, hn]; omega)
    rw [(leq_iff _ _).2 rfl] at this; exact this
  have HTm : Hid (∀ (W : World) (u1 u2 : Value) (L : List (List UInt8)), L.length ≤ 8000000 → SS W u1 L → SS W u2 L → Calls Tryz.prog 17 #[u1, u2] W fun e w' => e = .returned (.bool true) ∧ Below W.heap.size W w') := fun W u1 u2 L hL h1 h2 => by
    refine (same_any h1 h2 (by omega)).mono ?_
    rintro e w' ⟨rfl, q, rfl⟩
    exact ⟨by simp, bd _ _⟩
  have HCl : Hid ((cov k).length ≤ 8000000 ∧ (lentL k).length ≤ 8000000) := ⟨by have := sk.cov.len; omega, by rw [lentL_length, hm]; omega⟩
  have HAl : Hid (∀ W : World, Calls Tryz.prog 15 #[] W fun e w' => e = .returned (.bool true) ∧ Below W.heap.size W w') := fun W => alive_any C W
  clear C h sm hpl hu sk hp hn hm hV hz hy hb
  have q0 : (b == b) = true := by simp
  have q1 : (y == y) = true := by simp
  have q2 : (z != z) = false := by simp
  have q3 : decide (y = y) = true := by simp
  go_enter Tryz.func3, Tryz.ntmps3
  go_wp2_with fail
  refine (HLt.out _ H.out.1).mono ?_
  rintro e w1 ⟨g, cg, rfl, hcg, hg, hb1⟩
  have HG1 : Hid (OwnF w.heap.size w1 (.slice (some ⟨g, 0, none⟩) (n + 20) cg) (lentF l)) := hg
  have HB1 : Hid (Below w.heap.size w w1) := hb1
  have hglt : w.heap.size ≤ g ∧ g < w1.heap.size := hg.lt rfl
  clear hg hb1
  go_wp2_with fail
  refine (HLk.out _ (H.out.2.2.2.1.later HB1.out)).mono ?_
  rintro e w2 ⟨rfl, ho2, hb2⟩
  obtain ⟨hh, ehh⟩ : ∃ hh, w1.heap.size = hh := ⟨_, rfl⟩
  rw [ehh] at ho2 ⊢
  have hhlt : hh < w2.heap.size := (ho2.lt (k := hh) rfl).2
  have HG2 : Hid (OwnF w.heap.size w2 (.slice (some ⟨g, 0, none⟩) (n + 20) cg) (lentF l)) := HG1.out.later hb2
  have HY2 : Hid (Own hh w2 (.slice (some ⟨hh, 0, none⟩) (m + 30) (m + 30)) (lentL k)) := ho2
  have HB2 : Hid (Below w.heap.size w w2) := bstep HB1.out hb2
  have HF2 : Hid (∀ W, Below w2.heap.size w2 W → FS W (.slice (some ⟨g, 0, none⟩) n cg) l ∧ SS W (.slice (some ⟨hh, 0, none⟩) m (m + 30)) k) := fun W hW => by
    have h1 := FS.front (l := l) (HG2.out.later hW).fs
    have h2 := SS.front (l := k) (HY2.out.later hW).bs
    rw [HN.out.1] at h1
    rw [HN.out.2] at h2
    exact ⟨h1, h2⟩
  have hgh : g < hh := by rw [← ehh]; exact hglt.2
  have hgw := hglt.1
  have hz2 := HB2.out.size
  clear ho2 hb2 ehh hglt HG1 HB1
  have j1 : (n : Int) ≤ (cg : Int) := by omega
  have j2 : n ≤ cg := by omega
  have j3 : (m : Int) ≤ (m : Int) + 30 := by omega
  have j4 : m ≤ m + 30 := by omega
  go_wp2_with fail
  go_region_held3 (fun _ => True) (trivial) (first | (go_at_call 7; (with_reducible refine (HVw.out _ _ _ (HF2.out _ (bd1 _)).1 (HF2.out _ (bd1 _)).2).mono ?_); rintro e w3 ⟨ra, rfl, hra, hb3⟩))
  have HS3 : Hid (Below w2.heap.size w2 w3 ∧ OwnF w2.heap.size w3 ra V) := ⟨bstep (bd1 _) hb3, hra⟩
  obtain ⟨aa, ca, ea⟩ : ∃ a c, ra = .slice a V.length c := by obtain ⟨a, c, h, _⟩ := hra.fs.form; exact ⟨a, c, h⟩
  obtain ⟨nv, hnv⟩ : ∃ nv, V.length = nv := ⟨_, rfl⟩
  rw [hnv] at ea
  subst ea
  clear hra hb3 hnv
  go_wp2_with fail
  refine (HRw.out _ _ _ (H.out.1.later (bstep HB2.out HS3.out.1)) (H.out.2.2.2.1.later (bstep HB2.out HS3.out.1))).mono ?_
  rintro e w4 ⟨rb, rfl, hrb, hb4⟩
  have HS4 : Hid (Below w2.heap.size w2 w4 ∧ OwnF w2.heap.size w4 (.slice aa nv ca) V ∧ OwnF w2.heap.size w4 rb V) := ⟨bstep HS3.out.1 hb4, HS3.out.2.later hb4, hrb.mono HS3.out.1.size⟩
  obtain ⟨ab, cb, eb⟩ : ∃ a c, rb = .slice a V.length c := by obtain ⟨a, c, h, _⟩ := hrb.fs.form; exact ⟨a, c, h⟩
  obtain ⟨nw, hnw⟩ : ∃ nw, V.length = nw := ⟨_, rfl⟩
  rw [hnw] at eb
  subst eb
  clear hrb hb4 hnw HS3
  go_wp2_with fail
  refine (HCo.out _ _ (HF2.out _ HS4.out.1).2).mono ?_
  rintro e w5 ⟨rc, rfl, hrc, hb5⟩
  have HS5 : Hid (Below w2.heap.size w2 w5 ∧ OwnF w2.heap.size w5 (.slice aa nv ca) V ∧ OwnF w2.heap.size w5 (.slice ab nw cb) V ∧ Own w2.heap.size w5 rc (cov k)) := ⟨bstep HS4.out.1 hb5, HS4.out.2.1.later hb5, HS4.out.2.2.later hb5, hrc.mono HS4.out.1.size⟩
  obtain ⟨ac, cc, ec⟩ := hrc.bs.len2
  obtain ⟨nc, hnc⟩ : ∃ nc, (cov k).length = nc := ⟨_, rfl⟩
  rw [hnc] at ec
  subst ec
  clear hrc hb5 hnc HS4
  go_wp2_with fail
  refine (HVa.out _ _ (HF2.out _ HS5.out.1).2).mono ?_
  rintro e w6 ⟨rfl, hb6⟩
  have HS6 : Hid (Below w2.heap.size w2 w6 ∧ OwnF w2.heap.size w6 (.slice aa nv ca) V ∧ OwnF w2.heap.size w6 (.slice ab nw cb) V ∧ Own w2.heap.size w6 (.slice ac nc cc) (cov k)) := ⟨bstep HS5.out.1 hb6, HS5.out.2.1.later hb6, HS5.out.2.2.1.later hb6, HS5.out.2.2.2.later hb6⟩
  clear hb6 HS5
  go_wp2_with fail
  refine (num_any y _).mono ?_
  rintro e w6' ⟨rfl, ew⟩
  subst ew
  go_wp2_with fail
  refine (HRa.out _ _ (H.out.2.2.2.1.later (bstep HB2.out HS6.out.1))).mono ?_
  rintro e w7 ⟨rfl, hb7⟩
  have HS7 : Hid (Below w2.heap.size w2 w7 ∧ OwnF w2.heap.size w7 (.slice aa nv ca) V ∧ OwnF w2.heap.size w7 (.slice ab nw cb) V ∧ Own w2.heap.size w7 (.slice ac nc cc) (cov k)) := ⟨bstep HS6.out.1 hb7, HS6.out.2.1.later hb7, HS6.out.2.2.1.later hb7, HS6.out.2.2.2.later hb7⟩
  clear hb7 HS6
  go_wp2_with fail
  refine (HSh.out _ _ (HF2.out _ HS7.out.1).2).mono ?_
  rintro e w8 ⟨rfl, hb8⟩
  have HS8 : Hid (Below w2.heap.size w2 w8 ∧ OwnF w2.heap.size w8 (.slice aa nv ca) V ∧ OwnF w2.heap.size w8 (.slice ab nw cb) V ∧ Own w2.heap.size w8 (.slice ac nc cc) (cov k)) := ⟨bstep HS7.out.1 hb8, HS7.out.2.1.later hb8, HS7.out.2.2.1.later hb8, HS7.out.2.2.2.later hb8⟩
  clear hb8 HS7
  go_wp2_with fail
  refine (HRh.out _ _ (H.out.2.2.2.1.later (bstep HB2.out HS8.out.1))).mono ?_
  rintro e w9 ⟨rfl, hb9⟩
  have HS9 : Hid (Below w2.heap.size w2 w9 ∧ OwnF w2.heap.size w9 (.slice aa nv ca) V ∧ OwnF w2.heap.size w9 (.slice ab nw cb) V ∧ Own w2.heap.size w9 (.slice ac nc cc) (cov k)) := ⟨bstep HS8.out.1 hb9, HS8.out.2.1.later hb9, HS8.out.2.2.1.later hb9, HS8.out.2.2.2.later hb9⟩
  clear hb9 HS8
  go_wp2_with fail
  refine (HAl.out _).mono ?_
  rintro e w10 ⟨rfl, hb10⟩
  have HS10 : Hid (Below w2.heap.size w2 w10 ∧ OwnF w2.heap.size w10 (.slice aa nv ca) V ∧ OwnF w2.heap.size w10 (.slice ab nw cb) V ∧ Own w2.heap.size w10 (.slice ac nc cc) (cov k)) := ⟨bstep HS9.out.1 hb10, HS9.out.2.1.later hb10, HS9.out.2.2.1.later hb10, HS9.out.2.2.2.later hb10⟩
  clear hb10 HS9
  go_wp2_with fail
  refine (num_any z _).mono ?_
  rintro e w10' ⟨rfl, ew⟩
  subst ew
  go_wp2_with fail
  refine (HLt.out _ (H.out.1.later (bstep HB2.out HS10.out.1))).mono ?_
  rintro e w11 ⟨g6, c6, rfl, _, hg6, hb11⟩
  have HG6 : Hid (FS w11 (.slice (some ⟨g6, 0, none⟩) (n + 20) c6) (lentF l)) := hg6.fs
  clear hg6
  have HS11 : Hid (Below w2.heap.size w2 w11 ∧ OwnF w2.heap.size w11 (.slice aa nv ca) V ∧ OwnF w2.heap.size w11 (.slice ab nw cb) V ∧ Own w2.heap.size w11 (.slice ac nc cc) (cov k)) := ⟨bstep HS10.out.1 hb11, HS10.out.2.1.later hb11, HS10.out.2.2.1.later hb11, HS10.out.2.2.2.later hb11⟩
  clear hb11 HS10
  go_wp2_with fail
  refine (HFm.out _ _ _ (HG2.out.later HS11.out.1).fs HG6.out).mono ?_
  rintro e w12 ⟨rfl, hb12⟩
  have HS12 : Hid (Below w2.heap.size w2 w12 ∧ OwnF w2.heap.size w12 (.slice aa nv ca) V ∧ OwnF w2.heap.size w12 (.slice ab nw cb) V ∧ Own w2.heap.size w12 (.slice ac nc cc) (cov k)) := ⟨bstep HS11.out.1 hb12, HS11.out.2.1.later hb12, HS11.out.2.2.1.later hb12, HS11.out.2.2.2.later hb12⟩
  clear hb12 HS11
  go_wp2_with fail
  refine (HLk.out _ (H.out.2.2.2.1.later (bstep HB2.out HS12.out.1))).mono ?_
  rintro e w13 ⟨rfl, ho13, hb13⟩
  have HG7 : Hid (SS w13 (.slice (some ⟨w12.heap.size, 0, none⟩) (m + 30) (m + 30)) (lentL k)) := ho13.bs
  clear ho13
  have HS13 : Hid (Below w2.heap.size w2 w13 ∧ OwnF w2.heap.size w13 (.slice aa nv ca) V ∧ OwnF w2.heap.size w13 (.slice ab nw cb) V ∧ Own w2.heap.size w13 (.slice ac nc cc) (cov k)) := ⟨bstep HS12.out.1 hb13, HS12.out.2.1.later hb13, HS12.out.2.2.1.later hb13, HS12.out.2.2.2.later hb13⟩
  clear hb13 HS12
  go_wp2_with fail
  refine (HTm.out _ _ _ _ HCl.out.2 (HY2.out.later HS13.out.1).bs HG7.out).mono ?_
  rintro e w14 ⟨rfl, hb14⟩
  have HS14 : Hid (Below w2.heap.size w2 w14 ∧ OwnF w2.heap.size w14 (.slice aa nv ca) V ∧ OwnF w2.heap.size w14 (.slice ab nw cb) V ∧ Own w2.heap.size w14 (.slice ac nc cc) (cov k)) := ⟨bstep HS13.out.1 hb14, HS13.out.2.1.later hb14, HS13.out.2.2.1.later hb14, HS13.out.2.2.2.later hb14⟩
  clear hb14 HS13
  have hz14 := HS14.out.1.size
  clear HG6 HG7
  go_wp2_with fail
  go_loopw [15] (fun i wr => ∃ (t : Nat) (L : List Fl), t ≤ n + 20 ∧ i = .int .i64 t ∧ L.length = n + 20 ∧ OwnF w.heap.size wr (.slice (some ⟨g, 0, none⟩) (n + 20) cg) L ∧ Only [g] w14 wr) (fun i _ => n + 20 - (intOf i).toNat)
  case atStart => exact ⟨0, lentF l, by omega, rfl, by rw [lentF_len, HN.out.1], HG2.out.later HS14.out.1, Only.refl _ _⟩
  case round =>
    obtain ⟨t, L, ht, rfl, hL, ho, hon⟩ := hrel
    have HO : Hid (OwnF w.heap.size wr (.slice (some ⟨g, 0, none⟩) (n + 20) cg) L) := ho
    have HLL : Hid (L.length = n + 20) := hL
    have HOn : Hid (Only [g] w14 wr) := hon
    clear ho hon hL
    by_cases hlt : t < n + 20
    · obtain ⟨⟨c0, c1, c2, c3⟩, ⟨f0, f1, f2, f3⟩, _, hgl⟩ := own_cellF HO.out t (by have := HLL.out; omega)
      have HS : Hid (OwnF w.heap.size ((((wr.setCell ⟨g, t * 4, none⟩ (.string (bs [37]))).setCell ⟨g, t * 4 + 1, none⟩ (.string (bs []))).setCell ⟨g, t * 4 + 2, none⟩ (.int .i64 0)).setCell ⟨g, t * 4 + 3, none⟩ (.int .i64 0)) (.slice (some ⟨g, 0, none⟩) (n + 20) cg) (L.set t (mkP 37))) := own_setF HO.out t (mkP 37)
      have k1 : (0 : Int) ≤ (t : Int) := by omega
      have k2 : (t : Int) < (n : Int) + 20 := by omega
      go_wp2_with fail
      go_roundw
      case rel =>
        refine ⟨t + 1, L.set t (mkP 37), by omega, by go_num, by rw [List.length_set]; exact HLL.out, HS.out, ?_⟩
        exact HOn.out.trans ((((Only.set _ _ _ _).trans (Only.set _ _ _ _)).trans (Only.set _ _ _ _)).trans (Only.set _ _ _ _))
      case measure => simp [intOf]; omega
    · have k2 : ¬ (t : Int) < (n : Int) + 20 := by omega
      obtain ⟨wA, rfl⟩ : ∃ x, x = wr := ⟨_, rfl⟩
      have hzA := HOn.out.size
      have HYA : Hid (Own hh wA (.slice (some ⟨hh, 0, none⟩) (m + 30) (m + 30)) (lentL k)) := (HY2.out.later HS14.out.1).only HOn.out (fun j hj hm => by
        have h1 : hh = j := by simpa [Value.ownBlock] using hj
        have h2 : j = g := by simpa using hm
        omega)
      have HOg : Hid (Only [g, hh] w14 wA) := HOn.out.mono (fun j hj => by simp at hj; simp [hj])
      clear HO HLL HOn
      go_wp2_with fail
      go_loopw [16] (fun i wr => ∃ (s : Nat) (L : List (List UInt8)), s ≤ m + 30 ∧ i = .int .i64 s ∧ L.length = m + 30 ∧ Own hh wr (.slice (some ⟨hh, 0, none⟩) (m + 30) (m + 30)) L ∧ Only [g, hh] w14 wr) (fun i _ => m + 30 - (intOf i).toNat)
      case atStart => exact ⟨0, lentL k, by omega, rfl, by rw [lentL_length, HN.out.2], HYA.out, HOg.out⟩
      case round =>
        obtain ⟨s, L, hs, rfl, hL, ho, hon⟩ := hrel
        have HO : Hid (Own hh wr (.slice (some ⟨hh, 0, none⟩) (m + 30) (m + 30)) L) := ho
        have HLL : Hid (L.length = m + 30) := hL
        have HOn : Hid (Only [g, hh] w14 wr) := hon
        clear ho hon hL
        by_cases hlt : s < m + 30
        · have hsL : s < L.length := by have := HLL.out; omega
          obtain ⟨c0, f0, _, hgl⟩ := own_cellS HO.out s hsL
          have HS : Hid (Own hh (wr.setCell ⟨hh, s, none⟩ (.string (bs [37]))) (.slice (some ⟨hh, 0, none⟩) (m + 30) (m + 30)) (L.set s [37])) := own_set HO.out s hsL [37]
          have k1 : (0 : Int) ≤ (s : Int) := by omega
          have k2 : (s : Int) < (m : Int) + 30 := by omega
          go_wp2_with fail
          go_roundw
          case rel =>
            refine ⟨s + 1, L.set s [37], by omega, by go_num, by rw [List.length_set]; exact HLL.out, HS.out, ?_⟩
            exact HOn.out.trans ((Only.set _ _ _ _).mono (fun j hj => by simp at hj; simp [hj]))
          case measure => simp [intOf]; omega
        · have k2 : ¬ (s : Int) < (m : Int) + 30 := by omega
          obtain ⟨wB, rfl⟩ : ∃ x, x = wr := ⟨_, rfl⟩
          have hnb : ∀ j, w2.heap.size ≤ j → j ∉ [g, hh] := fun j hj hm => by
            have : j = g ∨ j = hh := by simpa using hm
            omega
          have HT : Hid (FS wB (.slice aa nv ca) V ∧ FS wB (.slice ab nw cb) V ∧ SS wB (.slice ac nc cc) (cov k) ∧ Below w.heap.size w wB) := by
            refine ⟨HS14.out.2.1.fs.only HOn.out (fun j hj => hnb j (HS14.out.2.1.lt hj).1), HS14.out.2.2.1.fs.only HOn.out (fun j hj => hnb j (HS14.out.2.2.1.lt hj).1), HS14.out.2.2.2.bs.only3 HOn.out (fun j hj => hnb j (HS14.out.2.2.2.lt hj).1), ?_⟩
            refine below_trans (bstep HB2.out HS14.out.1) (HOn.out.below (by omega) (fun j hj => ?_))
            have : j = g ∨ j = hh := by simpa using hj
            omega
          clear HO HLL HOn HOg HYA
          go_wp2_with fail
          refine (HFl.out _ _ _ HT.out.1 HT.out.2.1).mono ?_
          rintro e wC ⟨rfl, hbC⟩
          have HTC : Hid (SS wC (.slice ac nc cc) (cov k) ∧ Below w.heap.size w wC) := ⟨HT.out.2.2.1.later hbC, bstep HT.out.2.2.2 hbC⟩
          clear hbC HT
          go_wp2_with fail
          refine (HRo.out _ _ (H.out.2.2.2.1.later HTC.out.2)).mono ?_
          rintro e wD ⟨rd, rfl, hrd, hbD⟩
          obtain ⟨ad, cd, ed⟩ := hrd.bs.len2
          obtain ⟨nd, hnd⟩ : ∃ nd, (cov k).length = nd := ⟨_, rfl⟩
          rw [hnd] at ed
          subst ed
          have HTD : Hid (SS wD (.slice ac nc cc) (cov k) ∧ SS wD (.slice ad nd cd) (cov k) ∧ Below w.heap.size w wD) := ⟨HTC.out.1.later hbD, hrd.bs, bstep HTC.out.2 hbD⟩
          clear hbD hrd HTC hnd
          go_wp2_with fail
          refine (HTm.out _ _ _ _ HCl.out.1 HTD.out.1 HTD.out.2.1).mono ?_
          rintro e wE ⟨rfl, hbE⟩
          have HTE : Hid (Below w.heap.size w wE) := bstep HTD.out.2.2 hbE
          clear hbE HTD
          go_wp2_with fail
          go_loopw [17] (fun i wr => ∃ (x : Nat), x ≤ n ∧ i = .int .i64 x ∧ Below w.heap.size w wr) (fun i _ => n - (intOf i).toNat)
          case atStart => exact ⟨0, by omega, rfl, HTE.out⟩
          case round =>
            obtain ⟨x, hx, rfl, hbx⟩ := hrel
            have HBx : Hid (Below w.heap.size w wr) := hbx
            clear hbx
            by_cases hxn : x < n
            · have hxl : x < l.length := by have := HN.out.1; omega
              obtain ⟨g1, o1, ea, hg1, d0, _⟩ := FS.at (by have h := H.out.1; rw [← HN.out.1] at h; exact h) (Below.refl _ w) hxl
              subst ea
              have hpx : (l[x]'hxl).path.length ≤ 100000000 := H.out.2.2.1 _ (List.getElem_mem hxl)
              obtain ⟨q, hq⟩ : ∃ q, (l[x]'hxl).path = q := ⟨_, rfl⟩
              rw [hq] at d0 hpx
              obtain ⟨r, hr⟩ : ∃ r, shw k q = r := ⟨_, rfl⟩
              have hk' := H.out.2.2.2.1.later HBx.out
              have H13 : Hid (∀ (X : GW wr), Calls Tryz.prog 13 #[.slice a' m c', .string (bs q)] X.it fun e w' => e = .returned (.bool r) ∧ ∃ Y : GW wr, w' = Y.it) := fun X => by
                rw [← hr]
                exact (HC.out.shows q (hk'.later X.below) H.out.2.2.2.2.1 (by omega)).mono fun _ w' ⟨he, hb⟩ => ⟨he, ⟨w', bstep X.below hb⟩, rfl⟩
              have H14 : Hid (∀ (X : GW wr), Calls Tryz.prog 14 #[.slice a' m c', .string (bs q)] X.it fun e w' => e = .returned (.bool r) ∧ ∃ Y : GW wr, w' = Y.it) := fun X => by
                rw [← hr]
                exact (rcshows_any q (hk'.later X.below) H.out.2.2.2.2.1 (by omega)).mono fun _ w' ⟨he, hb⟩ => ⟨he, ⟨w', bstep X.below hb⟩, rfl⟩
              have y0 : ∀ X : GW wr, X.it.cell? ⟨g1, o1 + x * 4, none⟩ = some (.string (bs q)) := fun X => X.cell (p := ⟨g1, o1 + x * 4, none⟩) (by have := HBx.out.size; simp; omega) ((HBx.out.cell (p := ⟨g1, o1 + x * 4, none⟩) hg1).trans d0)
              have xne := gw_ne wr
              have i0 : (0 : Int) ≤ (x : Int) := by omega
              have i1 : (x : Int) < (n : Int) := by omega
              have r0 : (r != r) = false := by cases r <;> rfl
              clear d0 hq hr hk' hpx hg1
              go_wp2_with fail
              refine wp_region_grow (by kernel_rfl) (by kernel_rfl) ?_
              repeat (go_big_quiet_step (first | (with_reducible exact H13.out _) | (with_reducible exact H14.out _)))
              refine wpQuiet_nil ?_
              rintro w2' ⟨⟨w2', bx⟩, rfl⟩
              have HB5 : Hid (Below w.heap.size w w2') := bstep HBx.out bx
              clear bx y0
              go_wp2_with fail
              go_roundw
              case rel => exact ⟨x + 1, by omega, by go_num, HB5.out⟩
              case measure => simp [intOf]; omega
            · have hx2 : ¬ (x : Int) < (n : Int) := by omega
              go_wp2_with fail
              go_ret
              exact ⟨rfl, HBx.out⟩
end Go.Proofs.YtkbefggjfggdgaaGreat
