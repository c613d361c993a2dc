/-
  The law CycleFresh.
  What came in: edges.
-/
import Derived.Test.YtclbnjfmipifnaaK12
import Derived.Test.YtclbnjfmipifnaaMd
import Derived.ProofKit
import Derived.OpenShut
import Derived.ShutString
import Derived.ChangeOld
import Derived.JoinedCond
import Derived.SizedLaws
import Derived.Deep.Strs
import Derived.Deep.SlicePairs
namespace Go.Proofs.Ytclbnjfmipifnaa
open Go.RowKit Go.Maps

theorem AX.later {W1 W W' : World} {va vb vc : Value} {Va Vb : List Value} {P : List (List Lb)} {fl : List Lb} (h : AX W1 W va vb vc Va Vb P fl) (hb : Below W.heap.size W W') : AX W1 W' va vb vc Va Vb P fl :=
  ⟨bstep h.bel hb, row_later h.ra hb, row_later h.rb hb, h.oa.later hb, h.la, h.lb, h.pl, h.ll⟩

set_option maxRecDepth 100000 in
set_option maxHeartbeats 16000000 in
theorem cf_law {w : World} {v : Value} {l : List Ein} {mm : Int} (h : TE w v l) (hm : EEm l) : Calls Try.prog 5 #[v, .int .i64 mm] w (GoodE w) := by
  have HHD : Hid (Calls Try.prog 6 #[] w fun e w' => e = .returned (.bool true) ∧ Below w.heap.size w w') := head_any w
  have HMD : Hid (∀ W, Below w.heap.size w W → Calls Try.prog 7 #[v] W fun e w' => ∃ g d, e = .returned (.tuple #[.pointer (some ⟨g, 0, none⟩), .pointer (some ⟨d, 0, none⟩)]) ∧ HW w' g d (mg (l.take 60)).1 (mg (l.take 60)).2 ∧ Below W.heap.size W w') := fun W hW => (made_any (h.later hW) hm).mono fun _ _ ⟨g, d, k1, k2, k3, k4, k5⟩ => ⟨g, d, k1, ⟨pz_zero k2, k3, k4⟩, k5⟩
  obtain ⟨N, hN⟩ : ∃ N, (mg (l.take 60)).1 = N := ⟨_, rfl⟩
  obtain ⟨E, hE⟩ : ∃ E, (mg (l.take 60)).2 = E := ⟨_, rfl⟩
  rw [hN, hE] at HMD
  obtain ⟨av, cv, hvv⟩ := h.form
  subst hvv
  generalize l.length = ll at *
  clear h hm hN hE
  go_enter Try.func5, Try.ntmps5
  refine wp_seq_k fun K hK => ?_
  have HK : Hid _ := hK
  clear hK
  go_wp2_with fail
  refine HK.out _ _ ?_
  clear HK K
  refine wp_seq_k fun K hK => ?_
  have HK : Hid _ := hK
  clear hK
  go_wp2_with fail
  refine HHD.out.mono ?_
  rintro e w1 ⟨rfl, hb⟩
  have HB1 : Hid (Below w.heap.size w w1) := hb
  clear hb HHD
  go_wp2_with fail
  refine HK.out _ _ ?_
  clear HK K
  refine wp_seq_k fun K hK => ?_
  have HK : Hid _ := hK
  clear hK
  go_wp2_with fail
  refine (HMD.out _ HB1.out).mono ?_
  rintro e w2 ⟨g, d, rfl, hh, hb⟩
  have H2 : Hid (HW w2 g d N E ∧ Below w.heap.size w w2) := ⟨hh, bstep HB1.out hb⟩
  clear hb hh HMD HB1
  go_wp2_with fail
  refine HK.out _ _ ?_
  clear HK K
  refine wp_seq_k fun K hK => ?_
  have HK : Hid _ := hK
  clear hK
  go_wp2_with fail
  refine HK.out _ _ ?_
  clear HK K
  have HPT : Hid (∀ W, Below w2.heap.size w2 W → Calls Try.prog 8 #[.pointer (some ⟨g, 0, none⟩)] W fun e w' => ∃ v V, e = .returned v ∧ PL W.heap.size w' v V (Gs.pts ltL N E) ∧ Below W.heap.size W w') := fun W hW => ((H2.out.1.later hW).pz.pg.parts (by have := H2.out.1.nl; omega)).mono fun _ _ ⟨v, V, P, k1, k2, k3, k4, k5⟩ => by
    subst k4
    exact ⟨v, V, k1, k2, k5⟩
  have HFI : Hid (∀ W, Below w2.heap.size w2 W → Calls Try.prog 14 #[.pointer (some ⟨g, 0, none⟩)] W fun e w' => ∃ v, e = .returned (.tuple #[v, .bool (frs E (Gs.pts ltL N E)).isSome]) ∧ OwnL W.heap.size w' v ((frs E (Gs.pts ltL N E)).getD []) ∧ Below W.heap.size W w') := fun W hW => (H2.out.1.later hW).pz.pg.first (by have := H2.out.1.nl; omega) H2.out.1.lu (by have := H2.out.1.el; omega)
  have HDF : Hid (∀ W, Below w2.heap.size w2 W → Calls Try.prog 16 #[.pointer (some ⟨d, 0, none⟩)] W fun e w' => ∃ v, e = .returned (.tuple #[v, .bool (frs E (Gs.pts ltL N E)).isSome]) ∧ OwnL W.heap.size w' v ((frs E (Gs.pts ltL N E)).getD []) ∧ Below W.heap.size W w') := fun W hW => by
    obtain ⟨D, hD, _⟩ := (H2.out.1.later hW).pz.dg
    exact dfirst_any hD (by have := H2.out.1.nl; omega)
  have HDP : Hid (Calls Try.prog 17 #[.pointer (some ⟨d, 0, none⟩)] w2 fun e w' => ∃ v V, e = .returned v ∧ PR w2.heap.size w' v V (Gs.pts ltL N E) ∧ Below w2.heap.size w2 w') := by
    obtain ⟨D, hD, _⟩ := H2.out.1.pz.dg
    refine (dparts_any hD (by have := H2.out.1.nl; omega)).mono fun _ _ ⟨v, V, P, k1, k2, k3, k4, k5⟩ => ?_
    subst k4
    exact ⟨v, V, k1, k2, k5⟩
  have hpt := pts_is N E
  obtain ⟨P, hP⟩ : ∃ P, Gs.pts ltL N E = P := ⟨_, rfl⟩
  rw [hP] at HPT HFI HDF HDP hpt
  clear hP
  obtain ⟨fl, hfl⟩ : ∃ fl, (frs E P).getD [] = fl := ⟨_, rfl⟩
  obtain ⟨fb, hfb⟩ : ∃ fb, (frs E P).isSome = fb := ⟨_, rfl⟩
  rw [hfl, hfb] at HFI HDF
  have HLN : Hid (P.length ≤ 120 ∧ (∀ p ∈ P, p.length ≤ 1000000) ∧ fl.length ≤ 1000000 ∧ Gs.Pts ltL N E P) := by
    obtain ⟨q1, q2⟩ := pts_len hpt
    have hn := H2.out.1.nl
    refine ⟨by omega, fun p hp => by have := q2 p hp; omega, ?_, hpt⟩
    rw [← hfl]
    cases hf : frs E P with
    | none => simp
    | some q =>
      have := q2 q (List.mem_of_find?_eq_some hf)
      show q.length ≤ _
      omega
  clear hfl hfb hpt
  refine wp_seq_k fun K hK => ?_
  have HK : Hid _ := hK
  clear hK
  go_wp2_with fail
  refine HDP.out.mono ?_
  rintro e W1 ⟨vw, Wv, rfl, hp, hb⟩
  obtain ⟨wa, wc, hvw⟩ := row_form hp.row
  obtain ⟨wn, hwn⟩ : ∃ wn, Wv.length = wn := ⟨_, rfl⟩
  rw [hwn] at hvw
  subst hvw
  have X : Hid (FX w W1 g d wa wn wc Wv P N E) := ⟨bstep H2.out.2 hb, H2.out.1.later hb, hp.mono (Nat.zero_le _), HLN.out.2.2.2⟩
  have HB3 : Hid (Below w2.heap.size w2 W1) := hb
  clear hp hb HDP hwn
  go_wp2_with fail
  refine HK.out _ _ ?_
  clear HK K
  refine wp_seq_k fun K hK => ?_
  have HK : Hid _ := hK
  clear hK
  go_wp2_with fail
  refine (HPT.out _ HB3.out).mono ?_
  rintro e w4 ⟨va, Va, rfl, hp, hb⟩
  obtain ⟨xa, xc, hvx⟩ := row_form hp.row
  obtain ⟨xn, hxn⟩ : ∃ xn, Va.length = xn := ⟨_, rfl⟩
  rw [hxn] at hvx
  subst hvx
  have H4 : Hid (PL W1.heap.size w4 (.slice xa xn xc) Va P ∧ Below W1.heap.size W1 w4) := ⟨hp, hb⟩
  have HB4 : Hid (Below w2.heap.size w2 w4) := bstep HB3.out hb
  clear hp hb hxn
  go_wp2_with fail
  refine (HPT.out _ HB4.out).mono ?_
  rintro e w5 ⟨vb, Vb, rfl, hp, hb⟩
  obtain ⟨ya, yc, hvy⟩ := row_form hp.row
  obtain ⟨yn, hyn⟩ : ∃ yn, Vb.length = yn := ⟨_, rfl⟩
  rw [hyn] at hvy
  subst hvy
  have H5 : Hid (PL w4.heap.size w5 (.slice ya yn yc) Vb P ∧ Below w4.heap.size w4 w5) := ⟨hp, hb⟩
  have HB5 : Hid (Below w2.heap.size w2 w5) := bstep HB4.out hb
  clear hp hb hyn
  go_wp2_with fail
  refine HK.out _ _ ?_
  clear HK K
  refine wp_seq_k fun K hK => ?_
  have HK : Hid _ := hK
  clear hK
  go_wp2_with fail
  refine (HFI.out _ HB5.out).mono ?_
  rintro e w6 ⟨vc, rfl, ho, hb⟩
  obtain ⟨za, zc, hvz⟩ := ho.form
  obtain ⟨zn, hzn⟩ : ∃ zn, fl.length = zn := ⟨_, rfl⟩
  rw [hzn] at hvz
  subst hvz
  have H6 : Hid (OwnL w5.heap.size w6 (.slice za zn zc) fl ∧ Below w5.heap.size w5 w6) := ⟨ho, hb⟩
  have HB6 : Hid (Below w2.heap.size w2 w6) := bstep HB5.out hb
  clear ho hb
  go_wp2_with fail
  refine HK.out _ _ ?_
  clear HK K
  refine wp_seq_k fun K hK => ?_
  have HK : Hid _ := hK
  clear hK
  go_wp2_with fail
  refine (HDF.out _ HB6.out).mono ?_
  rintro e w7 ⟨vq, rfl, ho, hb⟩
  obtain ⟨qa, qc, hvq⟩ := ho.form
  rw [hzn] at hvq
  subst hvq
  have H7 : Hid (LS w7 (.slice qa zn qc) fl ∧ Below w6.heap.size w6 w7) := ⟨ho.rs, hb⟩
  clear ho hb
  go_wp2_with fail
  refine HK.out _ _ ?_
  clear HK K
  have A : Hid (AX W1 w7 (.slice xa xn xc) (.slice ya yn yc) (.slice za zn zc) Va Vb P fl) := by
    have b45 := H5.out.2
    have b56 := H6.out.2
    have b67 := H7.out.2
    have b47 := bstep b45 (bstep b56 b67)
    have b57 := bstep b56 b67
    have s14 := H4.out.2.size
    have s45 := b45.size
    have o1 := (H4.out.1.all).app b45 H5.out.1.all (Nat.le_refl _) s14
    have o2 := (o1.app b56 (OwnAll.one H6.out.1) (Nat.le_refl _) (by omega)).later b67
    refine ⟨bstep H4.out.2 b47, row_later H4.out.1.row b47, World.ownsRow.mono (row_later H5.out.1.row b57) s14, o2, H4.out.1.len, H5.out.1.len, HLN.out.1, fun p hp => ?_⟩
    simp only [List.mem_append, List.mem_singleton] at hp
    rcases hp with (hp | hp) | rfl
    · exact HLN.out.2.1 p hp
    · exact HLN.out.2.1 p hp
    · exact HLN.out.2.2.1
  have HSA : Hid (∀ W, Below w7.heap.size w7 W → Calls Try.prog 10 #[.slice xa xn xc, .slice wa wn wc] W fun e w' => e = .returned (.bool true) ∧ Below W.heap.size W w') := fun W hW => sameAll_true (H4.out.1.pr.later (bstep (bstep H5.out.2 (bstep H6.out.2 H7.out.2)) hW)) (X.out.pr.later (bstep A.out.bel hW)) (fun p hp => by have := HLN.out.2.1 p hp; omega) (by have := HLN.out.1; omega)
  have HSB : Hid (∀ W, Below w7.heap.size w7 W → Calls Try.prog 10 #[.slice ya yn yc, .slice wa wn wc] W fun e w' => e = .returned (.bool true) ∧ Below W.heap.size W w') := fun W hW => sameAll_true (H5.out.1.pr.later (bstep (bstep H6.out.2 H7.out.2) hW)) (X.out.pr.later (bstep A.out.bel hW)) (fun p hp => by have := HLN.out.2.1 p hp; omega) (by have := HLN.out.1; omega)
  have HSC : Hid (∀ W, Below w7.heap.size w7 W → Calls Try.prog 18 #[.slice za zn zc, .slice qa zn qc] W fun e w' => e = .returned (.bool true) ∧ Below W.heap.size W w') := fun W hW => same_true (H6.out.1.rs.later (bstep H7.out.2 hW)) (H7.out.1.later hW) (by have := HLN.out.2.2.1; omega)
  clear HPT HFI HDF H4 H5 H6 H7 HB3 HB4 HB5 HB6 hzn
  refine wp_seq_k fun K hK => ?_
  have HK : Hid _ := hK
  clear hK
  go_wp2_with fail
  refine (HSA.out w7 (Below.refl _ _)).mono ?_
  rintro e w8 ⟨rfl, hb⟩
  have HB8 : Hid (Below w7.heap.size w7 w8) := hb
  clear hb
  go_wp2_with fail
  refine (HSB.out w8 HB8.out).mono ?_
  rintro e w9 ⟨rfl, hb⟩
  have HB9 : Hid (Below w7.heap.size w7 w9) := bstep HB8.out hb
  clear hb
  go_wp2_with fail
  refine (HSC.out w9 HB9.out).mono ?_
  rintro e w10 ⟨rfl, hb⟩
  have HB10 : Hid (Below w7.heap.size w7 w10) := bstep HB9.out hb
  clear hb
  go_wp2_with fail
  refine HK.out _ _ ?_
  clear HK K
  exact f12 X (A.out.later HB10.out)
end Go.Proofs.Ytclbnjfmipifnaa

namespace Go.Proofs.Ytclbnjfmipifnaa
open Go.ChangeShapes Go.WideShapes Go.ChangeAt Go.RowKit Go.Deep

theorem own0 : ownKnob Try.prog.godebug = none := by kernel_rfl
theorem bulk_bound {H : Type} {l : List (DataW H)} (hk : Rows.uptoSmall H l = true) : Rows.uptoBulkAll l ≤ 1048576 := of_decide_eq_true hk
theorem cells9 : Try.prog.cellsOf 9 = 1 := by kernel_rfl
theorem cells3' : Try.prog.cellsOf 4 = 1 := by kernel_rfl
theorem cells31 : Try.prog.cellsOf 35 = 2 := by kernel_rfl
theorem cells51 : Try.prog.cellsOf 55 = 5 := by kernel_rfl

/-- a label's datum -/
def Lb.datum {H : Type} (l : Lb) : DataW H := .agg [.lit (.string l.pkg), .lit (.string l.name)]
/-- an edge's datum -/
def Ein.datum {H : Type} (s : Ein) : DataW H := .agg [s.a.datum, s.b.datum, .lit (.bool s.alone)]
def tots : List Ein → Nat
  | [] => 0
  | s :: r => s.a.pkg.length + s.a.name.length + s.b.pkg.length + s.b.name.length + 4 + tots r
theorem bulk_steps {H : Type} : ∀ l : List Ein, tots l ≤ Rows.uptoBulkAll (l.map (Ein.datum (H := H)))
  | [] => by simp [tots]
  | f :: r => by
    have := bulk_steps (H := H) r
    rw [List.map_cons]
    simp only [Rows.uptoBulkAll, Ein.datum, Lb.datum, Rows.uptoBulk, tots]
    omega
theorem tots_len : ∀ l : List Ein, 4 * l.length ≤ tots l
  | [] => by simp [tots]
  | f :: r => by have := tots_len r; simp only [tots, List.length_cons]; omega
theorem tots_mem : ∀ l : List Ein, ∀ s ∈ l, s.a.pkg.length + s.a.name.length + s.b.pkg.length + s.b.name.length ≤ tots l
  | [], f, h => by cases h
  | g :: r, f, h => by
    simp only [tots]
    rcases List.mem_cons.1 h with rfl | h
    · omega
    · have := tots_mem r f h; omega

set_option maxRecDepth 100000 in
theorem open_edges {H : Type} {enc : TypeId × Value → H} {W : World} {base : Nat} {v : Value} {d : DataW H} {ps : List MemPlace} (hok : Value.okWide Try.prog W .any base 22 v)
    (h : DataW.Trod enc Try.prog W 0 (fun _ => true) true 22 v d ps) (hd : Rows.uptoBulk d ≤ 1048576) :
    ∃ l : List Ein, TE W v l ∧ EEm l := by
  suffices hs : ∃ l : List Ein, TE W v l ∧ Rows.uptoBulkAll (l.map (Ein.datum (H := H))) ≤ Rows.uptoBulk d by
    obtain ⟨l, h1, h3⟩ := hs
    have h4 := bulk_steps (H := H) l
    have h5 := tots_len l
    have h6 := tots_mem l
    refine ⟨l, h1, ⟨by omega, fun s hs => ?_⟩⟩
    have := h6 s hs
    exact ⟨⟨by omega, by omega⟩, ⟨by omega, by omega⟩⟩
  clear hd
  obtain ⟨a0, len0, cap0, rfl⟩ := okWide_slice Try.underlying22 hok
  obtain ⟨fuel, hf⟩ := h
  rcases open_slice Try.underlying22 hf with ⟨hcs, _⟩ | ⟨a, len, cap, m, n, D, Pl, hcs, _, hl, hm, hmm, hx, hel⟩
  · simp [Value.cells] at hcs
    obtain ⟨rfl, rfl, rfl⟩ := hcs
    exact ⟨[], .inl ⟨⟨_, _, rfl⟩, rfl⟩, by simp [Rows.uptoBulkAll]⟩
  · simp [Value.cells] at hcs
    obtain ⟨rfl, rfl, rfl⟩ := hcs
    simp at hmm
    subst hmm
    have each : ∀ i, i < m → ∃ q : Ein, W.cell? (a.add (i * 5)) = some (.string (bs q.a.pkg)) ∧ W.cell? (a.add (i * 5 + 1)) = some (.string (bs q.a.name)) ∧ W.cell? (a.add (i * 5 + 2)) = some (.string (bs q.b.pkg)) ∧ W.cell? (a.add (i * 5 + 3)) = some (.string (bs q.b.name)) ∧ W.cell? (a.add (i * 5 + 4)) = some (.bool q.alone) ∧ D i = q.datum := by
      intro i hi
      obtain ⟨cs', h1, h2⟩ := hel i hi
      rw [cells51] at h1
      obtain ⟨_, hlen, hcell⟩ := World.cells?_some h1
      obtain ⟨xs, k, hk, hxy, _, hxl, hfl⟩ := DataW.trod_struct Try.underlying55 h2
      match xs, hxl, cs', hlen with
      | [y0, y1, y2], _, [v0, v1, v2, v3, v4], _ =>
        have g0 := hfl 0 _ rfl
        have g1 := hfl 1 _ rfl
        have g2 := hfl 2 _ rfl
        simp [cells3', cells31] at g0 g1 g2
        obtain ⟨xs2, k2, hk2, hxy2, _, hxl2, hfl2⟩ := DataW.trod_struct Try.underlying35 g0
        obtain ⟨xs3, k3, hk3, hxy3, _, hxl3, hfl3⟩ := DataW.trod_struct Try.underlying35 g1
        obtain ⟨b4, e4, x4⟩ := DataW.trod_bool Try.underlying4 g2
        match xs2, hxl2, xs3, hxl3 with
        | [u0, u1], _, [t0, t1], _ =>
          have i0 := hfl2 0 _ rfl
          have i1 := hfl2 1 _ rfl
          have i2 := hfl3 0 _ rfl
          have i3 := hfl3 1 _ rfl
          simp [cells9] at i0 i1 i2 i3
          obtain ⟨s2, e0, x0, ws2⟩ := DataW.trod_string Try.underlying9 i0
          obtain ⟨s3, e1, x1, ws3⟩ := DataW.trod_string Try.underlying9 i1
          obtain ⟨s4, e2, x2, ws4⟩ := DataW.trod_string Try.underlying9 i2
          obtain ⟨s5, e3, x3, ws5⟩ := DataW.trod_string Try.underlying9 i3
          have c0 := hcell 0 (by simp)
          have c1 := hcell 1 (by simp)
          have c2 := hcell 2 (by simp)
          have c3 := hcell 3 (by simp)
          have c4 := hcell 4 (by simp)
          rw [add_add] at c0 c1 c2 c3 c4
          simp at e0 e1 e2 e3 e4
          subst e0 e1 e2 e3 e4 x0 x1 x2 x3 x4
          subst hxy2 hxy3
          simp only [Prod.mk.injEq] at hxy
          have c0' : W.cell? (a.add (i * 5)) = some (.string s2) := by simpa using c0
          have c1' : W.cell? (a.add (i * 5 + 1)) = some (.string s3) := by simpa using c1
          have c2' : W.cell? (a.add (i * 5 + 2)) = some (.string s4) := by simpa using c2
          have c3' : W.cell? (a.add (i * 5 + 3)) = some (.string s5) := by simpa using c3
          exact ⟨⟨⟨s2.data.toList, s3.data.toList⟩, ⟨s4.data.toList, s5.data.toList⟩, b4⟩, c0', c1', c2', c3', by simpa using c4, by simpa [Ein.datum, Lb.datum] using hxy.1⟩
    have hinh : Inhabited Ein := ⟨⟨⟨[], []⟩, ⟨[], []⟩, false⟩⟩
    obtain ⟨q, hq⟩ := choose_lt (α := Ein) each
    have hD : (List.range len0).map D = (List.range len0).map fun i => (q i).datum := List.map_congr_left (fun i hi => (hq i (by have := List.mem_range.1 hi; omega)).2.2.2.2.2)
    refine ⟨(List.range len0).map q, ?_, ?_⟩
    · by_cases h0 : len0 = 0
      · subst h0
        exact .inl ⟨⟨_, _, rfl⟩, rfl⟩
      · obtain ⟨b, off, spot⟩ := a
        have hspot : spot = none := by simpa [Addr.add] using World.cell?_spot (hq 0 (by omega)).1
        subst hspot
        refine .inr ⟨b, off, m, by simp, by simpa using hl, World.block_lt_of_cell? W _ (by have := (hq 0 (by omega)).1; rw [add_lit] at this; exact this), fun i u hu => ?_⟩
        have hi : i < len0 * 5 := by
          have := (List.getElem?_eq_some_iff.1 hu).1
          rw [eic_length] at this
          simpa using this
        have hj : i / 5 < ((List.range len0).map q).length := by simp; omega
        obtain ⟨t0, t1, t2, t3, t4⟩ := eic_get ((List.range len0).map q) (i / 5) hj
        obtain ⟨u0, u1, u2, u3, u4, _⟩ := hq (i / 5) (by omega)
        rw [add_lit] at u0 u1 u2 u3 u4
        simp only [List.getElem_map, List.getElem_range] at t0 t1 t2 t3 t4
        have hr : i % 5 = 0 ∨ i % 5 = 1 ∨ i % 5 = 2 ∨ i % 5 = 3 ∨ i % 5 = 4 := by omega
        rcases hr with hr | hr | hr | hr | hr
        · rw [show i / 5 * 5 = i from by omega] at t0 u0
          rw [t0] at hu
          rw [u0]
          exact hu
        · rw [show i / 5 * 5 + 1 = i from by omega] at t1 u1
          rw [t1] at hu
          rw [u1]
          exact hu
        · rw [show i / 5 * 5 + 2 = i from by omega] at t2 u2
          rw [t2] at hu
          rw [u2]
          exact hu
        · rw [show i / 5 * 5 + 3 = i from by omega] at t3 u3
          rw [t3] at hu
          rw [u3]
          exact hu
        · rw [show i / 5 * 5 + 4 = i from by omega] at t4 u4
          rw [t4] at hu
          rw [u4]
          exact hu
    · have hd : d = .slice ((List.range len0).map D) ((List.range (m - len0)).map fun j => D (len0 + j)) := by simpa using congrArg Prod.fst hx
      rw [hd, hD]
      simp only [Rows.uptoBulk, List.map_map]
      have e : (List.range len0).map (Ein.datum (H := H) ∘ q) = (List.range len0).map fun i => (q i).datum := rfl
      rw [e]
      omega

end Go.Proofs.Ytclbnjfmipifnaa
