/-
  The document's example: its parts.
  head: the document's example.
-/
import Derived.Test.YtclbnjfmipifnaaJGy
import Derived.Test.YtclbnjfmipifnaaMd
import Derived.Test.YtclbnjfmipifnaaJCt
namespace Go.Proofs.Ytclbnjfmipifnaa
open Go.RowKit Go.Maps

def lA : Lb := ⟨[], [97]⟩
def lB : Lb := ⟨[], [98]⟩
def lC : Lb := ⟨[], [99]⟩
def lD : Lb := ⟨[], [100]⟩
def lE : Lb := ⟨[], [101]⟩
def N5 : List Lb := [lA, lB, lC, lD, lE]
def E5 : List Ee := [(lA, lB), (lB, lA), (lB, lC), (lC, lC), (lD, lA)]
def P5 : List (List Lb) := [[lA, lB], [lC], [lD], [lE]]
def I5 : List Ein := [⟨lA, lB, false⟩, ⟨lB, lA, false⟩, ⟨lB, lC, false⟩, ⟨lC, lC, false⟩, ⟨lD, lA, false⟩, ⟨lE, ⟨[], []⟩, true⟩]
theorem mg5 : mg (I5.take 60) = (N5, E5) := by decide
theorem noway {E : List Ee} (C : List Lb) (hC : ∀ e ∈ E, e.1 ∈ C → e.2 ∈ C) {a b : Lb} (h : Gs.Way E a b) (ha : a ∈ C) : b ∈ C := by
  induction h with
  | refl => exact ha
  | step _ h2 ih => exact hC _ h2 ih
theorem w_abc {a b : Lb} (h : Gs.Way E5 a b) (ha : a ∈ [lA, lB, lC]) : b ∈ [lA, lB, lC] := noway _ (by decide) h ha
theorem w_c {a b : Lb} (h : Gs.Way E5 a b) (ha : a ∈ [lC]) : b ∈ [lC] := noway _ (by decide) h ha
theorem w_e {a b : Lb} (h : Gs.Way E5 a b) (ha : a ∈ [lE]) : b ∈ [lE] := noway _ (by decide) h ha
theorem w_d {a b : Lb} (h : Gs.Way E5 a b) (ha : a ∈ [lA, lB, lC, lD]) : b ∈ [lA, lB, lC, lD] := noway _ (by decide) h ha
theorem m_ab : Gs.Mut E5 lA lB := ⟨.step (.refl _) (by decide), .step (.refl _) (by decide)⟩
theorem pts5 : Gs.Pts ltL N5 E5 P5 := by
  refine ⟨fun p hp => ?_, by decide, ?_, by decide, ?_⟩
  · have hP : p = [lA, lB] ∨ p = [lC] ∨ p = [lD] ∨ p = [lE] := by simpa [P5] using hp
    rcases hP with rfl | rfl | rfl | rfl <;> (unfold Gs.Ris; decide)
  · unfold P5
    simp only [List.pairwise_cons, List.mem_cons, List.not_mem_nil, or_false, List.Pairwise.nil, and_true, false_implies, implies_true]
    refine ⟨?_, ?_, ?_⟩
    · rintro q (rfl | rfl | rfl) a b ha hb <;> (injection ha with ha; injection hb with hb; subst ha hb; decide)
    · rintro q (rfl | rfl) a b ha hb <;> (injection ha with ha; injection hb with hb; subst ha hb; decide)
    · rintro q rfl a b ha hb
      injection ha with ha
      injection hb with hb
      subst ha hb
      decide
  · intro p hp x hx
    have hN : ∀ y, y ∈ N5 → y = lA ∨ y = lB ∨ y = lC ∨ y = lD ∨ y = lE := fun y hy => by simpa [N5] using hy
    have hP : p = [lA, lB] ∨ p = [lC] ∨ p = [lD] ∨ p = [lE] := by simpa [P5] using hp
    rcases hP with rfl | rfl | rfl | rfl
    · have hx' : x = lA ∨ x = lB := by simpa using hx
      rcases hx' with rfl | rfl
      · refine ⟨by decide, fun y => ⟨fun hy => ?_, fun ⟨hy, hm⟩ => ?_⟩⟩
        · have hy' : y = lA ∨ y = lB := by simpa using hy
          rcases hy' with rfl | rfl
          · exact ⟨by decide, Gs.Mut.refl _ _⟩
          · exact ⟨by decide, m_ab⟩
        · rcases hN y hy with rfl | rfl | rfl | rfl | rfl
          · decide
          · decide
          · exact absurd (w_c hm.2 (by decide)) (by decide)
          · exact absurd (w_abc hm.1 (by decide)) (by decide)
          · exact absurd (w_abc hm.1 (by decide)) (by decide)
      · refine ⟨by decide, fun y => ⟨fun hy => ?_, fun ⟨hy, hm⟩ => ?_⟩⟩
        · have hy' : y = lA ∨ y = lB := by simpa using hy
          rcases hy' with rfl | rfl
          · exact ⟨by decide, m_ab.symm⟩
          · exact ⟨by decide, Gs.Mut.refl _ _⟩
        · rcases hN y hy with rfl | rfl | rfl | rfl | rfl
          · decide
          · decide
          · exact absurd (w_c hm.2 (by decide)) (by decide)
          · exact absurd (w_abc hm.1 (by decide)) (by decide)
          · exact absurd (w_abc hm.1 (by decide)) (by decide)
    · have hx' : x = lC := by simpa using hx
      subst hx'
      refine ⟨by decide, fun y => ⟨fun hy => ?_, fun ⟨hy, hm⟩ => w_c hm.1 (by decide)⟩⟩
      have hy' : y = lC := by simpa using hy
      subst hy'
      exact ⟨by decide, Gs.Mut.refl _ _⟩
    · have hx' : x = lD := by simpa using hx
      subst hx'
      refine ⟨by decide, fun y => ⟨fun hy => ?_, fun ⟨hy, hm⟩ => ?_⟩⟩
      · have hy' : y = lD := by simpa using hy
        subst hy'
        exact ⟨by decide, Gs.Mut.refl _ _⟩
      · rcases hN y hy with rfl | rfl | rfl | rfl | rfl
        · exact absurd (w_abc hm.2 (by decide)) (by decide)
        · exact absurd (w_abc hm.2 (by decide)) (by decide)
        · exact absurd (w_abc hm.2 (by decide)) (by decide)
        · decide
        · exact absurd (w_e hm.2 (by decide)) (by decide)
    · have hx' : x = lE := by simpa using hx
      subst hx'
      refine ⟨by decide, fun y => ⟨fun hy => ?_, fun ⟨hy, hm⟩ => w_e hm.1 (by decide)⟩⟩
      have hy' : y = lE := by simpa using hy
      subst hy'
      exact ⟨by decide, Gs.Mut.refl _ _⟩
theorem pts5_eq : Gs.pts ltL N5 E5 = P5 := (pts5.eq stoL).symm
theorem frs5 : frs E5 P5 = some [lA, lB] := by decide
end Go.Proofs.Ytclbnjfmipifnaa

namespace Go.Proofs.Ytclbnjfmipifnaa
open Go.RowKit Go.Maps

theorem own_lit {e sz : Nat} (W : World) (cs : List Value) (n : Nat) (hn : cs.length = n * sz) (hm : n ≤ 1000) : (W.alloc (.cells cs.toArray e)).ownsRow W.heap.size e sz (.slice (some ⟨W.heap.size, 0, none⟩) n n) n cs := by
  refine ⟨hn, .inr ⟨W.heap.size, n, cs.toArray, rfl, Nat.le_refl _, heap_alloc_new W _, Nat.le_refl _, by unfold maxLen; omega, by simpa using hn, ?_⟩⟩
  rw [← hn]
  simp
theorem lu_small {a : Lb} (h1 : a.pkg.length ≤ 100) (h2 : a.name.length ≤ 100) : Lu a := ⟨by omega, by omega⟩
theorem te_lit (W : World) (l : List Ein) : TE (W.alloc (.cells (eic l).toArray 55)) (.slice (some ⟨W.heap.size, 0, none⟩) l.length l.length) l := by
  refine .inr ⟨W.heap.size, 0, l.length, rfl, Nat.le_refl _, by simp, fun i u hu => ?_⟩
  have := World.news_of_block (heap_alloc_new W (.cells (eic l).toArray 55)) i u (by simpa using hu)
  simpa [add_lit] using this
theorem eem5 : EEm I5 := ⟨by decide, by
  intro s hs
  have h : s = ⟨lA, lB, false⟩ ∨ s = ⟨lB, lA, false⟩ ∨ s = ⟨lB, lC, false⟩ ∨ s = ⟨lC, lC, false⟩ ∨ s = ⟨lD, lA, false⟩ ∨ s = ⟨lE, ⟨[], []⟩, true⟩ := by simpa [I5] using hs
  rcases h with rfl | rfl | rfl | rfl | rfl | rfl <;> exact ⟨lu_small (by decide) (by decide), lu_small (by decide) (by decide)⟩⟩
theorem made5 (W : World) : Calls Try.prog 7 #[.slice (some ⟨W.heap.size, 0, none⟩) 6 6] (W.alloc (.cells (eic I5).toArray 55)) fun e w' => ∃ g d, e = .returned (.tuple #[.pointer (some ⟨g, 0, none⟩), .pointer (some ⟨d, 0, none⟩)]) ∧ PG W.heap.size w' g N5 E5 ∧ Below W.heap.size W w' := by
  refine (made_any (te_lit W I5) eem5).mono fun e w' ⟨g, d, h1, h2, h3, h4, h5⟩ => ?_
  rw [mg5] at h2
  refine ⟨g, d, h1, ?_, bstep (balloc _ _) h5⟩
  obtain ⟨⟨F, ns, out, k1, k2, k3⟩, k4⟩ := h2.pg
  exact ⟨⟨F, ns, out, k1, k2, fun k hk => Nat.le_trans (balloc W _).size (k3 k hk)⟩, k4⟩
theorem lu5 : ∀ x ∈ N5, Lu x := by
  intro x hx
  have h : x = lA ∨ x = lB ∨ x = lC ∨ x = lD ∨ x = lE := by simpa [N5] using hx
  rcases h with rfl | rfl | rfl | rfl | rfl <;> exact lu_small (by decide) (by decide)
set_option maxRecDepth 100000 in
set_option maxHeartbeats 16000000 in
theorem head_any (w : World) : Calls Try.prog 6 #[] w fun e w' => e = .returned (.bool true) ∧ Below w.heap.size w w' := by
  obtain ⟨z, hz⟩ : ∃ z : List UInt8, z = [] := ⟨_, rfl⟩
  obtain ⟨sa, hsa⟩ : ∃ z : List UInt8, z = [97] := ⟨_, rfl⟩
  obtain ⟨sb, hsb⟩ : ∃ z : List UInt8, z = [98] := ⟨_, rfl⟩
  obtain ⟨sc, hsc⟩ : ∃ z : List UInt8, z = [99] := ⟨_, rfl⟩
  obtain ⟨sd, hsd⟩ : ∃ z : List UInt8, z = [100] := ⟨_, rfl⟩
  obtain ⟨se, hse⟩ : ∃ z : List UInt8, z = [101] := ⟨_, rfl⟩
  have HNa : Hid (∀ W : World, Calls Try.prog 25 #[Value.string { data := #[97] }] W fun e w' => e = .returned (.agg #[.string (bs z), .string (bs sa)]) ∧ Below W.heap.size W w') := by subst hz hsa; exact fun W => n_any [97] W
  have HNb : Hid (∀ W : World, Calls Try.prog 25 #[Value.string { data := #[98] }] W fun e w' => e = .returned (.agg #[.string (bs z), .string (bs sb)]) ∧ Below W.heap.size W w') := by subst hz hsb; exact fun W => n_any [98] W
  have HNc : Hid (∀ W : World, Calls Try.prog 25 #[Value.string { data := #[99] }] W fun e w' => e = .returned (.agg #[.string (bs z), .string (bs sc)]) ∧ Below W.heap.size W w') := by subst hz hsc; exact fun W => n_any [99] W
  have HNd : Hid (∀ W : World, Calls Try.prog 25 #[Value.string { data := #[100] }] W fun e w' => e = .returned (.agg #[.string (bs z), .string (bs sd)]) ∧ Below W.heap.size W w') := by subst hz hsd; exact fun W => n_any [100] W
  have HNe : Hid (∀ W : World, Calls Try.prog 25 #[Value.string { data := #[101] }] W fun e w' => e = .returned (.agg #[.string (bs z), .string (bs se)]) ∧ Below W.heap.size W w') := by subst hz hse; exact fun W => n_any [101] W
  have HMADE : Hid (∀ W : World, Calls Try.prog 7 #[.slice (some ⟨W.heap.size, 0, none⟩) 6 6] (W.alloc (.cells #[.string (bs z), .string (bs sa), .string (bs z), .string (bs sb), .bool false, .string (bs z), .string (bs sb), .string (bs z), .string (bs sa), .bool false, .string (bs z), .string (bs sb), .string (bs z), .string (bs sc), .bool false, .string (bs z), .string (bs sc), .string (bs z), .string (bs sc), .bool false, .string (bs z), .string (bs sd), .string (bs z), .string (bs sa), .bool false, .string (bs z), .string (bs se), .string { data := #[] }, .string { data := #[] }, .bool true] 55)) fun e w' => ∃ g d, e = .returned (.tuple #[.pointer (some ⟨g, 0, none⟩), .pointer (some ⟨d, 0, none⟩)]) ∧ PG W.heap.size w' g N5 E5 ∧ Below W.heap.size W w') := by subst hz hsa hsb hsc hsd hse; exact fun W => made5 W
  have HFST : Hid (∀ (B : Nat) (W : World) (g : Nat), PG B W g N5 E5 → Calls Try.prog 14 #[.pointer (some ⟨g, 0, none⟩)] W fun e w' => ∃ v, e = .returned (.tuple #[v, .bool true]) ∧ LS w' v [⟨z, sa⟩, ⟨z, sb⟩] ∧ Below W.heap.size W w') := by
    subst hz hsa hsb hsc hsd hse
    intro B W g h
    have h9 := h.first (by decide) lu5 (by decide)
    rw [pts5_eq, frs5] at h9
    exact h9.mono fun _ _ ⟨v, k1, k2, k3⟩ => ⟨v, k1, k2.rs, k3⟩
  have HPRT : Hid (∀ (B : Nat) (W : World) (g : Nat), PG B W g N5 E5 → Calls Try.prog 8 #[.pointer (some ⟨g, 0, none⟩)] W fun e w' => ∃ v V, e = .returned v ∧ PR W.heap.size w' v V [[⟨z, sa⟩, ⟨z, sb⟩], [⟨z, sc⟩], [⟨z, sd⟩], [⟨z, se⟩]] ∧ Below W.heap.size W w') := by
    subst hz hsa hsb hsc hsd hse
    intro B W g h
    refine (h.parts (by decide)).mono fun _ _ ⟨v, V, P, k1, k2, k3, k4, k5⟩ => ⟨v, V, k1, ?_, k5⟩
    rw [pts5_eq] at k4
    rw [k4] at k2
    exact k2.pr
  have HLEN : Hid (∀ p ∈ ([[⟨z, sa⟩, ⟨z, sb⟩], [⟨z, sc⟩], [⟨z, sd⟩], [⟨z, se⟩]] : List (List Lb)), p.length ≤ 100000000) := by
    intro p hp
    have h : p = [⟨z, sa⟩, ⟨z, sb⟩] ∨ p = [⟨z, sc⟩] ∨ p = [⟨z, sd⟩] ∨ p = [⟨z, se⟩] := by simpa using hp
    rcases h with rfl | rfl | rfl | rfl <;> simp
  clear hz hsa hsb hsc hsd hse
  go_enter Try.func6, Try.ntmps6
  have HB0 : Hid (Below w.heap.size w w) := Below.refl _ _
  go_wp2_with fail
  refine (HNa.out _).mono ?_
  rintro e w1 ⟨rfl, hb⟩
  have HB1 : Hid (Below w.heap.size w w1) := bstep HB0.out hb
  clear hb
  go_wp2_with fail
  refine (HNb.out _).mono ?_
  rintro e w2 ⟨rfl, hb⟩
  have HB2 : Hid (Below w.heap.size w w2) := bstep HB1.out hb
  clear hb
  go_wp2_with fail
  refine (HNb.out _).mono ?_
  rintro e w3 ⟨rfl, hb⟩
  have HB3 : Hid (Below w.heap.size w w3) := bstep HB2.out hb
  clear hb
  go_wp2_with fail
  refine (HNa.out _).mono ?_
  rintro e w4 ⟨rfl, hb⟩
  have HB4 : Hid (Below w.heap.size w w4) := bstep HB3.out hb
  clear hb
  go_wp2_with fail
  refine (HNb.out _).mono ?_
  rintro e w5 ⟨rfl, hb⟩
  have HB5 : Hid (Below w.heap.size w w5) := bstep HB4.out hb
  clear hb
  go_wp2_with fail
  refine (HNc.out _).mono ?_
  rintro e w6 ⟨rfl, hb⟩
  have HB6 : Hid (Below w.heap.size w w6) := bstep HB5.out hb
  clear hb
  go_wp2_with fail
  refine (HNc.out _).mono ?_
  rintro e w7 ⟨rfl, hb⟩
  have HB7 : Hid (Below w.heap.size w w7) := bstep HB6.out hb
  clear hb
  go_wp2_with fail
  refine (HNc.out _).mono ?_
  rintro e w8 ⟨rfl, hb⟩
  have HB8 : Hid (Below w.heap.size w w8) := bstep HB7.out hb
  clear hb
  go_wp2_with fail
  refine (HNd.out _).mono ?_
  rintro e w9 ⟨rfl, hb⟩
  have HB9 : Hid (Below w.heap.size w w9) := bstep HB8.out hb
  clear hb
  go_wp2_with fail
  refine (HNa.out _).mono ?_
  rintro e w10 ⟨rfl, hb⟩
  have HB10 : Hid (Below w.heap.size w w10) := bstep HB9.out hb
  clear hb
  go_wp2_with fail
  refine (HNe.out _).mono ?_
  rintro e w11 ⟨rfl, hb⟩
  have HB11 : Hid (Below w.heap.size w w11) := bstep HB10.out hb
  clear hb
  go_wp2_with fail
  refine (HMADE.out _).mono ?_
  rintro e w12 ⟨g, d, rfl, hg, hb⟩
  have HB12 : Hid (Below w.heap.size w w12) := bstep HB11.out hb
  have HG_12 : Hid (PG w11.heap.size w12 g N5 E5) := hg
  clear hb hg
  go_wp2_with fail
  refine (HFST.out _ _ _ HG_12.out).mono ?_
  rintro e w13 ⟨vf, rfl, hf, hb⟩
  have HB13 : Hid (Below w.heap.size w w13) := bstep HB12.out hb
  have HG_13 : Hid (PG w11.heap.size w13 g N5 E5) := HG_12.out.later hb
  have HF_13 : Hid (LS w13 vf [⟨z, sa⟩, ⟨z, sb⟩]) := hf
  obtain ⟨af, cf, hvf, _⟩ := hf.form
  simp only [List.length_cons, List.length_nil, Nat.zero_add] at hvf
  subst hvf
  clear hb hf
  go_wp2_with fail
  refine (HNa.out _).mono ?_
  rintro e w14 ⟨rfl, hb⟩
  have HB14 : Hid (Below w.heap.size w w14) := bstep HB13.out hb
  have HG_14 : Hid (PG w11.heap.size w14 g N5 E5) := HG_13.out.later hb
  have HF_14 : Hid (LS w14 (.slice af (1 + 1) cf) [⟨z, sa⟩, ⟨z, sb⟩]) := HF_13.out.later hb
  clear hb
  go_wp2_with fail
  refine (HNb.out _).mono ?_
  rintro e w15 ⟨rfl, hb⟩
  have HB15 : Hid (Below w.heap.size w w15) := bstep HB14.out hb
  have HG_15 : Hid (PG w11.heap.size w15 g N5 E5) := HG_14.out.later hb
  have HF_15 : Hid (LS w15 (.slice af (1 + 1) cf) [⟨z, sa⟩, ⟨z, sb⟩]) := HF_14.out.later hb
  clear hb
  go_wp2_with fail
  refine (same_true (HF_15.out.later (balloc w15 (.cells #[.string (bs z), .string (bs sa), .string (bs z), .string (bs sb)] 35))) (ls_two w15 ⟨z, sa⟩ ⟨z, sb⟩) (by simp)).mono ?_
  rintro e w16 ⟨rfl, hb⟩
  have hb' := bstep (balloc w15 (.cells #[.string (bs z), .string (bs sa), .string (bs z), .string (bs sb)] 35)) hb
  have HB16 : Hid (Below w.heap.size w w16) := bstep HB15.out hb'
  have HG_16 : Hid (PG w11.heap.size w16 g N5 E5) := HG_15.out.later hb'
  clear hb hb'
  go_wp2_with fail
  refine (HPRT.out _ _ _ HG_16.out).mono ?_
  rintro e w17 ⟨vp, Vp, rfl, hp, hb⟩
  have HB17 : Hid (Below w.heap.size w w17) := bstep HB16.out hb
  have HP_17 : Hid (PR w16.heap.size w17 vp Vp [[⟨z, sa⟩, ⟨z, sb⟩], [⟨z, sc⟩], [⟨z, sd⟩], [⟨z, se⟩]]) := hp
  obtain ⟨ap, cp, hvp⟩ := row_form hp.row
  rw [hp.len] at hvp
  simp only [List.length_cons, List.length_nil, Nat.zero_add] at hvp
  subst hvp
  clear hb hp
  go_wp2_with fail
  refine (HNa.out _).mono ?_
  rintro e w18 ⟨rfl, hb⟩
  have HB18 : Hid (Below w.heap.size w w18) := bstep HB17.out hb
  have HP_18 : Hid (PR w16.heap.size w18 (.slice ap (1 + 1 + 1 + 1) cp) Vp [[⟨z, sa⟩, ⟨z, sb⟩], [⟨z, sc⟩], [⟨z, sd⟩], [⟨z, se⟩]]) := HP_17.out.later hb
  clear hb
  go_wp2_with fail
  refine (HNb.out _).mono ?_
  rintro e w19 ⟨rfl, hb⟩
  have HB19 : Hid (Below w.heap.size w w19) := bstep HB18.out hb
  have HP_19 : Hid (PR w16.heap.size w19 (.slice ap (1 + 1 + 1 + 1) cp) Vp [[⟨z, sa⟩, ⟨z, sb⟩], [⟨z, sc⟩], [⟨z, sd⟩], [⟨z, se⟩]]) := HP_18.out.later hb
  clear hb
  go_wp2_with fail
  have HQa_19 : Hid (OwnL w19.heap.size (w19.alloc (.cells #[.string (bs z), .string (bs sa), .string (bs z), .string (bs sb)] 35)) (.slice (some ⟨w19.heap.size, 0, none⟩) 2 2) [⟨z, sa⟩, ⟨z, sb⟩]) := own_lit w19 (lc [⟨z, sa⟩, ⟨z, sb⟩]) 2 rfl (by decide)
  refine (HNc.out _).mono ?_
  rintro e w20 ⟨rfl, hb⟩
  have hb' := bstep (balloc w19 (.cells #[.string (bs z), .string (bs sa), .string (bs z), .string (bs sb)] 35)) hb
  have HB20 : Hid (Below w.heap.size w w20) := bstep HB19.out hb'
  have HP_20 : Hid (PR w16.heap.size w20 (.slice ap (1 + 1 + 1 + 1) cp) Vp [[⟨z, sa⟩, ⟨z, sb⟩], [⟨z, sc⟩], [⟨z, sd⟩], [⟨z, se⟩]]) := HP_19.out.later hb'
  have HQa_20 : Hid (OwnL w19.heap.size w20 (.slice (some ⟨w19.heap.size, 0, none⟩) 2 2) [⟨z, sa⟩, ⟨z, sb⟩]) := HQa_19.out.later hb
  clear hb hb'
  go_wp2_with fail
  have HQc_20 : Hid (OwnL w20.heap.size (w20.alloc (.cells #[.string (bs z), .string (bs sc)] 35)) (.slice (some ⟨w20.heap.size, 0, none⟩) 1 1) [⟨z, sc⟩]) := own_lit w20 (lc [⟨z, sc⟩]) 1 rfl (by decide)
  refine (HNd.out _).mono ?_
  rintro e w21 ⟨rfl, hb⟩
  have hb' := bstep (balloc w20 (.cells #[.string (bs z), .string (bs sc)] 35)) hb
  have HB21 : Hid (Below w.heap.size w w21) := bstep HB20.out hb'
  have HP_21 : Hid (PR w16.heap.size w21 (.slice ap (1 + 1 + 1 + 1) cp) Vp [[⟨z, sa⟩, ⟨z, sb⟩], [⟨z, sc⟩], [⟨z, sd⟩], [⟨z, se⟩]]) := HP_20.out.later hb'
  have HQa_21 : Hid (OwnL w19.heap.size w21 (.slice (some ⟨w19.heap.size, 0, none⟩) 2 2) [⟨z, sa⟩, ⟨z, sb⟩]) := HQa_20.out.later hb'
  have HQc_21 : Hid (OwnL w20.heap.size w21 (.slice (some ⟨w20.heap.size, 0, none⟩) 1 1) [⟨z, sc⟩]) := HQc_20.out.later hb
  clear hb hb'
  go_wp2_with fail
  have HQd_21 : Hid (OwnL w21.heap.size (w21.alloc (.cells #[.string (bs z), .string (bs sd)] 35)) (.slice (some ⟨w21.heap.size, 0, none⟩) 1 1) [⟨z, sd⟩]) := own_lit w21 (lc [⟨z, sd⟩]) 1 rfl (by decide)
  refine (HNe.out _).mono ?_
  rintro e w22 ⟨rfl, hb⟩
  have hb' := bstep (balloc w21 (.cells #[.string (bs z), .string (bs sd)] 35)) hb
  have HB22 : Hid (Below w.heap.size w w22) := bstep HB21.out hb'
  have HP_22 : Hid (PR w16.heap.size w22 (.slice ap (1 + 1 + 1 + 1) cp) Vp [[⟨z, sa⟩, ⟨z, sb⟩], [⟨z, sc⟩], [⟨z, sd⟩], [⟨z, se⟩]]) := HP_21.out.later hb'
  have HQa_22 : Hid (OwnL w19.heap.size w22 (.slice (some ⟨w19.heap.size, 0, none⟩) 2 2) [⟨z, sa⟩, ⟨z, sb⟩]) := HQa_21.out.later hb'
  have HQc_22 : Hid (OwnL w20.heap.size w22 (.slice (some ⟨w20.heap.size, 0, none⟩) 1 1) [⟨z, sc⟩]) := HQc_21.out.later hb'
  have HQd_22 : Hid (OwnL w21.heap.size w22 (.slice (some ⟨w21.heap.size, 0, none⟩) 1 1) [⟨z, sd⟩]) := HQd_21.out.later hb
  clear hb hb'
  go_wp2_with fail
  have hsz : (w22.alloc (.cells #[.string (bs z), .string (bs se)] 35)).heap.size = w22.heap.size + 1 := by simp
  have HROW : Hid (PR w.heap.size ((w22.alloc (.cells #[.string (bs z), .string (bs se)] 35)).alloc (.cells #[.slice (some ⟨w19.heap.size, 0, none⟩) 2 2, .slice (some ⟨w20.heap.size, 0, none⟩) 1 1, .slice (some ⟨w21.heap.size, 0, none⟩) 1 1, .slice (some ⟨w22.heap.size, 0, none⟩) 1 1] 32)) (.slice (some ⟨w22.heap.size + 1, 0, none⟩) 4 4) [.slice (some ⟨w19.heap.size, 0, none⟩) 2 2, .slice (some ⟨w20.heap.size, 0, none⟩) 1 1, .slice (some ⟨w21.heap.size, 0, none⟩) 1 1, .slice (some ⟨w22.heap.size, 0, none⟩) 1 1] [[⟨z, sa⟩, ⟨z, sb⟩], [⟨z, sc⟩], [⟨z, sd⟩], [⟨z, se⟩]]) := by
    have b9 := balloc w22 (.cells #[.string (bs z), .string (bs se)] 35)
    have b8 := balloc (w22.alloc (.cells #[.string (bs z), .string (bs se)] 35)) (.cells #[.slice (some ⟨w19.heap.size, 0, none⟩) 2 2, .slice (some ⟨w20.heap.size, 0, none⟩) 1 1, .slice (some ⟨w21.heap.size, 0, none⟩) 1 1, .slice (some ⟨w22.heap.size, 0, none⟩) 1 1] 32)
    have b7 := bstep b9 b8
    have s1 : w.heap.size ≤ w19.heap.size := HB19.out.size
    have s2 : w.heap.size ≤ w20.heap.size := HB20.out.size
    have s3 : w.heap.size ≤ w21.heap.size := HB21.out.size
    have s4 : w.heap.size ≤ w22.heap.size := HB22.out.size
    have q1 := (HQa_22.out.later b7).mono s1
    have q2 := (HQc_22.out.later b7).mono s2
    have q3 := (HQd_22.out.later b7).mono s3
    have q4 : OwnL w.heap.size ((w22.alloc (.cells #[.string (bs z), .string (bs se)] 35)).alloc (.cells #[.slice (some ⟨w19.heap.size, 0, none⟩) 2 2, .slice (some ⟨w20.heap.size, 0, none⟩) 1 1, .slice (some ⟨w21.heap.size, 0, none⟩) 1 1, .slice (some ⟨w22.heap.size, 0, none⟩) 1 1] 32)) (.slice (some ⟨w22.heap.size, 0, none⟩) 1 1) [⟨z, se⟩] := (OwnL.later (own_lit w22 (lc [⟨z, se⟩]) 1 rfl (by decide)) b8).mono s4
    have h9 := own_lit (e := 32) (sz := 1) (w22.alloc (.cells #[.string (bs z), .string (bs se)] 35)) [.slice (some ⟨w19.heap.size, 0, none⟩) 2 2, .slice (some ⟨w20.heap.size, 0, none⟩) 1 1, .slice (some ⟨w21.heap.size, 0, none⟩) 1 1, .slice (some ⟨w22.heap.size, 0, none⟩) 1 1] 4 rfl (by decide)
    rw [hsz] at h9
    refine ⟨World.ownsRow.mono h9 (by omega), rfl, fun j vj l a b => ?_⟩
    rcases j with _ | _ | _ | _ | j
    · injection a with a; injection b with b; subst a b; exact q1
    · injection a with a; injection b with b; subst a b; exact q2
    · injection a with a; injection b with b; subst a b; exact q3
    · injection a with a; injection b with b; subst a b; exact q4
    · simp at a
  refine (sameAll_true (HP_22.out.later (bstep (balloc _ _) (balloc _ _))) HROW.out HLEN.out (by simp)).mono ?_
  rintro e wz ⟨rfl, hb⟩
  have HBZ : Hid (Below w.heap.size w wz) := bstep HB22.out (bstep (bstep (balloc _ _) (balloc _ _)) hb)
  clear hb
  go_wp2_with fail
  go_ret
  exact ⟨rfl, HBZ.out⟩
end Go.Proofs.Ytclbnjfmipifnaa
