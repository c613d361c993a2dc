/-
  What is answered is new memory: the law, walked.
-/
import Derived.Test.YtinhdjoidbcfaaaMk
import Derived.Test.YtinhdjoidbcfaaaJoins
namespace Go.Proofs.Ytinhdjoidbcfaaa
open Go.RowKit

theorem Gr.set11 {w : World} {r : Rw} (h : Gr w r) (g o0 o1 o2 o3 o4 o5 o6 o7 o8 o9 o10 : Nat) (x0 x1 x2 x3 x4 x5 x6 x7 x8 x9 x10 : Value) : Gr (((((((((((w.setCell ⟨g, o0, none⟩ x0).setCell ⟨g, o1, none⟩ x1).setCell ⟨g, o2, none⟩ x2).setCell ⟨g, o3, none⟩ x3).setCell ⟨g, o4, none⟩ x4).setCell ⟨g, o5, none⟩ x5).setCell ⟨g, o6, none⟩ x6).setCell ⟨g, o7, none⟩ x7).setCell ⟨g, o8, none⟩ x8).setCell ⟨g, o9, none⟩ x9).setCell ⟨g, o10, none⟩ x10) r := (((((((((((h.set _ _ _).set _ _ _).set _ _ _).set _ _ _).set _ _ _).set _ _ _).set _ _ _).set _ _ _).set _ _ _).set _ _ _).set _ _ _)
theorem only_s11 (w : World) (g o0 o1 o2 o3 o4 o5 o6 o7 o8 o9 o10 : Nat) (x0 x1 x2 x3 x4 x5 x6 x7 x8 x9 x10 : Value) : Only [g] w (((((((((((w.setCell ⟨g, o0, none⟩ x0).setCell ⟨g, o1, none⟩ x1).setCell ⟨g, o2, none⟩ x2).setCell ⟨g, o3, none⟩ x3).setCell ⟨g, o4, none⟩ x4).setCell ⟨g, o5, none⟩ x5).setCell ⟨g, o6, none⟩ x6).setCell ⟨g, o7, none⟩ x7).setCell ⟨g, o8, none⟩ x8).setCell ⟨g, o9, none⟩ x9).setCell ⟨g, o10, none⟩ x10) := ((((((((((((((((((((((Only.refl _ _).trans (Only.set _ _ _ _))).trans (Only.set _ _ _ _))).trans (Only.set _ _ _ _))).trans (Only.set _ _ _ _))).trans (Only.set _ _ _ _))).trans (Only.set _ _ _ _))).trans (Only.set _ _ _ _))).trans (Only.set _ _ _ _))).trans (Only.set _ _ _ _))).trans (Only.set _ _ _ _))).trans (Only.set _ _ _ _))
theorem Gr.set4 {w : World} {r : Rw} (h : Gr w r) (g o0 o1 o2 o3 : Nat) (x0 x1 x2 x3 : Value) : Gr ((((w.setCell ⟨g, o0, none⟩ x0).setCell ⟨g, o1, none⟩ x1).setCell ⟨g, o2, none⟩ x2).setCell ⟨g, o3, none⟩ x3) r := ((((h.set _ _ _).set _ _ _).set _ _ _).set _ _ _)
theorem only_s4 (w : World) (g o0 o1 o2 o3 : Nat) (x0 x1 x2 x3 : Value) : Only [g] w ((((w.setCell ⟨g, o0, none⟩ x0).setCell ⟨g, o1, none⟩ x1).setCell ⟨g, o2, none⟩ x2).setCell ⟨g, o3, none⟩ x3) := ((((((((Only.refl _ _).trans (Only.set _ _ _ _))).trans (Only.set _ _ _ _))).trans (Only.set _ _ _ _))).trans (Only.set _ _ _ _))
theorem Gr.set1 {w : World} {r : Rw} (h : Gr w r) (g o0 : Nat) (x0 : Value) : Gr (w.setCell ⟨g, o0, none⟩ x0) r := (h.set _ _ _)
theorem only_s1 (w : World) (g o0 : Nat) (x0 : Value) : Only [g] w (w.setCell ⟨g, o0, none⟩ x0) := ((Only.refl _ _).trans (Only.set _ _ _ _))

theorem dif_dl (a b : List Fl) : Dl (dif a b) := by
  by_cases h : stand a = true ∧ stand b = true
  · exact (dif_spec h.1 h.2).2.1
  · have : dif a b = [] := by unfold dif; rw [if_neg (by simpa using h)]
    rw [this]; exact ⟨fun c hc => by simp at hc, List.Pairwise.nil⟩
theorem jn_nil {d : List Ch} (h : Dl d) : jnO d [] = some d := by
  unfold jnO
  rw [(vd_iff d).2 h, (vd_iff []).2 ⟨fun c hc => by simp at hc, List.Pairwise.nil⟩]
  exact mrg_nil' d
/-- what stands, and where -/
structure FK (w w0 : World) (S : Nat → Prop) (va vb ve vj vm vq : Value) (a b : List Fl) : Prop where
  bel : Below w.heap.size w w0
  fa : FS w0 va a
  fb : FS w0 vb b
  ce : CS w0 ve (dif a b)
  cj : CS w0 vj (dif a b)
  fm : FS w0 vm (apl a (dif a b)).1
  sq : SS w0 vq (pths (dif a b))
  na : ∀ k, va.ownBlock = some k → a = [] ∨ ¬ S k
  nb : ∀ k, vb.ownBlock = some k → b = [] ∨ ¬ S k
  ne : ∀ k, ve.ownBlock = some k → ¬ S k
  nj : ∀ k, vj.ownBlock = some k → ¬ S k
  nm : ∀ k, vm.ownBlock = some k → ¬ S k
  nq : ∀ k, vq.ownBlock = some k → ¬ S k
  sge : ∀ k, S k → w.heap.size ≤ k

set_option maxRecDepth 100000 in
set_option maxHeartbeats 16000000 in
theorem fresh_any {w : World} {va vb : Value} {a b : List Fl} (ha : FS w va a) (hb : FS w vb b) (sa : FSm a) (sb : FSm b) :
    Calls Try.prog 4 #[va, vb] w fun e w' => e = .returned (.bool true) ∧ Below w.heap.size w w' := by
  have H : Hid (FS w va a ∧ FS w vb b ∧ FSm a ∧ FSm b) := ⟨ha, hb, sa, sb⟩
  have HM : Hid (CSm (dif a b) ∧ Dl (dif a b) ∧ (dif a b).length ≤ 1024 ∧ FSm (apl a (dif a b)).1 ∧ (apl a (dif a b)).1.length ≤ 512) := by
    refine ⟨csm_dif sa sb, dif_dl a b, dif_len a b, fsm_apl sa (csm_dif sa sb), ?_⟩
    unfold apl
    split
    · split
      · rename_i hc
        simp only [Bool.and_eq_true] at hc
        exact stand_len hc.2
      · simp
    · simp
  clear ha hb sa sb
  go_enter Try.func4, Try.ntmps4
  go_wp2_with fail
  refine (diff_any H.out.1 H.out.2.1 H.out.2.2.1 H.out.2.2.2).mono ?_
  rintro x w1 ⟨vd0, rfl, hd, b1⟩
  have H1 : Hid (OwnC w.heap.size w1 vd0 (dif a b) ∧ Below w.heap.size w w1) := ⟨hd, b1⟩
  clear hd b1
  go_wp2_with fail
  refine (diff_any (H.out.1.later H1.out.2) (H.out.2.1.later H1.out.2) H.out.2.2.1 H.out.2.2.2).mono ?_
  rintro x w2 ⟨ve, rfl, he, b2⟩
  have H2 : Hid (OwnC w1.heap.size w2 ve (dif a b) ∧ Below w1.heap.size w1 w2) := ⟨he, b2⟩
  clear he b2
  go_wp2_with fail
  refine (alive_any _).mono ?_
  rintro x w3 ⟨rfl, b3⟩
  have B3 : Hid (Below w2.heap.size w2 w3) := b3
  clear b3
  go_wp2_with fail
  refine (changes_any (H1.out.1.cs.later (bstep H2.out.2 B3.out)) (H2.out.1.cs.later B3.out) (by have := HM.out.2.2.1; omega)).mono ?_
  rintro x w4 ⟨rfl, b4⟩
  rw [lceq_self]
  have B4 : Hid (Below w2.heap.size w2 w4) := bstep B3.out b4
  clear b4
  go_wp2_with fail
  refine (invert_any (H2.out.1.cs.later B4.out) (by have := HM.out.2.2.1; omega)).mono ?_
  rintro x w5 ⟨vi0, rfl, hi, b5⟩
  have H5 : Hid (OwnC w4.heap.size w5 vi0 (inv (dif a b)) ∧ Below w4.heap.size w4 w5) := ⟨hi, b5⟩
  clear hi b5
  go_wp2_with fail
  refine (join_any (H2.out.1.cs.later (bstep B4.out H5.out.2)) (CS_nil w5) HM.out.1 ⟨by simp, fun c hc => by simp at hc⟩ (by have := HM.out.2.2.1; simp; omega)).mono ?_
  rintro x w6 ⟨vj, rfl, hj, b6⟩
  rw [jn_nil HM.out.2.1] at hj
  have H6 : Hid (OwnC w5.heap.size w6 vj (dif a b) ∧ Below w5.heap.size w5 w6) := ⟨hj, b6⟩
  clear hj b6
  generalize jnE (dif a b) [] = er at *
  have B26 : Hid (Below w2.heap.size w2 w6) := bstep B4.out (bstep H5.out.2 H6.out.2)
  have B06 : Hid (Below w.heap.size w w6) := bstep H1.out.2 (bstep H2.out.2 B26.out)
  go_wp2_with fail
  refine (apply_any (H.out.1.later B06.out) (H2.out.1.cs.later B26.out) H.out.2.2.1 HM.out.1).mono ?_
  rintro x w7 ⟨vl0, rfl, hl, b7⟩
  have H7 : Hid (OwnF w6.heap.size w7 vl0 (apl a (dif a b)).1 ∧ Below w6.heap.size w6 w7) := ⟨hl, b7⟩
  clear hl b7
  have B27 : Hid (Below w2.heap.size w2 w7) := bstep B26.out H7.out.2
  have B07 : Hid (Below w.heap.size w w7) := bstep B06.out H7.out.2
  generalize (apl a (dif a b)).2 = e7 at *
  go_wp2_with fail
  refine (apply_any (H.out.1.later B07.out) (H2.out.1.cs.later B27.out) H.out.2.2.1 HM.out.1).mono ?_
  rintro x w8 ⟨vm, rfl, hm, b8⟩
  have H8 : Hid (OwnF w7.heap.size w8 vm (apl a (dif a b)).1 ∧ Below w7.heap.size w7 w8) := ⟨hm, b8⟩
  clear hm b8
  have B28 : Hid (Below w2.heap.size w2 w8) := bstep B27.out H8.out.2
  generalize (apl a (dif a b)).2 = e8 at *
  go_wp2_with fail
  refine (paths_any (H2.out.1.cs.later B28.out) (by have := HM.out.2.2.1; omega)).mono ?_
  rintro x w9 ⟨vp0, rfl, hp, b9⟩
  have H9 : Hid (Own w8.heap.size w9 vp0 (pths (dif a b)) ∧ Below w8.heap.size w8 w9) := ⟨hp, b9⟩
  clear hp b9
  go_wp2_with fail
  refine (paths_any (H2.out.1.cs.later (bstep B28.out H9.out.2)) (by have := HM.out.2.2.1; omega)).mono ?_
  rintro x w0 ⟨vq, rfl, hq, b10⟩
  have H10 : Hid (Own w9.heap.size w0 vq (pths (dif a b)) ∧ Below w9.heap.size w9 w0) := ⟨hq, b10⟩
  clear hq b10
  -- all stand; what is to be marked
  obtain ⟨S, hS⟩ : ∃ S : Nat → Prop, S = fun k => vd0.ownBlock = some k ∨ vi0.ownBlock = some k ∨ vl0.ownBlock = some k ∨ vp0.ownBlock = some k := ⟨_, rfl⟩
  obtain ⟨da, dc, hvd⟩ := H1.out.1.cs.shape
  obtain ⟨ia, ic, hvi⟩ := H5.out.1.cs.shape
  obtain ⟨la, lc, hvl⟩ := H7.out.1.form
  obtain ⟨pa, pc, hvp⟩ : ∃ y c, vp0 = .slice y (pths (dif a b)).length c := by obtain ⟨y, c, e, _⟩ := H9.out.1.bs.form; exact ⟨y, c, e⟩
  obtain ⟨qa, qc, hvq⟩ : ∃ y c, vq = .slice y (pths (dif a b)).length c := by obtain ⟨y, c, e, _⟩ := H10.out.1.bs.form; exact ⟨y, c, e⟩
  rw [invert_len] at hvi
  rw [paths_len] at hvp hvq
  obtain ⟨nd, hnd⟩ : ∃ n, (dif a b).length = n := ⟨_, rfl⟩
  obtain ⟨nl, hnl⟩ : ∃ n, (apl a (dif a b)).1.length = n := ⟨_, rfl⟩
  have hnd5 : nd ≤ 1024 := by rw [← hnd]; exact HM.out.2.2.1
  have hnl5 : nl ≤ 512 := by rw [← hnl]; exact HM.out.2.2.2.2
  have HF : Hid (FK w w0 S va vb ve vj vm vq a b ∧ MK w0 w0 S (rw4 ⟨42, 11, vd0, nd⟩ ⟨42, 11, vi0, nd⟩ ⟨40, 4, vl0, nl⟩ ⟨9, 1, vp0, nd⟩)) := by
    have l1 : ∀ k, vd0.ownBlock = some k → w.heap.size ≤ k ∧ k < w1.heap.size := fun k hk => H1.out.1.lt hk
    have l2 : ∀ k, ve.ownBlock = some k → w1.heap.size ≤ k ∧ k < w2.heap.size := fun k hk => H2.out.1.lt hk
    have l5 : ∀ k, vi0.ownBlock = some k → w4.heap.size ≤ k ∧ k < w5.heap.size := fun k hk => H5.out.1.lt hk
    have l6 : ∀ k, vj.ownBlock = some k → w5.heap.size ≤ k ∧ k < w6.heap.size := fun k hk => H6.out.1.lt hk
    have l7 : ∀ k, vl0.ownBlock = some k → w6.heap.size ≤ k ∧ k < w7.heap.size := fun k hk => H7.out.1.lt hk
    have l8 : ∀ k, vm.ownBlock = some k → w7.heap.size ≤ k ∧ k < w8.heap.size := fun k hk => H8.out.1.lt hk
    have l9 : ∀ k, vp0.ownBlock = some k → w8.heap.size ≤ k ∧ k < w9.heap.size := fun k hk => H9.out.1.lt hk
    have l0 : ∀ k, vq.ownBlock = some k → w9.heap.size ≤ k ∧ k < w0.heap.size := fun k hk => H10.out.1.lt hk
    have s1 := H1.out.2.size
    have s2 := H2.out.2.size
    have s4 := B4.out.size
    have s5 := H5.out.2.size
    have s6 := H6.out.2.size
    have s7 := H7.out.2.size
    have s8 := H8.out.2.size
    have s9 := H9.out.2.size
    have s0 := H10.out.2.size
    have t9 : Below w8.heap.size w8 w0 := bstep H9.out.2 H10.out.2
    have t8 : Below w7.heap.size w7 w0 := bstep H8.out.2 t9
    have t7 : Below w6.heap.size w6 w0 := bstep H7.out.2 t8
    have t6 : Below w5.heap.size w5 w0 := bstep H6.out.2 t7
    have t5 : Below w4.heap.size w4 w0 := bstep H5.out.2 t6
    have t2 : Below w2.heap.size w2 w0 := bstep B4.out t5
    have t1 : Below w1.heap.size w1 w0 := bstep H2.out.2 t2
    have t0 : Below w.heap.size w w0 := bstep H1.out.2 t1
    have big : ∀ k, S k → w.heap.size ≤ k := fun k hk => by
      rw [hS] at hk
      rcases hk with hk | hk | hk | hk
      · exact (l1 k hk).1
      · have := l5 k hk; omega
      · have := l7 k hk; omega
      · have := l9 k hk; omega
    have old : ∀ {v : Value} {l : List Fl}, FS w v l → ∀ k, v.ownBlock = some k → l = [] ∨ ¬ S k := fun h k hk => by
      rcases h with ⟨_, h⟩ | ⟨b, off, cap, rfl, _, hlt, _⟩
      · exact .inl h
      · refine .inr fun hs => ?_
        simp only [Value.ownBlock, Option.some.injEq] at hk
        have := big k hs
        omega
    refine ⟨⟨t0, H.out.1.later t0, H.out.2.1.later t0, H2.out.1.cs.later t2, H6.out.1.cs.later t7, H8.out.1.fs.later t9, H10.out.1.bs, old H.out.1, old H.out.2.1, ?_, ?_, ?_, ?_, big⟩, ⟨?_, ?_, ?_, fun _ _ _ => rfl, Nat.le_refl _, rfl, rfl, rfl⟩⟩
    · intro k hk hs
      have := l2 k hk
      rw [hS] at hs
      rcases hs with hs | hs | hs | hs
      · have := l1 k hs; omega
      · have := l5 k hs; omega
      · have := l7 k hs; omega
      · have := l9 k hs; omega
    · intro k hk hs
      have := l6 k hk
      rw [hS] at hs
      rcases hs with hs | hs | hs | hs
      · have := l1 k hs; omega
      · have := l5 k hs; omega
      · have := l7 k hs; omega
      · have := l9 k hs; omega
    · intro k hk hs
      have := l8 k hk
      rw [hS] at hs
      rcases hs with hs | hs | hs | hs
      · have := l1 k hs; omega
      · have := l5 k hs; omega
      · have := l7 k hs; omega
      · have := l9 k hs; omega
    · intro k hk hs
      have := l0 k hk
      rw [hS] at hs
      rcases hs with hs | hs | hs | hs
      · have := l1 k hs; omega
      · have := l5 k hs; omega
      · have := l7 k hs; omega
      · have := l9 k hs; omega
    · intro i hi
      match i, hi with
      | 0, _ => exact ⟨_, by have := (H1.out.1.later t1).mono (Nat.zero_le _); unfold OwnC at this; rw [hnd] at this; exact this⟩
      | 1, _ => exact ⟨_, by have := (H5.out.1.later t6).mono (Nat.zero_le _); unfold OwnC at this; rw [invert_len, hnd] at this; exact this⟩
      | 2, _ => exact ⟨_, by have := (H7.out.1.later t8).mono (Nat.zero_le _); unfold OwnF at this; rw [hnl] at this; exact this⟩
      | 3, _ => exact ⟨_, by have := (H9.out.1.later H10.out.2).mono (Nat.zero_le _); unfold Own at this; rw [paths_len, hnd] at this; exact this⟩
    · intro i j hi hj hij k h1 h2
      match i, hi, j, hj with
      | 0, _, 1, _ => have := l1 k h1; have := l5 k h2; omega
      | 0, _, 2, _ => have := l1 k h1; have := l7 k h2; omega
      | 0, _, 3, _ => have := l1 k h1; have := l9 k h2; omega
      | 1, _, 0, _ => have := l5 k h1; have := l1 k h2; omega
      | 1, _, 2, _ => have := l5 k h1; have := l7 k h2; omega
      | 1, _, 3, _ => have := l5 k h1; have := l9 k h2; omega
      | 2, _, 0, _ => have := l7 k h1; have := l1 k h2; omega
      | 2, _, 1, _ => have := l7 k h1; have := l5 k h2; omega
      | 2, _, 3, _ => have := l7 k h1; have := l9 k h2; omega
      | 3, _, 0, _ => have := l9 k h1; have := l1 k h2; omega
      | 3, _, 1, _ => have := l9 k h1; have := l5 k h2; omega
      | 3, _, 2, _ => have := l9 k h1; have := l7 k h2; omega
      | 0, _, 0, _ => omega
      | 1, _, 1, _ => omega
      | 2, _, 2, _ => omega
      | 3, _, 3, _ => omega
    · intro i hi k hk
      rw [hS]
      match i, hi with
      | 0, _ => exact .inl (.inl hk)
      | 1, _ => exact .inl (.inr (.inl hk))
      | 2, _ => exact .inl (.inr (.inr (.inl hk)))
      | 3, _ => exact .inl (.inr (.inr (.inr hk)))
  have HN : Hid ((dif a b).length = nd ∧ (apl a (dif a b)).1.length = nl) := ⟨hnd, hnl⟩
  rw [hnd] at hvd hvi hvp hvq
  rw [hnl] at hvl
  clear hS H1 H2 B3 B4 H5 H6 H7 H8 H9 H10 B26 B06 B27 B07 B28 hnd hnl
  subst hvd hvi hvl hvp hvq
  go_wp2_with fail
  go_loopw [16] (fun s wr => ∃ k : Nat, k ≤ nd ∧ s = .int .i64 k ∧ MK w0 wr S (rw4 ⟨42, 11, .slice da nd dc, nd⟩ ⟨42, 11, .slice ia nd ic, nd⟩ ⟨40, 4, .slice la nl lc, nl⟩ ⟨9, 1, .slice pa nd pc, nd⟩)) (fun s _ => nd - (intOf s).toNat)
  case atStart => exact ⟨0, by omega, rfl, HF.out.2⟩
  case round =>
    obtain ⟨k, hk, rfl, hm⟩ := hrel
    have HK : Hid (MK w0 wr S (rw4 ⟨42, 11, .slice da nd dc, nd⟩ ⟨42, 11, .slice ia nd ic, nd⟩ ⟨40, 4, .slice la nl lc, nl⟩ ⟨9, 1, .slice pa nd pc, nd⟩)) := hm
    clear hm
    by_cases hlt : k < nd
    · obtain ⟨g, eg, hgl, hc⟩ := Gr.cell (HK.out.g 0 (by omega)) hlt
      subst eg
      have KK : Hid (∀ j, j < 11 → (∃ x, wr.cell? ⟨g, k * 11 + j, none⟩ = some x) ∧ wr.frozen? ⟨g, k * 11 + j, none⟩ = false) := hc
      clear hc
      obtain ⟨⟨x0, c0⟩, f0⟩ := KK.out 0 (by omega)
      obtain ⟨⟨x1, c1⟩, f1⟩ := KK.out 1 (by omega)
      obtain ⟨⟨x2, c2⟩, f2⟩ := KK.out 2 (by omega)
      obtain ⟨⟨x3, c3⟩, f3⟩ := KK.out 3 (by omega)
      obtain ⟨⟨x4, c4⟩, f4⟩ := KK.out 4 (by omega)
      obtain ⟨⟨x5, c5⟩, f5⟩ := KK.out 5 (by omega)
      obtain ⟨⟨x6, c6⟩, f6⟩ := KK.out 6 (by omega)
      obtain ⟨⟨x7, c7⟩, f7⟩ := KK.out 7 (by omega)
      obtain ⟨⟨x8, c8⟩, f8⟩ := KK.out 8 (by omega)
      obtain ⟨⟨x9, c9⟩, f9⟩ := KK.out 9 (by omega)
      obtain ⟨⟨x10, c10⟩, f10⟩ := KK.out 10 (by omega)
      simp only [Nat.add_zero] at c0 f0 c1 f1 c2 f2 c3 f3 c4 f4 c5 f5 c6 f6 c7 f7 c8 f8 c9 f9 c10 f10
      have k1 : (0 : Int) ≤ (k : Int) := by omega
      have k2 : (k : Int) < (nd : Int) := by omega
      go_wp2_with fail
      go_roundw
      case rel => exact ⟨k + 1, by omega, by go_num, HK.out.step0 ((HK.out.g 0 (by omega)).set11 _ _ _ _ _ _ _ _ _ _ _ _ _ _ _ _ _ _ _ _ _ _ _) (only_s11 _ _ _ _ _ _ _ _ _ _ _ _ _ _ _ _ _ _ _ _ _ _ _ _) (.inl rfl)⟩
      case measure => simp [intOf]; omega
    · obtain rfl : nd = k := by omega
      have HX0 : Hid (MK w0 wr S (rw4 ⟨42, 11, .slice da nd dc, nd⟩ ⟨42, 11, .slice ia nd ic, nd⟩ ⟨40, 4, .slice la nl lc, nl⟩ ⟨9, 1, .slice pa nd pc, nd⟩)) := HK.out
      clear HK
      obtain ⟨wx0, hwx0⟩ : ∃ wx, wx = wr := ⟨_, rfl⟩
      rw [← hwx0] at HX0 ⊢
      clear hwx0
      go_wp2_with fail
      go_loopw [17] (fun s wr => ∃ k : Nat, k ≤ nd ∧ s = .int .i64 k ∧ MK w0 wr S (rw4 ⟨42, 11, .slice da nd dc, nd⟩ ⟨42, 11, .slice ia nd ic, nd⟩ ⟨40, 4, .slice la nl lc, nl⟩ ⟨9, 1, .slice pa nd pc, nd⟩)) (fun s _ => nd - (intOf s).toNat)
      case atStart => exact ⟨0, by omega, rfl, HX0.out⟩
      case round =>
        obtain ⟨k, hk, rfl, hm⟩ := hrel
        have HK : Hid (MK w0 wr S (rw4 ⟨42, 11, .slice da nd dc, nd⟩ ⟨42, 11, .slice ia nd ic, nd⟩ ⟨40, 4, .slice la nl lc, nl⟩ ⟨9, 1, .slice pa nd pc, nd⟩)) := hm
        clear hm
        by_cases hlt : k < nd
        · obtain ⟨g, eg, hgl, hc⟩ := Gr.cell (HK.out.g 1 (by omega)) hlt
          subst eg
          have KK : Hid (∀ j, j < 11 → (∃ x, wr.cell? ⟨g, k * 11 + j, none⟩ = some x) ∧ wr.frozen? ⟨g, k * 11 + j, none⟩ = false) := hc
          clear hc
          obtain ⟨⟨x0, c0⟩, f0⟩ := KK.out 0 (by omega)
          obtain ⟨⟨x1, c1⟩, f1⟩ := KK.out 1 (by omega)
          obtain ⟨⟨x2, c2⟩, f2⟩ := KK.out 2 (by omega)
          obtain ⟨⟨x3, c3⟩, f3⟩ := KK.out 3 (by omega)
          obtain ⟨⟨x4, c4⟩, f4⟩ := KK.out 4 (by omega)
          obtain ⟨⟨x5, c5⟩, f5⟩ := KK.out 5 (by omega)
          obtain ⟨⟨x6, c6⟩, f6⟩ := KK.out 6 (by omega)
          obtain ⟨⟨x7, c7⟩, f7⟩ := KK.out 7 (by omega)
          obtain ⟨⟨x8, c8⟩, f8⟩ := KK.out 8 (by omega)
          obtain ⟨⟨x9, c9⟩, f9⟩ := KK.out 9 (by omega)
          obtain ⟨⟨x10, c10⟩, f10⟩ := KK.out 10 (by omega)
          simp only [Nat.add_zero] at c0 f0 c1 f1 c2 f2 c3 f3 c4 f4 c5 f5 c6 f6 c7 f7 c8 f8 c9 f9 c10 f10
          have k1 : (0 : Int) ≤ (k : Int) := by omega
          have k2 : (k : Int) < (nd : Int) := by omega
          go_wp2_with fail
          go_roundw
          case rel => exact ⟨k + 1, by omega, by go_num, HK.out.step1 ((HK.out.g 1 (by omega)).set11 _ _ _ _ _ _ _ _ _ _ _ _ _ _ _ _ _ _ _ _ _ _ _) (only_s11 _ _ _ _ _ _ _ _ _ _ _ _ _ _ _ _ _ _ _ _ _ _ _ _) (.inl rfl)⟩
          case measure => simp [intOf]; omega
        · obtain rfl : nd = k := by omega
          have HX1 : Hid (MK w0 wr S (rw4 ⟨42, 11, .slice da nd dc, nd⟩ ⟨42, 11, .slice ia nd ic, nd⟩ ⟨40, 4, .slice la nl lc, nl⟩ ⟨9, 1, .slice pa nd pc, nd⟩)) := HK.out
          clear HK
          obtain ⟨wx1, hwx1⟩ : ∃ wx, wx = wr := ⟨_, rfl⟩
          rw [← hwx1] at HX1 ⊢
          clear hwx1
          go_wp2_with fail
          go_loopw [18] (fun s wr => ∃ k : Nat, k ≤ nl ∧ s = .int .i64 k ∧ MK w0 wr S (rw4 ⟨42, 11, .slice da nd dc, nd⟩ ⟨42, 11, .slice ia nd ic, nd⟩ ⟨40, 4, .slice la nl lc, nl⟩ ⟨9, 1, .slice pa nd pc, nd⟩)) (fun s _ => nl - (intOf s).toNat)
          case atStart => exact ⟨0, by omega, rfl, HX1.out⟩
          case round =>
            obtain ⟨k, hk, rfl, hm⟩ := hrel
            have HK : Hid (MK w0 wr S (rw4 ⟨42, 11, .slice da nd dc, nd⟩ ⟨42, 11, .slice ia nd ic, nd⟩ ⟨40, 4, .slice la nl lc, nl⟩ ⟨9, 1, .slice pa nd pc, nd⟩)) := hm
            clear hm
            by_cases hlt : k < nl
            · obtain ⟨g, eg, hgl, hc⟩ := Gr.cell (HK.out.g 2 (by omega)) hlt
              subst eg
              have KK : Hid (∀ j, j < 4 → (∃ x, wr.cell? ⟨g, k * 4 + j, none⟩ = some x) ∧ wr.frozen? ⟨g, k * 4 + j, none⟩ = false) := hc
              clear hc
              obtain ⟨⟨x0, c0⟩, f0⟩ := KK.out 0 (by omega)
              obtain ⟨⟨x1, c1⟩, f1⟩ := KK.out 1 (by omega)
              obtain ⟨⟨x2, c2⟩, f2⟩ := KK.out 2 (by omega)
              obtain ⟨⟨x3, c3⟩, f3⟩ := KK.out 3 (by omega)
              simp only [Nat.add_zero] at c0 f0 c1 f1 c2 f2 c3 f3
              have k1 : (0 : Int) ≤ (k : Int) := by omega
              have k2 : (k : Int) < (nl : Int) := by omega
              go_wp2_with fail
              go_roundw
              case rel => exact ⟨k + 1, by omega, by go_num, HK.out.step2 ((HK.out.g 2 (by omega)).set4 _ _ _ _ _ _ _ _ _) (only_s4 _ _ _ _ _ _ _ _ _ _) (.inl rfl)⟩
              case measure => simp [intOf]; omega
            · obtain rfl : nl = k := by omega
              have HX2 : Hid (MK w0 wr S (rw4 ⟨42, 11, .slice da nd dc, nd⟩ ⟨42, 11, .slice ia nd ic, nd⟩ ⟨40, 4, .slice la nl lc, nl⟩ ⟨9, 1, .slice pa nd pc, nd⟩)) := HK.out
              clear HK
              obtain ⟨wx2, hwx2⟩ : ∃ wx, wx = wr := ⟨_, rfl⟩
              rw [← hwx2] at HX2 ⊢
              clear hwx2
              go_wp2_with fail
              go_loopw [19] (fun s wr => ∃ k : Nat, k ≤ nd ∧ s = .int .i64 k ∧ MK w0 wr S (rw4 ⟨42, 11, .slice da nd dc, nd⟩ ⟨42, 11, .slice ia nd ic, nd⟩ ⟨40, 4, .slice la nl lc, nl⟩ ⟨9, 1, .slice pa nd pc, nd⟩)) (fun s _ => nd - (intOf s).toNat)
              case atStart => exact ⟨0, by omega, rfl, HX2.out⟩
              case round =>
                obtain ⟨k, hk, rfl, hm⟩ := hrel
                have HK : Hid (MK w0 wr S (rw4 ⟨42, 11, .slice da nd dc, nd⟩ ⟨42, 11, .slice ia nd ic, nd⟩ ⟨40, 4, .slice la nl lc, nl⟩ ⟨9, 1, .slice pa nd pc, nd⟩)) := hm
                clear hm
                by_cases hlt : k < nd
                · obtain ⟨g, eg, hgl, hc⟩ := Gr.cell (HK.out.g 3 (by omega)) hlt
                  subst eg
                  have KK : Hid (∀ j, j < 1 → (∃ x, wr.cell? ⟨g, k * 1 + j, none⟩ = some x) ∧ wr.frozen? ⟨g, k * 1 + j, none⟩ = false) := hc
                  clear hc
                  obtain ⟨⟨x0, c0⟩, f0⟩ := KK.out 0 (by omega)
                  simp only [Nat.add_zero, Nat.mul_one] at c0 f0
                  have k1 : (0 : Int) ≤ (k : Int) := by omega
                  have k2 : (k : Int) < (nd : Int) := by omega
                  go_wp2_with fail
                  go_roundw
                  case rel => exact ⟨k + 1, by omega, by go_num, HK.out.step3 ((HK.out.g 3 (by omega)).set1 _ _ _) (only_s1 _ _ _ _) (.inl rfl)⟩
                  case measure => simp [intOf]; omega
                · obtain rfl : nd = k := by omega
                  have HX3 : Hid (MK w0 wr S (rw4 ⟨42, 11, .slice da nd dc, nd⟩ ⟨42, 11, .slice ia nd ic, nd⟩ ⟨40, 4, .slice la nl lc, nl⟩ ⟨9, 1, .slice pa nd pc, nd⟩)) := HK.out
                  clear HK
                  obtain ⟨wx3, hwx3⟩ : ∃ wx, wx = wr := ⟨_, rfl⟩
                  rw [← hwx3] at HX3 ⊢
                  clear hwx3
                  go_wp2_with fail
                  go_loopw [5, 7, 10, 14, 20] (fun s5 s7 s10 s14 s wr => ∃ k : Nat, k ≤ 30 ∧ s = .int .i64 k ∧ MK w0 wr S (rw4 ⟨42, 11, s5, nd + k⟩ ⟨42, 11, s7, nd + k⟩ ⟨40, 4, s10, nl + k⟩ ⟨9, 1, s14, nd + k⟩)) (fun _ _ _ _ s _ => 30 - (intOf s).toNat)
                  case atStart => exact ⟨0, by omega, rfl, HX3.out⟩
                  case round =>
                    obtain ⟨k, hk, rfl, hm⟩ := hrel
                    have HK : Hid (MK w0 wr S (rw4 ⟨42, 11, u5, nd + k⟩ ⟨42, 11, u7, nd + k⟩ ⟨40, 4, u10, nl + k⟩ ⟨9, 1, u14, nd + k⟩)) := hm
                    clear hm
                    by_cases hlt : k < 30
                    · go_wp2_with (first
                        | (at_builtin; refine app_gr (r := ⟨42, 11, u5, nd + k⟩) (t := 23) ((HK.out.later (balloc _ _)).g 0 (by omega)) und23 info42 rfl (src_ch wr ⟨[53], false, false, zf, zf⟩) (by show (nd + k + 1) * 120 ≤ _; omega) (by show nd + k + 1 ≤ _; omega) rfl (.tmp 104) (.tmp 106) rfl rfl rfl ?_; intro v1 y1 hg1 ho1 hv1; have K1 : Hid (MK w0 y1 S (rw4 ⟨42, 11, v1, nd + k + 1⟩ ⟨42, 11, u7, nd + k⟩ ⟨40, 4, u10, nl + k⟩ ⟨9, 1, u14, nd + k⟩)) := (HK.out.later (balloc _ _)).step0 hg1 ho1 hv1; clear hg1 ho1 hv1)
                        | (at_builtin; refine app_gr (r := ⟨42, 11, u7, nd + k⟩) (t := 23) ((K1.out.later (balloc _ _)).g 1 (by omega)) und23 info42 rfl (src_ch y1 ⟨[54], false, false, zf, zf⟩) (by show (nd + k + 1) * 120 ≤ _; omega) (by show nd + k + 1 ≤ _; omega) rfl (.tmp 108) (.tmp 110) rfl rfl rfl ?_; intro v2 y2 hg1 ho1 hv1; have K2 : Hid (MK w0 y2 S (rw4 ⟨42, 11, v1, nd + k + 1⟩ ⟨42, 11, v2, nd + k + 1⟩ ⟨40, 4, u10, nl + k⟩ ⟨9, 1, u14, nd + k⟩)) := (K1.out.later (balloc _ _)).step1 hg1 ho1 hv1; clear hg1 ho1 hv1)
                        | (at_builtin; refine app_gr (r := ⟨40, 4, u10, nl + k⟩) (t := 22) ((K2.out.later (balloc _ _)).g 2 (by omega)) und22 info40 rfl (src_file y2 ⟨[55], [], 0, 0⟩) (by show (nl + k + 1) * 48 ≤ _; omega) (by show nl + k + 1 ≤ _; omega) rfl (.tmp 112) (.tmp 114) rfl rfl rfl ?_; intro v3 y3 hg1 ho1 hv1; have K3 : Hid (MK w0 y3 S (rw4 ⟨42, 11, v1, nd + k + 1⟩ ⟨42, 11, v2, nd + k + 1⟩ ⟨40, 4, v3, nl + k + 1⟩ ⟨9, 1, u14, nd + k⟩)) := (K2.out.later (balloc _ _)).step2 hg1 ho1 hv1; clear hg1 ho1 hv1)
                        | (at_builtin; refine app_gr (r := ⟨9, 1, u14, nd + k⟩) (t := 37) ((K3.out.later (balloc _ _)).g 3 (by omega)) und35 info9 rfl (src_one y3 [56]) (by show (nd + k + 1) * 16 ≤ _; omega) (by show nd + k + 1 ≤ _; omega) rfl (.tmp 116) (.tmp 117) rfl rfl rfl ?_; intro v4 y4 hg1 ho1 hv1; have K4 : Hid (MK w0 y4 S (rw4 ⟨42, 11, v1, nd + k + 1⟩ ⟨42, 11, v2, nd + k + 1⟩ ⟨40, 4, v3, nl + k + 1⟩ ⟨9, 1, v4, nd + k + 1⟩)) := (K3.out.later (balloc _ _)).step3 hg1 ho1 hv1; clear hg1 ho1 hv1))
                      go_roundw
                      case rel => exact ⟨k + 1, by omega, by go_num, K4.out⟩
                      case measure => simp [intOf]; omega
                    · obtain rfl : k = 30 := by omega
                      have HST : Hid (St w0 wr S) := HK.out.st
                      obtain ⟨p2, c2, hp2⟩ : ∃ a c, u14 = .slice a (nd + 30) c := by
                        obtain ⟨xs, h0, ⟨hv, hn⟩ | ⟨g, cap, cur, hv, _⟩⟩ := HK.out.g 3 (by omega)
                        · exact absurd hn (by show ¬ nd + 30 = 0; omega)
                        · exact ⟨_, cap, hv⟩
                      have HBW : Hid (Below w.heap.size w wr) := by
                        have hm := HK.out
                        refine ⟨hm.os.trans HF.out.1.bel.os, hm.tape.trans HF.out.1.bel.tape, hm.output.trans HF.out.1.bel.output, Nat.le_trans HF.out.1.bel.size hm.sz, fun k hk => ?_⟩
                        rw [hm.fr k (Nat.lt_of_lt_of_le hk HF.out.1.bel.size) (fun hs => by have := HF.out.1.sge k hs; omega)]
                        exact HF.out.1.bel.block k hk
                      clear HK
                      subst hp2
                      have HA : Hid (FS wr va a ∧ FS wr vb b ∧ CS wr ve (dif a b) ∧ CS wr vj (dif a b) ∧ FS wr vm (apl a (dif a b)).1 ∧ SS wr (.slice qa nd qc) (pths (dif a b))) := ⟨HF.out.1.fa.st HST.out HF.out.1.na, HF.out.1.fb.st HST.out HF.out.1.nb, HF.out.1.ce.st HST.out HF.out.1.ne, HF.out.1.cj.st HST.out HF.out.1.nj, HF.out.1.fm.st HST.out (fun k hk => .inr (HF.out.1.nm k hk)), HF.out.1.sq.st HST.out HF.out.1.nq⟩
                      go_wp2_with fail
                      refine (apply_any HA.out.1 HA.out.2.2.1 H.out.2.2.1 HM.out.1).mono ?_
                      rintro x x1 ⟨vg, rfl, ho, hb⟩
                      have X1 : Hid (Below wr.heap.size wr x1 ∧ FS x1 vg (apl a (dif a b)).1) := ⟨hb, ho.fs⟩
                      clear ho hb
                      generalize (apl a (dif a b)).2 = e9 at *
                      go_wp2_with fail
                      refine (diff_any (HA.out.1.later X1.out.1) (HA.out.2.1.later X1.out.1) H.out.2.2.1 H.out.2.2.2).mono ?_
                      rintro x x2 ⟨vf, rfl, ho, hb⟩
                      have X2 : Hid (Below wr.heap.size wr x2 ∧ FS x2 vg (apl a (dif a b)).1 ∧ CS x2 vf (dif a b)) := ⟨bstep X1.out.1 hb, X1.out.2.later hb, ho.cs⟩
                      clear ho hb
                      go_wp2_with fail
                      refine (changes_any (HA.out.2.2.1.later X2.out.1) X2.out.2.2 (by have := HM.out.2.2.1; omega)).mono ?_
                      rintro x x3 ⟨rfl, hb⟩
                      rw [lceq_self]
                      have X3 : Hid (Below x2.heap.size x2 x3) := hb
                      clear hb
                      go_wp2_with fail
                      refine (changes_any (HA.out.2.2.2.1.later (bstep X2.out.1 X3.out)) (X2.out.2.2.later X3.out) (by have := HM.out.2.2.1; omega)).mono ?_
                      rintro x x4 ⟨rfl, hb⟩
                      rw [lceq_self]
                      have X4 : Hid (Below x2.heap.size x2 x4) := bstep X3.out hb
                      clear hb
                      go_wp2_with fail
                      refine (files_any (HA.out.2.2.2.2.1.later (bstep X2.out.1 X4.out)) (X2.out.2.1.later X4.out) HM.out.2.2.2.1.len).mono ?_
                      rintro x x5 ⟨rfl, hb⟩
                      rw [leq_self]
                      have X5 : Hid (Below x2.heap.size x2 x5) := bstep X4.out hb
                      clear hb
                      go_wp2_with fail
                      refine (paths_any (X2.out.2.2.later X5.out) (by have := HM.out.2.2.1; omega)).mono ?_
                      rintro x x6 ⟨vz, rfl, ho, hb⟩
                      have X6 : Hid (Below x2.heap.size x2 x6 ∧ SS x6 vz (pths (dif a b))) := ⟨bstep X5.out hb, ho.bs⟩
                      clear ho hb
                      go_wp2_with fail
                      refine (texts_any (HA.out.2.2.2.2.2.later (bstep X2.out.1 X6.out.1)) X6.out.2 (by rw [paths_len]; have := HM.out.2.2.1; omega)).mono ?_
                      rintro x x7 ⟨rfl, hb⟩
                      rw [decide_eq_true rfl]
                      have X7 : Hid (Below wr.heap.size wr x7) := bstep X2.out.1 (bstep X6.out.1 hb)
                      clear hb
                      go_wp2_with fail
                      go_ret
                      exact ⟨rfl, bstep HBW.out X7.out⟩
end Go.Proofs.Ytinhdjoidbcfaaa
