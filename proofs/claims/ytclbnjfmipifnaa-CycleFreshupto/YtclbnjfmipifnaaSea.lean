/-
  Where a label would stand in a rising row: slices.BinarySearchFunc.
-/
import Derived.Test.YtclbnjfmipifnaaJNd
namespace Go.Proofs.Ytclbnjfmipifnaa
open Go.RowKit

theorem ltL_trans {a b c : Lb} (h : ltL a b = true) (k : cmpL b c < 0) : cmpL a c < 0 := by
  have := stoL.trans a b c h (by unfold ltL; simpa using k)
  unfold ltL at this; simpa using this
theorem ltL_iff {a b : Lb} : ltL a b = true ↔ cmpL a b < 0 := by unfold ltL; simp
theorem ins_at (f : Lb) : ∀ (l : List Lb), UpL l → ∀ (a : Nat), a ≤ l.length → (∀ t (h : t < l.length), t < a → cmpL (l[t]'h) f < 0) → (∀ t (h : t < l.length), a ≤ t → ¬ cmpL (l[t]'h) f < 0) →
    (f ∉ l → Gs.insr ltL f l = l.take a ++ f :: l.drop a) ∧ (decide (f ∈ l) = match l[a]? with | some x => decide (cmpL x f = 0) | none => false)
  | [], _, a, _, _, _ => by simp [Gs.insr]
  | g :: l, up, 0, _, _, h2 => by
    have h0 : ¬ cmpL g f < 0 := h2 0 (by simp) (Nat.le_refl _)
    have hn : ¬ ltL g f = true := fun h => h0 (ltL_iff.1 h)
    refine ⟨fun hf => ?_, ?_⟩
    · unfold Gs.insr
      rw [if_neg hn, if_neg (by rintro rfl; exact hf (by simp))]; simp
    · simp only [List.getElem?_cons_zero, cmpL_zero]
      rw [Bool.eq_iff_iff]
      simp only [decide_eq_true_eq, List.mem_cons]
      constructor
      · rintro (rfl | h)
        · rfl
        · exfalso
          exact h0 (ltL_iff.1 ((List.pairwise_cons.1 up).1 f h))
      · rintro rfl; exact .inl rfl
  | g :: l, up, a + 1, ha, h1, h2 => by
    have h0 : cmpL g f < 0 := h1 0 (by simp) (by omega)
    obtain ⟨i1, i2⟩ := ins_at f l (List.pairwise_cons.1 up).2 a (by simpa using ha) (fun t h hta => by have := h1 (t + 1) (by simpa using h) (by omega); rwa [List.getElem_cons_succ] at this) (fun t h hta => by have := h2 (t + 1) (by simpa using h) (by omega); rwa [List.getElem_cons_succ] at this)
    refine ⟨fun hf => ?_, ?_⟩
    · unfold Gs.insr
      rw [if_pos (ltL_iff.2 h0), i1 (fun h => hf (by simp [h]))]
      simp
    · rw [List.getElem?_cons_succ, ← i2]
      have hne : f ≠ g := by
        rintro rfl
        rw [(cmpL_zero f f).2 rfl] at h0
        omega
      simp [hne]
theorem gw_by {w : World} {f g : Lb} {o : Int} (hf : Lu f) (hg : Lu g) (ho : cmpL f g = o) (X : GW w) :
    Calls Try.prog 37 #[f.val, g.val] X.it fun e w' => e = .returned (.int .i64 o) ∧ ∃ Y : GW w, w' = Y.it :=
  gw_of (fun W => by rw [← ho]; exact (rising_any f g W hf.lm hg.lm).mono fun e w' ⟨h1, h2⟩ => ⟨h1, h2.below⟩) X
set_option maxRecDepth 100000 in
set_option maxHeartbeats 4000000 in
theorem search_f {w : World} {v : Value} {l : List Lb} (f : Lb) (h : LS w v l) (up : UpL l) (hl : l.length ≤ 140737488355328) (hs : ∀ x ∈ l, Lu x) (hf : Lu f) :
    Calls Try.prog 39 #[v, f.val, .func (.func 37) #[] #[]] w fun e w' => ∃ (a : Nat), e = .returned (.tuple #[.int .i64 a, .bool (decide (f ∈ l))]) ∧ a ≤ l.length ∧ (f ∉ l → Gs.insr ltL f l = l.take a ++ f :: l.drop a) ∧ Below w.heap.size w w' := by
  have H : Hid (LS w v l) := h
  have HU : Hid (UpL l ∧ ∀ x ∈ l, Lu x) := ⟨up, hs⟩
  have HC : Hid (∀ (x : Lb) (o : Int), x ∈ l → cmpL x f = o → ∀ (W : World) (X : GW W), Calls Try.prog 37 #[x.val, f.val] X.it fun e w' => e = .returned (.int .i64 o) ∧ ∃ Y : GW W, w' = Y.it) := fun x o hx ho W X => gw_by (hs x hx) hf ho X
  have HI : Hid (∀ a, a ≤ l.length → (∀ t (h : t < l.length), t < a → cmpL (l[t]'h) f < 0) → (∀ t (h : t < l.length), a ≤ t → ¬ cmpL (l[t]'h) f < 0) → (f ∉ l → Gs.insr ltL f l = l.take a ++ f :: l.drop a) ∧ (decide (f ∈ l) = match l[a]? with | some x => decide (cmpL x f = 0) | none => false)) := ins_at f l up
  obtain ⟨ad, c, rfl, _⟩ := h.form
  rename_i q1
  clear h q1 up hs hf
  have H' : Hid (LS w (.slice ad l.length c) l) := H.out
  clear H
  obtain ⟨n, hn⟩ : ∃ n, l.length = n := ⟨_, rfl⟩
  rw [hn] at hl ⊢
  have HN : Hid (l.length = n) := hn
  clear hn
  obtain ⟨fb, hfb⟩ : ∃ fb, decide (f ∈ l) = fb := ⟨_, rfl⟩
  rw [hfb] at HI ⊢
  clear hfb
  obtain ⟨fp, ft⟩ := f
  simp only [Lb.val] at HC ⊢
  go_enter Try.func39, Try.ntmps39
  go_wp2_with fail
  obtain ⟨w1, hw1⟩ : ∃ w1, w.alloc (.cells #[.string (bs fp), .string (bs ft)] 35) = w1 := ⟨_, rfl⟩
  have FBn : Hid (RB w1 w.heap.size ⟨fp, ft⟩) := by rw [← hw1]; exact RB.new w ⟨fp, ft⟩
  have HB1 : Hid (Below w.heap.size w w1) := by rw [← hw1]; exact balloc _ _
  rw [hw1]
  clear hw1
  go_loopw [9, 10] (fun s9 s10 wr => ∃ (a e : Nat), s9 = .int .i64 a ∧ s10 = .int .i64 e ∧ a ≤ e ∧ e ≤ n ∧ (∀ t (h : t < l.length), t < a → cmpL (l[t]'h) ⟨fp, ft⟩ < 0) ∧ (∀ t (h : t < l.length), e ≤ t → ¬ cmpL (l[t]'h) ⟨fp, ft⟩ < 0) ∧ Below w1.heap.size w1 wr) (fun s9 s10 _ => (intOf s10).toNat - (intOf s9).toNat)
  case atStart => exact ⟨0, n, rfl, rfl, by omega, Nat.le_refl _, fun t h h' => by omega, fun t h h' => by have := HN.out; omega, Below.refl _ _⟩
  case round =>
    obtain ⟨a, e, rfl, rfl, hae, hen, h1, h2, hb⟩ := hrel
    have HX : Hid ((∀ t (h : t < l.length), t < a → cmpL (l[t]'h) ⟨fp, ft⟩ < 0) ∧ (∀ t (h : t < l.length), e ≤ t → ¬ cmpL (l[t]'h) ⟨fp, ft⟩ < 0)) := ⟨h1, h2⟩
    have HB : Hid (Below w1.heap.size w1 wr) := hb
    clear h1 h2 hb
    by_cases hlt : a < e
    · have k0 : IntKind.i64.wrap ((a : Int) + (e : Int)) = (a : Int) + (e : Int) := by rw [IntKind.wrap_i64]; omega
      obtain ⟨m, hm⟩ : ∃ m : Nat, ((a : Int) + (e : Int)) / 2 = (m : Int) := ⟨(a + e) / 2, by omega⟩
      have hm1 : a ≤ m := by omega
      have hm2 : m < e := by omega
      have k1 : (0 : Int) ≤ (m : Int) := by omega
      have k2 : (m : Int) < (n : Int) := by omega
      have k3 : m < n := by omega
      have hml : m < l.length := by have := HN.out; omega
      obtain ⟨b, off, ea, hbw, d0, d1⟩ := LS.at H'.out (bstep HB1.out HB.out) hml
      subst ea
      obtain ⟨o, ho⟩ : ∃ o, cmpL (l[m]'hml) ⟨fp, ft⟩ = o := ⟨_, rfl⟩
      have HO : Hid (cmpL (l[m]'hml) ⟨fp, ft⟩ = o) := ho
      have HCm : Hid (∀ (W : World) (X : GW W), Calls Try.prog 37 #[(l[m]'hml).val, .agg #[.string (bs fp), .string (bs ft)]] X.it fun e w' => e = .returned (.int .i64 o) ∧ ∃ Y : GW W, w' = Y.it) := HC.out _ o (List.getElem_mem hml) ho
      clear ho
      generalize l[m] = x at d0 d1 HCm
      obtain ⟨xp, xt⟩ := x
      simp only [Lb.val] at d0 d1 HCm
      go_wp2_with fail
      have hwl : w.heap.size < wr.heap.size := Nat.lt_of_lt_of_le FBn.out.lt HB.out.size
      obtain ⟨g0, g1, _, _⟩ := (FBn.out.later HB.out).cells
      simp only at g0 g1
      have hbr : b < wr.heap.size := Nat.lt_of_lt_of_le hbw (by have := HB1.out.size; have := HB.out.size; omega)
      have y0 : ∀ X : GW wr, X.it.cell? ⟨b, off + m * 2, none⟩ = some (.string (bs xp)) := fun X => X.cell (p := ⟨b, off + m * 2, none⟩) hbr d0
      have y1 : ∀ X : GW wr, X.it.cell? ⟨b, off + m * 2 + 1, none⟩ = some (.string (bs xt)) := fun X => X.cell (p := ⟨b, off + m * 2 + 1, none⟩) hbr d1
      have z0 : ∀ X : GW wr, X.it.cell? ⟨w.heap.size, 0, none⟩ = some (.string (bs fp)) := fun X => X.cell (p := ⟨w.heap.size, 0, none⟩) hwl g0
      have z1 : ∀ X : GW wr, X.it.cell? ⟨w.heap.size, 1, none⟩ = some (.string (bs ft)) := fun X => X.cell (p := ⟨w.heap.size, 1, none⟩) hwl g1
      have xne := gw_ne wr
      clear d0 d1 g0 g1
      refine wp_region_grow (by kernel_rfl) (by kernel_rfl) ?_
      repeat (go_big_quiet_step (fail))
      go_big_quiet_step (exact HCm.out _ _)
      repeat (go_big_quiet_step (fail))
      refine wpQuiet_nil ?_
      rintro w2 ⟨⟨w2, bx⟩, rfl⟩
      have HB5 : Hid (Below w1.heap.size w1 w2) := bstep HB.out bx
      clear bx y0 y1 z0 z1
      by_cases hoo : o < 0
      · have HOO : Hid (o < 0) := hoo
        go_wp2_with fail
        go_roundw
        case rel =>
          refine ⟨m + 1, e, by go_num, rfl, by omega, hen, fun t h h' => ?_, fun t h h' => by have := HX.out.2 t h h'; omega, HB5.out⟩
          rcases Nat.lt_or_eq_of_le (show t ≤ m by omega) with h3 | rfl
          · have := List.pairwise_iff_getElem.1 HU.out.1 t m h hml h3
            exact ltL_trans this (by rw [HO.out]; exact HOO.out)
          · rw [HO.out]; exact HOO.out
        case measure => simp [intOf]; omega
      · have HOO : Hid (¬ o < 0) := hoo
        go_wp2_with fail
        go_roundw
        case rel =>
          refine ⟨a, m, rfl, rfl, hm1, by omega, HX.out.1, fun t h h' h4 => ?_, HB5.out⟩
          rcases Nat.lt_or_eq_of_le h' with h3 | rfl
          · have := List.pairwise_iff_getElem.1 HU.out.1 m t hml h h3
            exact HOO.out (by rw [← HO.out]; exact ltL_trans this h4)
          · rw [HO.out] at h4; exact HOO.out h4
        case measure => simp [intOf]; omega
    · obtain rfl : a = e := by omega
      have HEND : Hid ((⟨fp, ft⟩ ∉ l → Gs.insr ltL ⟨fp, ft⟩ l = l.take a ++ ⟨fp, ft⟩ :: l.drop a) ∧ (fb = match l[a]? with | some x => decide (cmpL x ⟨fp, ft⟩ = 0) | none => false)) := HI.out a (by have := HN.out; omega) HX.out.1 (fun t h h' => by have := HX.out.2 t h h'; omega)
      by_cases han : a < n
      · have k1 : (0 : Int) ≤ (a : Int) := by omega
        have k2 : (a : Int) < (n : Int) := by omega
        have hml : a < l.length := by have := HN.out; omega
        obtain ⟨b, off, ea, hbw, d0, d1⟩ := LS.at H'.out (bstep HB1.out HB.out) hml
        subst ea
        obtain ⟨o, ho⟩ : ∃ o, cmpL (l[a]'hml) ⟨fp, ft⟩ = o := ⟨_, rfl⟩
        have HO : Hid (cmpL (l[a]'hml) ⟨fp, ft⟩ = o) := ho
        have HCm : Hid (∀ (W : World) (X : GW W), Calls Try.prog 37 #[(l[a]'hml).val, .agg #[.string (bs fp), .string (bs ft)]] X.it fun e w' => e = .returned (.int .i64 o) ∧ ∃ Y : GW W, w' = Y.it) := HC.out _ o (List.getElem_mem hml) ho
        clear ho
        generalize l[a] = x at d0 d1 HCm
        obtain ⟨xp, xt⟩ := x
        simp only [Lb.val] at d0 d1 HCm
        go_wp2_with fail
        have hwl : w.heap.size < wr.heap.size := Nat.lt_of_lt_of_le FBn.out.lt HB.out.size
        obtain ⟨g0, g1, _, _⟩ := (FBn.out.later HB.out).cells
        simp only at g0 g1
        have hbr : b < wr.heap.size := Nat.lt_of_lt_of_le hbw (by have := HB1.out.size; have := HB.out.size; omega)
        have y0 : ∀ X : GW wr, X.it.cell? ⟨b, off + a * 2, none⟩ = some (.string (bs xp)) := fun X => X.cell (p := ⟨b, off + a * 2, none⟩) hbr d0
        have y1 : ∀ X : GW wr, X.it.cell? ⟨b, off + a * 2 + 1, none⟩ = some (.string (bs xt)) := fun X => X.cell (p := ⟨b, off + a * 2 + 1, none⟩) hbr d1
        have z0 : ∀ X : GW wr, X.it.cell? ⟨w.heap.size, 0, none⟩ = some (.string (bs fp)) := fun X => X.cell (p := ⟨w.heap.size, 0, none⟩) hwl g0
        have z1 : ∀ X : GW wr, X.it.cell? ⟨w.heap.size, 1, none⟩ = some (.string (bs ft)) := fun X => X.cell (p := ⟨w.heap.size, 1, none⟩) hwl g1
        have xne := gw_ne wr
        clear d0 d1 g0 g1
        refine wp_region_grow (by kernel_rfl) (by kernel_rfl) ?_
        repeat (go_big_quiet_step (fail))
        go_big_quiet_step (exact HCm.out _ _)
        repeat (go_big_quiet_step (fail))
        refine wpQuiet_nil ?_
        rintro w2 ⟨⟨w2, bx⟩, rfl⟩
        have HB5 : Hid (Below w1.heap.size w1 w2) := bstep HB.out bx
        clear bx y0 y1 z0 z1
        go_wp2_with fail
        go_ret2
        refine ⟨a, ?_, by have := HN.out; omega, HEND.out.1, bstep HB1.out HB5.out⟩
        have e := HEND.out.2
        rw [List.getElem?_eq_getElem hml] at e
        simp only [HO.out] at e
        rw [e]; rfl
      · obtain rfl : a = n := by omega
        go_wp2_with fail
        have xne := gw_ne wr
        refine wp_region_grow (by kernel_rfl) (by kernel_rfl) ?_
        repeat (go_big_quiet_step (fail))
        refine wpQuiet_nil ?_
        rintro w2 ⟨⟨w2, bx⟩, rfl⟩
        have HB5 : Hid (Below w1.heap.size w1 w2) := bstep HB.out bx
        clear bx
        go_wp2_with fail
        go_ret2
        refine ⟨a, ?_, by have := HN.out; omega, HEND.out.1, bstep HB1.out HB5.out⟩
        have e := HEND.out.2
        rw [List.getElem?_eq_none (by have := HN.out; omega)] at e
        rw [e]; rfl
end Go.Proofs.Ytclbnjfmipifnaa
