/-
  Where a file would stand in a rising row: slices.BinarySearchFunc.
-/
import Derived.Test.YtinhdjoidbcfaaaDel2
namespace Go.Proofs.Ytinhdjoidbcfaaa
open Go.RowKit

theorem ins_at (f : Fl) : ∀ (l : List Fl) (a : Nat), a ≤ l.length → (∀ t (h : t < l.length), t < a → cf (l[t]'h).path f.path < 0) → (∀ t (h : t < l.length), a ≤ t → ¬ cf (l[t]'h).path f.path < 0) → insF f l = l.take a ++ f :: l.drop a
  | [], a, _, _, _ => by simp [insF]
  | g :: l, 0, _, _, h2 => by
    unfold insF
    have h0 : ¬ cf g.path f.path < 0 := h2 0 (by simp) (Nat.le_refl _)
    rw [if_neg h0]; simp
  | g :: l, a + 1, ha, h1, h2 => by
    unfold insF
    have h0 : cf g.path f.path < 0 := h1 0 (by simp) (by omega)
    rw [if_pos h0, ins_at f l a (by simpa using ha) (fun t h hta => by have := h1 (t + 1) (by simpa using h) (by omega); rwa [List.getElem_cons_succ] at this) (fun t h hta => by have := h2 (t + 1) (by simpa using h) (by omega); rwa [List.getElem_cons_succ] at this)]
    simp

set_option maxHeartbeats 1000000 in
theorem byPath_any (f g : Fl) (w : World) (hf : f.path.length ≤ 140737488355328) (hg : g.path.length ≤ 140737488355328) : Calls Try.prog 63 #[f.val, g.val] w fun e w' => e = .returned (.int .i64 (cf f.path g.path)) ∧ Below w.heap.size w w' := by
  obtain ⟨p, t, b, s⟩ := f
  obtain ⟨p', t', b', s'⟩ := g
  have HC : Hid (∀ w : World, Calls Try.prog 31 #[.string (bs p), .string (bs p')] w fun e w' => e = .returned (.int .i64 (cf p p')) ∧ Laid w w') := fun w => cmp_any p p' w (by simp only at hf; omega) (by simp only at hg; omega)
  simp only [Fl.val]
  clear hf hg
  generalize cf p p' = o at *
  go_enter Try.func63, Try.ntmps63
  go_wp2_with fail
  refine (HC.out _).mono ?_
  rintro e w1 ⟨rfl, hb1⟩
  have HB : Hid (Below w.heap.size w w1) := bstep (bstep (balloc _ _) (balloc _ _)) hb1.below
  clear hb1
  go_wp2_with fail
  go_ret
  exact ⟨rfl, HB.out⟩
theorem gw_by {w : World} {f g : Fl} {o : Int} (hf : f.path.length ≤ 140737488355328) (hg : g.path.length ≤ 140737488355328) (ho : cf f.path g.path = o) (X : GW w) :
    Calls Try.prog 63 #[f.val, g.val] X.it fun e w' => e = .returned (.int .i64 o) ∧ ∃ Y : GW w, w' = Y.it :=
  gw_of (fun W => by rw [← ho]; exact byPath_any f g W hf hg) X

set_option maxRecDepth 100000 in
set_option maxHeartbeats 4000000 in
theorem search_f {w : World} {v : Value} {l : List Fl} (f : Fl) (h : FS w v l) (up : RUp Fl.path l) (hl : l.length ≤ 140737488355328) (hs : ∀ x ∈ l, x.path.length ≤ 140737488355328) (hf : f.path.length ≤ 140737488355328) :
    Calls Try.prog 62 #[v, f.val, .func (.func 63) #[] #[]] w fun e w' => ∃ (a : Nat) (b : Bool), e = .returned (.tuple #[.int .i64 a, .bool b]) ∧ a ≤ l.length ∧ insF f l = l.take a ++ f :: l.drop a ∧ Below w.heap.size w w' := by
  have H : Hid (FS w v l) := h
  have HU : Hid (RUp Fl.path l ∧ ∀ x ∈ l, x.path.length ≤ 140737488355328) := ⟨up, hs⟩
  have HC : Hid (∀ (x : Fl) (o : Int), x ∈ l → cf x.path f.path = o → ∀ (W : World) (X : GW W), Calls Try.prog 63 #[x.val, f.val] X.it fun e w' => e = .returned (.int .i64 o) ∧ ∃ Y : GW W, w' = Y.it) := fun x o hx ho W X => gw_by (hs x hx) hf ho X
  have HI : Hid (∀ a, a ≤ l.length → (∀ t (h : t < l.length), t < a → cf (l[t]'h).path f.path < 0) → (∀ t (h : t < l.length), a ≤ t → ¬ cf (l[t]'h).path f.path < 0) → insF f l = l.take a ++ f :: l.drop a) := ins_at f l
  obtain ⟨ad, c, rfl, _⟩ := h.form
  rename_i q1
  clear h q1 up hs hf
  have H' : Hid (FS w (.slice ad l.length c) l) := H.out
  clear H
  obtain ⟨n, hn⟩ : ∃ n, l.length = n := ⟨_, rfl⟩
  rw [hn] at hl ⊢
  have HN : Hid (l.length = n) := hn
  clear hn
  obtain ⟨fp, ft, fb, fs⟩ := f
  simp only [Fl.val] at HC ⊢
  go_enter Try.func62, Try.ntmps62
  go_wp2_with fail
  obtain ⟨w1, hw1⟩ : ∃ w1, w.alloc (.cells #[.string (bs fp), .string (bs ft), .int .i64 fb, .int .i64 fs] 40) = w1 := ⟨_, rfl⟩
  have FBn : Hid (FB w1 w.heap.size ⟨fp, ft, fb, fs⟩) := by rw [← hw1]; exact FB.new w ⟨fp, ft, fb, fs⟩ 40
  have HB1 : Hid (Below w.heap.size w w1) := by rw [← hw1]; exact balloc _ _
  rw [hw1]
  clear hw1
  go_loopw [9, 10] (fun s9 s10 wr => ∃ (a e : Nat), s9 = .int .i64 a ∧ s10 = .int .i64 e ∧ a ≤ e ∧ e ≤ n ∧ (∀ t (h : t < l.length), t < a → cf (l[t]'h).path fp < 0) ∧ (∀ t (h : t < l.length), e ≤ t → ¬ cf (l[t]'h).path fp < 0) ∧ Below w1.heap.size w1 wr) (fun s9 s10 _ => (intOf s10).toNat - (intOf s9).toNat)
  case atStart => exact ⟨0, n, rfl, rfl, by omega, Nat.le_refl _, fun t h h' => by omega, fun t h h' => by have := HN.out; omega, Below.refl _ _⟩
  case round =>
    obtain ⟨a, e, rfl, rfl, hae, hen, h1, h2, hb⟩ := hrel
    have HX : Hid ((∀ t (h : t < l.length), t < a → cf (l[t]'h).path fp < 0) ∧ (∀ t (h : t < l.length), e ≤ t → ¬ cf (l[t]'h).path fp < 0)) := ⟨h1, h2⟩
    have HB : Hid (Below w1.heap.size w1 wr) := hb
    clear h1 h2 hb
    by_cases hlt : a < e
    · have k0 : IntKind.i64.wrap ((a : Int) + (e : Int)) = (a : Int) + (e : Int) := by rw [IntKind.wrap_i64]; omega
      obtain ⟨m, hm⟩ : ∃ m : Nat, ((a : Int) + (e : Int)) / 2 = (m : Int) := ⟨(a + e) / 2, by omega⟩
      have hm1 : a ≤ m := by omega
      have hm2 : m < e := by omega
      have k1 : (0 : Int) ≤ (m : Int) := by omega
      have k2 : (m : Int) < (n : Int) := by omega
      have k3 : m < n := by omega
      have hml : m < l.length := by have := HN.out; omega
      obtain ⟨b, off, ea, hbw, d0, d1, d2, d3⟩ := FS.at H'.out (bstep HB1.out HB.out) hml
      subst ea
      obtain ⟨o, ho⟩ : ∃ o, cf (l[m]'hml).path fp = o := ⟨_, rfl⟩
      have HO : Hid (cf (l[m]'hml).path fp = o) := ho
      have HCm : Hid (∀ (W : World) (X : GW W), Calls Try.prog 63 #[(l[m]'hml).val, .agg #[.string (bs fp), .string (bs ft), .int .i64 fb, .int .i64 fs]] X.it fun e w' => e = .returned (.int .i64 o) ∧ ∃ Y : GW W, w' = Y.it) := HC.out _ o (List.getElem_mem hml) ho
      clear ho
      generalize l[m] = x at d0 d1 d2 d3 HCm
      obtain ⟨xp, xt, xb, xs⟩ := x
      simp only [Fl.val] at d0 d1 d2 d3 HCm
      go_wp2_with fail
      have hwl : w.heap.size < wr.heap.size := Nat.lt_of_lt_of_le FBn.out.lt HB.out.size
      obtain ⟨g0, g1, g2, g3, _⟩ := FBn.out.later HB.out
      simp only at g0 g1 g2 g3
      have hbr : b < wr.heap.size := Nat.lt_of_lt_of_le hbw (by have := HB1.out.size; have := HB.out.size; omega)
      have y0 : ∀ X : GW wr, X.it.cell? ⟨b, off + m * 4, none⟩ = some (.string (bs xp)) := fun X => X.cell (p := ⟨b, off + m * 4, none⟩) hbr d0
      have y1 : ∀ X : GW wr, X.it.cell? ⟨b, off + m * 4 + 1, none⟩ = some (.string (bs xt)) := fun X => X.cell (p := ⟨b, off + m * 4 + 1, none⟩) hbr d1
      have y2 : ∀ X : GW wr, X.it.cell? ⟨b, off + m * 4 + 2, none⟩ = some (.int .i64 xb) := fun X => X.cell (p := ⟨b, off + m * 4 + 2, none⟩) hbr d2
      have y3 : ∀ X : GW wr, X.it.cell? ⟨b, off + m * 4 + 3, none⟩ = some (.int .i64 xs) := fun X => X.cell (p := ⟨b, off + m * 4 + 3, none⟩) hbr d3
      have z0 : ∀ X : GW wr, X.it.cell? ⟨w.heap.size, 0, none⟩ = some (.string (bs fp)) := fun X => X.cell (p := ⟨w.heap.size, 0, none⟩) hwl g0
      have z1 : ∀ X : GW wr, X.it.cell? ⟨w.heap.size, 1, none⟩ = some (.string (bs ft)) := fun X => X.cell (p := ⟨w.heap.size, 1, none⟩) hwl g1
      have z2 : ∀ X : GW wr, X.it.cell? ⟨w.heap.size, 2, none⟩ = some (.int .i64 fb) := fun X => X.cell (p := ⟨w.heap.size, 2, none⟩) hwl g2
      have z3 : ∀ X : GW wr, X.it.cell? ⟨w.heap.size, 3, none⟩ = some (.int .i64 fs) := fun X => X.cell (p := ⟨w.heap.size, 3, none⟩) hwl g3
      have xne := gw_ne wr
      clear d0 d1 d2 d3 g0 g1 g2 g3
      refine wp_region_grow (by kernel_rfl) (by kernel_rfl) ?_
      repeat (go_big_quiet_step (fail))
      go_big_quiet_step (exact HCm.out _ _)
      repeat (go_big_quiet_step (fail))
      refine wpQuiet_nil ?_
      rintro w2 ⟨⟨w2, bx⟩, rfl⟩
      have HB5 : Hid (Below w1.heap.size w1 w2) := bstep HB.out bx
      clear bx y0 y1 y2 y3 z0 z1 z2 z3
      by_cases hoo : o < 0
      · have HOO : Hid (o < 0) := hoo
        go_wp2_with fail
        go_roundw
        case rel =>
          refine ⟨m + 1, e, by go_num, rfl, by omega, hen, fun t h h' => ?_, fun t h h' => by have := HX.out.2 t h h'; omega, HB5.out⟩
          rcases Nat.lt_or_eq_of_le (show t ≤ m by omega) with h3 | rfl
          · have := List.pairwise_iff_getElem.1 HU.out.1 t m h hml h3
            exact cf_trans this (by rw [HO.out]; exact HOO.out)
          · rw [HO.out]; exact HOO.out
        case measure => simp [intOf]; omega
      · have HOO : Hid (¬ o < 0) := hoo
        go_wp2_with fail
        go_roundw
        case rel =>
          refine ⟨a, m, rfl, rfl, hm1, by omega, HX.out.1, fun t h h' h4 => ?_, HB5.out⟩
          rcases Nat.lt_or_eq_of_le h' with h3 | rfl
          · have := List.pairwise_iff_getElem.1 HU.out.1 m t hml h h3
            exact HOO.out (by rw [← HO.out]; exact cf_trans this h4)
          · rw [HO.out] at h4; exact HOO.out h4
        case measure => simp [intOf]; omega
    · obtain rfl : a = e := by omega
      have HEND : Hid (insF ⟨fp, ft, fb, fs⟩ l = l.take a ++ ⟨fp, ft, fb, fs⟩ :: l.drop a) := HI.out a (by have := HN.out; omega) HX.out.1 (fun t h h' => by have := HX.out.2 t h h'; omega)
      by_cases han : a < n
      · have k1 : (0 : Int) ≤ (a : Int) := by omega
        have k2 : (a : Int) < (n : Int) := by omega
        have hml : a < l.length := by have := HN.out; omega
        obtain ⟨b, off, ea, hbw, d0, d1, d2, d3⟩ := FS.at H'.out (bstep HB1.out HB.out) hml
        subst ea
        obtain ⟨o, ho⟩ : ∃ o, cf (l[a]'hml).path fp = o := ⟨_, rfl⟩
        have HO : Hid (cf (l[a]'hml).path fp = o) := ho
        have HCm : Hid (∀ (W : World) (X : GW W), Calls Try.prog 63 #[(l[a]'hml).val, .agg #[.string (bs fp), .string (bs ft), .int .i64 fb, .int .i64 fs]] X.it fun e w' => e = .returned (.int .i64 o) ∧ ∃ Y : GW W, w' = Y.it) := HC.out _ o (List.getElem_mem hml) ho
        clear ho
        generalize l[a] = x at d0 d1 d2 d3 HCm
        obtain ⟨xp, xt, xb, xs⟩ := x
        simp only [Fl.val] at d0 d1 d2 d3 HCm
        go_wp2_with fail
        have hwl : w.heap.size < wr.heap.size := Nat.lt_of_lt_of_le FBn.out.lt HB.out.size
        obtain ⟨g0, g1, g2, g3, _⟩ := FBn.out.later HB.out
        simp only at g0 g1 g2 g3
        have hbr : b < wr.heap.size := Nat.lt_of_lt_of_le hbw (by have := HB1.out.size; have := HB.out.size; omega)
        have y0 : ∀ X : GW wr, X.it.cell? ⟨b, off + a * 4, none⟩ = some (.string (bs xp)) := fun X => X.cell (p := ⟨b, off + a * 4, none⟩) hbr d0
        have y1 : ∀ X : GW wr, X.it.cell? ⟨b, off + a * 4 + 1, none⟩ = some (.string (bs xt)) := fun X => X.cell (p := ⟨b, off + a * 4 + 1, none⟩) hbr d1
        have y2 : ∀ X : GW wr, X.it.cell? ⟨b, off + a * 4 + 2, none⟩ = some (.int .i64 xb) := fun X => X.cell (p := ⟨b, off + a * 4 + 2, none⟩) hbr d2
        have y3 : ∀ X : GW wr, X.it.cell? ⟨b, off + a * 4 + 3, none⟩ = some (.int .i64 xs) := fun X => X.cell (p := ⟨b, off + a * 4 + 3, none⟩) hbr d3
        have z0 : ∀ X : GW wr, X.it.cell? ⟨w.heap.size, 0, none⟩ = some (.string (bs fp)) := fun X => X.cell (p := ⟨w.heap.size, 0, none⟩) hwl g0
        have z1 : ∀ X : GW wr, X.it.cell? ⟨w.heap.size, 1, none⟩ = some (.string (bs ft)) := fun X => X.cell (p := ⟨w.heap.size, 1, none⟩) hwl g1
        have z2 : ∀ X : GW wr, X.it.cell? ⟨w.heap.size, 2, none⟩ = some (.int .i64 fb) := fun X => X.cell (p := ⟨w.heap.size, 2, none⟩) hwl g2
        have z3 : ∀ X : GW wr, X.it.cell? ⟨w.heap.size, 3, none⟩ = some (.int .i64 fs) := fun X => X.cell (p := ⟨w.heap.size, 3, none⟩) hwl g3
        have xne := gw_ne wr
        clear d0 d1 d2 d3 g0 g1 g2 g3
        refine wp_region_grow (by kernel_rfl) (by kernel_rfl) ?_
        repeat (go_big_quiet_step (fail))
        go_big_quiet_step (exact HCm.out _ _)
        repeat (go_big_quiet_step (fail))
        refine wpQuiet_nil ?_
        rintro w2 ⟨⟨w2, bx⟩, rfl⟩
        have HB5 : Hid (Below w1.heap.size w1 w2) := bstep HB.out bx
        clear bx y0 y1 y2 y3 z0 z1 z2 z3
        go_wp2_with fail
        go_ret2
        exact ⟨a, _, rfl, by omega, HEND.out, bstep HB1.out HB5.out⟩
      · obtain rfl : a = n := by omega
        go_wp2_with fail
        have xne := gw_ne wr
        refine wp_region_grow (by kernel_rfl) (by kernel_rfl) ?_
        repeat (go_big_quiet_step (fail))
        refine wpQuiet_nil ?_
        rintro w2 ⟨⟨w2, bx⟩, rfl⟩
        have HB5 : Hid (Below w1.heap.size w1 w2) := bstep HB.out bx
        clear bx
        go_wp2_with fail
        go_ret2
        exact ⟨a, _, rfl, by omega, HEND.out, bstep HB1.out HB5.out⟩
end Go.Proofs.Ytinhdjoidbcfaaa
