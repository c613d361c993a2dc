/-
  The document's answers: Same, Keep, Find, File.
-/
import Derived.Test.YtgibjnfaagnbfadGreatDoorPkg3
import Derived.Test.YtgibjnfaagnbfadGreatDoorRef
namespace Go.Proofs.YtgibjnfaagnbfadGreatDoor
open Go.RowKit

set_option maxRecDepth 100000 in
set_option maxHeartbeats 4000000 in
theorem ksame_any {w : World} {va vb : Value} {A B : List Fl} (h1 : FS w va A) (h2 : FS w vb B) (sm : FSm A) :
    Calls Tryz.prog 14 #[va, vb] w fun e w' => e = .returned (.bool (leq A B)) ∧ Below w.heap.size w w' := by
  have HA : Hid (FS w va A) := h1
  have HB : Hid (FS w vb B) := h2
  have hlen : A.length ≤ 4194304 := sm.len
  clear sm
  obtain ⟨a, c, rfl, _⟩ := h1.form
  obtain ⟨a2, c2, rfl, _⟩ := h2.form
  rename_i q1 q2
  clear h1 h2 q1 q2
  obtain ⟨n, hn⟩ : ∃ n, A.length = n := ⟨_, rfl⟩
  obtain ⟨m, hm⟩ : ∃ m, B.length = m := ⟨_, rfl⟩
  have HA' : Hid (FS w (.slice a A.length c) A) := HA.out
  have HB' : Hid (FS w (.slice a2 B.length c2) B) := HB.out
  clear HA HB
  rw [hn] at hlen ⊢
  rw [hm]
  by_cases hnm : n = m
  · subst hnm
    obtain ⟨r, hr⟩ : ∃ r, leq A B = r := ⟨_, rfl⟩
    rw [hr]
    have HR : Hid (leq (A.drop 0) (B.drop 0) = r) := hr
    have HN : Hid (A.length = n ∧ B.length = n) := ⟨hn, hm⟩
    clear hn hm hr
    have q1 := neq_run
    have q2 := guard_run
    go_enter Tryz.func14, Tryz.ntmps14
    go_wp2_with fail
    go_loopw [5] (fun i wr => ∃ k : Nat, k ≤ n ∧ i = .int .i64 k ∧ Below w.heap.size w wr ∧ leq (A.drop k) (B.drop k) = r) (fun i _ => n - (intOf i).toNat)
    case atStart => exact ⟨0, by omega, rfl, Below.refl _ _, HR.out⟩
    case round =>
      obtain ⟨k, hk, rfl, hb, hl⟩ := hrel
      have HW : Hid (Below w.heap.size w wr) := hb
      have HL : Hid (leq (A.drop k) (B.drop k) = r) := hl
      clear hb hl
      by_cases hlt : k < n
      · have hkA : k < A.length := by have := HN.out; omega
        have hkB : k < B.length := by have := HN.out; omega
        obtain ⟨b, off, ea, hbw, d0, d1, d2, d3⟩ := FS.at HA'.out HW.out hkA
        obtain ⟨b2, off2, ea2, hbw2, e0, e1, e2, e3⟩ := FS.at HB'.out HW.out hkB
        subst ea ea2
        have HS2 : Hid ((feq (A[k]'hkA) (B[k]'hkB) && leq (A.drop (k + 1)) (B.drop (k + 1))) = r) := by
          have h1 := HL.out
          rw [leq_step A B k hkA hkB] at h1; exact h1
        obtain ⟨f, hf⟩ : ∃ f, A[k] = f := ⟨_, rfl⟩
        obtain ⟨g, hg⟩ : ∃ g, B[k] = g := ⟨_, rfl⟩
        rw [hf] at d0 d1 d2 d3 HS2
        rw [hg] at e0 e1 e2 e3 HS2
        clear hf hg
        obtain ⟨p, t, bl, s⟩ := f
        obtain ⟨p', t', bl', s'⟩ := g
        simp only at d0 d1 d2 d3 e0 e1 e2 e3
        have k1 : (0 : Int) ≤ (k : Int) := by omega
        have k2 : (k : Int) < (n : Int) := by omega
        have hbr : b < wr.heap.size := Nat.lt_of_lt_of_le hbw HW.out.size
        have hbr2 : b2 < wr.heap.size := Nat.lt_of_lt_of_le hbw2 HW.out.size
        have y0 : ∀ X : GW wr, X.it.cell? ⟨b, off + k * 4, none⟩ = some (.string (bs p)) := fun X => X.cell hbr d0
        have y1 : ∀ X : GW wr, X.it.cell? ⟨b, off + k * 4 + 1, none⟩ = some (.string (bs t)) := fun X => X.cell hbr d1
        have y2 : ∀ X : GW wr, X.it.cell? ⟨b, off + k * 4 + 2, none⟩ = some (.int .i64 bl) := fun X => X.cell hbr d2
        have y3 : ∀ X : GW wr, X.it.cell? ⟨b, off + k * 4 + 3, none⟩ = some (.int .i64 s) := fun X => X.cell hbr d3
        have x0 : ∀ X : GW wr, X.it.cell? ⟨b2, off2 + k * 4, none⟩ = some (.string (bs p')) := fun X => X.cell hbr2 e0
        have x1 : ∀ X : GW wr, X.it.cell? ⟨b2, off2 + k * 4 + 1, none⟩ = some (.string (bs t')) := fun X => X.cell hbr2 e1
        have x2 : ∀ X : GW wr, X.it.cell? ⟨b2, off2 + k * 4 + 2, none⟩ = some (.int .i64 bl') := fun X => X.cell hbr2 e2
        have x3 : ∀ X : GW wr, X.it.cell? ⟨b2, off2 + k * 4 + 3, none⟩ = some (.int .i64 s') := fun X => X.cell hbr2 e3
        have xne := gw_ne wr
        clear d0 d1 d2 d3 e0 e1 e2 e3
        go_wp2_with fail
        refine wp_region_grow (by kernel_rfl) (by kernel_rfl) ?_
        repeat (go_big_quiet_step (fail))
        refine wpQuiet_nil ?_
        rintro w2 ⟨⟨w2, bx⟩, rfl⟩
        have HB5 : Hid (Below w.heap.size w w2) := bstep HW.out bx
        clear bx y0 y1 y2 y3 x0 x1 x2 x3
        generalize feq ⟨p, t, bl, s⟩ ⟨p', t', bl', s'⟩ = q at *
        cases q
        · go_wp2_with fail
          go_ret
          refine ⟨?_, HB5.out⟩
          have h1 := HS2.out
          rw [Bool.false_and] at h1
          rw [← h1]; rfl
        · go_wp2_with fail
          go_roundw
          case rel => exact ⟨k + 1, by omega, by go_num, HB5.out, by have h1 := HS2.out; rwa [Bool.true_and] at h1⟩
          case measure => simp [intOf]; omega
      · obtain rfl : k = n := by omega
        go_wp2_with fail
        go_ret
        refine ⟨?_, HW.out⟩
        have h1 := HL.out
        rw [List.drop_eq_nil_of_le (by have := HN.out; omega), List.drop_eq_nil_of_le (by have := HN.out; omega)] at h1
        rw [← h1]; rfl
  · have hd : ¬ (n : Int) = (m : Int) := by omega
    have e0 : leq A B = false := leq_len (by omega)
    rw [e0]
    clear hn hm hnm
    go_enter Tryz.func14, Tryz.ntmps14
    go_wp2_with fail
    go_ret
    exact ⟨rfl, Below.refl _ _⟩

end Go.Proofs.YtgibjnfaagnbfadGreatDoor
