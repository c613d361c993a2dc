/-
  The package: one file, and files together.
-/
import Derived.Test.YtfdcfcalbongeaaGreatJSEq
import Derived.Deep.RegionHeld3
import Derived.BigQuiet
namespace Go.Proofs.YtfdcfcalbongeaaGreat
open Go.RowKit

structure GW (w : World) where
  it : World
  below : Below w.heap.size w it
theorem gw_ne (w : World) : Nonempty (GW w) := ⟨⟨w, Below.refl _ _⟩⟩
/-- a region that draws its order, whose operations read and whose callees grow memory -/
theorem wp_region_grow {id : Nat} {Q : Exit → Act → World → Prop} {a : Act} {w : World} {l : List Oper} (hm : Tryz.prog.follows .mixedOrders = true) (hB : Region.lexB .any l.toArray = true)
    (h : wpQuiet Tryz.prog l.toArray (fun w' => ∃ X : GW w, w' = X.it) (fun a' => ∀ w', (∃ X : GW w, w' = X.it) → Q .normal a' w') l a) : (Code.region id l.toArray true).wp Tryz.prog Q a w :=
  wp_region_quiet (C := fun w' => ∃ X : GW w, w' = X.it) hm hB ⟨⟨w.drew, (Below.refl _ _).drew⟩, rfl⟩ (by simpa using h)
theorem GW.cell {w : World} (X : GW w) {p : Addr} {v : Value} (hp : p.block < w.heap.size) (h : w.cell? p = some v) : X.it.cell? p = some v := by rw [X.below.cell hp]; exact h
theorem gw_of {w : World} {f : Nat} {args : Array Value} {v : Value} (h : ∀ W : World, Calls Tryz.prog f args W fun e w' => e = .returned v ∧ Below W.heap.size W w') (X : GW w) :
    Calls Tryz.prog f args X.it fun e w' => e = .returned v ∧ ∃ Y : GW w, w' = Y.it :=
  (h X.it).mono fun _ w' ⟨he, hl⟩ => ⟨he, ⟨w', bstep X.below hl⟩, rfl⟩
theorem bd (w : World) (n : Nat) : Below w.heap.size w (w.drewN n) := ⟨rfl, rfl, rfl, Nat.le_refl _, fun _ _ => rfl⟩
theorem wrap_small (k : Nat) (h : k ≤ 9223372036854775807) : IntKind.i64.wrap (k : Int) = (k : Int) := by rw [IntKind.wrap_i64]; omega

theorem c_tgt : (ByteArray.mk #[84, 65, 82, 71, 69, 84, 83]).toList = tgt := ByteArray.toList_mk tgt
set_option maxRecDepth 100000 in
set_option maxHeartbeats 1000000 in
theorem isManifest_any (f : Fl) (w : World) (hf : Fok f) : Calls Tryz.prog 75 #[f.val] w fun e w' => e = .returned (.bool (isM f.path)) ∧ Below w.heap.size w w' := by
  obtain ⟨p, t, b, s⟩ := f
  have HF : Hid (Fok ⟨p, t, b, s⟩) := hf
  clear hf
  simp only [Fl.val]
  go_enter Tryz.func75, Tryz.ntmps75
  go_wp2_with fail
  refine (base_any p _ (by have := HF.out.path; simp only at this; omega)).mono ?_
  rintro e w1 ⟨rfl, rfl⟩
  have e1 := c_tgt
  have e2 := bs_toList (base p)
  go_wp2_with fail
  go_ret
  exact ⟨rfl, balloc _ _⟩

set_option maxRecDepth 100000 in
set_option maxHeartbeats 1000000 in
theorem sfits_any (f : Fl) (w : World) (hf : Fok f) : Calls Tryz.prog 56 #[f.val] w fun e w' => e = .returned (.bool (fits f)) ∧ Below w.heap.size w w' := by
  obtain ⟨p, t, b, s⟩ := f
  have HF : Hid (Fok ⟨p, t, b, s⟩) := hf
  clear hf
  have HI : Hid (∀ w : World, Calls Tryz.prog 75 #[.agg #[.string (bs p), .string (bs t), .int .i64 b, .int .i64 s]] w fun e w' => e = .returned (.bool (isM p)) ∧ Below w.heap.size w w') := fun w => isManifest_any ⟨p, t, b, s⟩ w HF.out
  simp only [Fl.val]
  unfold fits
  simp only
  have ee := isE t
  cases hm : isM p
  · rw [hm] at HI
    have HW : Hid (∀ (n m : Int) (w : World), Calls Tryz.prog 77 #[.int .i64 n, .int .i64 m] w fun e w' => e = .returned (.bool (decide (0 ≤ n) && decide (n ≤ m))) ∧ w' = w) := within_any
    cases ht : t.isEmpty
    · have htb : (t == []) = false := by
        cases t with
        | nil => simp at ht
        | cons x r => rfl
      simp only [htb, Bool.false_eq_true, if_false, Bool.false_and]
      clear htb
      rw [ht] at ee
      go_enter Tryz.func56, Tryz.ntmps56
      go_wp2_with fail
      refine (HI.out _).mono ?_
      rintro e w1 ⟨rfl, hb1⟩
      have hF : Hid (FB w1 w.heap.size ⟨p, t, b, s⟩) := (FB.new w ⟨p, t, b, s⟩ 30).later hb1
      have HB : Hid (Below w.heap.size w w1) := bstep (balloc w _) hb1
      obtain ⟨c0, c1, c2, c3, hlt⟩ := hF.out
      simp only at c0 c1 c2 c3
      clear hb1
      go_wp2_with fail
      go_ret
      exact ⟨rfl, HB.out⟩
    · have htb : (t == []) = true := by
        cases t with
        | nil => rfl
        | cons x r => simp at ht
      simp only [htb, Bool.false_eq_true, if_false, Bool.true_and]
      clear htb
      rw [ht] at ee
      cases hbw : (decide (0 ≤ b) && decide (b ≤ 1152921504606846976))
      · have HWb : Hid (∀ (w : World), Calls Tryz.prog 77 #[.int .i64 b, .int .i64 1152921504606846976] w fun e w' => e = .returned (.bool false) ∧ w' = w) := by rw [← hbw]; exact HW.out _ _
        clear hbw
        go_enter Tryz.func56, Tryz.ntmps56
        go_wp2_with fail
        refine (HI.out _).mono ?_
        rintro e w1 ⟨rfl, hb1⟩
        have hF : Hid (FB w1 w.heap.size ⟨p, t, b, s⟩) := (FB.new w ⟨p, t, b, s⟩ 30).later hb1
        have HB : Hid (Below w.heap.size w w1) := bstep (balloc w _) hb1
        obtain ⟨c0, c1, c2, c3, hlt⟩ := hF.out
        simp only at c0 c1 c2 c3
        clear hb1
        go_wp2_with fail
        refine (HWb.out _).mono ?_
        rintro e w2 ⟨rfl, rfl⟩
        go_wp2_with fail
        go_ret
        exact ⟨rfl, HB.out⟩
      · have HWb : Hid (∀ (w : World), Calls Tryz.prog 77 #[.int .i64 b, .int .i64 1152921504606846976] w fun e w' => e = .returned (.bool true) ∧ w' = w) := by rw [← hbw]; exact HW.out _ _
        clear hbw
        obtain ⟨z, hz⟩ : ∃ z, (decide (0 ≤ s) && decide (s ≤ 4611686018427387904)) = z := ⟨_, rfl⟩
        have HWs : Hid (∀ (w : World), Calls Tryz.prog 77 #[.int .i64 s, .int .i64 4611686018427387904] w fun e w' => e = .returned (.bool z) ∧ w' = w) := by rw [← hz]; exact HW.out _ _
        rw [hz]
        clear hz
        go_enter Tryz.func56, Tryz.ntmps56
        go_wp2_with fail
        refine (HI.out _).mono ?_
        rintro e w1 ⟨rfl, hb1⟩
        have hF : Hid (FB w1 w.heap.size ⟨p, t, b, s⟩) := (FB.new w ⟨p, t, b, s⟩ 30).later hb1
        have HB : Hid (Below w.heap.size w w1) := bstep (balloc w _) hb1
        obtain ⟨c0, c1, c2, c3, hlt⟩ := hF.out
        simp only at c0 c1 c2 c3
        clear hb1
        go_wp2_with fail
        refine (HWb.out _).mono ?_
        rintro e w2 ⟨rfl, rfl⟩
        go_wp2_with fail
        refine (HWs.out _).mono ?_
        rintro e w2 ⟨rfl, rfl⟩
        go_wp2_with fail
        go_ret
        exact ⟨rfl, HB.out⟩
  · rw [hm] at HI
    simp only [if_true]
    have hz : (bs t).size = t.length := rfl
    go_enter Tryz.func56, Tryz.ntmps56
    go_wp2_with fail
    refine (HI.out _).mono ?_
    rintro e w1 ⟨rfl, hb1⟩
    have hF : Hid (FB w1 w.heap.size ⟨p, t, b, s⟩) := (FB.new w ⟨p, t, b, s⟩ 30).later hb1
    have HB : Hid (Below w.heap.size w w1) := bstep (balloc w _) hb1
    obtain ⟨c0, c1, c2, c3, hlt⟩ := hF.out
    simp only at c0 c1 c2 c3
    clear hb1
    have x0 : ∀ X : GW w1, X.it.cell? ⟨w.heap.size, 0, none⟩ = some (.string (bs p)) := fun X => X.cell hlt c0
    have x1 : ∀ X : GW w1, X.it.cell? ⟨w.heap.size, 1, none⟩ = some (.string (bs t)) := fun X => X.cell hlt c1
    have x2 : ∀ X : GW w1, X.it.cell? ⟨w.heap.size, 2, none⟩ = some (.int .i64 b) := fun X => X.cell hlt c2
    have x3 : ∀ X : GW w1, X.it.cell? ⟨w.heap.size, 3, none⟩ = some (.int .i64 s) := fun X => X.cell hlt c3
    have xne := gw_ne w1
    have HM : Hid (∀ X : GW w1, Calls Tryz.prog 76 #[.string (bs p), .string (bs t)] X.it fun e w' => e = .returned (.agg #[.string (bs p), .string (bs t), .int .i64 0, .int .i64 (t.length : Nat)]) ∧ ∃ Y : GW w1, w' = Y.it) := fun X => gw_of (manifest_any p t) X
    clear c0 c1 c2 c3
    have q1 := feql_run
    have q2 := fguard_run
    go_wp2_with fail
    refine wp_region_grow (by kernel_rfl) (by kernel_rfl) ?_
    repeat (go_big_quiet_step (fail))
    go_big_quiet_step (exact HM.out _)
    repeat (go_big_quiet_step (fail))
    refine wpQuiet_nil ?_
    rintro w2 ⟨⟨w2, bx⟩, rfl⟩
    have HB5 : Hid (Below w.heap.size w w2) := bstep HB.out bx
    clear bx
    go_wp2_with fail
    go_ret
    refine ⟨?_, HB5.out⟩
    show Ending.returned (Value.bool (feq ⟨p, t, b, s⟩ ⟨p, t, 0, t.length⟩)) = _
    simp [feq]

set_option maxRecDepth 100000 in
set_option maxHeartbeats 1000000 in
theorem file_any (f : Fl) (w : World) (hf : Fok f) : Calls Tryz.prog 36 #[f.val] w fun e w' => e = .returned (.int .i64 (fileE f)) ∧ Below w.heap.size w w' := by
  obtain ⟨p, t, b, s⟩ := f
  have HF : Hid (Fok ⟨p, t, b, s⟩) := hf
  have hpl : p.length ≤ 1000000000 := hf.path
  clear hf
  have HV : Hid (∀ w : World, Calls Tryz.prog 55 #[.string (bs p)] w fun e w' => e = .returned (.bool (okP p)) ∧ Below w.heap.size w w') := fun w => valid_any p w (by omega)
  have HI : Hid (∀ w : World, Calls Tryz.prog 56 #[.agg #[.string (bs p), .string (bs t), .int .i64 b, .int .i64 s]] w fun e w' => e = .returned (.bool (fits ⟨p, t, b, s⟩)) ∧ Below w.heap.size w w') := fun w => sfits_any ⟨p, t, b, s⟩ w HF.out
  simp only [Fl.val]
  unfold fileE pathOk
  simp only
  generalize fits ⟨p, t, b, s⟩ = ft at *
  have ee := isE p
  cases hp : p.isEmpty
  · have htb : (p == []) = false := by
      cases p with
      | nil => simp at hp
      | cons x r => rfl
    rw [htb]
    clear htb
    rw [hp] at ee
    cases hv : okP p
    · rw [hv] at HV
      simp only [Bool.not_false, Bool.true_and, Bool.false_eq_true, if_false]
      go_enter Tryz.func36, Tryz.ntmps36
      go_wp2_with fail
      refine (HV.out _).mono ?_
      rintro e w1 ⟨rfl, hb1⟩
      have HB : Hid (Below w.heap.size w w1) := bstep (balloc w _) hb1
      clear hb1
      go_wp2_with fail
      go_ret
      exact ⟨rfl, HB.out⟩
    · rw [hv] at HV
      simp only [Bool.not_false, Bool.true_and, if_true]
      go_enter Tryz.func36, Tryz.ntmps36
      go_wp2_with fail
      refine (HV.out _).mono ?_
      rintro e w1 ⟨rfl, hb1⟩
      have hF : Hid (FB w1 w.heap.size ⟨p, t, b, s⟩) := (FB.new w ⟨p, t, b, s⟩ 30).later hb1
      have HB : Hid (Below w.heap.size w w1) := bstep (balloc w _) hb1
      obtain ⟨c0, c1, c2, c3, hlt⟩ := hF.out
      simp only at c0 c1 c2 c3
      clear hb1
      go_wp2_with fail
      refine (HI.out _).mono ?_
      rintro e w2 ⟨rfl, hb2⟩
      have HB2 : Hid (Below w.heap.size w w2) := bstep HB.out hb2
      clear hb2 c0 c1 c2 c3
      cases ft
      · go_wp2_with fail
        go_ret
        exact ⟨rfl, HB2.out⟩
      · go_wp2_with fail
        go_ret
        exact ⟨rfl, HB2.out⟩
  · have htb : (p == []) = true := by
      cases p with
      | nil => rfl
      | cons x r => simp at hp
    rw [htb]
    clear htb
    rw [hp] at ee
    simp only [Bool.not_true, Bool.false_and, Bool.false_eq_true, if_false]
    go_enter Tryz.func36, Tryz.ntmps36
    go_wp2_with fail
    go_ret
    exact ⟨rfl, balloc _ _⟩

set_option maxRecDepth 100000 in
set_option maxHeartbeats 1000000 in
theorem follows_any (q p : List UInt8) (w : World) (hq : q.length ≤ 1000000000) (hp : p.length ≤ 1000000000) : Calls Tryz.prog 57 #[.string (bs q), .string (bs p)] w fun e w' => e = .returned (.bool (fol p q)) ∧ Below w.heap.size w w' := by
  have HC : Hid (∀ w : World, Calls Tryz.prog 31 #[.string (bs p), .string (bs q)] w fun e w' => e = .returned (.int .i64 (cmpP (pcs p) (pcs q))) ∧ Laid w w') := fun w => cmp_any p q w (by omega) (by omega)
  have HA : Hid (∀ w : World, Calls Tryz.prog 44 #[.string (bs p), .string (bs q)] w fun e w' => e = .returned (.bool (abvV p q)) ∧ Laid w w') := fun w => above_any p q w (by omega) (by omega)
  unfold fol
  generalize cmpP (pcs p) (pcs q) = o at *
  generalize abvV p q = a at *
  by_cases h : o < 0
  · have hd : decide (o < 0) = true := by simpa using h
    rw [hd]
    go_enter Tryz.func57, Tryz.ntmps57
    go_wp2_with fail
    refine (HC.out _).mono ?_
    rintro e w1 ⟨rfl, hb1⟩
    have HB : Hid (Below w.heap.size w w1) := hb1.below
    clear hb1
    go_wp2_with fail
    refine (HA.out _).mono ?_
    rintro e w2 ⟨rfl, hb2⟩
    have HB2 : Hid (Below w.heap.size w w2) := bstep HB.out hb2.below
    clear hb2
    go_wp2_with fail
    go_ret
    exact ⟨by simp, HB2.out⟩
  · have hd : decide (o < 0) = false := by simpa using h
    rw [hd]
    go_enter Tryz.func57, Tryz.ntmps57
    go_wp2_with fail
    refine (HC.out _).mono ?_
    rintro e w1 ⟨rfl, hb1⟩
    have HB : Hid (Below w.heap.size w w1) := hb1.below
    clear hb1
    go_wp2_with fail
    go_ret
    exact ⟨rfl, HB.out⟩
end Go.Proofs.YtfdcfcalbongeaaGreat
