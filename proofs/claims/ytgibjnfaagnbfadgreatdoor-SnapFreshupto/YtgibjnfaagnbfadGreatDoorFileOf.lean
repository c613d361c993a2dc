/-
  The package: the file that a line's words tell of.
-/
import Derived.Test.YtgibjnfaagnbfadGreatDoorLine
namespace Go.Proofs.YtgibjnfaagnbfadGreatDoor
open Go.RowKit

/-- what is told of a line's words -/
def Told (W : List (List UInt8)) (f : Fl) (ok : Bool) : Prop := (ok = true ∧ fileOf W = some f) ∨ (ok = false ∧ fileOf W = none)
theorem fileOf_other {W : List (List UInt8)} (h3 : W.length ≠ 3) (h4 : W.length ≠ 4) : fileOf W = none := by
  match W, h3, h4 with
  | [], _, _ => rfl
  | [_], _, _ => rfl
  | [_, _], _, _ => rfl
  | [_, _, _], h, _ => simp at h
  | [_, _, _, _], _, h => simp at h
  | _ :: _ :: _ :: _ :: _ :: _, _, _ => rfl

theorem c_t : (ByteArray.mk #[116]).toList = [116] := ByteArray.toList_mk [116]
theorem c_f : (ByteArray.mk #[102]).toList = [102] := ByteArray.toList_mk [102]

set_option maxRecDepth 100000 in
set_option maxHeartbeats 4000000 in
theorem fileOf_len {w : World} {v : Value} {W : List (List UInt8)} (h : SS w v W) (h3 : W.length ≠ 3) (h4 : W.length ≠ 4) :
    Calls Tryz.prog 28 #[v] w fun e w' => ∃ f ok, e = .returned (.tuple #[f.val, .bool ok]) ∧ Below w.heap.size w w' ∧ Told W f ok := by
  have HF : Hid (fileOf W = none) := fileOf_other h3 h4
  obtain ⟨a, c, rfl, _⟩ := h.form
  rename_i q1
  clear h q1
  obtain ⟨n, hn⟩ : ∃ n, W.length = n := ⟨_, rfl⟩
  rw [hn] at h3 h4 ⊢
  have e3 : ((n : Int) == 3) = false := by simp; omega
  have e4 : ((n : Int) == 4) = false := by simp; omega
  clear hn
  go_enter Tryz.func28, Tryz.ntmps28
  go_wp2_with fail
  refine bodyPost_ret (results_ct rfl _ _ w.heap.size 26 #[.string (bs []), .string (bs []), .int .i64 0, .int .i64 0] (0, 0) _ rfl ?_ Tryz.underlying26 rfl (by kernel_rfl)) rfl ?_
  · exact heap_alloc_new _ _
  exact ⟨zf, false, rfl, balloc _ _, .inr ⟨rfl, HF.out⟩⟩

/-- words in memory, by their places -/
theorem ss_cells {w : World} {v : Value} {W : List (List UInt8)} (h : SS w v W) (h0 : 0 < W.length) : ∃ b off c, v = .slice (some ⟨b, off, none⟩) W.length c ∧ b < w.heap.size ∧ ∀ k (hk : k < W.length), w.cell? ⟨b, off + k, none⟩ = some (.string (bs (W[k]'hk))) := by
  obtain ⟨a, c, rfl, hf⟩ := h.form
  obtain ⟨b, off, rfl, hlt, _⟩ := hf 0 h0
  refine ⟨b, off, c, rfl, hlt, fun k hk => ?_⟩
  obtain ⟨b', off', e, _, hc⟩ := hf k hk
  injection e with e
  injection e with e1 e2
  subst e1 e2
  exact hc

set_option maxRecDepth 100000 in
set_option maxHeartbeats 4000000 in
theorem fileOf_three {w : World} {v : Value} {k p q : List UInt8} (h : SS w v [k, p, q]) (hq : q.length ≤ 4194304) (E : Env w) :
    Calls Tryz.prog 28 #[v] w fun e w' => ∃ f ok, e = .returned (.tuple #[f.val, .bool ok]) ∧ Below w.heap.size w w' ∧ Told [k, p, q] f ok := by
  obtain ⟨b, off, c, rfl, hlt, hcell⟩ := ss_cells h (by simp)
  have HE : Hid (Env w) := E
  have c0 : w.cell? ⟨b, off, none⟩ = some (.string (bs k)) := hcell 0 (by simp)
  have c1 : w.cell? ⟨b, off + 1, none⟩ = some (.string (bs p)) := hcell 1 (by simp)
  have c2 : w.cell? ⟨b, off + 2, none⟩ = some (.string (bs q)) := hcell 2 (by simp)
  have hl : [k, p, q].length = 3 := rfl
  rw [hl]
  clear hcell h E hl
  have ek := bs_toList k
  have ec := c_t
  by_cases hk : k = [116]
  · have hkb : (k == [116]) = true := by simpa using hk
    have HK : Hid (k = [116]) := hk
    have HU : Hid (∀ W : World, Env W → Calls Tryz.prog 48 #[.string (bs q)] W fun e w' => e = .returned (.tuple #[.string (bs ((unhex q).getD [])), .bool (unhex q).isSome]) ∧ Below W.heap.size W w') := fun W EW => unhex_any q W hq EW
    have HT : Hid (Told [k, p, q] ⟨p, (unhex q).getD [], 0, ((unhex q).getD []).length⟩ (unhex q).isSome) := by
      subst hk
      show Told _ _ _
      unfold Told
      cases hu : unhex q with
      | none => exact .inr ⟨rfl, by simp [fileOf, hu]⟩
      | some t => exact .inl ⟨rfl, by simp [fileOf, hu]⟩
    clear hk
    generalize (unhex q).getD [] = t at *
    generalize (unhex q).isSome = ok at *
    go_enter Tryz.func28, Tryz.ntmps28
    go_wp2_with fail
    refine (HU.out _ (HE.out.later (balloc _ _))).mono ?_
    rintro e w1 ⟨rfl, hb1⟩
    have HR1 : Hid (RB w1 w.heap.size zf) := (RB.new w zf).later hb1
    have HB1 : Hid (Below w.heap.size w w1) := bstep (balloc _ _) hb1
    have d1 : w1.cell? ⟨b, off + 1, none⟩ = some (.string (bs p)) := (HB1.out.cell (p := ⟨b, off + 1, none⟩) hlt).trans c1
    clear hb1 c0 c1 c2
    go_wp2_with fail
    refine (manifest_any p t w1).mono ?_
    rintro e w2 ⟨rfl, hb2⟩
    have HR2 : Hid (RB w2 w.heap.size zf) := HR1.out.later hb2
    have HB2 : Hid (Below w.heap.size w w2) := bstep HB1.out hb2
    obtain ⟨z0, z1, z2, z3, y0, y1, y2, y3⟩ := HR2.out.cells
    clear hb2 d1
    go_wp2_with fail
    refine bodyPost_ret (results_ct rfl _ _ w.heap.size 26 #[.string (bs p), .string (bs t), .int .i64 0, .int .i64 (t.length : Nat)] (0, 0) _ rfl ?_ Tryz.underlying26 rfl (by kernel_rfl)) rfl ?_
    · exact (HR2.out.set ⟨p, t, 0, (t.length : Nat)⟩).blk
    exact ⟨⟨p, t, 0, (t.length : Nat)⟩, ok, rfl, bset4 HB2.out (Nat.le_refl _) _ _ _ _, HT.out⟩
  · have hkb : (k == [116]) = false := by simpa using hk
    have HF : Hid (fileOf [k, p, q] = none) := by
      show fileOf [k, p, q] = none
      simp [fileOf, hk]
    clear hk
    go_enter Tryz.func28, Tryz.ntmps28
    go_wp2_with fail
    refine bodyPost_ret (results_ct rfl _ _ w.heap.size 26 #[.string (bs []), .string (bs []), .int .i64 0, .int .i64 0] (0, 0) _ rfl ?_ Tryz.underlying26 rfl (by kernel_rfl)) rfl ?_
    · exact heap_alloc_new _ _
    exact ⟨zf, false, rfl, balloc _ _, .inr ⟨rfl, HF.out⟩⟩

theorem bd' (B : Nat) (w : World) (n : Nat) : Below B w (w.drewN n) := ⟨rfl, rfl, rfl, Nat.le_refl _, fun _ _ => rfl⟩
set_option maxRecDepth 100000 in
set_option maxHeartbeats 4000000 in
theorem fileOf_four {w : World} {v : Value} {k p x y : List UInt8} (h : SS w v [k, p, x, y]) (hx : x.length ≤ 4194304) (hy : y.length ≤ 4194304) (E : Env w) :
    Calls Tryz.prog 28 #[v] w fun e w' => ∃ f ok, e = .returned (.tuple #[f.val, .bool ok]) ∧ Below w.heap.size w w' ∧ Told [k, p, x, y] f ok := by
  obtain ⟨b, off, c, rfl, hlt, hcell⟩ := ss_cells h (by simp)
  have HE : Hid (Env w) := E
  have c0 : w.cell? ⟨b, off, none⟩ = some (.string (bs k)) := hcell 0 (by simp)
  have c1 : w.cell? ⟨b, off + 1, none⟩ = some (.string (bs p)) := hcell 1 (by simp)
  have c2 : w.cell? ⟨b, off + 2, none⟩ = some (.string (bs x)) := hcell 2 (by simp)
  have c3 : w.cell? ⟨b, off + 3, none⟩ = some (.string (bs y)) := hcell 3 (by simp)
  have hl : [k, p, x, y].length = 4 := rfl
  rw [hl]
  clear hcell h E hl
  have ek := bs_toList k
  have ec := c_f
  by_cases hk : k = [102]
  · have hkb : (k == [102]) = true := by simpa using hk
    have HK : Hid (k = [102]) := hk
    have HX : Hid (∀ W : World, Env W → Calls Tryz.prog 50 #[.string (bs x)] W fun e w' => ∃ v ev, e = .returned (.tuple #[.int .i64 v, ev]) ∧ Below W.heap.size W w' ∧ ((Lib.atoiAll x = .ok v ∧ ev = .nilIface) ∨ ((∀ n, Lib.atoiAll x ≠ .ok n) ∧ ∃ t p, ev = .iface t p))) := fun W EW => atoi_any x hx W EW
    have HY : Hid (∀ W : World, Env W → Calls Tryz.prog 50 #[.string (bs y)] W fun e w' => ∃ v ev, e = .returned (.tuple #[.int .i64 v, ev]) ∧ Below W.heap.size W w' ∧ ((Lib.atoiAll y = .ok v ∧ ev = .nilIface) ∨ ((∀ n, Lib.atoiAll y ≠ .ok n) ∧ ∃ t p, ev = .iface t p))) := fun W EW => atoi_any y hy W EW
    clear hk hx hy
    go_enter Tryz.func28, Tryz.ntmps28
    go_wp2_with fail
    refine (HX.out _ (HE.out.later (balloc _ _))).mono ?_
    rintro e w1 ⟨m, ev, rfl, hb1, hx⟩
    have HR1 : Hid (RB w1 w.heap.size zf) := (RB.new w zf).later hb1
    have HB1 : Hid (Below w.heap.size w w1) := bstep (balloc _ _) hb1
    have d3 : w1.cell? ⟨b, off + 3, none⟩ = some (.string (bs y)) := (HB1.out.cell (p := ⟨b, off + 3, none⟩) hlt).trans c3
    have HX1 : Hid ((Lib.atoiAll x = .ok m ∧ ev = .nilIface) ∨ ((∀ n, Lib.atoiAll x ≠ .ok n) ∧ ∃ t p, ev = .iface t p)) := hx
    clear hb1 c0 c2 c3 hx
    go_wp2_with fail
    refine (HY.out _ (HE.out.later HB1.out)).mono ?_
    rintro e w2 ⟨m2, ev2, rfl, hb2, hy⟩
    have HR2 : Hid (RB w2 w.heap.size zf) := HR1.out.later hb2
    have HB2 : Hid (Below w.heap.size w w2) := bstep HB1.out hb2
    have d1 : w2.cell? ⟨b, off + 1, none⟩ = some (.string (bs p)) := (HB2.out.cell (p := ⟨b, off + 1, none⟩) hlt).trans c1
    obtain ⟨z0, z1, z2, z3, y0, y1, y2, y3⟩ := HR2.out.cells
    have HY1 : Hid ((Lib.atoiAll y = .ok m2 ∧ ev2 = .nilIface) ∨ ((∀ n, Lib.atoiAll y ≠ .ok n) ∧ ∃ t p, ev2 = .iface t p)) := hy
    clear hb2 c1 d3 hy
    rcases HX1.out with ⟨hx1, rfl⟩ | ⟨hx1, t1, p1, rfl⟩
    · rcases HY1.out with ⟨hy1, rfl⟩ | ⟨hy1, t2, p2, rfl⟩
      · have HT : Hid (Told [k, p, x, y] ⟨p, [], m, m2⟩ true) := by
          have := HK.out
          subst this
          exact .inl ⟨rfl, by simp [fileOf, hx1, hy1]⟩
        clear hx1 hy1 HX1 HY1
        go_wp2_with fail
        go_region
        all_goals go_wp2_with fail
        all_goals refine bodyPost_ret (results_ct rfl _ _ w.heap.size 26 #[.string (bs p), .string (bs []), .int .i64 m, .int .i64 m2] (0, 0) _ rfl ?_ Tryz.underlying26 rfl (by kernel_rfl)) rfl ?_
        all_goals first | exact (HR2.out.set ⟨p, [], m, m2⟩).blk | exact ⟨⟨p, [], m, m2⟩, true, rfl, below_trans (bset4 HB2.out (Nat.le_refl _) _ _ _ _) (bd' _ _ _), HT.out⟩ | exact ⟨⟨p, [], m, m2⟩, true, rfl, bset4 HB2.out (Nat.le_refl _) _ _ _ _, HT.out⟩
      · have HT : Hid (Told [k, p, x, y] ⟨p, [], m, m2⟩ false) := by
          have := HK.out
          subst this
          refine .inr ⟨rfl, ?_⟩
          simp only [fileOf, if_true, hx1]
          cases h9 : Lib.atoiAll y with
          | ok n => exact absurd h9 (hy1 n)
          | «syntax» => rfl
          | range => rfl
        clear hx1 hy1 HX1 HY1
        go_wp2_with fail
        go_region
        all_goals go_wp2_with fail
        all_goals refine bodyPost_ret (results_ct rfl _ _ w.heap.size 26 #[.string (bs p), .string (bs []), .int .i64 m, .int .i64 m2] (0, 0) _ rfl ?_ Tryz.underlying26 rfl (by kernel_rfl)) rfl ?_
        all_goals first | exact (HR2.out.set ⟨p, [], m, m2⟩).blk | exact ⟨⟨p, [], m, m2⟩, false, rfl, below_trans (bset4 HB2.out (Nat.le_refl _) _ _ _ _) (bd' _ _ _), HT.out⟩ | exact ⟨⟨p, [], m, m2⟩, false, rfl, bset4 HB2.out (Nat.le_refl _) _ _ _ _, HT.out⟩
    · have HT : Hid (Told [k, p, x, y] ⟨p, [], m, m2⟩ false) := by
        have := HK.out
        subst this
        refine .inr ⟨rfl, ?_⟩
        simp only [fileOf, if_true]
        cases h9 : Lib.atoiAll x with
        | ok n => exact absurd h9 (hx1 n)
        | «syntax» => rfl
        | range => rfl
      clear hx1 HX1 HY1
      go_wp2_with fail
      go_region
      all_goals go_wp2_with fail
      all_goals refine bodyPost_ret (results_ct rfl _ _ w.heap.size 26 #[.string (bs p), .string (bs []), .int .i64 m, .int .i64 m2] (0, 0) _ rfl ?_ Tryz.underlying26 rfl (by kernel_rfl)) rfl ?_
      all_goals first | exact (HR2.out.set ⟨p, [], m, m2⟩).blk | exact ⟨⟨p, [], m, m2⟩, false, rfl, below_trans (bset4 HB2.out (Nat.le_refl _) _ _ _ _) (bd' _ _ _), HT.out⟩ | exact ⟨⟨p, [], m, m2⟩, false, rfl, bset4 HB2.out (Nat.le_refl _) _ _ _ _, HT.out⟩
  · have hkb : (k == [102]) = false := by simpa using hk
    have HF : Hid (fileOf [k, p, x, y] = none) := by
      show fileOf [k, p, x, y] = none
      simp [fileOf, hk]
    clear hk
    go_enter Tryz.func28, Tryz.ntmps28
    go_wp2_with fail
    refine bodyPost_ret (results_ct rfl _ _ w.heap.size 26 #[.string (bs []), .string (bs []), .int .i64 0, .int .i64 0] (0, 0) _ rfl ?_ Tryz.underlying26 rfl (by kernel_rfl)) rfl ?_
    · exact heap_alloc_new _ _
    exact ⟨zf, false, rfl, balloc _ _, .inr ⟨rfl, HF.out⟩⟩
end Go.Proofs.YtgibjnfaagnbfadGreatDoor
