/-
  Is a list of changes a delta?
-/
import Derived.Test.YtinhdjoidbcfaaaFol
namespace Go.Proofs.Ytinhdjoidbcfaaa
open Go.RowKit

theorem rise_short : ∀ (l : List Ch), l.length ≤ 1 → rise l = true
  | [], _ => rfl
  | [a], _ => rfl
  | a :: b :: r, h => by simp at h
theorem all_step' {α : Type} (l : List α) (p : α → Bool) (k : Nat) (h : k < l.length) : (l.drop k).all p = (p (l[k]'h) && (l.drop (k + 1)).all p) := by
  rw [List.drop_eq_getElem_cons h, List.all_cons]
theorem rise_step (l : List Ch) (k : Nat) (h : k + 1 < l.length) : rise (l.drop k) = (decide (cf (l[k]'(by omega)).path (l[k + 1]'h).path < 0) && rise (l.drop (k + 1))) := by
  rw [List.drop_eq_getElem_cons (show k < l.length by omega), List.drop_eq_getElem_cons h, rise]
/-- what is still to be looked at -/
def lookD (l : List Ch) (k : Nat) : Bool := (l.drop k).all may && rise (l.drop (k - 1))
theorem lookD_end (l : List Ch) : lookD l l.length = true := by
  unfold lookD
  rw [List.drop_length, rise_short _ (by simp; omega)]; rfl
theorem lookD_zero (l : List Ch) (h : 0 < l.length) : lookD l 0 = (may (l[0]'h) && lookD l 1) := by
  unfold lookD
  rw [all_step' l _ 0 h]
  simp only [Nat.zero_sub, Nat.sub_self, Nat.zero_add, Bool.and_assoc]
theorem lookD_succ (l : List Ch) (k : Nat) (h : k + 1 < l.length) : lookD l (k + 1) = (may (l[k + 1]'h) && (decide (cf (l[k]'(by omega)).path (l[k + 1]'h).path < 0) && lookD l (k + 2))) := by
  unfold lookD
  rw [all_step' l _ (k + 1) h]
  simp only [Nat.add_sub_cancel, show k + 2 - 1 = k + 1 by omega]
  rw [rise_step l k h]
  cases may l[k + 1] <;> cases ((l.drop (k + 1 + 1)).all may) <;> simp

theorem gw_may {w : World} {c : Ch} {E : Bool} (hc : Cok c) (hE : may c = E) (X : GW w) :
    Calls Try.prog 37 #[c.val] X.it fun e w' => e = .returned (.bool E) ∧ ∃ Y : GW w, w' = Y.it :=
  gw_of (fun W => by rw [← hE]; exact mayBe_any c W hc) X
theorem gw_cmp {w : World} {q p : List UInt8} {c : Int} (hq : q.length ≤ 140737488355328) (hp : p.length ≤ 140737488355328) (hc : cf q p = c) (X : GW w) :
    Calls Try.prog 31 #[.string (bs q), .string (bs p)] X.it fun e w' => e = .returned (.int .i64 c) ∧ ∃ Y : GW w, w' = Y.it :=
  gw_of (fun W => by rw [← hc]; exact (cmp_any q p W (by omega) (by omega)).mono fun _ _ h => ⟨h.1, h.2.below⟩) X

set_option maxRecDepth 100000 in
set_option maxHeartbeats 4000000 in
theorem valid_d {w : World} {v : Value} {l : List Ch} (h : CS w v l) (sm : CSm l) : Calls Try.prog 18 #[v] w fun e w' => e = .returned (.bool (vd l)) ∧ Below w.heap.size w w' := by
  have e0 : vd l = lookD l 0 := by unfold vd lookD; simp
  rw [e0]
  clear e0
  obtain ⟨r, hr⟩ : ∃ r, lookD l 0 = r := ⟨_, rfl⟩
  rw [hr]
  have HR : Hid (lookD l 0 = r) := hr
  have H : Hid (CS w v l) := h
  have SM : Hid (CSm l) := sm
  have hlen : l.length ≤ 140737488355328 := sm.len
  clear hr sm
  obtain ⟨a, c, rfl⟩ := h.shape
  clear h
  obtain ⟨n, hn⟩ : ∃ n, l.length = n := ⟨_, rfl⟩
  rw [hn] at hlen ⊢
  have HN : Hid (l.length = n) := hn
  have H' : Hid (CS w (.slice a l.length c) l) := H.out
  clear H hn
  go_enter Try.func18, Try.ntmps18
  go_wp2_with fail
  go_loopw [7] (fun i wr => ∃ k : Nat, k ≤ n ∧ i = .int .i64 k ∧ Below w.heap.size w wr ∧ lookD l k = r) (fun i _ => n - (intOf i).toNat)
  case atStart => exact ⟨0, by omega, rfl, Below.refl _ _, HR.out⟩
  case round =>
    obtain ⟨k, hk, rfl, hb, hl⟩ := hrel
    have HB : Hid (Below w.heap.size w wr) := hb
    have HL : Hid (lookD l k = r) := hl
    clear hb hl
    by_cases hlt : k < n
    · have hkl : k < l.length := by have := HN.out; omega
      obtain ⟨b, off, ea, hbw, _, d0, d1, d2, d3, d4, d5, d6, d7, d8, d9, d10⟩ := CS.at H'.out HB.out hkl
      subst ea
      have F : Hid (Cok l[k]) := SM.out.at hkl
      have hbr : b < wr.heap.size := Nat.lt_of_lt_of_le hbw HB.out.size
      obtain ⟨f, hf⟩ : ∃ f, l[k] = f := ⟨_, rfl⟩
      rw [hf] at d0 d1 d2 d3 d4 d5 d6 d7 d8 d9 d10 F
      have HFk : Hid (l[k] = f) := hf
      clear hf
      obtain ⟨E, hE⟩ : ∃ E, may f = E := ⟨_, rfl⟩
      have HEf : Hid (∀ (w : World) (X : GW w), Calls Try.prog 37 #[f.val] X.it fun e w' => e = .returned (.bool E) ∧ ∃ Y : GW w, w' = Y.it) := fun _ X => gw_may F.out hE X
      have HE : Hid (may (l[k]'hkl) = E) := by rw [HFk.out]; exact hE
      have FP : Hid (f.path.length ≤ 140737488355328) := F.out.path
      clear hE
      obtain ⟨p, ha, hb, ⟨q, t, bl, s⟩, ⟨r1, y, dd, z⟩⟩ := f
      simp only at d0 d1 d2 d3 d4 d5 d6 d7 d8 d9 d10 FP
      simp only [Ch.val] at HEf
      have k1 : (0 : Int) ≤ (k : Int) := by omega
      have k2 : (k : Int) < (n : Int) := by omega
      go_wp2_with fail
      obtain ⟨w1, hw1⟩ : ∃ w1, wr.alloc (.cells #[.string (bs p), .bool ha, .bool hb, .string (bs q), .string (bs t), .int .i64 bl, .int .i64 s, .string (bs r1), .string (bs y), .int .i64 dd, .int .i64 z] 42) = w1 := ⟨_, rfl⟩
      have FBn : Hid (CB w1 wr.heap.size 0 ⟨p, ha, hb, ⟨q, t, bl, s⟩, ⟨r1, y, dd, z⟩⟩) := by rw [← hw1]; exact CB.new wr ⟨p, ha, hb, ⟨q, t, bl, s⟩, ⟨r1, y, dd, z⟩⟩ 42
      have HB1 : Hid (Below wr.heap.size wr w1) := by rw [← hw1]; exact balloc _ _
      have hlt1 : wr.heap.size < w1.heap.size := by rw [← hw1]; simp
      rw [hw1]
      clear hw1 d0 d1 d2 d3 d4 d5 d6 d7 d8 d9 d10
      obtain ⟨c0, c1, c2, c3, c4, c5, c6, c7, c8, c9, c10⟩ := FBn.out
      simp only [Nat.zero_add] at c0 c1 c2 c3 c4 c5 c6 c7 c8 c9 c10
      have y0 : ∀ X : GW w1, X.it.cell? ⟨wr.heap.size, 0, none⟩ = some (.string (bs p)) := fun X => X.cell hlt1 c0
      have y1 : ∀ X : GW w1, X.it.cell? ⟨wr.heap.size, 1, none⟩ = some (.bool ha) := fun X => X.cell hlt1 c1
      have y2 : ∀ X : GW w1, X.it.cell? ⟨wr.heap.size, 2, none⟩ = some (.bool hb) := fun X => X.cell hlt1 c2
      have y3 : ∀ X : GW w1, X.it.cell? ⟨wr.heap.size, 3, none⟩ = some (.string (bs q)) := fun X => X.cell hlt1 c3
      have y4 : ∀ X : GW w1, X.it.cell? ⟨wr.heap.size, 4, none⟩ = some (.string (bs t)) := fun X => X.cell hlt1 c4
      have y5 : ∀ X : GW w1, X.it.cell? ⟨wr.heap.size, 5, none⟩ = some (.int .i64 bl) := fun X => X.cell hlt1 c5
      have y6 : ∀ X : GW w1, X.it.cell? ⟨wr.heap.size, 6, none⟩ = some (.int .i64 s) := fun X => X.cell hlt1 c6
      have y7 : ∀ X : GW w1, X.it.cell? ⟨wr.heap.size, 7, none⟩ = some (.string (bs r1)) := fun X => X.cell hlt1 c7
      have y8 : ∀ X : GW w1, X.it.cell? ⟨wr.heap.size, 8, none⟩ = some (.string (bs y)) := fun X => X.cell hlt1 c8
      have y9 : ∀ X : GW w1, X.it.cell? ⟨wr.heap.size, 9, none⟩ = some (.int .i64 dd) := fun X => X.cell hlt1 c9
      have y10 : ∀ X : GW w1, X.it.cell? ⟨wr.heap.size, 10, none⟩ = some (.int .i64 z) := fun X => X.cell hlt1 c10
      have xne := gw_ne w1
      clear c0 c1 c2 c3 c4 c5 c6 c7 c8 c9 c10 FBn
      cases E
      · refine wp_region_grow (by kernel_rfl) (by kernel_rfl) ?_
        go_big_quiet_step (exact HEf.out _ _)
        repeat (go_big_quiet_step (exact HEf.out _ _))
        refine wpQuiet_nil ?_
        rintro w2 ⟨⟨w2, bx⟩, rfl⟩
        have HB5 : Hid (Below w.heap.size w w2) := bstep (bstep HB.out HB1.out) bx
        clear bx y0 y1 y2 y3 y4 y5 y6 y7 y8 y9 y10
        go_wp2_with fail
        go_ret
        refine ⟨?_, HB5.out⟩
        have h1 := HL.out
        unfold lookD at h1
        rw [all_step' l _ k hkl, HE.out] at h1
        simp at h1
        rw [← h1]; rfl
      · rcases Nat.eq_zero_or_pos k with hk0 | hk0
        · subst hk0
          refine wp_region_grow (by kernel_rfl) (by kernel_rfl) ?_
          go_big_quiet_step (exact HEf.out _ _)
          repeat (go_big_quiet_step (exact HEf.out _ _))
          refine wpQuiet_nil ?_
          rintro w2 ⟨⟨w2, bx⟩, rfl⟩
          have HB5 : Hid (Below w.heap.size w w2) := bstep (bstep HB.out HB1.out) bx
          clear bx y0 y1 y2 y3 y4 y5 y6 y7 y8 y9 y10
          go_wp2_with fail
          go_roundw
          case rel => exact ⟨1, by omega, rfl, HB5.out, by have h1 := HL.out; rw [lookD_zero l hkl, HE.out] at h1; simpa using h1⟩
          case measure => simp [intOf]; omega
        · obtain ⟨m, hm⟩ : ∃ m, k = m + 1 := ⟨k - 1, by omega⟩
          have HKM : Hid (k = m + 1) := hm
          have hml : m < l.length := by omega
          obtain ⟨q0, hq⟩ : ∃ q, (l[m]'hml).path = q := ⟨_, rfl⟩
          have hql : q0.length ≤ 140737488355328 := by rw [← hq]; exact (SM.out.at hml).path
          obtain ⟨o, hcc⟩ : ∃ o, cf q0 p = o := ⟨_, rfl⟩
          have HFol : Hid (∀ (w : World) (X : GW w), Calls Try.prog 31 #[.string (bs q0), .string (bs p)] X.it fun e w' => e = .returned (.int .i64 o) ∧ ∃ Y : GW w, w' = Y.it) := fun _ X => gw_cmp hql FP.out hcc X
          have HC : Hid (∀ (h1 : m + 1 < l.length), lookD l (m + 1) = (may (l[m + 1]'h1) && (decide (o < 0) && lookD l (m + 2)))) := fun h1 => by
            have e := lookD_succ l m h1
            have e2 : (l[m + 1]'h1).path = p := by
              have := HFk.out
              subst hm
              rw [this]
            rw [e, e2, hq, hcc]
          have hc0 : wr.cell? ⟨b, off + m * 11, none⟩ = some (.string (bs q0)) := by
            obtain ⟨b', off', ea, _, _, z0, _⟩ := CS.at H'.out HB.out hml
            injection ea with ea
            injection ea with e1 e2
            subst e1 e2
            rw [← hq]; exact z0
          have x4 : ∀ X : GW w1, X.it.cell? ⟨b, off + m * 11, none⟩ = some (.string (bs q0)) := fun X => X.cell (p := ⟨b, off + m * 11, none⟩) (Nat.lt_of_lt_of_le hbr HB1.out.size) ((HB1.out.cell (p := ⟨b, off + m * 11, none⟩) hbr).trans hc0)
          have k3 : (m : Int) < (n : Int) := by omega
          have k4 : (0 : Int) ≤ (m : Int) := by omega
          have k6 : (0 : Int) < (k : Int) := by omega
          have k5 : IntKind.i64.wrap ((k : Int) - 1) = (m : Int) := by
            have e : (k : Int) - 1 = (m : Int) := by omega
            rw [e]; exact wrap_small m (by omega)
          clear hc0 hq hcc hm
          refine wp_region_grow (by kernel_rfl) (by kernel_rfl) ?_
          repeat (go_big_quiet_step (fail))
          go_big_quiet_step (exact HEf.out _ _)
          repeat (go_big_quiet_step (fail))
          go_big_quiet_step (exact HFol.out _ _)
          repeat (go_big_quiet_step (fail))
          refine wpQuiet_nil ?_
          rintro w2 ⟨⟨w2, bx⟩, rfl⟩
          have HB5 : Hid (Below w.heap.size w w2) := bstep (bstep HB.out HB1.out) bx
          clear bx y0 y1 y2 y3 y4 y5 y6 y7 y8 y9 y10 x4
          by_cases ho : o < 0
          · have HO : Hid (decide (o < 0) = true) := by show decide (o < 0) = true; simpa using ho
            go_wp2_with fail
            go_roundw
            case rel =>
              refine ⟨k + 1, by omega, by go_num, HB5.out, ?_⟩
              have h1 := HL.out
              have hkm := HKM.out
              subst hkm
              rw [HC.out hkl, HE.out, HO.out] at h1
              simpa using h1
            case measure => simp [intOf]; omega
          · have HO : Hid (decide (o < 0) = false) := by show decide (o < 0) = false; simpa using ho
            go_wp2_with fail
            go_ret
            refine ⟨?_, HB5.out⟩
            have h1 := HL.out
            have hkm := HKM.out
            subst hkm
            rw [HC.out hkl, HO.out] at h1
            simp at h1
            rw [← h1]; rfl
    · obtain rfl : k = n := by omega
      go_wp2_with fail
      go_ret
      refine ⟨?_, HB.out⟩
      have h1 := HL.out
      have h2 := HN.out
      subst h2
      rw [lookD_end] at h1
      rw [← h1]; rfl
end Go.Proofs.Ytinhdjoidbcfaaa
