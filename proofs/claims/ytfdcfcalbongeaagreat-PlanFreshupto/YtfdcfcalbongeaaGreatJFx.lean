/-
  The package: files together; one found; two lists.
  Lists held against each other; lists in new memory with marks behind them.
  Lists of files held against each other.
-/
import Derived.Test.YtfdcfcalbongeaaGreatSPkg
import Derived.OwnWalk
import Derived.Test.YtfdcfcalbongeaaGreatJSEq
namespace Go.Proofs.YtfdcfcalbongeaaGreat
open Go.RowKit

theorem fol_step (l : List Fl) (k : Nat) (h : k + 1 < l.length) : chain (l.drop k) = (fol (l[k]'(by omega)).path (l[k + 1]'h).path && chain (l.drop (k + 1))) := by
  rw [List.drop_eq_getElem_cons (by omega : k < l.length), List.drop_eq_getElem_cons h, chain]
theorem all_step (l : List Fl) (P : Fl → Bool) (k : Nat) (h : k < l.length) : (l.drop k).all P = (P (l[k]'h) && (l.drop (k + 1)).all P) := by
  rw [List.drop_eq_getElem_cons h, List.all_cons]
theorem chain_short (l : List Fl) (h : l.length ≤ 1) : chain l = true := by
  match l, h with
  | [], _ => rfl
  | [a], _ => rfl
/-- what is still to be looked at -/
def lookF (l : List Fl) (k : Nat) : Bool := (l.drop k).all (fun f => fileE f == 0) && chain (l.drop (k - 1))
theorem lookF_end (l : List Fl) : lookF l l.length = true := by
  unfold lookF
  rw [List.drop_length, chain_short _ (by simp; omega)]; rfl
theorem lookF_zero (l : List Fl) (h : 0 < l.length) : lookF l 0 = (fileE (l[0]'h) == 0 && lookF l 1) := by
  unfold lookF
  rw [all_step l _ 0 h]
  simp only [Nat.zero_sub, Nat.sub_self, Nat.zero_add, Bool.and_assoc]
theorem lookF_succ (l : List Fl) (k : Nat) (h : k + 1 < l.length) : lookF l (k + 1) = (fileE (l[k + 1]'h) == 0 && (fol (l[k]'(by omega)).path (l[k + 1]'h).path && lookF l (k + 2))) := by
  unfold lookF
  rw [all_step l _ (k + 1) h]
  simp only [Nat.add_sub_cancel, show k + 2 - 1 = k + 1 by omega]
  rw [fol_step l k h]
  cases (fileE l[k + 1] == 0) <;> cases ((l.drop (k + 1 + 1)).all fun f => fileE f == 0) <;> simp

theorem gw_file {w : World} {p t : List UInt8} {b s : Int} {E : Int} (hf : Fok ⟨p, t, b, s⟩) (hE : fileE ⟨p, t, b, s⟩ = E) (X : GW w) :
    Calls Tryz.prog 36 #[.agg #[.string (bs p), .string (bs t), .int .i64 b, .int .i64 s]] X.it fun e w' => e = .returned (.int .i64 E) ∧ ∃ Y : GW w, w' = Y.it :=
  gw_of (fun W => by rw [← hE]; exact file_any ⟨p, t, b, s⟩ W hf) X
theorem gw_fol {w : World} {q p : List UInt8} {c : Bool} (hq : q.length ≤ 1000000000) (hp : p.length ≤ 1000000000) (hc : fol p q = c) (X : GW w) :
    Calls Tryz.prog 57 #[.string (bs q), .string (bs p)] X.it fun e w' => e = .returned (.bool c) ∧ ∃ Y : GW w, w' = Y.it :=
  gw_of (fun W => by rw [← hc]; exact follows_any q p W hq hp) X

set_option maxRecDepth 100000 in
set_option maxHeartbeats 4000000 in
theorem stand_any {w : World} {v : Value} {l : List Fl} (h : FS w v l) (sm : FSm l) : Calls Tryz.prog 37 #[v] w fun e w' => e = .returned (.bool (stand l)) ∧ Below w.heap.size w w' := by
  have e0 : stand l = (decide (l.length ≤ 512) && lookF l 0) := by unfold stand lookF; simp [Bool.and_assoc]
  rw [e0]
  clear e0
  obtain ⟨r, hr⟩ : ∃ r, lookF l 0 = r := ⟨_, rfl⟩
  rw [hr]
  have HR : Hid (lookF l 0 = r) := hr
  have H : Hid (FS w v l) := h
  have SM : Hid (FSm l) := sm
  have hlen : l.length ≤ 1000000000 := sm.len
  clear hr sm
  obtain ⟨a, c, rfl, _⟩ := h.form
  clear h
  obtain ⟨n, hn⟩ : ∃ n, l.length = n := ⟨_, rfl⟩
  rw [hn] at hlen ⊢
  have HN : Hid (l.length = n) := hn
  have H' : Hid (FS w (.slice a l.length c) l) := H.out
  clear H hn
  by_cases h5 : n ≤ 512
  · have hd : decide (n ≤ 512) = true := by simpa using h5
    rw [hd, Bool.true_and]
    go_enter Tryz.func37, Tryz.ntmps37
    go_wp2_with fail
    go_loopw [10] (fun i wr => ∃ k : Nat, k ≤ n ∧ i = .int .i64 k ∧ Below w.heap.size w wr ∧ lookF l k = r) (fun i _ => n - (intOf i).toNat)
    case atStart => exact ⟨0, by omega, rfl, Below.refl _ _, HR.out⟩
    case round =>
      obtain ⟨k, hk, rfl, hb, hl⟩ := hrel
      have HB : Hid (Below w.heap.size w wr) := hb
      have HL : Hid (lookF l k = r) := hl
      clear hb hl
      by_cases hlt : k < n
      · have hkl : k < l.length := by have := HN.out; omega
        obtain ⟨b, off, ea, hbw, d0, d1, d2, d3⟩ := FS.at H'.out HB.out hkl
        subst ea
        have F : Hid (Fok l[k]) := SM.out.at hkl
        have hbr : b < wr.heap.size := Nat.lt_of_lt_of_le hbw HB.out.size
        obtain ⟨f, hf⟩ : ∃ f, l[k] = f := ⟨_, rfl⟩
        rw [hf] at d0 d1 d2 d3 F
        have HFk : Hid (l[k] = f) := hf
        clear hf
        obtain ⟨p, t, bl, s⟩ := f
        simp only at d0 d1 d2 d3
        have k1 : (0 : Int) ≤ (k : Int) := by omega
        have k2 : (k : Int) < (n : Int) := by omega
        obtain ⟨E, hE⟩ : ∃ E, fileE ⟨p, t, bl, s⟩ = E := ⟨_, rfl⟩
        have HEf : Hid (∀ (w : World) (X : GW w), Calls Tryz.prog 36 #[.agg #[.string (bs p), .string (bs t), .int .i64 bl, .int .i64 s]] X.it fun e w' => e = .returned (.int .i64 E) ∧ ∃ Y : GW w, w' = Y.it) := fun _ X => gw_file F.out hE X
        have HE : Hid (fileE (l[k]'hkl) = E) := by rw [HFk.out]; exact hE
        clear hE
        have x0 : ∀ (w' : World), Below wr.heap.size wr w' → ∀ X : GW w', X.it.cell? ⟨b, off + k * 4, none⟩ = some (.string (bs p)) := fun w' hb X => X.cell (Nat.lt_of_lt_of_le hbr hb.size) ((hb.cell (p := ⟨b, off + k * 4, none⟩) hbr).trans d0)
        have X0 : Hid (∀ (w' : World), Below wr.heap.size wr w' → ∀ X : GW w', X.it.cell? ⟨b, off + k * 4, none⟩ = some (.string (bs p))) := x0
        clear x0
        go_wp2_with fail
        obtain ⟨w1, hw1⟩ : ∃ w1, wr.alloc (.cells #[.string (bs p), .string (bs t), .int .i64 bl, .int .i64 s] 30) = w1 := ⟨_, rfl⟩
        have FBn : Hid (FB w1 wr.heap.size ⟨p, t, bl, s⟩) := by rw [← hw1]; exact FB.new wr ⟨p, t, bl, s⟩ 30
        have HB1 : Hid (Below wr.heap.size wr w1) := by rw [← hw1]; exact balloc _ _
        rw [hw1]
        clear hw1 d0 d1 d2 d3
        obtain ⟨c0, c1, c2, c3, hlt1⟩ := FBn.out
        simp only at c0 c1 c2 c3
        have y0 : ∀ X : GW w1, X.it.cell? ⟨wr.heap.size, 0, none⟩ = some (.string (bs p)) := fun X => X.cell hlt1 c0
        have y1 : ∀ X : GW w1, X.it.cell? ⟨wr.heap.size, 1, none⟩ = some (.string (bs t)) := fun X => X.cell hlt1 c1
        have y2 : ∀ X : GW w1, X.it.cell? ⟨wr.heap.size, 2, none⟩ = some (.int .i64 bl) := fun X => X.cell hlt1 c2
        have y3 : ∀ X : GW w1, X.it.cell? ⟨wr.heap.size, 3, none⟩ = some (.int .i64 s) := fun X => X.cell hlt1 c3
        have xne := gw_ne w1
        clear c0 c1 c2 c3 FBn
        by_cases hE0 : E = 0
        · subst hE0
          rcases Nat.eq_zero_or_pos k with hk0 | hk0
          · subst hk0
            refine wp_region_grow (by kernel_rfl) (by kernel_rfl) ?_
            go_big_quiet_step (exact HEf.out _ _)
            repeat (go_big_quiet_step (exact HEf.out _ _))
            refine wpQuiet_nil ?_
            rintro w2 ⟨⟨w2, bx⟩, rfl⟩
            have HB5 : Hid (Below w.heap.size w w2) := bstep (bstep HB.out HB1.out) bx
            clear bx
            go_wp2_with fail
            go_roundw
            case rel => exact ⟨1, by omega, rfl, HB5.out, by have h1 := HL.out; rw [lookF_zero l hkl, HE.out] at h1; simpa using h1⟩
            case measure => simp [intOf]; omega
          · obtain ⟨m, hm⟩ : ∃ m, k = m + 1 := ⟨k - 1, by omega⟩
            have HKM : Hid (k = m + 1) := hm
            have hml : m < l.length := by omega
            obtain ⟨q, hq⟩ : ∃ q, (l[m]'hml).path = q := ⟨_, rfl⟩
            have hql : q.length ≤ 1000000000 := by rw [← hq]; exact (SM.out.at hml).path
            obtain ⟨cc, hcc⟩ : ∃ cc, fol q p = cc := ⟨_, rfl⟩
            have HFol : Hid (∀ (w : World) (X : GW w), Calls Tryz.prog 57 #[.string (bs p), .string (bs q)] X.it fun e w' => e = .returned (.bool cc) ∧ ∃ Y : GW w, w' = Y.it) := fun _ X => gw_fol F.out.path hql hcc X
            have HC : Hid (∀ (h1 : m + 1 < l.length), lookF l (m + 1) = (fileE (l[m + 1]'h1) == 0 && (cc && lookF l (m + 2)))) := fun h1 => by
              have e := lookF_succ l m h1
              have e2 : (l[m + 1]'h1) = ⟨p, t, bl, s⟩ := by
                have := HFk.out
                subst hm
                exact this
              rw [e, e2, hq, hcc]
            have hc0 : wr.cell? ⟨b, off + m * 4, none⟩ = some (.string (bs q)) := by
              obtain ⟨b', off', ea, _, z0, _⟩ := FS.at H'.out HB.out hml
              injection ea with ea
              injection ea with e1 e2
              subst e1 e2
              rw [← hq]; exact z0
            have y4 : ∀ X : GW w1, X.it.cell? ⟨b, off + m * 4, none⟩ = some (.string (bs q)) := fun X => X.cell (p := ⟨b, off + m * 4, none⟩) (Nat.lt_of_lt_of_le hbr HB1.out.size) ((HB1.out.cell (p := ⟨b, off + m * 4, none⟩) hbr).trans hc0)
            have k3 : (m : Int) < (n : Int) := by omega
            have k4 : (0 : Int) ≤ (m : Int) := by omega
            have k6 : (0 : Int) < (k : Int) := by omega
            have k5 : IntKind.i64.wrap ((k : Int) - 1) = (m : Int) := by
              have e : (k : Int) - 1 = (m : Int) := by omega
              rw [e]; exact wrap_small m (by omega)
            clear hc0 hq hcc hm
            refine wp_region_grow (by kernel_rfl) (by kernel_rfl) ?_
            repeat (go_big_quiet_step (fail))
            go_big_quiet_step (exact HEf.out _ _)
            repeat (go_big_quiet_step (fail))
            go_big_quiet_step (exact HFol.out _ _)
            repeat (go_big_quiet_step (fail))
            refine wpQuiet_nil ?_
            rintro w2 ⟨⟨w2, bx⟩, rfl⟩
            have HB5 : Hid (Below w.heap.size w w2) := bstep (bstep HB.out HB1.out) bx
            clear bx y0 y1 y2 y3 y4
            cases cc
            · go_wp2_with fail
              go_ret
              refine ⟨?_, HB5.out⟩
              have h1 := HL.out
              have hkm := HKM.out
              subst hkm
              rw [HC.out hkl] at h1
              simp at h1
              rw [← h1]; rfl
            · go_wp2_with fail
              go_roundw
              case rel =>
                refine ⟨k + 1, by omega, by go_num, HB5.out, ?_⟩
                have h1 := HL.out
                have hkm := HKM.out
                subst hkm
                rw [HC.out hkl] at h1
                have h2 := HE.out
                rw [h2] at h1
                simpa using h1
              case measure => simp [intOf]; omega
        · have hE1 : (E == 0) = false := by simpa using hE0
          have hE2 : (E != 0) = true := by simpa using hE0
          refine wp_region_grow (by kernel_rfl) (by kernel_rfl) ?_
          go_big_quiet_step (exact HEf.out _ _)
          repeat (go_big_quiet_step (exact HEf.out _ _))
          refine wpQuiet_nil ?_
          rintro w2 ⟨⟨w2, bx⟩, rfl⟩
          have HB5 : Hid (Below w.heap.size w w2) := bstep (bstep HB.out HB1.out) bx
          clear bx y0 y1 y2 y3
          go_wp2_with fail
          go_ret
          refine ⟨?_, HB5.out⟩
          have h1 := HL.out
          unfold lookF at h1
          rw [all_step l _ k hkl, HE.out, hE1] at h1
          simp at h1
          rw [← h1]; rfl
      · obtain rfl : k = n := by omega
        go_wp2_with fail
        go_ret
        refine ⟨?_, HB.out⟩
        have h1 := HL.out
        have h2 := HN.out
        subst h2
        rw [lookF_end] at h1
        rw [← h1]; rfl
  · have hd : decide (n ≤ 512) = false := by simpa using h5
    rw [hd, Bool.false_and]
    go_enter Tryz.func37, Tryz.ntmps37
    go_wp2_with fail
    go_ret
    exact ⟨rfl, Below.refl _ _⟩

theorem gw_file' (f : Fl) (hf : Fok f) (w : World) : Calls Tryz.prog 36 #[.agg #[.string (bs f.path), .string (bs f.text), .int .i64 f.blob, .int .i64 f.size]] w fun e w' => e = .returned (.int .i64 (fileE f)) ∧ Below w.heap.size w w' := file_any f w hf

set_option maxRecDepth 100000 in
set_option maxHeartbeats 4000000 in
theorem valid2_any {w : World} {v : Value} {l : List Fl} (h : FS w v l) (sm : FSm l) : Calls Tryz.prog 18 #[v] w fun e w' => e = .returned (.int .i64 (validE l)) ∧ Below w.heap.size w w' := by
  obtain ⟨r, hr⟩ : ∃ r, l.all (fun f => pathOk f.path) = r := ⟨_, rfl⟩
  have e0 : validE l = if r then (if stand l then 0 else 8) else 7 := by unfold validE; rw [hr]
  rw [e0]
  clear e0
  have HR : Hid ((l.drop 0).all (fun f => pathOk f.path) = r) := hr
  have H : Hid (FS w v l) := h
  have SM : Hid (FSm l) := sm
  have hlen : l.length ≤ 1000000000 := sm.len
  clear hr sm
  have HS : Hid (∀ w' : World, Below w.heap.size w w' → Calls Tryz.prog 37 #[v] w' fun e w' => e = .returned (.bool (stand l)) ∧ Below w.heap.size w w') := fun w' hb =>
    (stand_any (H.out.later hb) SM.out).mono fun e w2 ⟨he, h2⟩ => ⟨he, bstep hb h2⟩
  generalize stand l = st at *
  obtain ⟨a, c, rfl, _⟩ := h.form
  clear h
  obtain ⟨n, hn⟩ : ∃ n, l.length = n := ⟨_, rfl⟩
  have H' : Hid (FS w (.slice a l.length c) l) := H.out
  clear H
  rw [hn] at hlen HS ⊢
  have HN : Hid (l.length = n) := hn
  clear hn
  obtain ⟨A, hA⟩ : ∃ A : Int, (if r then (if st then (0 : Int) else 8) else 7) = A := ⟨_, rfl⟩
  rw [hA]
  have HA : Hid ((if r then (if st then (0 : Int) else 8) else 7) = A) := hA
  clear hA
  go_enter Tryz.func18, Tryz.ntmps18
  go_wp2_with fail
  go_loopw [7] (fun i wr => ∃ k : Nat, k ≤ n ∧ i = .int .i64 k ∧ Below w.heap.size w wr ∧ (l.drop k).all (fun f => pathOk f.path) = r) (fun i _ => n - (intOf i).toNat)
  case atStart => exact ⟨0, by omega, rfl, Below.refl _ _, HR.out⟩
  case round =>
    obtain ⟨k, hk, rfl, hb, hl⟩ := hrel
    have HB : Hid (Below w.heap.size w wr) := hb
    have HL : Hid ((l.drop k).all (fun f => pathOk f.path) = r) := hl
    clear hb hl
    by_cases hlt : k < n
    · have hkl : k < l.length := by have := HN.out; omega
      obtain ⟨b, off, ea, hbw, d0, d1, d2, d3⟩ := FS.at H'.out HB.out hkl
      subst ea
      have F : Hid (Fok l[k]) := SM.out.at hkl
      obtain ⟨f, hf⟩ : ∃ f, l[k] = f := ⟨_, rfl⟩
      rw [hf] at d0 d1 d2 d3 F
      have HFk : Hid (l[k] = f) := hf
      clear hf
      have HEf : Hid (∀ (w : World), Calls Tryz.prog 36 #[.agg #[.string (bs f.path), .string (bs f.text), .int .i64 f.blob, .int .i64 f.size]] w fun e w' => e = .returned (.int .i64 (fileE f)) ∧ Below w.heap.size w w') := gw_file' f F.out
      have HE : Hid (pathOk f.path = false ↔ fileE f = 7) := (fileE_seven f).symm
      have HS2 : Hid ((pathOk f.path && (l.drop (k + 1)).all (fun f => pathOk f.path)) = r) := by
        have h1 := HL.out
        rw [all_step l _ k hkl, HFk.out] at h1; exact h1
      obtain ⟨p, t, bl, s⟩ := f
      simp only at d0 d1 d2 d3 HEf HE HS2
      generalize fileE ⟨p, t, bl, s⟩ = E at *
      have k1 : (0 : Int) ≤ (k : Int) := by omega
      have k2 : (k : Int) < (n : Int) := by omega
      go_wp2_with fail
      refine (HEf.out _).mono ?_
      rintro e w2 ⟨rfl, hb2⟩
      have HB2 : Hid (Below w.heap.size w w2) := bstep (bstep HB.out (balloc _ _)) hb2
      clear hb2 d0 d1 d2 d3
      by_cases hE : E = 7
      · subst hE
        go_wp2_with fail
        go_ret
        refine ⟨?_, HB2.out⟩
        have h1 := HS2.out
        rw [HE.out.2 (by simp)] at h1
        obtain rfl : r = false := by simpa using h1.symm
        have h2 := HA.out
        rw [← h2]; rfl
      · go_wp2_with fail
        go_roundw
        case rel =>
          refine ⟨k + 1, by omega, by go_num, HB2.out, ?_⟩
          have h1 := HS2.out
          have h2 : pathOk p = true := by
            cases hp : pathOk p
            · exact absurd (HE.out.1 hp) hE
            · rfl
          rw [h2] at h1; simpa using h1
        case measure => simp [intOf]; omega
    · obtain rfl : k = n := by omega
      have hr : r = true := by
        have h1 := HL.out
        rw [List.drop_eq_nil_of_le (by have := HN.out; omega)] at h1
        exact h1.symm
      subst hr
      go_wp2_with fail
      refine (HS.out _ HB.out).mono ?_
      rintro e w2 ⟨rfl, hb2⟩
      have HB2 : Hid (Below w.heap.size w w2) := hb2
      clear hb2
      cases st
      · go_wp2_with fail
        go_ret
        exact ⟨by have h2 := HA.out; rw [← h2]; rfl, HB2.out⟩
      · go_wp2_with fail
        go_ret
        exact ⟨by have h2 := HA.out; rw [← h2]; rfl, HB2.out⟩
end Go.Proofs.YtfdcfcalbongeaaGreat

namespace Go.Proofs.YtfdcfcalbongeaaGreat
open Go.RowKit

theorem leq_step (a b : List Fl) (k : Nat) (ha : k < a.length) (hb : k < b.length) : leq (a.drop k) (b.drop k) = (feq (a[k]'ha) (b[k]'hb) && leq (a.drop (k + 1)) (b.drop (k + 1))) := by
  rw [List.drop_eq_getElem_cons ha, List.drop_eq_getElem_cons hb, leq]
theorem leq_len {a b : List Fl} (h : a.length ≠ b.length) : leq a b = false := by
  cases e : leq a b
  · rfl
  · exact absurd (congrArg List.length ((leq_iff a b).1 e)) h
end Go.Proofs.YtfdcfcalbongeaaGreat

namespace Go.Proofs.YtfdcfcalbongeaaGreat
open Go.RowKit

set_option maxHeartbeats 2000000 in
set_option maxRecDepth 100000 in
theorem files_any {w : World} {va vb : Value} {A B : List Fl} (h1 : FS w va A) (h2 : FS w vb B) (hA : A.length ≤ 1000000000) :
    Calls Tryz.prog 11 #[va, vb] w fun e w' => e = .returned (.bool (leq A B)) ∧ Below w.heap.size w w' := by
  have CA : Hid (FS w va A) := h1
  have CB : Hid (FS w vb B) := h2
  obtain ⟨a, c, rfl⟩ : ∃ a c, va = .slice a A.length c := by obtain ⟨a, c, h, _⟩ := h1.form; exact ⟨a, c, h⟩
  obtain ⟨b, c', rfl⟩ : ∃ a c, vb = .slice a B.length c := by obtain ⟨a, c, h, _⟩ := h2.form; exact ⟨a, c, h⟩
  clear h1 h2
  have CA' : Hid (FS w (.slice a A.length c) A) := CA.out
  have CB' : Hid (FS w (.slice b B.length c') B) := CB.out
  clear CA CB
  by_cases hl : A.length = B.length
  · have e1 : (((A.length : Int)) != (B.length : Int)) = false := by rw [hl]; simp
    obtain ⟨r, hr⟩ : ∃ r, leq A B = r := ⟨_, rfl⟩
    rw [hr]
    have HR : Hid (leq (A.drop 0) (B.drop 0) = r) := hr
    clear hr
    have q1 := neq_run
    have q2 := fguard_run
    go_enter Tryz.func11, Tryz.ntmps11
    go_wp2_with fail
    go_loopw [5] (fun i wr => ∃ k n : Nat, k ≤ A.length ∧ i = .int .i64 k ∧ wr = w.drewN n ∧ leq (A.drop k) (B.drop k) = r) (fun i _ => A.length - (intOf i).toNat)
    case atStart => exact ⟨0, 0, Nat.zero_le _, rfl, rfl, HR.out⟩
    case round =>
      obtain ⟨k, n, hk, rfl, rfl, hd⟩ := hrel
      have HD : Hid (leq (A.drop k) (B.drop k) = r) := hd
      clear hd
      by_cases hlt : k < A.length
      · have hlt2 : k < B.length := by omega
        have hkb : (k : Int) < (B.length : Int) := by omega
        have HD2 : Hid ((feq (A[k]'hlt) (B[k]'hlt2) && leq (A.drop (k + 1)) (B.drop (k + 1))) = r) := by
          have h1 := HD.out
          rw [leq_step A B k hlt hlt2] at h1; exact h1
        obtain ⟨g1, o1, ea, hg1, d0, d1, d2, d3⟩ := FS.at CA'.out (Below.refl _ w) hlt
        subst ea
        obtain ⟨g2, o2, ea, hg2, e0, e1', e2, e3⟩ := FS.at CB'.out (Below.refl _ w) hlt2
        subst ea
        generalize hf : A[k] = f at d0 d1 d2 d3 HD2
        generalize hg : B[k] = g at e0 e1' e2 e3 HD2
        clear hf hg
        obtain ⟨p, t, bl, s⟩ := f
        obtain ⟨p2, t2, bl2, s2⟩ := g
        simp only at d0 d1 d2 d3 e0 e1' e2 e3 HD2
        go_wp2_with fail
        go_region
        generalize feq _ _ = x at *
        cases x
        · go_wp2_with fail
          go_ret
          refine ⟨?_, ⟨rfl, rfl, rfl, Nat.le_refl _, fun _ _ => rfl⟩⟩
          have h1 := HD2.out
          rw [Bool.false_and] at h1
          rw [← h1]; rfl
        · go_wp2_with fail
          go_roundw
          case rel => exact ⟨k + 1, n + 1, by omega, by go_num, rfl, by have h1 := HD2.out; rwa [Bool.true_and] at h1⟩
          case measure => simp [intOf]; omega
      · obtain rfl : k = A.length := by omega
        go_wp2_with fail
        go_ret
        refine ⟨?_, ⟨rfl, rfl, rfl, Nat.le_refl _, fun _ _ => rfl⟩⟩
        have h1 := HD.out
        rw [List.drop_eq_nil_of_le (Nat.le_refl _), List.drop_eq_nil_of_le (by omega)] at h1
        rw [← h1]; rfl
  · have hd : ¬ (A.length : Int) = (B.length : Int) := by omega
    have e0 : leq A B = false := leq_len hl
    rw [e0]
    go_enter Tryz.func11, Tryz.ntmps11
    go_wp2_with fail
    go_ret
    exact ⟨rfl, Below.refl _ _⟩
end Go.Proofs.YtfdcfcalbongeaaGreat
