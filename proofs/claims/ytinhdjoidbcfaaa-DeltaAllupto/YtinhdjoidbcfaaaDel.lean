/-
  Files taken out of a row: slices.IndexFunc, slices.DeleteFunc.
-/
import Derived.Test.YtinhdjoidbcfaaaRow
namespace Go.Proofs.Ytinhdjoidbcfaaa
open Go.RowKit

set_option maxHeartbeats 1000000 in
theorem hit_any (f : Fl) (p : List UInt8) (pb : Nat) (w : World) (hp : w.cell? ⟨pb, 0, none⟩ = some (.string (bs p))) (hlt : pb < w.heap.size) :
    Calls Try.prog 60 #[f.val, .pointer (some ⟨pb, 0, none⟩)] w fun e w' => e = .returned (.bool (f.path == p)) ∧ Below w.heap.size w w' := by
  obtain ⟨q, t, b, s⟩ := f
  simp only [Fl.val]
  have e1 := bs_toList q
  have e2 := bs_toList p
  have hne : pb ≠ w.heap.size := by omega
  go_enter Try.func60, Try.ntmps60
  go_wp2_with fail
  go_ret
  exact ⟨rfl, balloc _ _⟩

def ixF (p : List UInt8) : List Fl → Nat → Int
  | [], _ => -1
  | f :: r, k => if f.path == p then (k : Int) else ixF p r (k + 1)
theorem ixF_step (p : List UInt8) (l : List Fl) (k : Nat) (h : k < l.length) : ixF p (l.drop k) k = if (l[k]'h).path == p then (k : Int) else ixF p (l.drop (k + 1)) (k + 1) := by
  rw [List.drop_eq_getElem_cons h, ixF]
theorem ixF_spec (p : List UInt8) : ∀ (l : List Fl) (k : Nat), (ixF p l k = -1 ∧ cutF p l = l) ∨ ∃ i, ∃ h : i < l.length, ixF p l k = ((k + i : Nat) : Int) ∧ (l[i]'h).path = p ∧ cutF p (l.take i) = l.take i
  | [], k => .inl ⟨rfl, rfl⟩
  | f :: r, k => by
    by_cases hf : f.path = p
    · refine .inr ⟨0, by simp, by simp [ixF, hf], by simpa using hf, by simp [cutF]⟩
    · rcases ixF_spec p r (k + 1) with ⟨h1, h2⟩ | ⟨i, h, h1, h2, h3⟩
      · refine .inl ⟨by simp [ixF, hf, h1], ?_⟩
        unfold cutF at h2 ⊢
        rw [List.filter_cons_of_pos (by simp [hf]), h2]
      · refine .inr ⟨i + 1, by simpa using h, ?_, by simpa using h2, ?_⟩
        · have hf' : (f.path == p) = false := by simpa using hf
          rw [ixF, hf']
          simp only [Bool.false_eq_true, if_false]
          rw [h1]; congr 1; omega
        · unfold cutF at h3 ⊢
          rw [List.take_succ_cons, List.filter_cons_of_pos (by simp [hf]), h3]

set_option maxRecDepth 100000 in
set_option maxHeartbeats 2000000 in
theorem index_f {w : World} {v : Value} {l : List Fl} (h : FS w v l) (hl : l.length ≤ 140737488355328) (p : List UInt8) (pb : Nat) (hp : w.cell? ⟨pb, 0, none⟩ = some (.string (bs p))) (hpb : pb < w.heap.size) :
    Calls Try.prog 77 #[v, .func (.func 60) #[] #[.pointer (some ⟨pb, 0, none⟩)]] w fun e w' => e = .returned (.int .i64 (ixF p l 0)) ∧ Below w.heap.size w w' := by
  obtain ⟨R, hR⟩ : ∃ R, ixF p l 0 = R := ⟨_, rfl⟩
  rw [hR]
  have HR : Hid (ixF p (l.drop 0) 0 = R) := hR
  have H : Hid (FS w v l) := h
  have HP : Hid (∀ (W : World) (f : Fl), Below w.heap.size w W → Calls Try.prog 60 #[f.val, .pointer (some ⟨pb, 0, none⟩)] W fun e w' => e = .returned (.bool (f.path == p)) ∧ Below w.heap.size w w') := fun W f hW =>
    (hit_any f p pb W ((hW.cell (p := ⟨pb, 0, none⟩) hpb).trans hp) (Nat.lt_of_lt_of_le hpb hW.size)).mono fun _ _ h => ⟨h.1, bstep hW h.2⟩
  clear hR hp hpb
  obtain ⟨a, c, rfl, _⟩ := h.form
  rename_i q1
  clear h q1
  obtain ⟨n, hn⟩ : ∃ n, l.length = n := ⟨_, rfl⟩
  have H' : Hid (FS w (.slice a l.length c) l) := H.out
  clear H
  rw [hn] at hl ⊢
  have HN : Hid (l.length = n) := hn
  clear hn
  go_enter Try.func77, Try.ntmps77
  go_wp2_with fail
  go_loopw [8] (fun i wr => ∃ k : Nat, k ≤ n ∧ i = .int .i64 k ∧ Below w.heap.size w wr ∧ ixF p (l.drop k) k = R) (fun i _ => n - (intOf i).toNat)
  case atStart => exact ⟨0, by omega, rfl, Below.refl _ _, HR.out⟩
  case round =>
    obtain ⟨k, hk, rfl, hb, hl2⟩ := hrel
    have HB : Hid (Below w.heap.size w wr) := hb
    have HL : Hid (ixF p (l.drop k) k = R) := hl2
    clear hb hl2
    by_cases hlt : k < n
    · have hkl : k < l.length := by have := HN.out; omega
      obtain ⟨b, off, ea, hbw, d0, d1, d2, d3⟩ := FS.at H'.out HB.out hkl
      subst ea
      have HS : Hid ((if (l[k]'hkl).path == p then (k : Int) else ixF p (l.drop (k + 1)) (k + 1)) = R) := by
        have h1 := HL.out
        rw [ixF_step p l k hkl] at h1; exact h1
      generalize hf : l[k] = f at d0 d1 d2 d3 HS
      clear hf
      have HPf : Hid (∀ W, Below w.heap.size w W → Calls Try.prog 60 #[f.val, .pointer (some ⟨pb, 0, none⟩)] W fun e w' => e = .returned (.bool (f.path == p)) ∧ Below w.heap.size w w') := fun W hW => HP.out W f hW
      generalize (f.path == p) = x at *
      obtain ⟨q, t, bl, s⟩ := f
      simp only [Fl.val] at d0 d1 d2 d3 HPf
      have k1 : (0 : Int) ≤ (k : Int) := by omega
      have k2 : (k : Int) < (n : Int) := by omega
      go_wp2_with fail
      refine (HPf.out _ HB.out).mono ?_
      rintro e w2 ⟨rfl, hb2⟩
      have HB2 : Hid (Below w.heap.size w w2) := hb2
      clear hb2 d0 d1 d2 d3
      cases x
      · go_wp2_with fail
        go_roundw
        case rel => exact ⟨k + 1, by omega, by go_num, HB2.out, by have h1 := HS.out; simpa using h1⟩
        case measure => simp [intOf]; omega
      · go_wp2_with fail
        go_ret
        refine ⟨?_, HB2.out⟩
        have h1 := HS.out
        simp only [if_true] at h1
        rw [← h1]; rfl
    · obtain rfl : k = n := by omega
      go_wp2_with fail
      go_ret
      refine ⟨?_, HB.out⟩
      have h1 := HL.out
      rw [List.drop_eq_nil_of_le (by have := HN.out; omega)] at h1
      rw [← h1]; rfl
end Go.Proofs.Ytinhdjoidbcfaaa
