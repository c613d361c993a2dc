/-
  The document's find.
-/
import Derived.Test.YtfdcfcalbongeaaJFd
import Derived.Test.YtfdcfcalbongeaaPRef
import Derived.Test.YtfdcfcalbongeaaRows2
namespace Go.Proofs.Ytfdcfcalbongeaa
open Go.RowKit
set_option maxRecDepth 100000 in
set_option maxHeartbeats 4000000 in
theorem rfind_any {w : World} {v : Value} {l : List Fl} (q : List UInt8) (h : FS w v l) (hlen : l.length ≤ 1000000000) :
    Calls Try.prog 34 #[v, .string (bs q)] w fun e w' => e = .returned (.tuple #[(fopt (fnd l q)).val, .bool (fnd l q).isSome]) ∧ Below w.heap.size w w' := by
  obtain ⟨r, hr⟩ : ∃ r, fnd l q = r := ⟨_, rfl⟩
  rw [hr]
  have HR : Hid (fnd (l.drop 0) q = r) := hr
  have H : Hid (FS w v l) := h
  clear hr
  obtain ⟨a, c, rfl, _⟩ := h.form
  clear h
  obtain ⟨n, hn⟩ : ∃ n, l.length = n := ⟨_, rfl⟩
  have H' : Hid (FS w (.slice a l.length c) l) := H.out
  clear H
  rw [hn] at hlen ⊢
  have HN : Hid (l.length = n) := hn
  clear hn
  obtain ⟨A, hA⟩ : ∃ A, Value.tuple #[(fopt r).val, .bool r.isSome] = A := ⟨_, rfl⟩
  rw [hA]
  have HA : Hid (Value.tuple #[(fopt r).val, .bool r.isSome] = A) := hA
  clear hA
  rename_i hform
  clear hform
  have hq := bs_toList q
  go_enter Try.func34, Try.ntmps34
  go_wp2_with fail
  go_loopw [6] (fun i wr => ∃ k : Nat, k ≤ n ∧ i = .int .i64 k ∧ Below w.heap.size w wr ∧ RBf wr w.heap.size zf ∧ fnd (l.drop k) q = r) (fun i _ => n - (intOf i).toNat)
  case atStart => exact ⟨0, by omega, rfl, balloc _ _, RBf.new w zf, HR.out⟩
  case round =>
    obtain ⟨k, hk, rfl, hb, hrb, hl⟩ := hrel
    have HB : Hid (Below w.heap.size w wr) := hb
    have HZ : Hid (RBf wr w.heap.size zf) := hrb
    have HL : Hid (fnd (l.drop k) q = r) := hl
    have hlt0 := hrb.lt
    clear hb hl hrb
    by_cases hlt : k < n
    · have hkl : k < l.length := by have := HN.out; omega
      obtain ⟨b, off, ea, hbw, d0, d1, d2, d3⟩ := FS.at H'.out HB.out hkl
      subst ea
      obtain ⟨f, hf⟩ : ∃ f, l[k] = f := ⟨_, rfl⟩
      rw [hf] at d0 d1 d2 d3
      have HS2 : Hid ((if f.path = q then some f else fnd (l.drop (k + 1)) q) = r) := by
        have h1 := HL.out
        rw [fnd_step l k hkl, hf] at h1; exact h1
      clear hf
      obtain ⟨p, t, bl, s⟩ := f
      simp only at d0 d1 d2 d3 HS2
      have k1 : (0 : Int) ≤ (k : Int) := by omega
      have k2 : (k : Int) < (n : Int) := by omega
      have hp := bs_toList p
      obtain ⟨z0, z1, z2, z3, y0, y1, y2, y3⟩ := HZ.out.cells
      by_cases hpq : p = q
      · have hd : (p == q) = true := by simpa using hpq
        have HPQ : Hid (p = q) := hpq
        clear hpq
        go_wp2_with fail
        refine bodyPost_ret (results_ct rfl _ _ w.heap.size 32 #[.string (bs p), .string (bs t), .int .i64 bl, .int .i64 s] (0, 0) _ rfl ?_ Try.underlying32 rfl (by kernel_rfl)) rfl ?_
        · exact (HZ.out.set ⟨p, t, bl, s⟩).blk
        refine ⟨?_, bset4 HB.out (Nat.le_refl _) _ _ _ _⟩
        have h1 := HS2.out
        rw [if_pos HPQ.out] at h1
        rw [← HA.out, ← h1]; rfl
      · have hd : (p == q) = false := by simpa using hpq
        have HPQ : Hid (¬ p = q) := hpq
        clear hpq
        go_wp2_with fail
        go_roundw
        case rel =>
          refine ⟨k + 1, by omega, by go_num, HB.out, HZ.out, ?_⟩
          have h1 := HS2.out
          rw [if_neg HPQ.out] at h1
          exact h1
        case measure => simp [intOf]; omega
    · obtain rfl : k = n := by omega
      obtain ⟨z0, z1, z2, z3, y0, y1, y2, y3⟩ := HZ.out.cells
      go_wp2_with fail
      refine bodyPost_ret (results_ct rfl _ _ w.heap.size 32 #[.string (bs []), .string (bs []), .int .i64 0, .int .i64 0] (0, 0) _ rfl ?_ Try.underlying32 rfl (by kernel_rfl)) rfl ?_
      · exact (HZ.out.set zf).blk
      refine ⟨?_, bset4 HB.out (Nat.le_refl _) _ _ _ _⟩
      have h1 := HL.out
      rw [List.drop_eq_nil_of_le (by have := HN.out; omega)] at h1
      rw [← HA.out, ← h1]; rfl
set_option maxRecDepth 100000 in
set_option maxHeartbeats 4000000 in
theorem lfind_any {w : World} {v : Value} {l : List Fl} (q : List UInt8) (h : FS w v l) (hlen : l.length ≤ 1000000000) :
    Calls Try.prog 9 #[v, .string (bs q)] w fun e w' => e = .returned (.tuple #[(fopt (fnd l q)).val, .bool (fnd l q).isSome]) ∧ Below w.heap.size w w' := by
  obtain ⟨r, hr⟩ : ∃ r, fnd l q = r := ⟨_, rfl⟩
  rw [hr]
  have HR : Hid (fnd (l.drop 0) q = r) := hr
  have H : Hid (FS w v l) := h
  clear hr
  obtain ⟨a, c, rfl, _⟩ := h.form
  clear h
  obtain ⟨n, hn⟩ : ∃ n, l.length = n := ⟨_, rfl⟩
  have H' : Hid (FS w (.slice a l.length c) l) := H.out
  clear H
  rw [hn] at hlen ⊢
  have HN : Hid (l.length = n) := hn
  clear hn
  obtain ⟨A, hA⟩ : ∃ A, Value.tuple #[(fopt r).val, .bool r.isSome] = A := ⟨_, rfl⟩
  rw [hA]
  have HA : Hid (Value.tuple #[(fopt r).val, .bool r.isSome] = A) := hA
  clear hA
  rename_i hform
  clear hform
  have hq := bs_toList q
  go_enter Try.func9, Try.ntmps9
  go_wp2_with fail
  go_loopw [6] (fun i wr => ∃ k : Nat, k ≤ n ∧ i = .int .i64 k ∧ Below w.heap.size w wr ∧ RBf wr w.heap.size zf ∧ fnd (l.drop k) q = r) (fun i _ => n - (intOf i).toNat)
  case atStart => exact ⟨0, by omega, rfl, balloc _ _, RBf.new w zf, HR.out⟩
  case round =>
    obtain ⟨k, hk, rfl, hb, hrb, hl⟩ := hrel
    have HB : Hid (Below w.heap.size w wr) := hb
    have HZ : Hid (RBf wr w.heap.size zf) := hrb
    have HL : Hid (fnd (l.drop k) q = r) := hl
    have hlt0 := hrb.lt
    clear hb hl hrb
    by_cases hlt : k < n
    · have hkl : k < l.length := by have := HN.out; omega
      obtain ⟨b, off, ea, hbw, d0, d1, d2, d3⟩ := FS.at H'.out HB.out hkl
      subst ea
      obtain ⟨f, hf⟩ : ∃ f, l[k] = f := ⟨_, rfl⟩
      rw [hf] at d0 d1 d2 d3
      have HS2 : Hid ((if f.path = q then some f else fnd (l.drop (k + 1)) q) = r) := by
        have h1 := HL.out
        rw [fnd_step l k hkl, hf] at h1; exact h1
      clear hf
      obtain ⟨p, t, bl, s⟩ := f
      simp only at d0 d1 d2 d3 HS2
      have k1 : (0 : Int) ≤ (k : Int) := by omega
      have k2 : (k : Int) < (n : Int) := by omega
      have hp := bs_toList p
      obtain ⟨z0, z1, z2, z3, y0, y1, y2, y3⟩ := HZ.out.cells
      by_cases hpq : p = q
      · have hd : (p == q) = true := by simpa using hpq
        have HPQ : Hid (p = q) := hpq
        clear hpq
        go_wp2_with fail
        refine bodyPost_ret (results_ct rfl _ _ w.heap.size 32 #[.string (bs p), .string (bs t), .int .i64 bl, .int .i64 s] (0, 0) _ rfl ?_ Try.underlying32 rfl (by kernel_rfl)) rfl ?_
        · exact (HZ.out.set ⟨p, t, bl, s⟩).blk
        refine ⟨?_, bset4 HB.out (Nat.le_refl _) _ _ _ _⟩
        have h1 := HS2.out
        rw [if_pos HPQ.out] at h1
        rw [← HA.out, ← h1]; rfl
      · have hd : (p == q) = false := by simpa using hpq
        have HPQ : Hid (¬ p = q) := hpq
        clear hpq
        go_wp2_with fail
        go_roundw
        case rel =>
          refine ⟨k + 1, by omega, by go_num, HB.out, HZ.out, ?_⟩
          have h1 := HS2.out
          rw [if_neg HPQ.out] at h1
          exact h1
        case measure => simp [intOf]; omega
    · obtain rfl : k = n := by omega
      obtain ⟨z0, z1, z2, z3, y0, y1, y2, y3⟩ := HZ.out.cells
      go_wp2_with fail
      refine bodyPost_ret (results_ct rfl _ _ w.heap.size 32 #[.string (bs []), .string (bs []), .int .i64 0, .int .i64 0] (0, 0) _ rfl ?_ Try.underlying32 rfl (by kernel_rfl)) rfl ?_
      · exact (HZ.out.set zf).blk
      refine ⟨?_, bset4 HB.out (Nat.le_refl _) _ _ _ _⟩
      have h1 := HL.out
      rw [List.drop_eq_nil_of_le (by have := HN.out; omega)] at h1
      rw [← HA.out, ← h1]; rfl
end Go.Proofs.Ytfdcfcalbongeaa

namespace Go.Proofs.Ytfdcfcalbongeaa
open Go.RowKit

set_option maxRecDepth 100000 in
set_option maxHeartbeats 1000000 in
theorem rbase_any (l : List UInt8) (w : World) (hl : l.length < 9223372036854775807) :
    Calls Try.prog 72 #[.string (bs l)] w fun e w' => e = .returned (.string (bs (base l))) ∧ w' = w := by
  have HL : Hid (l.length < 9223372036854775807) := hl
  have hz : (bs l).size = l.length := rfl
  have h2 := lst_lt l
  have h3 := lst_ge l
  obtain ⟨n, hn⟩ : ∃ n : Nat, lst l = (n : Int) - 1 := ⟨(lst l + 1).toNat, by omega⟩
  have hd0 : base l = l.drop n := by unfold base; congr 1; omega
  rw [hd0]
  have HE : Hid ((bs l).extract n l.length = bs (l.drop n)) := extract_from l n
  have hnl : n ≤ l.length := by omega
  clear h2 h3
  go_enter Try.func72, Try.ntmps72
  go_wp2_with fail
  refine (rlast_any _ _ HL.out).mono ?_
  rintro e w1 ⟨rfl, rfl⟩
  rw [hn]
  go_wp2_with fail
  go_ret
  exact ⟨by rw [← HE.out]; rfl, rfl⟩

end Go.Proofs.Ytfdcfcalbongeaa
