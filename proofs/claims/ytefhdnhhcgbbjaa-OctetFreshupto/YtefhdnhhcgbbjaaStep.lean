import Derived.Test.YtefhdnhhcgbbjaaHead
namespace Go.Proofs.Ytefhdnhhcgbbjaa
open Go.RowKit

/-- What was there has not turned, but for the blocks of S. -/
structure Only (S : List Nat) (w w' : World) : Prop where
  os : w'.os = w.os
  tape : w'.tape = w.tape
  output : w'.output = w.output
  size : w.heap.size ≤ w'.heap.size
  block : ∀ k, k < w.heap.size → k ∉ S → w'.heap[k]? = w.heap[k]?

theorem Only.refl (S : List Nat) (w : World) : Only S w w := ⟨rfl, rfl, rfl, Nat.le_refl _, fun _ _ _ => rfl⟩
theorem Only.trans {S : List Nat} {a b c : World} (h : Only S a b) (k : Only S b c) : Only S a c :=
  ⟨k.os.trans h.os, k.tape.trans h.tape, k.output.trans h.output, Nat.le_trans h.size k.size, fun i hi hn => (k.block i (Nat.lt_of_lt_of_le hi h.size) hn).trans (h.block i hi hn)⟩
theorem Only.mono {S T : List Nat} {a b : World} (h : Only S a b) (hs : ∀ k, k ∈ S → k ∈ T) : Only T a b :=
  ⟨h.os, h.tape, h.output, h.size, fun i hi hn => h.block i hi (fun e => hn (hs i e))⟩
theorem Only.of_grown {a b : World} {g : Nat} (h : a.grownBy b (some g)) : Only [g] a b :=
  ⟨h.os, h.tape, h.output, h.size, fun i hi hn => h.block i hi (fun e => hn (by simpa using e))⟩
theorem Only.of_below {a b : World} (h : Below a.heap.size a b) (S : List Nat) : Only S a b :=
  ⟨h.os, h.tape, h.output, h.size, fun i hi _ => h.block i hi⟩
theorem Only.below {S : List Nat} {a b : World} {B : Nat} (h : Only S a b) (hB : B ≤ a.heap.size) (hS : ∀ k, k ∈ S → B ≤ k) : Below B a b :=
  ⟨h.os, h.tape, h.output, h.size, fun i hi => h.block i (by omega) (fun e => by have := hS i e; omega)⟩
theorem RD.only {S : List Nat} {w w' : World} {g d : Nat} {l : List UInt8} (h : RD w g d l) (hg : Only S w w') (h1 : g ∉ S) (h2 : d ∉ S) : RD w' g d l := by
  obtain ⟨off, cap, hc, hf, hl, hgs, hds, hne, hb, hcell⟩ := h
  refine ⟨off, cap, ?_, ?_, hl, Nat.lt_of_lt_of_le hgs hg.size, Nat.lt_of_lt_of_le hds hg.size, hne, hb, fun i u hu => ?_⟩
  · rw [World.cell?_of_block (w := w) (hg.block g hgs h1)]; exact hc
  · rw [World.frozen?_of_block (w := w) (hg.block g hgs h1)]; exact hf
  · rw [World.cell?_of_block (w := w) (hg.block d hds h2)]; exact hcell i u hu

/-- what is left behind a call -/
def nextL (k n : Int) (l : List UInt8) : List UInt8 := if k = 0 then (numberS n l).2.2 else if k = 1 then (intS l).2.2 else if k = 2 then (textS n l).2.2 else l

set_option maxHeartbeats 1000000 in
theorem step_any {w : World} {gr dr gq dq : Nat} {l : List UInt8} (hr : RD w gr dr l) (hq : RD w gq dq l) (h1 : gr ≠ gq) (h2 : dr ≠ gq) (h3 : dq ≠ gr) (k n : Int) :
    Calls Try.prog 26 #[.pointer (some ⟨gr, 0, none⟩), .pointer (some ⟨gq, 0, none⟩), .agg #[.int .i64 k, .int .i64 n]] w fun e w' => e = .returned (.bool true) ∧ RD w' gr dr (nextL k n l) ∧ RD w' gq dq (nextL k n l) ∧ Only [gr, gq] w w' := by
  have HR : Hid (RD w gr dr l) := hr
  have HQ : Hid (RD w gq dq l) := hq
  have hrs : gr < w.heap.size := by obtain ⟨_, _, _, _, _, h, _⟩ := hr; exact h
  have hqs : gq < w.heap.size := by obtain ⟨_, _, _, _, _, h, _⟩ := hq; exact h
  have h4 := Ne.symm h1
  clear hr hq
  have hsame : ∀ w' : World, Only [gr, gq] (w.alloc (.cells #[.int .i64 k, .int .i64 n] 58)) w' → w'.cell? ⟨w.heap.size, 0, none⟩ = some (.int .i64 k) ∧ w'.cell? ⟨w.heap.size, 1, none⟩ = some (.int .i64 n) := by
    intro w' ho
    have hb : w'.heap[w.heap.size]? = (w.alloc (.cells #[.int .i64 k, .int .i64 n] 58)).heap[w.heap.size]? := ho.block _ (by simp) (by simp; omega)
    refine ⟨?_, ?_⟩
    · rw [World.cell?_of_block (w := w.alloc (.cells #[.int .i64 k, .int .i64 n] 58)) hb]; simp
    · rw [World.cell?_of_block (w := w.alloc (.cells #[.int .i64 k, .int .i64 n] 58)) hb]; simp
  have HS : Hid (∀ w' : World, Only [gr, gq] (w.alloc (.cells #[.int .i64 k, .int .i64 n] 58)) w' → w'.cell? ⟨w.heap.size, 0, none⟩ = some (.int .i64 k) ∧ w'.cell? ⟨w.heap.size, 1, none⟩ = some (.int .i64 n)) := hsame
  clear hsame
  by_cases k0 : k = 0
  · subst k0
    have hN : nextL 0 n l = (numberS n l).2.2 := by simp [nextL]
    rw [hN]
    clear hN
    go_enter Try.func26, Try.ntmps26
    go_wp2_with fail
    refine (number_any (HR.out.later (balloc w _)) n).mono ?_
    rintro e w1 ⟨rfl, hr1, hg1⟩
    have HR1 : Hid (RD w1 gr dr (numberS n l).2.2) := hr1
    have O1 : Hid (Only [gr] (w.alloc (.cells #[.int .i64 0, .int .i64 n] 58)) w1) := Only.of_grown hg1
    have hc := (HS.out w1 (O1.out.mono (by simp))).2
    have HQ1 : Hid (RD w1 gq dq l) := (HQ.out.later (balloc w _)).only O1.out (by simpa using h4) (by simpa using h3)
    clear hr1 hg1
    go_wp2_with fail
    refine (rnumber_any HQ1.out n).mono ?_
    rintro e w2 ⟨rfl, hq2, hg2⟩
    have HQ2 : Hid (RD w2 gq dq (numberS n l).2.2) := hq2
    have O2 : Hid (Only [gq] w1 w2) := Only.of_grown hg2
    have HR2 : Hid (RD w2 gr dr (numberS n l).2.2) := HR1.out.only O2.out (by simpa using h1) (by simpa using h2)
    clear hq2 hg2 hc
    go_wp2_with fail
    go_ret
    refine ⟨rfl, HR2.out, HQ2.out, ((Only.of_below (balloc w _) _).trans (O1.out.mono (by simp))).trans (O2.out.mono (by simp))⟩
  · by_cases k1 : k = 1
    · subst k1
      have hN : nextL 1 n l = (intS l).2.2 := by simp [nextL]
      rw [hN]
      clear hN
      go_enter Try.func26, Try.ntmps26
      go_wp2_with fail
      refine (int_any (HR.out.later (balloc w _))).mono ?_
      rintro e w1 ⟨rfl, hr1, hg1⟩
      have HR1 : Hid (RD w1 gr dr (intS l).2.2) := hr1
      have O1 : Hid (Only [gr] (w.alloc (.cells #[.int .i64 1, .int .i64 n] 58)) w1) := Only.of_grown hg1
      have hc := (HS.out w1 (O1.out.mono (by simp))).2
      have HQ1 : Hid (RD w1 gq dq l) := (HQ.out.later (balloc w _)).only O1.out (by simpa using h4) (by simpa using h3)
      clear hr1 hg1
      go_wp2_with fail
      refine (rint_any HQ1.out).mono ?_
      rintro e w2 ⟨rfl, hq2, hg2⟩
      have HQ2 : Hid (RD w2 gq dq (intS l).2.2) := hq2
      have O2 : Hid (Only [gq] w1 w2) := Only.of_grown hg2
      have HR2 : Hid (RD w2 gr dr (intS l).2.2) := HR1.out.only O2.out (by simpa using h1) (by simpa using h2)
      clear hq2 hg2 hc
      go_wp2_with fail
      go_ret
      refine ⟨rfl, HR2.out, HQ2.out, ((Only.of_below (balloc w _) _).trans (O1.out.mono (by simp))).trans (O2.out.mono (by simp))⟩
    · by_cases k2 : k = 2
      · subst k2
        have hN : nextL 2 n l = (textS n l).2.2 := by simp [nextL]
        rw [hN]
        clear hN
        go_enter Try.func26, Try.ntmps26
        go_wp2_with fail
        refine (text_any' (HR.out.later (balloc w _)) n).mono ?_
        rintro e w1 ⟨rfl, hr1, hg1⟩
        have HR1 : Hid (RD w1 gr dr (textS n l).2.2) := hr1
        have O1 : Hid (Only [gr] (w.alloc (.cells #[.int .i64 2, .int .i64 n] 58)) w1) := Only.of_grown hg1
        have hc := (HS.out w1 (O1.out.mono (by simp))).2
        have HQ1 : Hid (RD w1 gq dq l) := (HQ.out.later (balloc w _)).only O1.out (by simpa using h4) (by simpa using h3)
        clear hr1 hg1
        go_wp2_with fail
        refine (rtext_any' HQ1.out n).mono ?_
        rintro e w2 ⟨rfl, hq2, hg2⟩
        have HQ2 : Hid (RD w2 gq dq (textS n l).2.2) := hq2
        have O2 : Hid (Only [gq] w1 w2) := Only.of_grown hg2
        have HR2 : Hid (RD w2 gr dr (textS n l).2.2) := HR1.out.only O2.out (by simpa using h1) (by simpa using h2)
        clear hq2 hg2 hc
        go_wp2_with fail
        go_ret
        refine ⟨rfl, HR2.out, HQ2.out, ((Only.of_below (balloc w _) _).trans (O1.out.mono (by simp))).trans (O2.out.mono (by simp))⟩
      · have hN : nextL k n l = l := by simp [nextL, k0, k1, k2]
        rw [hN]
        clear hN
        have e0 : (k == 0) = false := by rw [beq_eq_false_iff_ne]; exact k0
        have e1 : (k == 1) = false := by rw [beq_eq_false_iff_ne]; exact k1
        have e2 : (k == 2) = false := by rw [beq_eq_false_iff_ne]; exact k2
        clear k0 k1 k2
        go_enter Try.func26, Try.ntmps26
        go_wp2_with fail
        go_ret
        exact ⟨rfl, HR.out.later (balloc w _), HQ.out.later (balloc w _), Only.of_below (balloc w _) _⟩

end Go.Proofs.Ytefhdnhhcgbbjaa
