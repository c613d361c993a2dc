/-
  Lists are new memory: the law LexFresh, walked.
-/
import Derived.Test.YtclpbhoopmdojaaFreshC
namespace Go.Proofs.Ytclpbhoopmdojaa
open Go.RowKit

/-- one of four -/
def V4 {α : Type} (a b c d : α) (i : Nat) : α := if i = 0 then a else if i = 1 then b else if i = 2 then c else d
theorem quad4 {w : World} {va vb vc vd : Value} {ga A0 A1 A2 A3 A4 : Nat} (c0 : w.cell? ⟨ga, 0, none⟩ = some va) (c1 : w.cell? ⟨ga, 1, none⟩ = some vb) (c2 : w.cell? ⟨ga, 2, none⟩ = some vc) (c3 : w.cell? ⟨ga, 3, none⟩ = some vd)
    (ha : ∀ g, va.ownBlock = some g → A0 ≤ g ∧ g < A1) (hb : ∀ g, vb.ownBlock = some g → A1 ≤ g ∧ g < A2) (hc : ∀ g, vc.ownBlock = some g → A2 ≤ g ∧ g < A3) (hd : ∀ g, vd.ownBlock = some g → A3 ≤ g ∧ g < A4)
    (h1 : A1 ≤ A2) (h2 : A2 ≤ A3) (h3 : A3 ≤ A4) (h4 : A4 ≤ ga) (h5 : ga < w.heap.size) : Quad w ga (V4 va vb vc vd) := by
  have four : ∀ i, i < 4 → i = 0 ∨ i = 1 ∨ i = 2 ∨ i = 3 := fun i hi => by omega
  have key : ∀ i, i < 4 → ∀ g, (V4 va vb vc vd i).ownBlock = some g → g < A4 := fun i hi g hg => by
    rcases four i hi with rfl | rfl | rfl | rfl
    · have := ha g hg; omega
    · have := hb g hg; omega
    · have := hc g hg; omega
    · have := hd g hg; omega
  refine ⟨fun i hi => ?_, h5, fun i hi e => ?_, fun i hi g hg => ?_, fun i j hi hj hij g hg e => ?_⟩
  · rcases four i hi with rfl | rfl | rfl | rfl
    · exact c0
    · exact c1
    · exact c2
    · exact c3
  · have := key i hi _ e; omega
  · have := key i hi g hg; omega
  · rcases four i hi with rfl | rfl | rfl | rfl <;> rcases four j hj with rfl | rfl | rfl | rfl
    · exact hij rfl
    · have := ha g hg; have := hb g e; omega
    · have := ha g hg; have := hc g e; omega
    · have := ha g hg; have := hd g e; omega
    · have := hb g hg; have := ha g e; omega
    · exact hij rfl
    · have := hb g hg; have := hc g e; omega
    · have := hb g hg; have := hd g e; omega
    · have := hc g hg; have := ha g e; omega
    · have := hc g hg; have := hb g e; omega
    · exact hij rfl
    · have := hc g hg; have := hd g e; omega
    · have := hd g hg; have := ha g e; omega
    · have := hd g hg; have := hb g e; omega
    · have := hd g hg; have := hc g e; omega
    · exact hij rfl

set_option maxRecDepth 100000 in
set_option maxHeartbeats 8000000 in
theorem lexFresh_any (s o : List UInt8) (w : World) (hs : s.length ≤ 10000000) (ho : o.length ≤ 10000000) : Calls Try.prog 6 #[.string (bs s), .string (bs o)] w fun e w' => GoodE w e w' := by
  obtain ⟨⟨L, E⟩, hT⟩ : ∃ S, toks s = S := ⟨_, rfl⟩
  obtain ⟨⟨M, F⟩, hO⟩ : ∃ S, toks o = S := ⟨_, rfl⟩
  have HD : Hid (∀ W : World, Calls Try.prog 7 #[.string (bs s)] W fun e w' => ∃ v, e = .returned (.tuple #[v, .int .i64 E]) ∧ OwnT 26 W.heap.size w' v L ∧ Below W.heap.size W w') := fun W => by
    have h := tokens_any s W (by omega)
    rw [hT] at h
    exact h
  have HO : Hid (∀ W : World, Calls Try.prog 7 #[.string (bs o)] W fun e w' => ∃ v, e = .returned (.tuple #[v, .int .i64 F]) ∧ OwnT 26 W.heap.size w' v M ∧ Below W.heap.size W w') := fun W => by
    have h := tokens_any o W (by omega)
    rw [hO] at h
    exact h
  have HR : Hid (∀ W : World, Calls Try.prog 11 #[.string (bs s)] W fun e w' => ∃ v, e = .returned (.tuple #[v, .int .i64 E]) ∧ OwnT 43 W.heap.size w' v L ∧ Below W.heap.size W w') := fun W => by
    have h := rtokens_any s W (by omega)
    rw [hT] at h
    exact h
  have HL : Hid (L.length ≤ 10000000) := by
    have := tg_len s 0
    have e : tg s 0 = (L, E) := hT
    rw [e] at this
    show _ ≤ _
    simp only at this
    omega
  have HM : Hid (M.length ≤ 10000000) := by
    have := tg_len o 0
    have e : tg o 0 = (M, F) := hO
    rw [e] at this
    show _ ≤ _
    simp only at this
    omega
  have HT : Hid (toks s = (L, E) ∧ s.length ≤ 10000000) := ⟨hT, hs⟩
  have q1 : (E != E) = false := by simp
  clear hT hO hs ho
  go_enter Try.func6, Try.ntmps6
  refine wp_seq_k fun K hK => ?_
  have HK : Hid _ := hK
  clear hK
  go_wp2_with fail
  refine HK.out _ _ ?_
  clear HK
  refine wp_seq_k fun K hK => ?_
  have HK : Hid _ := hK
  clear hK
  go_wp2_with fail
  refine (HR.out _).mono ?_
  rintro e w1 ⟨vw, rfl, o1, b1⟩
  have X1 : Hid (OwnT 43 w.heap.size w1 vw L ∧ Below w.heap.size w w1) := ⟨o1, b1⟩
  clear o1 b1
  go_wp2_with fail
  refine HK.out _ _ ?_
  clear HK
  refine wp_seq_k fun K hK => ?_
  have HK : Hid _ := hK
  clear hK
  go_wp2_with fail
  refine (HD.out _).mono ?_
  rintro e w2 ⟨va, rfl, o1, b1⟩
  have X2 : Hid (OwnT 26 w1.heap.size w2 va L ∧ Below w1.heap.size w1 w2) := ⟨o1, b1⟩
  clear o1 b1
  go_wp2_with fail
  refine HK.out _ _ ?_
  clear HK
  refine wp_seq_k fun K hK => ?_
  have HK : Hid _ := hK
  clear hK
  go_wp2_with fail
  refine (HD.out _).mono ?_
  rintro e w3 ⟨vb, rfl, o1, b1⟩
  have X3 : Hid (OwnT 26 w2.heap.size w3 vb L ∧ Below w2.heap.size w2 w3) := ⟨o1, b1⟩
  clear o1 b1
  go_wp2_with fail
  refine HK.out _ _ ?_
  clear HK
  refine wp_seq_k fun K hK => ?_
  have HK : Hid _ := hK
  clear hK
  go_wp2_with fail
  refine (HO.out _).mono ?_
  rintro e w4 ⟨vc, rfl, o1, b1⟩
  have X4 : Hid (OwnT 26 w3.heap.size w4 vc M ∧ Below w3.heap.size w3 w4) := ⟨o1, b1⟩
  clear o1 b1
  go_wp2_with fail
  refine HK.out _ _ ?_
  clear HK
  refine wp_seq_k fun K hK => ?_
  have HK : Hid _ := hK
  clear hK
  go_wp2_with fail
  refine (HD.out _).mono ?_
  rintro e w5 ⟨vd, rfl, o1, b1⟩
  have X5 : Hid (OwnT 26 w4.heap.size w5 vd L ∧ Below w4.heap.size w4 w5) := ⟨o1, b1⟩
  clear o1 b1
  have Y5 : Hid (TS w5 vw L ∧ TS w5 va L ∧ TS w5 vb L ∧ TS w5 vd L) := by
    have b5 := X5.out.2
    have b4 := bstep X4.out.2 b5
    have b3 := bstep X3.out.2 b4
    have b2 := bstep X2.out.2 b3
    exact ⟨X1.out.1.ts.later b2, X2.out.1.ts.later b3, X3.out.1.ts.later b4, X5.out.1.ts⟩
  go_wp2_with fail
  refine HK.out _ _ ?_
  clear HK
  refine wp_seq_k fun K hK => ?_
  have HK : Hid _ := hK
  clear hK
  go_wp2_with fail
  refine (known_any _).mono ?_
  rintro e w6 ⟨rfl, b6⟩
  have Y6 : Hid (TS w6 vw L ∧ TS w6 va L ∧ TS w6 vb L ∧ TS w6 vd L ∧ Below w5.heap.size w5 w6) := ⟨Y5.out.1.later b6, Y5.out.2.1.later b6, Y5.out.2.2.1.later b6, Y5.out.2.2.2.later b6, b6⟩
  clear b6 Y5
  go_wp2_with fail
  refine (alike_any Y6.out.2.1 Y6.out.1 (by have := HL.out; omega)).mono ?_
  rintro e w7 ⟨rfl, b6⟩
  have Y7 : Hid (TS w7 vw L ∧ TS w7 vb L ∧ TS w7 vd L ∧ Below w5.heap.size w5 w7) := ⟨Y6.out.1.later b6, Y6.out.2.2.1.later b6, Y6.out.2.2.2.1.later b6, bstep Y6.out.2.2.2.2 b6⟩
  clear b6 Y6
  go_wp2_with fail
  refine (alike_any Y7.out.2.1 Y7.out.1 (by have := HL.out; omega)).mono ?_
  rintro e w8 ⟨rfl, b6⟩
  have Y8 : Hid (TS w8 vw L ∧ TS w8 vd L ∧ Below w5.heap.size w5 w8) := ⟨Y7.out.1.later b6, Y7.out.2.2.1.later b6, bstep Y7.out.2.2.2 b6⟩
  clear b6 Y7
  go_wp2_with fail
  refine (alike_any Y8.out.2.1 Y8.out.1 (by have := HL.out; omega)).mono ?_
  rintro e w9 ⟨rfl, b6⟩
  have Y9 : Hid (Below w5.heap.size w5 w9) := bstep Y8.out.2.2 b6
  clear b6 Y8
  obtain ⟨aa, ca, ha⟩ := X2.out.1.form
  obtain ⟨ab, cb, hb⟩ := X3.out.1.form
  obtain ⟨ac, cc, hc⟩ := X4.out.1.form
  obtain ⟨ad, cd, hd⟩ := X5.out.1.form
  generalize hll : L.length = ll at ha hb hd
  generalize hmm : M.length = mm at hc
  have HLL : Hid (L.length = ll ∧ M.length = mm) := ⟨hll, hmm⟩
  subst ha hb hc hd
  clear hll hmm
  have MM : Hid (M4 w1.heap.size w1 (w9.alloc (.cells #[.slice aa ll ca, .slice ab ll cb, .slice ac mm cc, .slice ad ll cd] 22)) w9.heap.size (V4 (.slice aa ll ca) (.slice ab ll cb) (.slice ac mm cc) (.slice ad ll cd)) (V4 L L M L)) := by
    have b9 := bstep Y9.out (balloc w9 (.cells #[.slice aa ll ca, .slice ab ll cb, .slice ac mm cc, .slice ad ll cd] 22))
    have b5 := bstep X5.out.2 b9
    have b4 := bstep X4.out.2 b5
    have b3 := bstep X3.out.2 b4
    have b2 := bstep X2.out.2 b3
    have s2 := X2.out.2.size
    have s3 := X3.out.2.size
    have s4 := X4.out.2.size
    have s5 := X5.out.2.size
    have s9 := Y9.out.size
    refine ⟨quad4 (A0 := w1.heap.size) (A1 := w2.heap.size) (A2 := w3.heap.size) (A3 := w4.heap.size) (A4 := w5.heap.size) (by simp) (by simp) (by simp) (by simp) (fun g hg => X2.out.1.lt hg) (fun g hg => X3.out.1.lt hg) (fun g hg => X4.out.1.lt hg) (fun g hg => X5.out.1.lt hg) s3 s4 s5 s9 (by simp), b2, Nat.le_refl _, fun i hi => ?_⟩
    obtain rfl | rfl | rfl | rfl : i = 0 ∨ i = 1 ∨ i = 2 ∨ i = 3 := by omega
    · exact X2.out.1.later b3
    · exact (X3.out.1.later b4).mono s2
    · exact (X4.out.1.later b5).mono (by omega)
    · exact (X5.out.1.later b9).mono (by omega)
  have RR : Hid (TS w1 vw L ∧ (∀ g, vw.ownBlock = some g → g < w1.heap.size) ∧ Below w.heap.size w w1 ∧ w.heap.size ≤ w1.heap.size) := ⟨X1.out.1.ts, fun g hg => (X1.out.1.lt hg).2, X1.out.2, X1.out.2.size⟩
  clear X1 X2 X3 X4 X5 Y9
  go_wp2_with fail
  refine HK.out _ _ ?_
  clear HK
  refine wp_seq_k fun K hK => ?_
  have HK : Hid _ := hK
  clear hK
  go_wp2_with fail
  refine HK.out _ _ ?_
  clear HK
  exact f9 (n := V4 ll ll mm ll) MM (fun i hi => by
    obtain rfl | rfl | rfl | rfl : i = 0 ∨ i = 1 ∨ i = 2 ∨ i = 3 := by omega
    · exact HLL.out.1
    · exact HLL.out.1
    · exact HLL.out.2
    · exact HLL.out.1) RR (fun i => by
    have h1 := HLL.out
    have h2 := HL.out
    have h3 := HM.out
    unfold V4
    split
    · omega
    · split
      · omega
      · split <;> omega) HT.out.1 HT.out.2
end Go.Proofs.Ytclpbhoopmdojaa
