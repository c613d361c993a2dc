/-
  Every text: the law LexAll, walked.
-/
import Derived.Test.YtclpbhoopmdojaaKnown
namespace Go.Proofs.Ytclpbhoopmdojaa
open Go.RowKit

set_option maxRecDepth 100000 in
set_option maxHeartbeats 4000000 in
theorem lexAll_any (s : List UInt8) (w : World) (hs : s.length ≤ 100000000) : Calls Try.prog 5 #[.string (bs s)] w fun e w' => e = .returned (.bool true) ∧ Below w.heap.size w w' := by
  have HT : Hid (∀ w : World, Calls Try.prog 7 #[.string (bs s)] w fun e w' => ∃ v, e = .returned (.tuple #[v, .int .i64 (toks s).2]) ∧ OwnT 26 w.heap.size w' v (toks s).1 ∧ Below w.heap.size w w') := fun w => tokens_any s w (by omega)
  have HR : Hid (∀ w : World, Calls Try.prog 11 #[.string (bs s)] w fun e w' => ∃ v, e = .returned (.tuple #[v, .int .i64 (toks s).2]) ∧ OwnT 43 w.heap.size w' v (toks s).1 ∧ Below w.heap.size w w') := fun w => rtokens_any s w (by omega)
  have hn : (toks s).1.length ≤ s.length := tg_len s 0
  have HN : Hid ((toks s).1.length ≤ 1000000000) := by show _ ≤ _; omega
  clear hn hs
  generalize toks s = S at *
  obtain ⟨L, E⟩ := S
  have q1 : (E == E) = true := by simp
  go_enter Try.func5, Try.ntmps5
  go_wp2_with fail
  refine (HT.out _).mono ?_
  rintro e w1 ⟨v1, rfl, ho1, hb1⟩
  have X1 : Hid (TS w1 v1 L ∧ Below w.heap.size w w1) := ⟨ho1.ts, hb1⟩
  clear ho1 hb1
  go_wp2_with fail
  refine (HR.out _).mono ?_
  rintro e w2 ⟨v2, rfl, ho2, hb2⟩
  have X2 : Hid (TS w2 v1 L ∧ TS w2 v2 L ∧ Below w.heap.size w w2) := ⟨X1.out.1.later hb2, ho2.ts, bstep X1.out.2 hb2⟩
  clear ho2 hb2
  go_wp2_with fail
  refine (known_any _).mono ?_
  rintro e w3 ⟨rfl, hb3⟩
  have X3 : Hid (TS w3 v1 L ∧ TS w3 v2 L ∧ Below w.heap.size w w3) := ⟨X2.out.1.later hb3, X2.out.2.1.later hb3, bstep X2.out.2.2 hb3⟩
  clear hb3
  go_wp2_with fail
  refine (alike_any X3.out.1 X3.out.2.1 HN.out).mono ?_
  rintro e w4 ⟨rfl, hb4⟩
  have X4 : Hid (Below w.heap.size w w4) := bstep X3.out.2.2 hb4
  clear hb4
  go_wp2_with fail
  go_ret
  exact ⟨rfl, X4.out⟩
end Go.Proofs.Ytclpbhoopmdojaa
