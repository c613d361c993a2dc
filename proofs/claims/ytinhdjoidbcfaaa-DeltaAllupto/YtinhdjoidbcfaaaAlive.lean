/-
  The document's first example.
-/
import Derived.Test.YtinhdjoidbcfaaaApp
namespace Go.Proofs.Ytinhdjoidbcfaaa
open Go.RowKit

theorem fs_lit (w : World) (l : List Fl) (n : Nat) (hn : n = l.length) : FS (w.alloc (.cells (fc l).toArray 40)) (.slice (some ⟨w.heap.size, 0, none⟩) n n) l := by
  subst hn
  refine .inr ⟨w.heap.size, 0, l.length, rfl, Nat.le_refl _, by simp, fun i u hu => ?_⟩
  simp
  simpa using hu
set_option maxHeartbeats 1000000 in
theorem num_any (e : Int) (w : World) : Calls Try.prog 10 #[.int .i64 e] w fun x w' => x = .returned (.int .i64 e) ∧ w' = w := by
  go_enter Try.func10, Try.ntmps10
  go_wp2_with fail
  go_ret
  exact ⟨rfl, rfl⟩
def A0 : List Fl := [⟨[97], [], 1, 1⟩, ⟨[98], [], 1, 1⟩]
def B0 : List Fl := [⟨[98], [], 2, 1⟩]
theorem standA : stand A0 = true := by decide
theorem standB : stand B0 = true := by decide
theorem difAB : dif A0 B0 = [⟨[97], true, false, ⟨[97], [], 1, 1⟩, zf⟩, ⟨[98], true, true, ⟨[98], [], 1, 1⟩, ⟨[98], [], 2, 1⟩⟩] := by
  unfold dif
  rw [standA, standB]
  show (mrg [⟨[97], true, false, ⟨[97], [], 1, 1⟩, zf⟩, ⟨[98], true, false, ⟨[98], [], 1, 1⟩, zf⟩] [⟨[98], false, true, zf, ⟨[98], [], 2, 1⟩⟩]).getD [] = _
  rw [mrg_lt _ _ (by decide), mrg_eq _ _ (by decide), mrg_nil]
  rfl
theorem fsmA : FSm A0 := ⟨by decide, fun f hf => by
  simp only [A0, List.mem_cons, List.not_mem_nil, or_false] at hf
  rcases hf with rfl | rfl
  · exact ⟨by simp, by simp, by simp, by simp, by simp, by simp⟩
  · exact ⟨by simp, by simp, by simp, by simp, by simp, by simp⟩⟩
theorem fsmB : FSm B0 := ⟨by decide, fun f hf => by
  simp only [B0, List.mem_cons, List.not_mem_nil, or_false] at hf
  subst hf
  exact ⟨by simp, by simp, by simp, by simp, by simp, by simp⟩⟩
theorem leq_self (l : List Fl) : leq l l = true := (leq_iff l l).2 rfl
theorem lceq_self (l : List Ch) : lceq l l = true := (lceq_iff l l).2 rfl
set_option maxRecDepth 100000 in
set_option maxHeartbeats 4000000 in
theorem alive_any (w : World) : Calls Try.prog 9 #[] w fun e w' => e = .returned (.bool true) ∧ Below w.heap.size w w' := by
  go_enter Try.func9, Try.ntmps9
  go_wp2_with fail
  obtain ⟨w1, hw1⟩ : ∃ w1, (w.alloc (.cells (fc A0).toArray 40)).alloc (.cells (fc B0).toArray 40) = w1 := ⟨_, rfl⟩
  have H1 : Hid (FS w1 (.slice (some ⟨w.heap.size, 0, none⟩) 2 2) A0 ∧ FS w1 (.slice (some ⟨w.heap.size + 1, 0, none⟩) 1 1) B0 ∧ Below w.heap.size w w1) := by
    rw [← hw1]
    refine ⟨(fs_lit w A0 2 rfl).later (balloc _ _), ?_, bstep (balloc _ _) (balloc _ _)⟩
    have := fs_lit (w.alloc (.cells (fc A0).toArray 40)) B0 1 rfl
    rw [show (w.alloc (.cells (fc A0).toArray 40)).heap.size = w.heap.size + 1 by simp] at this
    exact this
  change Calls Try.prog 13 _ ((w.alloc (.cells (fc A0).toArray 40)).alloc (.cells (fc B0).toArray 40)) _
  rw [hw1]
  clear hw1
  refine (diff_any H1.out.1 H1.out.2.1 fsmA fsmB).mono ?_
  rintro x w2 ⟨v2, rfl, ho2, hb2⟩
  have H2 : Hid (CS w2 v2 (dif A0 B0) ∧ Below w1.heap.size w1 w2) := ⟨ho2.cs, hb2⟩
  obtain ⟨a2, c2, hv2⟩ := ho2.cs.shape
  have hl2 : (dif A0 B0).length = 2 := by rw [difAB]; rfl
  rw [hl2] at hv2
  subst hv2
  clear ho2 hb2 hl2
  go_wp2_with fail
  refine (apply_any (H1.out.1.later H2.out.2) H2.out.1 fsmA (csm_dif fsmA fsmB)).mono ?_
  rintro x w3 ⟨v3, rfl, ho3, hb3⟩
  rw [dif_leads standA standB] at ho3 ⊢
  have H3 : Hid (FS w3 v3 B0 ∧ Below w1.heap.size w1 w3 ∧ CS w3 (.slice a2 2 c2) (dif A0 B0)) := ⟨ho3.fs, bstep H2.out.2 hb3, H2.out.1.later hb3⟩
  clear ho3 hb3
  simp only
  go_wp2_with fail
  refine (valid_d H3.out.2.2 (csm_dif fsmA fsmB)).mono ?_
  rintro x w4 ⟨rfl, hb4⟩
  rw [(vd_iff _).2 (dif_spec standA standB).2.1]
  have H4 : Hid (FS w4 v3 B0 ∧ Below w1.heap.size w1 w4 ∧ CS w4 (.slice a2 2 c2) (dif A0 B0)) := ⟨H3.out.1.later hb4, bstep H3.out.2.1 hb4, H3.out.2.2.later hb4⟩
  clear hb4
  go_wp2_with fail
  refine (num_any _ _).mono ?_
  rintro x w5 ⟨rfl, rfl⟩
  go_wp2_with fail
  refine (files_any H4.out.1 (H1.out.2.1.later H4.out.2.1) (by decide)).mono ?_
  rintro x w6 ⟨rfl, hb6⟩
  rw [leq_self]
  have H6 : Hid (Below w1.heap.size w1 w6 ∧ CS w6 (.slice a2 2 c2) (dif A0 B0)) := ⟨bstep H4.out.2.1 hb6, H4.out.2.2.later hb6⟩
  clear hb6
  go_wp2_with fail
  refine (paths_any H6.out.2 (by rw [difAB]; decide)).mono ?_
  rintro x w7 ⟨v7, rfl, ho7, hb7⟩
  have H7 : Hid (SS w7 v7 (pths (dif A0 B0)) ∧ Below w1.heap.size w1 w7) := ⟨ho7.bs, bstep H6.out.1 hb7⟩
  clear ho7 hb7
  go_wp2_with fail
  change Calls Try.prog 17 _ (w7.alloc (.cells (sc [[97], [98]]).toArray 9)) _
  refine (texts_any (H7.out.1.later (balloc _ _)) (ss_lit w7 [[97], [98]] 2 rfl) (by rw [difAB]; decide)).mono ?_
  rintro x w8 ⟨rfl, hb8⟩
  rw [show decide (pths (dif A0 B0) = [[97], [98]]) = true by rw [difAB]; rfl]
  have H8 : Hid (Below w1.heap.size w1 w8) := bstep (bstep H7.out.2 (balloc _ _)) hb8
  clear hb8
  go_wp2_with fail
  go_ret
  exact ⟨rfl, bstep H1.out.2.2 H8.out⟩
end Go.Proofs.Ytinhdjoidbcfaaa
