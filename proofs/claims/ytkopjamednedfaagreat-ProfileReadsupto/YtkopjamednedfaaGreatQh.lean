/-
  The law ProfileReads.
-/
import Derived.Test.YtkopjamednedfaaGreatQe
import Derived.Test.YtkopjamednedfaaGreatJQg
namespace Go.Proofs.YtkopjamednedfaaGreat
open Go.RowKit Go.Maps
attribute [local go_sem] Oper.semAt_some

set_option maxRecDepth 100000 in
set_option maxHeartbeats 4000000 in
theorem reads_law (s : List UInt8) (w : World) (hs : s.length ≤ 1000000000) : Calls Tryz.prog 5 #[.string (bs s)] w fun e w' => e = .returned (.bool true) ∧ Below w.heap.size w w' := by
  have HRR := hid_of (fun W => rread_any s W hs)
  have HRP := hid_of (fun W => read_any s W hs)
  obtain ⟨k, hk⟩ : ∃ k, (prd s).1 = k := ⟨_, rfl⟩
  obtain ⟨z, hz⟩ : ∃ z, (prd s).2 = z := ⟨_, rfl⟩
  rw [hk, hz] at HRR HRP
  have HP : Hid (prd s = (k, z)) := by show _ = _; rw [← hk, ← hz]
  have t1 : (bs s).toList = s := bs_toList _
  have t2 : (s == s) = true := by simp
  have HKS : Hid (Sm k) := by
    show Sm k
    rw [← hk, prd_lo]
    split
    · rename_i h
      exact lo_sm s h.1
    · exact ⟨by simp, fun x hx => by cases hx⟩
  obtain ⟨n, hn⟩ : ∃ n, k.length = n := ⟨_, rfl⟩
  have HN := hid_of hn
  have hnb : n ≤ 4000000 := by have := HKS.out.len; omega
  clear hk hz hs hn
  go_enter Tryz.func5, Tryz.ntmps5
  go_wp2_with fail
  refine (HRR.out w).mono ?_
  rintro e w1 ⟨v1, rfl, ho1, hb1⟩
  obtain ⟨a1, c1, ev1, -⟩ := ho1.bs.form
  rw [HN.out] at ev1
  have H1 : Hid (SS w1 v1 k ∧ Below w.heap.size w w1) := ⟨ho1.bs, hb1⟩
  subst ev1
  clear ho1 hb1 HRR
  go_wp2_with fail
  refine (HRP.out w1).mono ?_
  rintro e w2 ⟨v2, rfl, ho2, hb2⟩
  obtain ⟨a2, c2, ev2, -⟩ := ho2.bs.form
  rw [HN.out] at ev2
  have H2 : Hid (SS w2 v2 k ∧ SS w2 (.slice a1 n c1) k ∧ Below w.heap.size w w2) := ⟨ho2.bs, H1.out.1.later hb2, bstep H1.out.2 hb2⟩
  subst ev2
  clear ho2 hb2 HRP H1
  go_wp2_with fail
  refine (known_any w2).mono ?_
  rintro e w3 ⟨rfl, hb3⟩
  have H3 : Hid (SS w3 (.slice a2 n c2) k ∧ SS w3 (.slice a1 n c1) k ∧ Below w.heap.size w w3) := ⟨H2.out.1.later hb3, H2.out.2.1.later hb3, bstep H2.out.2.2 hb3⟩
  have HSM := hid_of (same_any H3.out.1 H3.out.2.1 (by have := HKS.out.len; omega))
  rw [decide_eq_true (rfl : k = k)] at HSM
  clear hb3 H2
  go_wp2_with fail
  refine HSM.out.mono ?_
  rintro e w4 ⟨rfl, q, ew4⟩
  have H4 : Hid (SS w4 (.slice a2 n c2) k ∧ Below w.heap.size w w4) := by
    rw [ew4]
    exact ⟨H3.out.1.later (bd _ _), bstep H3.out.2.2 (bd _ _)⟩
  clear ew4 HSM H3
  by_cases hz0 : z = 0
  · subst hz0
    have HWR := hid_of (write_any H4.out.1 HKS.out (by have := HKS.out.len; omega))
    rw [prd_ok HP.out] at HWR
    go_wp2_with fail
    refine HWR.out.mono ?_
    rintro e w5 ⟨rfl, hb5⟩
    have H5 := hid_of (bstep H4.out.2 hb5)
    clear hb5
    go_wp2_with fail
    go_ret
    exact ⟨rfl, H5.out⟩
  · have h1 : (z == 0) = false := by simpa using hz0
    go_wp2_with fail
    go_ret
    exact ⟨rfl, H4.out.2⟩
end Go.Proofs.YtkopjamednedfaaGreat
