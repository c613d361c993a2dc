/-
  The law over Keep.
-/
import Derived.Test.YtgibjnfaagnbfacGreatDoorHead
import Derived.Test.YtgibjnfaagnbfacGreatDoorRefB
namespace Go.Proofs.YtgibjnfaagnbfacGreatDoor
open Go.RowKit

set_option maxRecDepth 100000 in
set_option maxHeartbeats 4000000 in
theorem keeps_law {w : World} {v vp : Value} {l : List Fl} {ps : List (List UInt8)} (h : FS w v l) (hp : SS w vp ps) (sm : FSm l) (sp : Sm ps) (E : Env w) :
    Calls Tryz.prog 3 #[v, vp] w fun e w' => e = .returned (.bool true) ∧ Below w.heap.size w w' := by
  have H : Hid (FS w v l ∧ SS w vp ps ∧ FSm l ∧ Sm ps ∧ Env w) := ⟨h, hp, sm, sp, E⟩
  obtain ⟨a, c, rfl, _⟩ := h.form
  obtain ⟨ap, cp, rfl, _⟩ := hp.form
  rename_i q1 q2
  clear h hp sm sp E q1 q2
  generalize l.length = n at H ⊢
  generalize ps.length = m at H ⊢
  go_enter Tryz.func3, Tryz.ntmps3
  go_wp2_with fail
  refine (head_any w H.out.2.2.2.2).mono ?_
  rintro e w1 ⟨rfl, hb1⟩
  have HB1 : Hid (Below w.heap.size w w1) := hb1
  clear hb1
  go_wp2_with fail
  refine (keep_any (H.out.1.later HB1.out) (H.out.2.1.later HB1.out) H.out.2.2.1 H.out.2.2.2.1).mono ?_
  rintro e w2 ⟨v2, rfl, ho, hb⟩
  have HB2 : Hid (Below w.heap.size w w2 ∧ FS w2 v2 (keep l ps)) := ⟨bstep HB1.out hb, ho.fs⟩
  obtain ⟨a2, c2, e2⟩ := ho.form
  subst e2
  clear hb ho HB1
  generalize (keep l ps).length = n2 at HB2 ⊢
  go_wp2_with fail
  refine (kkeep_any (H.out.1.later HB2.out.1) (H.out.2.1.later HB2.out.1) H.out.2.2.1 H.out.2.2.2.1).mono ?_
  rintro e w3 ⟨v3, rfl, ho, hb⟩
  have HB3 : Hid (Below w.heap.size w w3 ∧ FS w3 (.slice a2 n2 c2) (keep l ps) ∧ FS w3 v3 (keep l ps)) := ⟨bstep HB2.out.1 hb, HB2.out.2.later hb, ho.fs⟩
  obtain ⟨a3, c3, e3⟩ := ho.form
  subst e3
  clear hb ho HB2
  generalize (keep l ps).length = n3 at HB3 ⊢
  go_wp2_with fail
  refine (ksame_any HB3.out.2.1 HB3.out.2.2 (H.out.2.2.1.keep ps)).mono ?_
  rintro e w4 ⟨rfl, hb⟩
  rw [leq_self]
  have HB4 : Hid (Below w.heap.size w w4 ∧ FS w4 (.slice a2 n2 c2) (keep l ps)) := ⟨bstep HB3.out.1 hb, HB3.out.2.1.later hb⟩
  clear hb HB3
  go_wp2_with fail
  refine (valid2_any (H.out.1.later HB4.out.1) H.out.2.2.1).mono ?_
  rintro e w5 ⟨rfl, hb⟩
  have HB5 : Hid (Below w.heap.size w w5 ∧ FS w5 (.slice a2 n2 c2) (keep l ps)) := ⟨bstep HB4.out.1 hb, HB4.out.2.later hb⟩
  clear hb HB4
  by_cases hv : validE l = 0
  · have HK : Hid (validE (keep l ps) = 0) := keep_valid ps hv
    rw [hv]
    clear hv
    go_wp2_with fail
    refine (valid2_any HB5.out.2 (H.out.2.2.1.keep ps)).mono ?_
    rintro e w6 ⟨rfl, hb⟩
    rw [HK.out]
    have HB6 : Hid (Below w.heap.size w w6) := bstep HB5.out.1 hb
    clear hb HB5
    go_wp2_with fail
    go_ret
    exact ⟨rfl, HB6.out⟩
  · have hd : (validE l == 0) = false := by simpa using hv
    generalize validE l = V at *
    go_wp2_with fail
    go_ret
    exact ⟨rfl, HB5.out.1⟩
end Go.Proofs.YtgibjnfaagnbfacGreatDoor
