/-
  The law TreeStops: its end.
-/
import Derived.Test.YtlkkmcibjhoneaaGreatDoorJGa
import Derived.Test.YtlkkmcibjhoneaaGreatDoorJCuts
import Derived.Test.YtlkkmcibjhoneaaGreatDoorJMark
namespace Go.Proofs.YtlkkmcibjhoneaaGreatDoor
open Go.RowKit

/-- what is there behind the crash -/
structure X3 (TA : World → (Nat → Prop) → Nat → TT → Prop) (P : Nat → Prop) (w W : World) (t : Nat) (TX : TT) (d : Nat) (kp : Int) (u : Nat) (TU : TT) (v : Value) (Z : List Opp) : Prop where
  td : T2 TA w.heap.size w W t TX d (TX.cr kp)
  u : Tb TA w.heap.size w W u TU
  os : OS P W v Z
theorem X3.later {TA : World → (Nat → Prop) → Nat → TT → Prop} (C : TcP TA) {P : Nat → Prop} {w W W' : World} {t d u : Nat} {TX TU : TT} {kp : Int} {v : Value} {Z : List Opp} (h : X3 TA P w W t TX d kp u TU v Z) (hb : Below W.heap.size W W') : X3 TA P w W' t TX d kp u TU v Z :=
  ⟨h.td.later C hb, h.u.later C hb, h.os.later hb⟩
theorem rst_tmod (kp : Int) (L : Nat) : ((rst kp L : Nat) : Int) = if kp.tmod ((L : Int) + 1) < 0 then kp.tmod ((L : Int) + 1) + ((L : Int) + 1) else kp.tmod ((L : Int) + 1) := by
  have h0 := Int.emod_nonneg kp (show ((L : Int) + 1) ≠ 0 by omega)
  have e := Int.mul_tdiv_add_tmod kp ((L : Int) + 1)
  have h1 := Int.tmod_lt_of_pos kp (show 0 < (L : Int) + 1 by omega)
  have h2 : -((L : Int) + 1) < kp.tmod ((L : Int) + 1) := by
    have := Int.tmod_lt_of_pos (-kp) (show 0 < (L : Int) + 1 by omega)
    rw [Int.neg_tmod] at this
    omega
  unfold rst
  rw [Int.toNat_of_nonneg h0]
  generalize kp.tmod ((L : Int) + 1) = r at e h1 h2 ⊢
  have e2 : kp % ((L : Int) + 1) = r % ((L : Int) + 1) := by
    rw [← e, Int.add_comm, Int.add_mul_emod_self_left]
  rw [e2]
  split
  · rw [← Int.add_emod_right, Int.emod_eq_of_lt (by omega) (by omega)]
  · exact Int.emod_eq_of_lt (by omega) h1
theorem rst_walk {kp : Int} {ob : List UInt8} {R : Nat} (hL : ob.length ≤ 4000000) (hR : rst kp ob.length = R) :
    R ≤ ob.length ∧ (¬ wrap64 (((bs ob).size : Int) + 1) = 0) ∧ ∃ r, kp.tmod (wrap64 (((bs ob).size : Int) + 1)) = r ∧ ((r < 0 ∧ wrap64 (wrap64 (r + ((bs ob).size : Int)) + 1) = (R : Int)) ∨ (¬ r < 0 ∧ r = (R : Int))) := by
  have hrt := rst_tmod kp ob.length
  have hrl := rst_le kp ob.length
  rw [hR] at hrt hrl
  rw [bs_size]
  generalize ob.length = L at *
  rw [IntWalk.wrap64_in ((L : Int) + 1) (by omega)]
  refine ⟨hrl, by omega, _, rfl, ?_⟩
  generalize kp.tmod ((L : Int) + 1) = r at *
  by_cases h : r < 0
  · rw [if_pos h] at hrt
    refine .inl ⟨h, ?_⟩
    rw [IntWalk.wrap64_in (r + (L : Int)) (by omega), IntWalk.wrap64_in _ (by omega)]
    omega
  · rw [if_neg h] at hrt
    exact .inr ⟨h, by omega⟩
end Go.Proofs.YtlkkmcibjhoneaaGreatDoor
