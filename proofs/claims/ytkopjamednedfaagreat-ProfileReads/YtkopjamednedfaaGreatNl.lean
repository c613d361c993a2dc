/-
  Where neighbours meet.
-/
import Derived.Test.YtkopjamednedfaaGreatNorm
import Derived.Test.YtkopjamednedfaaGreatJQa
namespace Go.Proofs.YtkopjamednedfaaGreat
open Go.RowKit Go.Maps
attribute [local go_sem] Oper.semAt_some

set_option maxRecDepth 100000 in
set_option maxHeartbeats 1000000 in
theorem common_any (a b : List UInt8) (w : World) (ha : a.length ≤ 1000000000) (hb : b.length ≤ 1000000000) :
    Calls Tryz.prog 59 #[.string (bs a), .string (bs b)] w fun e w' => e = .returned (.string (bs (cmn a b))) ∧ Below w.heap.size w w' := by
  have HA : Hid (a.length ≤ 1000000000 ∧ b.length ≤ 1000000000) := ⟨ha, hb⟩
  have HM := hid_of (meet_any a b w (by omega) (by omega))
  clear ha hb
  have hz : (bs a).size = a.length := rfl
  have hle := cmn_le a b
  have HE : Hid ((bs a).extract 0 (cmn a b).length = bs (cmn a b)) := (extract_to a _).trans (congrArg bs (cmn_take a b).symm)
  go_enter Tryz.func59, Tryz.ntmps59
  go_wp2_with fail
  refine HM.out.mono ?_
  rintro e w1 ⟨rfl, hb1⟩
  have B1 := hid_of hb1.below
  clear hb1
  go_wp2_with fail
  go_ret
  exact ⟨by rw [← HE.out]; rfl, B1.out⟩
theorem step_app_S {ops : Array Oper} {o : Oper} {a : Act} {w : World} {K : Act → World → Prop} {Q : Exit → Act → World → Prop} {E : Prop} (hgd : o.guard = none) (s y : Operand)
    (ho : o.op = .call { callee := .builtin .append, args := #[s, y], argTypes := #[22, 22] }) (base : Nat) (l k : List (List UInt8)) (v x : Value) (hv : a.eval s = v) (hx : a.eval y = x)
    (hown : Own base w v l) (hs : Src Tryz.prog 1 22 x k.length (sc k) w) (hb : l.length + k.length ≤ 100000000) (hbase : base ≤ w.heap.size)
    (h : ∀ v' w', Own base w' v' (l ++ k) → w.grownBy w' v.ownBlock → (v'.ownBlock = v.ownBlock ∨ v'.ownBlock = some w.heap.size) → K (a.put o.dst v') w') :
    if Region.wanted o (yielded ops a.tmps) = true then Oper.wp Tryz.prog o a w K Q else E := by
  have hw : Region.wanted o (yielded ops a.tmps) = true := by simp [Region.wanted, hgd]
  rw [if_pos hw]
  obtain ⟨i0, hi, hz0, hz1, hz2⟩ := info_parts info9
  obtain ⟨v', w', hr, h2, h3, h4⟩ := run_append_src (P := Tryz.prog) w base 22 22 o.type 9 i0 _ 1 16 und70 hi hz0 hz1 hz2 rfl v l.length (sc l) hown x k.length (sc k) hs (by simp only [maxLen]; omega) (by omega) hbase
  unfold Oper.wp execOp
  simp only [ho, resolve, invoke, builtin, Sem.run_bind, Sem.run_pure, Result.andThen_ok, List.map_toArray, List.map_cons, List.map_nil, hv, hx, hr]
  exact h v' w' (by unfold Own; rw [sc_append, List.length_append]; exact h2) h3 h4
theorem src_new (w : World) (p : List UInt8) : Src Tryz.prog 1 22 (.slice (some ⟨w.heap.size, 0, none⟩) 1 1) [p].length (sc [p]) (w.alloc (.cells #[.string (bs p)] 9)) := src_one w p
/-- a row grown behind others: what lies below stays -/
theorem app_keep {base : Nat} {w w' : World} {v : Value} {l : List (List UInt8)} {o : Obj} (hown : Own base w v l) (hg : (w.alloc o).grownBy w' v.ownBlock) (hb : base ≤ w.heap.size) : Below base w w' := by
  have h1 : Below base w (w.alloc o) := (Below.refl _ _).alloc hb _
  exact h1.grown hg (by simp; omega) (fun k hk => (hown.lt hk).1)
end Go.Proofs.YtkopjamednedfaaGreat
