/-
  Cones of a text: Read.
-/
import Derived.Test.YtkopjamednedfaaGreatQw
import Derived.Maps.AppendAt
import Derived.Maps.OwnIn
namespace Go.Proofs.YtkopjamednedfaaGreat
open Go.RowKit Go.Maps
attribute [local go_sem] Oper.semAt_some

theorem shB_eq (l : List UInt8) (h : l ≠ [47, 42, 10]) : shB l = tsf [47, 10] (tpf [47] l) := by
  unfold shB
  rw [if_neg h]
  rfl
theorem tpf_len (p l : List UInt8) : (tpf p l).length ≤ l.length := by unfold tpf; split <;> simp
set_option maxRecDepth 100000 in
set_option maxHeartbeats 1000000 in
theorem shown_any (l : List UInt8) (w : World) (hl : l.length ≤ 1000000000) : Calls Tryz.prog 51 #[.string (bs l)] w fun e w' => e = .returned (.string (bs (shB l))) ∧ w' = w := by
  have HSH : Hid (∀ W, Calls Tryz.prog 38 #[.string ⟨#[]⟩] W fun e w' => e = .returned (.string (bs [47, 42, 10])) ∧ w' = W) := fun W => show_any [] W (by simp)
  have HTP : Hid (∀ W, Calls Tryz.prog 73 #[.string (bs l), .string ⟨#[47]⟩] W fun e w' => e = .returned (.string (bs (tpf [47] l))) ∧ w' = W) := fun W => trimP_any l [47] W (by omega) (by simp)
  have HTS : Hid (∀ W, Calls Tryz.prog 72 #[.string (bs (tpf [47] l)), .string ⟨#[47, 10]⟩] W fun e w' => e = .returned (.string (bs (tsf [47, 10] (tpf [47] l)))) ∧ w' = W) := fun W => trimS_any (tpf [47] l) [47, 10] W (by have := tpf_len [47] l; omega) (by simp)
  have t1 : (bs l).toList = l := bs_toList _
  have t2 : (bs [47, 42, 10]).toList = [47, 42, 10] := bs_toList _
  by_cases h : l = [47, 42, 10]
  · have h1 : (l == [47, 42, 10]) = true := by simp [h]
    have HE : Hid (shB l = []) := by show _ = _; rw [h]; decide
    clear h HTP HTS
    go_enter Tryz.func51, Tryz.ntmps51
    go_wp2_with fail
    refine (HSH.out _).mono ?_
    rintro e w1 ⟨rfl, rfl⟩
    go_wp2_with fail
    go_ret
    exact ⟨by rw [HE.out]; rfl, rfl⟩
  · have h1 : (l == [47, 42, 10]) = false := by simp [h]
    have HE := hid_of (shB_eq l h)
    clear h
    go_enter Tryz.func51, Tryz.ntmps51
    go_wp2_with fail
    refine (HSH.out _).mono ?_
    rintro e w1 ⟨rfl, rfl⟩
    go_wp2_with fail
    refine (HTP.out _).mono ?_
    rintro e w2 ⟨rfl, rfl⟩
    generalize tpf [47] l = y at *
    go_wp2_with fail
    refine (HTS.out _).mono ?_
    rintro e w3 ⟨rfl, rfl⟩
    go_wp2_with fail
    go_ret
    exact ⟨by rw [HE.out]; rfl, rfl⟩
/-- an append in a round -/
theorem app_strs_in {F : Fence} {nF : Nat} {w : World} {base : Nat} {v x : Value} {l k : List (List UInt8)} (hown : Own base w v l) (hs : Src Tryz.prog 1 22 x k.length (sc k) w) (hb : l.length + k.length ≤ 100000000) (hbase : base ≤ w.heap.size)
    {ops : Array Oper} {rest : List Oper} {o : Oper} {a : Act} {Q : Exit → Act → World → Prop} (hgd : o.guard = none) (s y : Operand)
    (ho : o.op = .call { callee := .builtin .append, args := #[s, y], argTypes := #[22, 22] }) (hv : a.eval s = v) (hx : a.eval y = x)
    (h : ∀ v' w', Own base w' v' (l ++ k) → w.grownBy w' v.ownBlock → (v'.ownBlock = v.ownBlock ∨ v'.ownBlock = some w.heap.size) → wpListIn F nF Tryz.prog ops Q rest (a.put o.dst v') w') :
    wpListIn F nF Tryz.prog ops Q (o :: rest) a w := by
  obtain ⟨i0, hi, hz0, hz1, hz2⟩ := info_parts info9
  refine wpListIn_plain hgd fun K hK => ?_
  obtain ⟨v', w', hr, h2, h3, h4⟩ := run_append_src (P := Tryz.prog) w base 22 22 o.type 9 i0 _ 1 16 und70 hi hz0 hz1 hz2 rfl v l.length (sc l) hown x k.length (sc k) hs (by simp only [maxLen]; omega) (by omega) hbase
  unfold Oper.wpIn
  refine ⟨by simp [Oper.about, ho, resolve, Target.leads, Sem.run_pure], ?_⟩
  rw [Oper.semAt_plain F _ _ (by rw [ho]; intro c hc'; cases hc')]
  simp [execOp, ho, resolve, invoke, builtin, hv, hx, hr, Result.andThen]
  exact hK _ _ (h v' w' (by unfold Own; rw [sc_append, List.length_append]; exact h2) h3 h4)
/-- what stands between two rounds -/
structure Lo (w : World) (pre : List (List UInt8)) (W : World) (v : Value) : Prop where
  box : Boxed W w.heap.size 22 v
  own : Own (w.heap.size + 2) W v (pre.foldl stO [])
  below : Below w.heap.size w W
  big : w.heap.size + 2 ≤ W.heap.size
theorem Own.nocell {B : Nat} {w : World} {v : Value} {l : List (List UInt8)} (h : Own B w v l) {k : Nat} {o : Obj} (hk : v.ownBlock = some k) (ho : w.heap[k]? = some o) : o.isCells = true := by
  rcases h.2 with ⟨rfl, _⟩ | ⟨g, cap, cur, rfl, _, hg, _⟩
  · cases hk
  · simp only [Value.ownBlock, Option.some.injEq] at hk
    subst hk
    rw [hg] at ho; cases ho; rfl
theorem Lo.turn {w : World} {pre : List (List UInt8)} {A B : World} {v : Value} (h : Lo w pre A v) (hg : A.grownBy B (some (w.heap.size + 1))) : Lo w pre B v :=
  ⟨h.box.kept hg (by simp), h.own.only (S := [w.heap.size + 1]) ⟨hg.os, hg.tape, hg.output, hg.size, fun k hk hn => hg.block k hk (by simpa using hn)⟩ (fun k hk => by have := (h.own.lt hk).1; simp; omega), h.below.grown hg h.below.size (fun k e => by cases e; omega), Nat.le_trans h.big hg.size⟩
theorem Lo.put {w : World} {pre : List (List UInt8)} {A : World} {v : Value} {l : Nat} {o o' : Obj} (h : Lo w pre A v) (hl : w.heap.size ≤ l) (ho : A.heap[l]? = some o) (hc : o.isCells = false) : Lo w pre (A.putObj l o') v := by
  have hg := grownBy_putObj' A l o'
  refine ⟨h.box.kept hg (fun e => ?_), h.own.only (S := [l]) ⟨hg.os, hg.tape, hg.output, hg.size, fun k hk hn => hg.block k hk (by simpa using hn)⟩ (fun k hk => ?_), h.below.grown hg h.below.size (fun k e => by cases e; omega), by simpa using h.big⟩
  · injection e with e
    subst e
    rw [show A.heap[w.heap.size]? = _ from h.box] at ho; cases ho; cases hc
  · intro hm
    have : k = l := by simpa using hm
    subst this
    rw [h.own.nocell hk ho] at hc; cases hc
end Go.Proofs.YtkopjamednedfaaGreat
