/-
  What a walk works with: the search, the place, the places above.
-/
import Derived.Test.YtclbnjfmipifnaaSl
namespace Go.Proofs.Ytclbnjfmipifnaa
open Go.RowKit Go.Maps

/-- places as cells -/
def pv : List (Nat × Nat) → List Value
  | [] => []
  | p :: r => .int .i64 (p.1 : Int) :: .int .i64 (p.2 : Int) :: pv r
theorem pv_length : ∀ l, (pv l).length = l.length * 2
  | [] => rfl
  | p :: r => by simp only [pv, List.length_cons, pv_length r]; omega
theorem pv_append : ∀ a b, pv (a ++ b) = pv a ++ pv b
  | [], b => rfl
  | p :: r, b => by simp [pv, pv_append r b]
theorem pv_get : ∀ (l : List (Nat × Nat)) (k : Nat) (h : k < l.length), (pv l)[k * 2]? = some (.int .i64 (l[k].1 : Int)) ∧ (pv l)[k * 2 + 1]? = some (.int .i64 (l[k].2 : Int))
  | p :: r, 0, _ => ⟨rfl, rfl⟩
  | p :: r, k + 1, h => by
    have ih := pv_get r k (by simpa using h)
    rw [show (k + 1) * 2 = k * 2 + 2 by omega]
    simp only [pv, List.getElem_cons_succ]
    exact ih
theorem pv_take (l : List (Nat × Nat)) (k : Nat) (h : k ≤ l.length) : (pv l).take (k * 2) = pv (l.take k) := by
  have e := List.take_append_drop k l
  have e2 : pv l = pv (l.take k) ++ pv (l.drop k) := by rw [← pv_append, e]
  rw [e2, List.take_append_of_le_length (by rw [pv_length, List.length_take]; omega), List.take_of_length_le (by rw [pv_length, List.length_take]; omega)]
/-- one place more -/
theorem app_P {w : World} {base N : Nat} (hN : w.heap.size = N) {v : Value} {l : List (Nat × Nat)} (x g : Nat) (hown : w.ownsRow base 91 2 v l.length (pv l)) (hb : l.length + 1 ≤ 1000000) (hbase : base ≤ w.heap.size)
    {ops : Array Oper} {rest : List Oper} {o : Oper} {a : Act} {Q : Exit → Act → World → Prop} (hgd : o.guard = none) (s y : Operand)
    (ho : o.op = .call { callee := .builtin .append, args := #[s, y], argTypes := #[89, 89] }) (hv : a.eval s = v) (hx : a.eval y = .slice (some ⟨N, 0, none⟩) 1 1)
    (h : ∀ v' w', w'.ownsRow base 91 2 v' (l ++ [(x, g)]).length (pv (l ++ [(x, g)])) → (w.alloc (.cells #[.int .i64 (x : Int), .int .i64 (g : Int)] 91)).grownBy w' v.ownBlock → (v'.ownBlock = v.ownBlock ∨ v'.ownBlock = some (w.alloc (.cells #[.int .i64 (x : Int), .int .i64 (g : Int)] 91)).heap.size) → wpList Try.prog ops Q rest (a.put o.dst v') w') :
    wpList Try.prog ops Q (o :: rest) a (w.alloc (.cells #[.int .i64 (x : Int), .int .i64 (g : Int)] 91)) := by
  have h1 : (w.alloc (.cells #[.int .i64 (x : Int), .int .i64 (g : Int)] 91)).ownsRow base kP.e kP.sz v l.length (pv l) := row_later hown (balloc w _)
  have h2 : Src Try.prog kP.sz kP.T (.slice (some ⟨w.heap.size, 0, none⟩) 1 1) 1 [.int .i64 (x : Int), .int .i64 (g : Int)] (w.alloc (.cells #[.int .i64 (x : Int), .int .i64 (g : Int)] 91)) := src_K kP_ok w [.int .i64 (x : Int), .int .i64 (g : Int)] rfl (by simp [Value.oneCell'])
  subst hN
  refine app_K kP_ok h1 h2 (by omega) (Nat.le_trans hbase (balloc w _).size) hgd s y ho hv hx (fun v' w' g1 g2 g3 => h v' w' ?_ g2 g3)
  rw [pv_append, List.length_append]
  exact g1
section
variable {w0 w w' wE : World} {K : SK} {vp0 vp va : Value} {s : Tj.St} {v g : Nat} {R : List (Nat × Nat)}
/-- the search's blocks are no places -/
theorem SE.tag (h : SE w0 K vp s w) {k : Nat} (hk : sF K vp k) : ∃ cur t, w.heap[k]? = some (.cells cur t (0, 0)) ∧ t ≠ 91 := by
  rcases hk with e | e | e | e | e
  · rw [e]; exact ⟨_, 78, h.blk, by decide⟩
  · rw [e]; exact ⟨_, 3, h.rm, by decide⟩
  · rw [e]; exact ⟨_, 3, h.re, by decide⟩
  · rw [e]; exact ⟨_, 3, h.rl, by decide⟩
  · obtain ⟨_, _, cur, hc⟩ := row_tag h.rp e
    exact ⟨cur, 3, hc, by decide⟩
theorem SE.notag (h : SE w0 K vp s w) {k : Nat} {cur : Array Value} (hc : w.heap[k]? = some (.cells cur 91 (0, 0))) : ¬ sF K vp k := fun hk => by
  obtain ⟨c2, t, h2, h3⟩ := h.tag hk
  rw [hc] at h2
  injection h2 with h2
  injection h2 with _ h2 _
  exact h3 h2.symm
structure WI (w0 wE : World) (K : SK) (vp0 vp va : Value) (s : Tj.St) (v g : Nat) (R : List (Nat × Nat)) (w : World) : Prop where
  se : SE w0 K vp s w
  sx : SX K vp0 vp wE w
  bx : w.heap[wE.heap.size]? = some (.cells #[.int .i64 (v : Int), .int .i64 (g : Int)] 91 (0, 0))
  rw : w.ownsRow (wE.heap.size + 1) 91 2 va R.length (pv R.reverse)
  bE : w0.heap.size ≤ wE.heap.size
theorem WI.blt (h : WI w0 wE K vp0 vp va s v g R w) : wE.heap.size < w.heap.size := (Array.getElem?_eq_some_iff.1 h.bx).1
theorem WI.p0 (h : WI w0 wE K vp0 vp va s v g R w) : w.cell? ⟨wE.heap.size, 0, none⟩ = some (.int .i64 (v : Int)) := by simp [World.cell?, h.bx]
theorem WI.p1 (h : WI w0 wE K vp0 vp va s v g R w) : w.cell? ⟨wE.heap.size, 1, none⟩ = some (.int .i64 (g : Int)) := by simp [World.cell?, h.bx]
theorem WI.soft (h : WI w0 wE K vp0 vp va s v g R w) (o : Nat) : w.frozen? ⟨wE.heap.size, o, none⟩ = false := by simp [World.frozen?, h.bx]
theorem WI.later (h : WI w0 wE K vp0 vp va s v g R w) (hb : Below w.heap.size w w') : WI w0 wE K vp0 vp va s v g R w' :=
  ⟨h.se.later hb, h.sx.trans (sx_below hb), (hb.block _ h.blt).trans h.bx, row_later h.rw hb, h.bE⟩
theorem WI.va_ne (h : WI w0 wE K vp0 vp va s v g R w) {k : Nat} (hk : va.ownBlock = some k) : k ≠ wE.heap.size ∧ ¬ sF K vp k ∧ wE.heap.size < k := by
  obtain ⟨h1, _, cur, h2⟩ := row_tag h.rw hk
  exact ⟨by omega, h.se.notag h2, by omega⟩
/-- a call that turns the search alone -/
theorem WI.call {vp' : Value} {s' : Tj.St} (h : WI w0 wE K vp0 vp va s v g R w) (hs : SE w0 K vp' s' w') (hx : SX K vp vp' w w') : WI w0 wE K vp0 vp' va s' v g R w' := by
  refine ⟨hs, h.sx.trans hx, (hx.1.block _ h.blt (h.se.notag h.bx)).trans h.bx, row_kept h.rw (fun k hk => ?_), h.bE⟩
  exact hx.1.block k (row_tag h.rw hk).2.1 (h.va_ne hk).2.1
/-- the place is another -/
theorem WI.box (h : WI w0 wE K vp0 vp va s v g R w) {v' g' : Nat} (ho : Only [wE.heap.size] w w') (hb : w'.heap[wE.heap.size]? = some (.cells #[.int .i64 (v' : Int), .int .i64 (g' : Int)] 91 (0, 0))) : WI w0 wE K vp0 vp va s v' g' R w' := by
  have hn : ∀ k, sF K vp k → k ∉ [wE.heap.size] := fun k hk e => by
    rw [List.mem_singleton.1 e] at hk
    exact h.se.notag h.bx hk
  refine ⟨h.se.only ho (fun k hk => by rw [List.mem_singleton.1 hk]; exact h.bE) (hn _ (.inl rfl)) (hn _ (.inr (.inl rfl))) (hn _ (.inr (.inr (.inl rfl)))) (hn _ (.inr (.inr (.inr (.inl rfl))))) (fun k hk => hn _ (.inr (.inr (.inr (.inr hk))))), ⟨h.sx.1.trans (OnlyP.of_only (F := fun k => k = wE.heap.size) ho (fun k hk _ => List.mem_singleton.1 hk)) (fun i hi e => by omega), h.sx.2⟩, hb, row_only h.rw ho (fun k hk e => (h.va_ne hk).1 (List.mem_singleton.1 e)), h.bE⟩
theorem WI.setg (h : WI w0 wE K vp0 vp va s v g R w) (g' : Nat) : WI w0 wE K vp0 vp va s v g' R (w.setCell ⟨wE.heap.size, 1, none⟩ (.int .i64 (g' : Int))) :=
  h.box (Only.set _ _ _ _) (by rw [heap_setCell w _ 1 _ h.bx]; rfl)
theorem WI.setat (h : WI w0 wE K vp0 vp va s v g R w) (v' g' : Nat) : WI w0 wE K vp0 vp va s v' g' R ((w.setCell ⟨wE.heap.size, 0, none⟩ (.int .i64 (v' : Int))).setCell ⟨wE.heap.size, 1, none⟩ (.int .i64 (g' : Int))) := by
  refine h.box (only_set2 _ _ _ _ _ _) ?_
  rw [heap_setCell _ _ 1 _ (heap_setCell w _ 0 _ h.bx)]
  rfl
/-- a place more above -/
theorem WI.push (h : WI w0 wE K vp0 vp va s v g R w) {o : Obj} {v' : Value} {p : Nat × Nat} (hg : (w.alloc o).grownBy w' va.ownBlock) (hr : w'.ownsRow (wE.heap.size + 1) 91 2 v' (R.reverse ++ [p]).length (pv (R.reverse ++ [p]))) : WI w0 wE K vp0 vp v' s v g (p :: R) w' := by
  have ho : Only va.ownBlock.toList w w' := only_alloc hg
  have hn : ∀ k, k ∈ va.ownBlock.toList → va.ownBlock = some k := fun k hk => by simpa using hk
  have hf : ∀ k, sF K vp k → k ∉ va.ownBlock.toList := fun k hk e => (h.va_ne (hn k e)).2.1 hk
  refine ⟨h.se.only ho (fun k hk => by have := (h.va_ne (hn k hk)).2.2; have := h.bE; omega) (hf _ (.inl rfl)) (hf _ (.inr (.inl rfl))) (hf _ (.inr (.inr (.inl rfl)))) (hf _ (.inr (.inr (.inr (.inl rfl))))) (fun k hk => hf _ (.inr (.inr (.inr (.inr hk))))), ⟨h.sx.1.trans (OnlyP.of_only (F := fun k => wE.heap.size < k) ho (fun k hk _ => (h.va_ne (hn k hk)).2.2)) (fun i hi e => by omega), h.sx.2⟩, (ho.block _ h.blt (fun e => (h.va_ne (hn _ e)).1 rfl)).trans h.bx, ?_, h.bE⟩
  rw [List.reverse_cons]
  simpa using hr
/-- the last place above -/
theorem WI.last {p : Nat × Nat} (h : WI w0 wE K vp0 vp va s v g (p :: R) w) : ∃ ga ca, va = .slice (some ⟨ga, 0, none⟩) (R.length + 1) ca ∧ R.length + 1 ≤ ca ∧ w.cell? ⟨ga, R.length * 2, none⟩ = some (.int .i64 (p.1 : Int)) ∧ w.cell? ⟨ga, R.length * 2 + 1, none⟩ = some (.int .i64 (p.2 : Int)) ∧
    ga ≠ wE.heap.size ∧ WI w0 wE K vp0 vp (.slice (some ⟨ga, 0, none⟩) R.length ca) s v g R w := by
  obtain ⟨ga, ca, e, hc, hg, hl⟩ := row_place h.rw (by simp)
  simp only [List.length_cons] at e hc
  have h1 := h.rw
  rw [e] at h1
  simp only [List.length_cons, List.reverse_cons] at h1
  have hk : R.length < (R.reverse ++ [p]).length := by simp
  obtain ⟨a1, a2⟩ := pv_get (R.reverse ++ [p]) R.length hk
  have e3 : (R.reverse ++ [p])[R.length] = p := by
    rw [List.getElem_append_right (by simp)]
    simp
  rw [e3] at a1 a2
  refine ⟨ga, ca, e, hc, row_cell h1 a1, row_cell h1 a2, by omega, ⟨h.se, h.sx, h.bx, ?_, h.bE⟩⟩
  have h2 := row_take h1 R.length (by omega)
  rw [pv_take _ _ (by simp)] at h2
  rw [List.take_append_of_le_length (by simp), List.take_of_length_le (by simp)] at h2
  exact h2
end
end Go.Proofs.Ytclbnjfmipifnaa
