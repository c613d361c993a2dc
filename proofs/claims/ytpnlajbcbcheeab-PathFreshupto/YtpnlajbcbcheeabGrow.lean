import Derived.Test.YtpnlajbcbcheeabP17
namespace Go.Proofs.Ytpnlajbcbcheeab
open Go.RowKit

/-- four places that may be written -/
def Slots (w : World) (gl : Nat) : Prop := gl < w.heap.size ∧ ∀ i, i < 4 → (∃ v, w.cell? ⟨gl, i, none⟩ = some v) ∧ w.frozen? ⟨gl, i, none⟩ = false
theorem Slots.only {S : List Nat} {w w' : World} {gl : Nat} (h : Slots w gl) (ho : Only S w w') (hn : gl ∉ S) : Slots w' gl :=
  ⟨Nat.lt_of_lt_of_le h.1 ho.size, fun i hi => by
    have hb := ho.block gl h.1 hn
    rw [World.cell?_of_block (w := w) hb, World.frozen?_of_block (w := w) hb]; exact h.2 i hi⟩
theorem Slots.set {w : World} {gl k : Nat} (h : Slots w gl) (hk : k < 4) (v : Value) : Slots (w.setCell ⟨gl, k, none⟩ v) gl :=
  ⟨by simpa using h.1, fun i hi => by
    refine ⟨?_, by rw [World.frozen?_setCell]; exact (h.2 i hi).2⟩
    by_cases e : i = k
    · subst e; obtain ⟨u, hu⟩ := (h.2 i hi).1; exact ⟨v, World.cell?_setCell_same _ _ _ hu⟩
    · obtain ⟨u, hu⟩ := (h.2 i hi).1
      exact ⟨u, by rw [World.cell?_setCell_other _ _ _ _ (by intro h; cases h; exact e rfl)]; exact hu⟩⟩
theorem set_same {w : World} {gl k : Nat} (h : Slots w gl) (hk : k < 4) (v : Value) : (w.setCell ⟨gl, k, none⟩ v).cell? ⟨gl, k, none⟩ = some v := by
  obtain ⟨u, hu⟩ := (h.2 k hk).1
  exact World.cell?_setCell_same _ _ _ hu
theorem set_other {w : World} {gl k i : Nat} (hi : i ≠ k) (v : Value) : (w.setCell ⟨gl, k, none⟩ v).cell? ⟨gl, i, none⟩ = w.cell? ⟨gl, i, none⟩ :=
  World.cell?_setCell_other _ _ _ _ (by intro h; cases h; exact hi rfl)

/-- list number k has been grown j times -/
def In (w1 wq : World) (gl k nk j : Nat) (v0 : Value) (p : List UInt8) : Prop :=
  ∃ v, wq.cell? ⟨gl, k, none⟩ = some v ∧ ((j = 0 ∧ v = v0) ∨ (0 < j ∧ ∃ g c, v = .slice (some ⟨g, 0, none⟩) (nk + j) c ∧ Own w1.heap.size wq v (List.replicate (nk + j) p))) ∧
    Only [gl] w1 wq ∧ (∀ i, i < 4 → i ≠ k → wq.cell? ⟨gl, i, none⟩ = w1.cell? ⟨gl, i, none⟩) ∧ Slots wq gl

theorem rep_snoc (n : Nat) (p : List UInt8) : List.replicate n p ++ [p] = List.replicate (n + 1) p := by
  rw [List.replicate_succ']
theorem In.first {w1 wq w2 : World} {gl k nk d cap : Nat} {v0 : Value} {p : List UInt8} (h : In w1 wq gl k nk 0 v0 p) (hk : k < 4) (hB : Below wq.heap.size wq w2) {base : Nat} (hbase : wq.heap.size ≤ base)
    (ho : Own base w2 (.slice (some ⟨d, 0, none⟩) (nk + 1) cap) (List.replicate nk p ++ [p])) : In w1 (w2.setCell ⟨gl, k, none⟩ (.slice (some ⟨d, 0, none⟩) (nk + 1) cap)) gl k nk 1 v0 p := by
  obtain ⟨v, hv, _, hO, hoth, hS⟩ := h
  have hS2 := hS.only (Only.of_below hB []) (by simp)
  have hd := ho.lt (k := d) rfl
  have hgl := hS.1
  refine ⟨_, set_same hS2 hk _, .inr ⟨by omega, d, cap, rfl, ?_⟩, (hO.trans (Only.of_below hB [gl])).trans (Only.set _ _ _ _), fun i hi hne => ?_, hS2.set hk _⟩
  · rw [rep_snoc] at ho
    exact (ho.only (Only.set w2 gl k _) (fun k' hk' => by cases hk'; simp; omega)).mono (Nat.le_trans hO.size hbase)
  · rw [set_other hne, hB.cell (p := ⟨gl, i, none⟩) hgl]; exact hoth i hi hne
theorem In.next {w1 wq wa w2 : World} {gl k nk j g c d cap : Nat} {v0 : Value} {p : List UInt8} (h : In w1 wq gl k nk j v0 p) (hk : k < 4) (hj : 0 < j) (hB : Below wq.heap.size wq wa) (hg : wa.grownBy w2 (some g)) (hgl : gl < w1.heap.size)
    (hv0 : wq.cell? ⟨gl, k, none⟩ = some (.slice (some ⟨g, 0, none⟩) (nk + j) c)) (ho : Own w1.heap.size w2 (.slice (some ⟨d, 0, none⟩) (nk + j + 1) cap) (List.replicate (nk + j) p ++ [p])) :
    In w1 (w2.setCell ⟨gl, k, none⟩ (.slice (some ⟨d, 0, none⟩) (nk + j + 1) cap)) gl k nk (j + 1) v0 p := by
  obtain ⟨v, hv, hor, hO, hoth, hS⟩ := h
  rw [hv0] at hv
  injection hv with hv
  subst hv
  rcases hor with ⟨h0, _⟩ | ⟨_, g', c', e, hown⟩
  · omega
  injection e with e1 _ _
  injection e1 with e1
  injection e1 with e1 _ _
  subst e1
  have hgb := hown.lt (k := g) rfl
  have hOn : Only [g] wa w2 := ⟨hg.os, hg.tape, hg.output, hg.size, fun i hi hn => hg.block i hi (fun e => hn (by simpa using e))⟩
  have hSa := hS.only (Only.of_below hB []) (by simp)
  have hne : gl ∉ [g] := by simp; omega
  have hS2 := hSa.only hOn hne
  have hd := ho.lt (k := d) rfl
  refine ⟨_, set_same hS2 hk _, .inr ⟨by omega, d, cap, rfl, ?_⟩, ?_, fun i hi hne2 => ?_, hS2.set hk _⟩
  · rw [rep_snoc] at ho
    exact ho.only (Only.set w2 gl k _) (fun k' hk' => by cases hk'; simp; omega)
  · have h1 := hO.size
    have h2 := hB.size
    have hOw : Only [gl] w1 w2 := ⟨by rw [hg.os, hB.os, hO.os], by rw [hg.tape, hB.tape, hO.tape], by rw [hg.output, hB.output, hO.output], Nat.le_trans (Nat.le_trans h1 h2) hg.size,
      fun i hi hn => by rw [hOn.block i (by omega) (by simp; omega), hB.block i (by omega), hO.block i hi hn]⟩
    exact hOw.trans (Only.set _ _ _ _)
  · rw [set_other hne2, World.cell?_of_block (w := wa) (hOn.block gl hSa.1 hne), hB.cell (p := ⟨gl, i, none⟩) hS.1]; exact hoth i hi hne2
theorem In.done {wr w1 wq : World} {gl k nk : Nat} {nn hb cp : Nat → Nat} {v0 : Value} (hnk : nn k = nk) (h : In w1 wq gl k nk 16 v0 (mk k)) (hk : k < 4) (hw1 : w1 = wr.setCell ⟨gl, k, none⟩ v0) (hL : Long wr gl nn hb cp k) (hlt : ∀ i, i < k → gl < hb i) (hgl : gl < wr.heap.size) :
    ∃ hb' cp', Long wq gl nn hb' cp' (k + 1) ∧ (∀ i, i < k + 1 → gl < hb' i) := by
  obtain ⟨v, hv, hor, hO, hoth, hS⟩ := h
  have hsz : w1.heap.size = wr.heap.size := by rw [hw1]; simp
  rcases hor with ⟨h0, _⟩ | ⟨_, g, c, e, hown⟩
  · omega
  subst e
  have hg := hown.lt (k := g) rfl
  refine ⟨fun i => if i = k then g else hb i, fun i => if i = k then c else cp i, ⟨fun i hi => ?_, fun i hi j hj => ?_, fun i hi => ?_, hS.1⟩, fun i hi => ?_⟩
  · by_cases e : i = k
    · subst e; simp only [if_true]; rw [hnk]; exact hv
    · simp only [if_neg e]; rw [hoth i (by omega) e, hw1, set_other e]; exact hL.cell i (by omega)
  · by_cases e : i = k
    · subst e
      simp only [if_true]
      rw [hnk] at hj
      have hc := World.ownsRow.cells hown (g := g) rfl j (.string (bs (mk i))) (by rw [sc_get, List.getElem?_replicate, if_pos hj]; rfl)
      rw [add_lit, Nat.zero_add] at hc
      exact hc
    · simp only [if_neg e]
      have h1 := hL.lt i (by omega)
      have h2 := hlt i (by omega)
      rw [World.cell?_of_block (w := w1) (hO.block (hb i) (by omega) (by simp; omega)), hw1, World.cell?_of_block (w := wr) (Below.heap_setCell _ _ _ _ (by simp; omega))]
      exact hL.text i (by omega) j hj
  · by_cases e : i = k
    · simp only [if_pos e]; exact hg.2
    · simp only [if_neg e]; have h1 := hL.lt i (by omega); have := hO.size; omega
  · by_cases e : i = k
    · simp only [if_pos e]; omega
    · simp only [if_neg e]; exact hlt i (by omega)
/-- the call of 'mark', as one operation of a region that draws -/
theorem step_mark {ops : Array Oper} {o : Oper} {a : Act} {w : World} {K : Act → World → Prop} {Q : Exit → Act → World → Prop} {E : Prop} (hgd : o.guard = none) (arg : Operand)
    (ho : o.op = .call { callee := .value (.func 35), args := #[arg], argTypes := #[3] }) (k : Nat) (hk : k < 4) (hv : a.eval arg = .int .i64 k)
    (h : ∀ w', Below w.heap.size w w' → K (a.put o.dst (.string (bs (mk k)))) w') :
    if Region.wanted o (yielded ops a.tmps) = true then Oper.wp Try.prog o a w K Q else E := by
  have hw : Region.wanted o (yielded ops a.tmps) = true := by simp [Region.wanted, hgd]
  rw [if_pos hw]
  have hr : (execOp a.eval o).run Try.prog w = .ok (.enter 35 #[.int .i64 k]) w := by
    simp [execOp, ho, resolve, invoke, go_sem]
    cases arg with
    | tmp t => simpa [Act.eval] using hv
    | const v => exact hv
    | global g => exact hv
    | func f => exact hv
  unfold Oper.wp
  rw [hr]
  refine (mark_any k w hk).mono ?_
  rintro e w' ⟨rfl, hb⟩
  exact h w' hb
/-- append onto a row of the call's own, the slice written out -/
theorem step_append_row {ops : Array Oper} {o : Oper} {a : Act} {w : World} {K : Act → World → Prop} {Q : Exit → Act → World → Prop} {E : Prop} (hgd : o.guard = none) (s y : Operand)
    (ho : o.op = .call { callee := .builtin .append, args := #[s, y], argTypes := #[26, 26] }) (base g n c : Nat) (l : List (List UInt8)) (p : List UInt8) (x : Value) (hv : a.eval s = .slice (some ⟨g, 0, none⟩) n c) (hx : a.eval y = x)
    (hown : Own base w (.slice (some ⟨g, 0, none⟩) n c) l) (hn : l.length = n) (hs : Src Try.prog 1 26 x [p].length (sc [p]) w) (hb : n + 1 ≤ 8796093022208) (hbase : base ≤ w.heap.size)
    (h : ∀ d cap w', Own base w' (.slice (some ⟨d, 0, none⟩) (n + 1) cap) (l ++ [p]) → w.grownBy w' (some g) → K (a.put o.dst (.slice (some ⟨d, 0, none⟩) (n + 1) cap)) w') :
    if Region.wanted o (yielded ops a.tmps) = true then Oper.wp Try.prog o a w K Q else E := by
  refine step_append_own hgd s y ho base l [p] _ x hv hx hown hs (by rw [hn]; exact hb) hbase ?_
  intro v' w' h1 h2
  have h3 := h1
  rcases h1.2 with ⟨_, h0⟩ | ⟨d, cap, cur, rfl, _⟩
  · simp at h0
  · rw [List.length_append, hn] at h3 ⊢
    exact h d cap w' h3 h2
/-- a region by its number -/
def findReg (n : Nat) : Code → Option Code
  | .region m a b => if m == n then some (.region m a b) else none
  | .seq a b => match findReg n a with
    | some c => some c
    | none => findReg n b
  | .block _ c => findReg n c
  | .loop c => findReg n c
  | .scope c => findReg n c
  | .cond _ a b => match findReg n a with
    | some c => some c
    | none => findReg n b
  | _ => none
end Go.Proofs.Ytpnlajbcbcheeab
