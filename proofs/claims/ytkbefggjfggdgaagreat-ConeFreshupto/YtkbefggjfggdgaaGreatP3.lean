import Derived.Test.YtkbefggjfggdgaaGreatJA23
namespace Go.Proofs.YtkbefggjfggdgaaGreat
open Go.RowKit

/-- the lists, and the longer ones, behind k rounds -/
structure P3 (B : Nat) (w wr : World) (ga : Nat) (V : Nat → Value) (n k : Nat) (m : Value) (U : Nat → Value) : Prop where
  duo : Duo wr ga V
  below : Fr2 B V w wr
  ss : ∀ i, i < 2 → SS wr (V i) (List.replicate n (mk i))
  own : ∀ i, i < 2 → k ≤ i → Own B wr (V i) (List.replicate n (mk i))
  more : wr.ownsRow w.heap.size 23 1 m k ((List.range k).map U)
  su : ∀ i, i < k → SS wr (U i) (List.replicate (n + 40) (mk i))
  mga : m.ownBlock ≠ some ga
  mV : ∀ i, i < 2 → ∀ g, m.ownBlock = some g → (V i).ownBlock ≠ some g
  mU : ∀ i, i < k → ∀ g, m.ownBlock = some g → (U i).ownBlock ≠ some g
  ub : ∀ i, i < k → ∀ g, (U i).ownBlock = some g → g < wr.heap.size
  vU : ∀ i, i < 2 → k ≤ i → ∀ j, j < k → ∀ g, (V i).ownBlock = some g → (U j).ownBlock ≠ some g
/-- one list being grown -/
structure In3 (B : Nat) (wo wr : World) (v g : Value) (n j k : Nat) : Prop where
  own : Own B wr g (List.replicate (n + j) (mk k))
  which : g.ownBlock = v.ownBlock ∨ ∃ b, g.ownBlock = some b ∧ wo.heap.size ≤ b
  ss : SS wr v (List.replicate n (mk k))
  only : Only (bl v) wo wr
theorem in3_step {B : Nat} {wo wr w' : World} {v g g' : Value} {n j k : Nat} (h : In3 B wo wr v g n j k) (hv : Own B wo v (List.replicate n (mk k)))
    (ho : Own B w' g' (List.replicate (n + j) (mk k) ++ [mk k]))
    (hc : (∃ b m cap, g = .slice (some ⟨b, 0, none⟩) m cap ∧ g' = .slice (some ⟨b, 0, none⟩) (m + 1) cap ∧ wr.grownBy w' (some b)) ∨ (∃ b, g'.ownBlock = some b ∧ wr.heap.size ≤ b ∧ Below wr.heap.size wr w')) : In3 B wo w' v g' n (j + 1) k := by
  have e : List.replicate (n + j) (mk k) ++ [mk k] = List.replicate (n + (j + 1)) (mk k) := by rw [← Nat.add_assoc, List.replicate_succ']
  rw [e] at ho
  rcases hc with ⟨b, m, cap, rfl, rfl, hg⟩ | ⟨b, hb, hge, hbel⟩
  · have hb : (Value.slice (some ⟨b, 0, none⟩) m cap).ownBlock = some b := rfl
    refine ⟨ho, h.which, ?_, ?_⟩
    · by_cases hvb : v.ownBlock = some b
      · rcases hv.form with ⟨rfl, _⟩ | ⟨g, c, rfl, hle, _, _⟩
        · simp [Value.ownBlock] at hvb
        · have hgb : g = b := by simpa [Value.ownBlock] using hvb
          subst hgb
          have := ss_of_own (n := n) (c' := c) ho (by simp) (by simpa using hle)
          rw [List.take_replicate, Nat.min_eq_left (by omega)] at this
          simpa using this
      · exact h.ss.grown hg (.inr hvb)
    · have hw := only_grown hg
      refine ⟨by rw [hw.os, h.only.os], by rw [hw.tape, h.only.tape], by rw [hw.output, h.only.output], Nat.le_trans h.only.size hw.size, fun x hx hn => ?_⟩
      rw [hw.block x (Nat.lt_of_lt_of_le hx h.only.size) (fun e => ?_), h.only.block x hx hn]
      have hxb : x = b := by simpa using e
      subst hxb
      rcases h.which with h1 | ⟨b', h1, h2⟩
      · exact hn (mem_bl.2 (by rw [← h1, hb]))
      · have hbb : x = b' := by simpa [Value.ownBlock] using h1
        omega
  · exact ⟨ho, .inr ⟨b, hb, Nat.le_trans h.only.size hge⟩, h.ss.later hbel, h.only.trans (Only.of_below hbel _)⟩
theorem p3_next {B : Nat} {w wo wr w' : World} {ga : Nat} {V : Nat → Value} {n k : Nat} {m m' g : Value} {U : Nat → Value} (h : P3 B w wo ga V n k m U) (hk : k < 2) (i3 : In3 B wo wr (V k) g n 40 k) (hB : B ≤ wo.heap.size) (hBw : B ≤ w.heap.size)
    (hm : w'.ownsRow w.heap.size 23 1 m' (k + 1) ((List.range k).map U ++ [g])) (hg : wr.grownBy w' m.ownBlock) (hw : m'.ownBlock = m.ownBlock ∨ m'.ownBlock = some (wr.heap.size + 1)) :
    P3 B w w' ga V n (k + 1) m' (fun i => if i = k then g else U i) := by
  have hO := i3.only
  have hG := only_grown hg
  have hmlt : ∀ b, m.ownBlock = some b → b < wo.heap.size := fun b hb => (World.ownsRow.lt h.more b hb).2
  have hsz1 := hO.size
  have hgm : ∀ b, m.ownBlock = some b → g.ownBlock ≠ some b := fun b hb e => by
    rcases i3.which with h1 | ⟨b', h1, h2⟩
    · exact h.mV k hk b hb (by rw [← h1]; exact e)
    · have := hmlt b hb
      rw [h1] at e
      injection e with e
      omega
  have hglt : ∀ b, g.ownBlock = some b → b < wr.heap.size := fun b hb => (i3.own.lt hb).2
  have hvlt : ∀ i, i < 2 → k ≤ i → ∀ b, (V i).ownBlock = some b → b < wo.heap.size := fun i hi hki b hb => ((h.own i hi hki).lt hb).2
  have nG : ∀ b, m.ownBlock ≠ some b → b ∉ m.ownBlock.toList := fun b hb e => by
    cases hmm : m.ownBlock with
    | none => rw [hmm] at e; simp at e
    | some c => rw [hmm] at e; simp at e; subst e; exact hb hmm
  have hBk : ∀ x, x ∈ bl (V k) → B ≤ x := fun x hx => ((h.own k hk (Nat.le_refl _)).lt (mem_bl.1 hx)).1
  have hnew : ∀ b, m'.ownBlock = some b → m.ownBlock = some b ∨ b = wr.heap.size + 1 := fun b hb => by
    rcases hw with e | e
    · exact .inl (by rw [← e]; exact hb)
    · rw [e] at hb; injection hb with hb; exact .inr hb.symm
  have hmB : ∀ x, x ∈ m.ownBlock.toList → w.heap.size ≤ x := fun x hx => by
    cases hmm : m.ownBlock with
    | none => rw [hmm] at hx; simp at hx
    | some c => rw [hmm] at hx; simp at hx; subst hx; exact (World.ownsRow.lt h.more _ hmm).1
  have hbelow : Fr2 B V w w' := ⟨below_trans h.below.below (below_trans (hO.below hB hBk) (hG.below (by omega) (fun x hx => Nat.le_trans hBw (hmB x hx)))), only_stp (h.below.only.trans (hO.mono (bl_two hk))) hG (fun x hx => .inr (hmB x hx))⟩
  refine ⟨(h.duo.only hO (fun e => h.duo.ne k hk (mem_bl.1 e))).only hG (nG ga h.mga), hbelow, fun i hi => ?_, fun i hi hki => ?_, ?_, fun i hi => ?_, fun e => ?_, fun i hi b hb e => ?_, fun i hi b hb e => ?_, fun i hi b hb => ?_, fun i hi hki j hj b hb e => ?_⟩
  · by_cases hik : i = k
    · subst hik
      exact i3.ss.only hG (fun b hb => nG b (fun e => h.mV i hi b e hb))
    · exact ((h.ss i hi).only hO (fun b hb e => h.duo.apart i k hi hk hik b hb (mem_bl.1 e))).only hG (fun b hb => nG b (fun e => h.mV i hi b e hb))
  · have hik : i ≠ k := by omega
    exact ((h.own i hi (by omega)).only hO (fun b hb e => h.duo.apart i k hi hk hik b hb (mem_bl.1 e))).only hG (fun b hb => nG b (fun e => h.mV i hi b e hb))
  · have e : (List.range (k + 1)).map (fun i => if i = k then g else U i) = (List.range k).map U ++ [g] := by
      rw [List.range_succ, List.map_append]
      congr 1
      · apply List.map_congr_left
        intro i hi
        have := List.mem_range.1 hi
        rw [if_neg (by omega)]
      · simp
    rw [e]; exact hm
  · show SS w' (if i = k then g else U i) _
    by_cases hik : i = k
    · subst hik
      rw [if_pos rfl]
      exact i3.own.bs.only hG (fun b hb => nG b (fun e => hgm b e hb))
    · rw [if_neg hik]
      exact ((h.su i (by omega)).only hO (fun b hb e => h.vU k hk (Nat.le_refl _) i (by omega) b (mem_bl.1 e) hb)).only hG (fun b hb => nG b (fun e => h.mU i (by omega) b e hb))
  · rcases hnew ga e with e | e
    · exact h.mga e
    · have := h.duo.galt; omega
  · rcases hnew b hb with e' | e'
    · exact h.mV i hi b e' e
    · have := h.duo.lt i hi b e; omega
  · have e2 : (if i = k then g else U i).ownBlock = some b := e
    rcases hnew b hb with e' | e'
    · by_cases hik : i = k
      · rw [if_pos hik] at e2; exact hgm b e' e2
      · rw [if_neg hik] at e2; exact h.mU i (by omega) b e' e2
    · by_cases hik : i = k
      · rw [if_pos hik] at e2; have := hglt b e2; omega
      · rw [if_neg hik] at e2; have := h.ub i (by omega) b e2; omega
  · have hb2 : (if i = k then g else U i).ownBlock = some b := hb
    have hs2 := hG.size
    by_cases hik : i = k
    · rw [if_pos hik] at hb2; have := hglt b hb2; omega
    · rw [if_neg hik] at hb2; have := h.ub i (by omega) b hb2; omega
  · have e2 : (if j = k then g else U j).ownBlock = some b := e
    by_cases hjk : j = k
    · rw [if_pos hjk] at e2
      rcases i3.which with h1 | ⟨b', h1, h2⟩
      · exact h.duo.apart i k hi hk (by omega) b hb (by rw [← h1]; exact e2)
      · rw [h1] at e2
        injection e2 with e2
        have := h.duo.lt i hi b hb
        omega
    · rw [if_neg hjk] at e2; exact h.vU i hi (by omega) j (by omega) b hb e2
end Go.Proofs.YtkbefggjfggdgaaGreat
