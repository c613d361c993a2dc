import Derived.Test.YtefhdnhhcgbbjaaStep
namespace Go.Proofs.Ytefhdnhhcgbbjaa
open Go.RowKit

theorem und50 : Try.prog.underlying 50 = some (.slice 27) := by kernel_rfl
theorem info27 : (Try.prog.info? 27).map (fun i => (i.zero, i.size, i.bytes)) = some (some (.slice none 0 0), 1, 24) := by kernel_rfl

/-- values in a row -/
def vals (n : Nat) (A : Nat → Value) : List Value := (List.range n).map A
theorem vals_length (n : Nat) (A : Nat → Value) : (vals n A).length = n := by simp [vals]
theorem vals_get (n : Nat) (A : Nat → Value) (i : Nat) (h : i < n) : (vals n A)[i]? = some (A i) := by simp [vals, h]
/-- one behind the other -/
def cat (n : Nat) (A B : Nat → Value) : Nat → Value := fun i => if i < n then A i else B (i - n)
theorem vals_cat (n m : Nat) (A B : Nat → Value) : vals (n + m) (cat n A B) = vals n A ++ vals m B := by
  apply List.ext_getElem
  · simp [vals]
  · intro i h1 h2
    simp only [vals, List.getElem_map, List.getElem_range, cat]
    by_cases h : i < n
    · rw [if_pos h, List.getElem_append_left (by simpa using h)]; simp
    · rw [if_neg h, List.getElem_append_right (by simpa using h)]; simp

def OwnV (base : Nat) (w : World) (v : Value) (n : Nat) (A : Nat → Value) : Prop := w.ownsRow base 27 1 v n (vals n A)

theorem app_vals {w : World} {base : Nat} {v x : Value} {n m : Nat} {A B : Nat → Value} (hown : OwnV base w v n A) (hs : Src Try.prog 1 50 x m (vals m B) w) (hb : n + m ≤ 1000000) (hbase : base ≤ w.heap.size)
    {ops : Array Oper} {rest : List Oper} {o : Oper} {a : Act} {Q : Exit → Act → World → Prop} (hgd : o.guard = none) (s y : Operand)
    (ho : o.op = .call { callee := .builtin .append, args := #[s, y], argTypes := #[50, 50] }) (hv : a.eval s = v) (hx : a.eval y = x)
    (h : ∀ v' w', OwnV base w' v' (n + m) (cat n A B) → w.grownBy w' v.ownBlock → (v'.ownBlock = v.ownBlock ∨ v'.ownBlock = some w.heap.size) → wpList Try.prog ops Q rest (a.put o.dst v') w') :
    wpList Try.prog ops Q (o :: rest) a w := by
  obtain ⟨i0, hi, hz0, hz1, hz2⟩ := info_parts info27
  refine wpList_append_src w hgd s y 50 50 ho base 27 i0 _ 1 24 und50 hi hz0 hz1 hz2 rfl v n (vals n A) hv hown x m (vals m B) hx hs (by simp only [maxLen]; omega) (by omega) hbase ?_
  intro v' w' h1 h2 h3
  exact h v' w' (by unfold OwnV; rw [vals_cat]; exact h1) h2 h3

theorem OwnV.form {base : Nat} {w : World} {v : Value} {n : Nat} {A : Nat → Value} (h : OwnV base w v n A) (hn : 0 < n) :
    ∃ g cap, v = .slice (some ⟨g, 0, none⟩) n cap ∧ n ≤ cap ∧ base ≤ g ∧ g < w.heap.size ∧ ∀ i, i < n → w.cell? ⟨g, i, none⟩ = some (A i) := by
  rcases h.2 with ⟨rfl, h0⟩ | ⟨g, cap, cur, rfl, hb, hg, hnc, _⟩
  · omega
  · refine ⟨g, cap, rfl, hnc, hb, (Array.getElem?_eq_some_iff.1 hg).1, fun i hi => ?_⟩
    have := World.ownsRow.cells h (g := g) rfl i (A i) (vals_get n A i hi)
    rw [add_lit, Nat.zero_add] at this
    exact this
theorem OwnV.later {base : Nat} {w w' : World} {v : Value} {n : Nat} {A : Nat → Value} (h : OwnV base w v n A) (hb : Below w.heap.size w w') : OwnV base w' v n A := by
  refine World.ownsRow.kept (row := none) h (grown_of_below hb) ?_
  cases v.ownBlock <;> simp
theorem OwnV.nil (base : Nat) (w : World) (A : Nat → Value) : OwnV base w (.slice none 0 0) 0 A := World.ownsRow_nil w base 27 1

/-- slices as cells of a new block -/
theorem src_vals (w : World) (cs : Array Value) (m : Nat) (B : Nat → Value) (hc : cs.toList = vals m B) (h1 : ∀ i, i < m → (B i).oneCell' = true) :
    Src Try.prog 1 50 (.slice (some ⟨w.heap.size, 0, none⟩) m m) m (vals m B) (w.alloc (.cells cs 27)) := by
  refine Src.ofSlice _ und50 ⟨w.heap.size, 0, none⟩ m m (vals m B) (by simp [vals_length]) ?_ ?_
  · have hb : (w.alloc (.cells cs 27)).heap[w.heap.size]? = some (.cells cs 27 (0, 0)) := heap_alloc_new w _
    rw [← hc]
    exact World.news_of_block hb
  · intro u hu
    obtain ⟨i, hi, rfl⟩ := List.mem_map.1 hu
    exact h1 i (List.mem_range.1 hi)

theorem BS.form' {w : World} {v : Value} {l : List UInt8} (h : BS w v l) : ∃ a n c, v = .slice a n c := by
  obtain ⟨a, c, rfl⟩ := h.form
  exact ⟨_, _, _, rfl⟩
/-- bytes in a block of [lo, hi) -/
def Fr (lo hi : Nat) (w : World) (v : Value) (l : List UInt8) : Prop := Own lo w v l ∧ ∀ k, v.ownBlock = some k → lo ≤ k ∧ k < hi
theorem Fr.later' {lo hi : Nat} {w w' : World} {v : Value} {l : List UInt8} (h : Fr lo hi w v l) (hb : Below w.heap.size w w') : Fr lo hi w' v l := by
  refine ⟨?_, h.2⟩
  refine World.ownsRow.kept (row := none) h.1 (grown_of_below hb) ?_
  cases v.ownBlock <;> simp
theorem Fr.of {w w' : World} {v : Value} {l : List UInt8} (h : Own w.heap.size w' v l) : Fr w.heap.size w'.heap.size w' v l := ⟨h, fun k hk => World.ownsRow.lt h k hk⟩
theorem Fr.one {lo hi : Nat} {w : World} {v : Value} {l : List UInt8} (h : Fr lo hi w v l) : v.oneCell' = true := by
  obtain ⟨a, c, rfl⟩ := h.1.bs.form
  rfl

/-- the rows that were made: contents, and no two in one block -/
structure Bag (base n : Nat) (w : World) (A : Nat → Value) (C : Nat → List UInt8) : Prop where
  own : ∀ i, i < n → Own base w (A i) (C i)
  apart : ∀ i j, i < n → j < n → i ≠ j → ∀ k, (A i).ownBlock = some k → (A j).ownBlock ≠ some k

theorem Bag.later {base n : Nat} {w w' : World} {A : Nat → Value} {C : Nat → List UInt8} (h : Bag base n w A C) (hb : Below w.heap.size w w') : Bag base n w' A C := by
  refine ⟨fun i hi => ?_, h.apart⟩
  refine World.ownsRow.kept (row := none) (h.own i hi) (grown_of_below hb) ?_
  cases (A i).ownBlock <;> simp
theorem Bag.lt {base n : Nat} {w : World} {A : Nat → Value} {C : Nat → List UInt8} (h : Bag base n w A C) (i : Nat) (hi : i < n) : ∀ k, (A i).ownBlock = some k → base ≤ k ∧ k < w.heap.size := World.ownsRow.lt (h.own i hi)
/-- one more -/
theorem Bag.add {base n : Nat} {w w' : World} {A : Nat → Value} {C : Nat → List UInt8} (h : Bag base n w A C) (hbase : base ≤ w.heap.size) {v : Value} {l : List UInt8} (hb : Below w.heap.size w w') (ho : Own w.heap.size w' v l) :
    Bag base (n + 1) w' (fun i => if i < n then A i else v) (fun i => if i < n then C i else l) := by
  have hl := h.later hb
  refine ⟨fun i hi => ?_, fun i j hi hj hij k hk => ?_⟩
  · by_cases e : i < n
    · simp only [if_pos e]; exact hl.own i e
    · simp only [if_neg e]; exact ho.mono hbase
  · by_cases ei : i < n
    · by_cases ej : j < n
      · simp only [if_pos ei, if_pos ej] at hk ⊢; exact h.apart i j ei ej hij k hk
      · simp only [if_pos ei, if_neg ej] at hk ⊢
        intro e
        have := (World.ownsRow.lt ho k e).1
        have := (h.lt i ei k hk).2
        omega
    · by_cases ej : j < n
      · simp only [if_neg ei, if_pos ej] at hk ⊢
        intro e
        have := (World.ownsRow.lt ho k hk).1
        have := (h.lt j ej k e).2
        omega
      · omega
theorem Bag.congr {base n : Nat} {w : World} {A A' : Nat → Value} {C C' : Nat → List UInt8} (h : Bag base n w A C) (hA : ∀ i, i < n → A i = A' i) (hC : ∀ i, i < n → C i = C' i) : Bag base n w A' C' := by
  refine ⟨fun i hi => by rw [← hA i hi, ← hC i hi]; exact h.own i hi, fun i j hi hj hij k hk => ?_⟩
  rw [← hA i hi] at hk
  rw [← hA j hj]
  exact h.apart i j hi hj hij k hk
/-- a row that is none of the bag's is written -/
theorem Bag.other {base n : Nat} {w w' : World} {A : Nat → Value} {C : Nat → List UInt8} {row : Option Nat} (h : Bag base n w A C) (hg : w.grownBy w' row) (hr : ∀ i, i < n → (A i).ownBlock = none ∨ (A i).ownBlock ≠ row) : Bag base n w' A C :=
  ⟨fun i hi => World.ownsRow.kept (h.own i hi) hg (hr i hi), h.apart⟩
theorem Bag_none {base : Nat} (w : World) (A : Nat → Value) (C : Nat → List UInt8) : Bag base 0 w A C := ⟨fun i hi => by omega, fun i j hi => by omega⟩

end Go.Proofs.Ytefhdnhhcgbbjaa
