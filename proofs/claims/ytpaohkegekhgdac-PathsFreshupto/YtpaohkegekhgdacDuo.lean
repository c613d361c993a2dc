import Derived.Test.YtpaohkegekhgdacMark
namespace Go.Proofs.Ytpaohkegekhgdac
open Go.RowKit

/-- what is asked of the look at two lists -/
def Good3 (B : Nat) (w : World) (e : Ending) (w' : World) : Prop := e = .returned (.bool true) ∧ Below B w w'

/-- two lists in block ga, each in memory of its own -/
structure Duo (w : World) (ga : Nat) (V : Nat → Value) : Prop where
  cell : ∀ i, i < 2 → w.cell? ⟨ga, i, none⟩ = some (V i)
  galt : ga < w.heap.size
  ne : ∀ i, i < 2 → (V i).ownBlock ≠ some ga
  lt : ∀ i, i < 2 → ∀ g, (V i).ownBlock = some g → g < w.heap.size
  apart : ∀ i j, i < 2 → j < 2 → i ≠ j → ∀ g, (V i).ownBlock = some g → (V j).ownBlock ≠ some g
theorem Duo.only {S : List Nat} {w w' : World} {ga : Nat} {V : Nat → Value} (h : Duo w ga V) (ho : Only S w w') (hg : ga ∉ S) : Duo w' ga V :=
  ⟨fun i hi => by rw [World.cell?_of_block (w := w) (ho.block ga h.galt hg)]; exact h.cell i hi, Nat.lt_of_lt_of_le h.galt ho.size, h.ne, fun i hi g hg => Nat.lt_of_lt_of_le (h.lt i hi g hg) ho.size, h.apart⟩
theorem Duo.later {w w' : World} {ga : Nat} {V : Nat → Value} (h : Duo w ga V) (hb : Below w.heap.size w w') : Duo w' ga V := h.only (Only.of_below hb []) (by simp)
theorem SS.only {S : List Nat} {w w' : World} {v : Value} {l : List (List UInt8)} (h : SS w v l) (ho : Only S w w') (hn : ∀ g, v.ownBlock = some g → g ∉ S) : SS w' v l := by
  rcases h with h | ⟨b, off, cap, rfl, hc, hlt, hcell⟩
  · exact .inl h
  · refine .inr ⟨b, off, cap, rfl, hc, Nat.lt_of_lt_of_le hlt ho.size, fun i u hu => ?_⟩
    rw [World.cell?_of_block (w := w) (ho.block b hlt (hn b rfl))]
    exact hcell i u hu
/-- the block of a value, as a list -/
def bl (v : Value) : List Nat := v.ownBlock.toList
theorem mem_bl {v : Value} {g : Nat} : g ∈ bl v ↔ v.ownBlock = some g := by
  unfold bl
  cases v.ownBlock with
  | none => simp
  | some k => simp [eq_comm]
theorem only_grown {w w' : World} {row : Option Nat} (h : w.grownBy w' row) : Only row.toList w w' :=
  ⟨h.os, h.tape, h.output, h.size, fun k hk hn => h.block k hk (by
    intro e
    apply hn
    rw [← e]; simp)⟩
theorem Own.form {base : Nat} {w : World} {v : Value} {l : List (List UInt8)} (h : Own base w v l) : (v = .slice none 0 0 ∧ l = []) ∨ ∃ g c, v = .slice (some ⟨g, 0, none⟩) l.length c ∧ l.length ≤ c ∧ base ≤ g ∧ g < w.heap.size := by
  rcases h.2 with ⟨rfl, h0⟩ | ⟨g, cap, cur, rfl, hb, hg, hn, _⟩
  · exact .inl ⟨rfl, List.eq_nil_of_length_eq_zero h0⟩
  · exact .inr ⟨g, cap, rfl, hn, hb, (Array.getElem?_eq_some_iff.1 hg).1⟩
theorem ss_of_own {base : Nat} {w : World} {g n m c c' : Nat} {l : List (List UInt8)} (h : Own base w (.slice (some ⟨g, 0, none⟩) m c) l) (hn : n ≤ l.length) (hc : n ≤ c') : SS w (.slice (some ⟨g, 0, none⟩) n c') (l.take n) := by
  have hlt := (h.lt (k := g) rfl).2
  have e : (l.take n).length = n := by simp; omega
  refine .inr ⟨g, 0, c', by rw [e], by omega, hlt, fun i u hu => ?_⟩
  have hi : i < n := by
    have := (List.getElem?_eq_some_iff.1 hu).1
    rw [sc_length, e] at this; exact this
  have := World.ownsRow.cells h (g := g) rfl i u (by
    rw [sc_get, List.getElem?_take_of_lt hi] at hu
    rw [sc_get]; exact hu)
  rw [add_lit] at this; exact this

theorem und35 : Try.prog.underlying 35 = some (.slice 22) := by kernel_rfl
theorem info22 : (Try.prog.info? 22).map (fun i => (i.zero, i.size, i.bytes)) = some (some (.slice none 0 0), 1, 24) := by kernel_rfl
theorem src_more (w : World) (g : Value) (hg : g.oneCell' = true) : Src Try.prog 1 35 (.slice (some ⟨w.heap.size, 0, none⟩) 1 1) 1 [g] (w.alloc (.cells #[g] 22)) :=
  Src.ofSlice _ und35 ⟨w.heap.size, 0, none⟩ 1 1 [g] (by simp) (cell_one_str w g 22) (by simpa using hg)
/-- append of a list to the lists -/
theorem app_more {w : World} {base k : Nat} {m g : Value} {xs : List Value} (hg : g.oneCell' = true) (hown : w.ownsRow base 22 1 m k xs) (hk : k ≤ 4) (hbase : base ≤ w.heap.size)
    {ops : Array Oper} {rest : List Oper} {o : Oper} {a : Act} {Q : Exit → Act → World → Prop} (hgd : o.guard = none) (s y : Operand)
    (ho : o.op = .call { callee := .builtin .append, args := #[s, y], argTypes := #[35, 35] }) (hv : a.eval s = m) (hx : a.eval y = .slice (some ⟨w.heap.size, 0, none⟩) 1 1)
    (h : ∀ v' w', w'.ownsRow base 22 1 v' (k + 1) (xs ++ [g]) → w.grownBy w' m.ownBlock → (v'.ownBlock = m.ownBlock ∨ v'.ownBlock = some (w.heap.size + 1)) → wpList Try.prog ops Q rest (a.put o.dst v') w') :
    wpList Try.prog ops Q (o :: rest) a (w.alloc (.cells #[g] 22)) := by
  obtain ⟨i0, hi, hz0, hz1, hz2⟩ := info_parts info22
  refine wpList_append_src _ hgd s y 35 35 ho base 22 i0 (.slice none 0 0) 1 24 und35 hi hz0 hz1 hz2 rfl m k xs hv (World.ownsRow.alloc hown _) _ 1 [g] hx (src_more w g hg) (by simp only [maxLen]; omega) (by omega) (by simp; omega) ?_
  intro v' w' h1 h2 h3
  exact h v' w' h1 ((World.grownBy_alloc w _ _).trans h2) (by simpa using h3)
theorem rep_all (n k : Nat) : ∀ x ∈ List.replicate n (mk k), x = mk k := fun _ hx => List.eq_of_mem_replicate hx
end Go.Proofs.Ytpaohkegekhgdac
