import Derived.Test.YtfdcfcalbongeaaPath
import Derived.Test.YtfdcfcalbongeaaBase
import Derived.Test.YtfdcfcalbongeaaSets
namespace Go.Proofs.Ytfdcfcalbongeaa
open Go.RowKit

theorem Own.only {S : List Nat} {base : Nat} {w w' : World} {v : Value} {l : List (List UInt8)} (h : Own base w v l) (ho : Only S w w') (hn : ∀ k, v.ownBlock = some k → k ∉ S) : Own base w' v l := by
  refine ⟨h.1, ?_⟩
  rcases h.2 with ⟨rfl, h0⟩ | ⟨g, cap, cur, rfl, hb, hg, hr⟩
  · exact .inl ⟨rfl, h0⟩
  · exact .inr ⟨g, cap, cur, rfl, hb, by rw [ho.block g (Array.getElem?_eq_some_iff.1 hg).1 (hn g rfl)]; exact hg, hr⟩
theorem Own.later {base : Nat} {w w' : World} {v : Value} {l : List (List UInt8)} (h : Own base w v l) (hb : Below w.heap.size w w') : Own base w' v l :=
  h.only (Only.of_below hb []) (by simp)
theorem Own.lt {base : Nat} {w : World} {v : Value} {l : List (List UInt8)} (h : Own base w v l) {k : Nat} (hk : v.ownBlock = some k) : base ≤ k ∧ k < w.heap.size := World.ownsRow.lt h k hk

theorem cell_one_str (w : World) (u : Value) (k : TypeId) : ∀ j x, [u][j]? = some x → (w.alloc (.cells #[u] k)).cell? ((⟨w.heap.size, 0, none⟩ : Addr).add j) = some x := by
  intro j x hx
  cases j with
  | zero => simp at hx; subst hx; rw [add_lit]; simp
  | succ j => simp at hx
theorem src_one (w : World) (p : List UInt8) : Src Try.prog 1 27 (.slice (some ⟨w.heap.size, 0, none⟩) 1 1) [p].length (sc [p]) (w.alloc (.cells #[.string (bs p)] 9)) :=
  Src.ofSlice _ und47 ⟨w.heap.size, 0, none⟩ 1 1 (sc [p]) (by simp [sc]) (cell_one_str w _ 9) (sc_one _)

/-- append of one text onto texts of the call's own -/
theorem app_one {w : World} {base : Nat} {v : Value} {l : List (List UInt8)} (p : List UInt8) (hown : Own base w v l) (hb : l.length + 1 ≤ 8796093022208) (hbase : base ≤ w.heap.size)
    {ops : Array Oper} {rest : List Oper} {o : Oper} {a : Act} {Q : Exit → Act → World → Prop} (hgd : o.guard = none) (s y : Operand)
    (ho : o.op = .call { callee := .builtin .append, args := #[s, y], argTypes := #[27, 27] }) (hv : a.eval s = v) (hx : a.eval y = .slice (some ⟨w.heap.size, 0, none⟩) 1 1)
    (h : ∀ v' w', Own base w' v' (l ++ [p]) → Below base w w' → base ≤ w'.heap.size → w.grownBy w' v.ownBlock → (v'.ownBlock = v.ownBlock ∨ v'.ownBlock = some (w.heap.size + 1)) → wpList Try.prog ops Q rest (a.put o.dst v') w') :
    wpList Try.prog ops Q (o :: rest) a (w.alloc (.cells #[.string (bs p)] 9)) := by
  refine app_strs (base := base) (l := l) (k := [p]) (World.ownsRow.alloc hown _) (src_one w p) (by simpa using hb) (by simp; omega) hgd s y ho hv hx ?_
  intro v' w' h1 h2 h3
  have hlt := World.ownsRow.lt hown
  have hB : Below base w w' := ((Below.refl _ _).alloc hbase _).grown h2 (by simp; omega) (fun k hk => (hlt k hk).1)
  refine h v' w' h1 hB (Nat.le_trans hbase hB.size) ((World.grownBy_alloc w _ _).trans h2) (by simpa using h3)

theorem SS.form {w : World} {v : Value} {L : List (List UInt8)} (h : SS w v L) : ∃ a c, v = .slice a L.length c ∧ (∀ k, (hk : k < L.length) → ∃ b off, a = some ⟨b, off, none⟩ ∧ b < w.heap.size ∧ w.cell? ⟨b, off + k, none⟩ = some (.string (bs L[k]))) := by
  rcases h with ⟨⟨a, c, rfl⟩, rfl⟩ | ⟨b, off, cap, rfl, hc, hlt, hcell⟩
  · exact ⟨a, c, rfl, fun k hk => by simp at hk⟩
  · exact ⟨_, _, rfl, fun k hk => ⟨b, off, rfl, hlt, hcell k _ (by simp [sc_get, hk])⟩⟩

theorem drop_same {α : Type} [DecidableEq α] {A B : List α} {k : Nat} (ha : k < A.length) (hb : k < B.length) : decide (A.drop k = B.drop k) = (decide (A[k] = B[k]) && decide (A.drop (k + 1) = B.drop (k + 1))) := by
  have e1 := List.drop_eq_getElem_cons ha
  have e2 := List.drop_eq_getElem_cons hb
  rw [Bool.eq_iff_iff]
  simp only [Bool.and_eq_true, decide_eq_true_eq]
  rw [e1, e2, List.cons.injEq]

/-- a list of texts that a machine has -/
structure Sm (l : List (List UInt8)) : Prop where
  len : l.length ≤ 4000000
  each : ∀ x ∈ l, x.length ≤ 1000000000
theorem Sm.norm {l : List (List UInt8)} (h : Sm l) : Sm (norm l) := ⟨Nat.le_trans (norm_len l) h.len, fun x hx => h.each x ((mem_norm x l).1 hx)⟩
theorem Sm.at {l : List (List UInt8)} (h : Sm l) {k : Nat} (hk : k < l.length) : (l[k]'hk).length ≤ 1000000000 := h.each _ (List.getElem_mem _)
theorem bstep {a b c : World} (h : Below a.heap.size a b) (k : Below b.heap.size b c) : Below a.heap.size a c := below_trans h (below_mono k h.size)
theorem Laid.below' {w w' : World} (h : Laid w w') : Below w.heap.size w w' := h.below

end Go.Proofs.Ytfdcfcalbongeaa
