/-
  What is right in a directory, as a list.
-/
import Derived.Test.YtceoelclnnfhhadAsk
import Derived.Test.YtceoelclnnfhhadSort
namespace Go.Proofs.Ytceoelclnnfhhad
open Go.RowKit Go.Maps

/-- what of the map is still to come -/
def RG (w : World) (N b r : Nat) (F : List UInt8 → Option Nat) (left : List UInt8 → Bool) (cnt : Nat) : Prop :=
  ∃ n D lf, w.ranges Try.prog 9 ptrR b r n D lf cnt ∧ n ≤ N ∧ (∀ k : List UInt8, lf (.string k) = left k) ∧ ∀ k : List UInt8, Maps.has D (.string k) = (F k).isSome ∧ ∀ a, F k = some a → ∀ zd, D.atKey (.string k) zd = .lit (.int .i64 a)
theorem RG.below {w w' : World} {N b r cnt B : Nat} {F : List UInt8 → Option Nat} {left : List UInt8 → Bool} (h : RG w N b r F left cnt) (hb : Below B w w') (h1 : b < B) (h2 : r < B) : RG w' N b r F left cnt := by
  obtain ⟨n, D, lf, ⟨es, clock, since, seen, c0, k1, k2, k3, k4, k5, k6⟩, h3⟩ := h
  exact ⟨n, D, lf, ⟨es, clock, since, seen, c0, (hb.block b h1).trans k1, k2, k3, k4, (hb.block r h2).trans k5, k6⟩, h3⟩
theorem RG.lt {w : World} {N b r cnt : Nat} {F : List UInt8 → Option Nat} {left : List UInt8 → Bool} (h : RG w N b r F left cnt) : r < w.heap.size := by
  obtain ⟨n, D, lf, h1, _⟩ := h; exact h1.lt
theorem RG.left_eq {w : World} {N b r cnt : Nat} {F : List UInt8 → Option Nat} {left : List UInt8 → Bool} (h : RG w N b r F left cnt) : w.rangeLeft b r = cnt := by
  obtain ⟨n, D, lf, h1, _⟩ := h; exact h1.left_eq
theorem keyInv {v : Value} {l : Lit} (h : keyOf Try.prog 9 v = some l) : ∃ s, v = .string (bs s) ∧ l = .string s := by
  cases v <;> simp [keyOf, mapKey] at h
  rename_i s
  exact ⟨s.data.toList, by rw [bs_of], h.2.symm⟩
theorem ptrShape {v : Value} {y : DataW Unit × List MemPlace} (h : ptrR v = some y) : ∃ a : Option Nat, v = pv a := by
  unfold ptrR at h
  split at h
  · rename_i x
    split at h
    · rename_i e
      obtain ⟨b, o, s⟩ := x
      simp only at e
      obtain ⟨rfl, rfl⟩ := e
      exact ⟨some b, rfl⟩
    · cases h
  · exact ⟨none, rfl⟩
  · cases h

section
variable {w : World} {ops : Array Oper} {rest : List Oper} {o : Oper} {a : Act} {Q : Exit → Act → World → Prop}
/-- range over the map -/
theorem wp_range {N b : Nat} {F : List UInt8 → Option Nat} (h : MP w N b F) (hg : o.guard = none) (m : Operand) (hop : o.op = Op.range 53 m) (hm : a.eval m = .map (some b))
    (hK : ∀ w' cnt, RG w' N b w.heap.size F (fun k => (F k).isSome) cnt → Below w.heap.size w w' → w'.heap.size = w.heap.size + 1 → wpList Try.prog ops Q rest (a.put o.dst (.pointer (some ⟨w.heap.size, 0, none⟩))) w') :
    wpList Try.prog ops Q (o :: rest) a w := by
  obtain ⟨n, D, h1, h2, h3, h4⟩ := h
  refine wpList_range_own w hg m 53 hop 9 45 lawM undM ptrR b n D hm h1 ?_
  intro w' r1 r2 r3
  refine hK w' _ ⟨n, D, _, r1, h2, fun k => (h4 k).1, h4⟩ ⟨r2.os, r2.tape, r2.output, r2.size, fun i hi => r2.block i hi (by simp)⟩ r3
set_option maxRecDepth 100000 in
/-- the next one -/
theorem wp_next {N b r cnt : Nat} {F : List UInt8 → Option Nat} {left : List UInt8 → Bool} (h : RG w N b r F left cnt) (hg : o.guard = none) (it : Operand) (hop : o.op = Op.next it false) (hit : a.eval it = .pointer (some ⟨r, 0, none⟩))
    (hDone : (∀ k, left k = false) → wpList Try.prog ops Q rest (a.put o.dst (.tuple #[.bool false])) w)
    (hMore : ∀ (k : List UInt8) (x : Nat) (w' : World) (cnt' : Nat), left k = true → F k = some x → RG w' N b r F (fun z => left z && !(z == k)) cnt' → cnt' < cnt → w.grownBy w' (some r) → w'.heap.size = w.heap.size →
      (Instr.entry (.pointer (some ⟨r, 0, none⟩))).run Try.prog w' = .ok (.tuple #[.string (bs k), .pointer (some ⟨x, 0, none⟩)]) w' → wpList Try.prog ops Q rest (a.put o.dst (.tuple #[.bool true, .string (bs k), .pointer (some ⟨x, 0, none⟩)])) w') :
    wpList Try.prog ops Q (o :: rest) a w := by
  obtain ⟨n, D, lf, h1, h2, h3, h4⟩ := h
  refine wpList_next_ranges w hg it hop 9 lawM ptrR (fun s : List UInt8 => .string (bs s)) pv (fun key kl hk => by obtain ⟨s, e, _⟩ := keyInv hk; exact ⟨s, e⟩) (fun v y hy => ptrShape hy) b r n D lf cnt hit h1 ?_ ?_
  · intro _ hl
    exact hDone (fun k => by rw [← h3 k]; exact hl _)
  · intro k x kl y w' cnt' hkey hl hR hat hrg hlt hgr hsz hen
    obtain ⟨s, e1, e2⟩ := keyInv hkey
    have e1 : k = s := by
      injection e1 with e1
      exact bs_inj.1 e1
    subst e1
    subst e2
    have hh : Maps.has D (.string k) = true := Maps.has_true_of_atKey hat
    rw [(h4 k).1] at hh
    obtain ⟨z, hz⟩ := Option.isSome_iff_exists.1 hh
    have hx : x = some z := by
      have h5 := (h4 k).2 z hz .nil
      rw [hat] at h5
      have h6 : ptrR (pv x) = some (.lit (.int .i64 z), y.2) := by rw [hR, ← h5]
      have h7 := ptrR_inv h6
      cases x with
      | none => cases h7
      | some x =>
        unfold pv at h7
        injection h7 with h7
        injection h7 with h7
        injection h7 with h7
        rw [h7]
    subst hx
    refine hMore k z w' cnt' (by rw [← h3 k]; exact hl) hz ⟨n, D, _, hrg, h2, fun q => ?_, h4⟩ hlt hgr hsz hen
    show (lf (.string q) && !(Lit.string q).sameKey (.string k)) = (left q && !(q == k))
    rw [h3 q]
    by_cases e : q = k
    · rw [e, WideAt.sameKey_self (isKeyLit k)]; simp
    · rw [Maps.sameKey_ne (fun h => e (Lit.string.inj h))]; simp [e]
end
end Go.Proofs.Ytceoelclnnfhhad
