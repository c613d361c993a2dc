/-
  Steps of a script.
-/
import Derived.Test.YtceoelclnnfhhadGreatPair
namespace Go.Proofs.YtceoelclnnfhhadGreat
open Go.RowKit

/-- a step -/
structure Stp where
  kind : Int
  f : Fl
  p : List UInt8
def stc : List Stp → List Value
  | [] => []
  | s :: r => .int .i64 s.kind :: .string (bs s.f.path) :: .string (bs s.f.text) :: .int .i64 s.f.blob :: .int .i64 s.f.size :: .string (bs s.p) :: stc r
theorem stc_length : ∀ l, (stc l).length = l.length * 6
  | [] => rfl
  | f :: r => by simp only [stc, List.length_cons, stc_length r]; omega
theorem stc_get : ∀ (l : List Stp) (k : Nat) (h : k < l.length), (stc l)[k * 6]? = some (.int .i64 l[k].kind) ∧ (stc l)[k * 6 + 1]? = some (.string (bs l[k].f.path)) ∧ (stc l)[k * 6 + 2]? = some (.string (bs l[k].f.text)) ∧ (stc l)[k * 6 + 3]? = some (.int .i64 l[k].f.blob) ∧ (stc l)[k * 6 + 4]? = some (.int .i64 l[k].f.size) ∧ (stc l)[k * 6 + 5]? = some (.string (bs l[k].p))
  | f :: r, 0, _ => ⟨rfl, rfl, rfl, rfl, rfl, rfl⟩
  | f :: r, k + 1, h => by
    have ih := stc_get r k (by simpa using h)
    rw [show (k + 1) * 6 = k * 6 + 6 by omega]
    simp only [stc, List.getElem_cons_succ]
    exact ⟨ih.1, ih.2.1, ih.2.2.1, ih.2.2.2.1, ih.2.2.2.2.1, ih.2.2.2.2.2⟩
/-- a slice of steps reads as a list -/
def TS6 (w : World) (v : Value) (l : List Stp) : Prop :=
  ((∃ a c, v = .slice a 0 c) ∧ l = []) ∨
  ∃ b off cap, v = .slice (some ⟨b, off, none⟩) l.length cap ∧ l.length ≤ cap ∧ b < w.heap.size ∧ ∀ i u, (stc l)[i]? = some u → w.cell? ⟨b, off + i, none⟩ = some u
theorem TS6.later {w w' : World} {v : Value} {l : List Stp} (h : TS6 w v l) (hb : Below w.heap.size w w') : TS6 w' v l := by
  rcases h with h | ⟨b, off, cap, rfl, hc, hlt, hcell⟩
  · exact .inl h
  · refine .inr ⟨b, off, cap, rfl, hc, Nat.lt_of_lt_of_le hlt hb.size, fun i u hu => ?_⟩
    rw [hb.cell (p := ⟨b, off + i, none⟩) hlt]; exact hcell i u hu
theorem TS6.form {w : World} {v : Value} {l : List Stp} (h : TS6 w v l) : ∃ a c, v = .slice a l.length c := by
  rcases h with ⟨⟨a, c, rfl⟩, rfl⟩ | ⟨b, off, cap, rfl, hc, hlt, hcell⟩
  · exact ⟨a, c, rfl⟩
  · exact ⟨_, cap, rfl⟩
theorem TS6.at {w : World} {a : Option Addr} {c n : Nat} {l : List Stp} (h : TS6 w (.slice a n c) l) {wr : World} (hb : Below w.heap.size w wr) {k : Nat} (hk : k < l.length) : ∃ b off, a = some ⟨b, off, none⟩ ∧ b < w.heap.size ∧
    wr.cell? ⟨b, off + k * 6, none⟩ = some (.int .i64 l[k].kind) ∧ wr.cell? ⟨b, off + k * 6 + 1, none⟩ = some (.string (bs l[k].f.path)) ∧ wr.cell? ⟨b, off + k * 6 + 2, none⟩ = some (.string (bs l[k].f.text)) ∧ wr.cell? ⟨b, off + k * 6 + 3, none⟩ = some (.int .i64 l[k].f.blob) ∧ wr.cell? ⟨b, off + k * 6 + 4, none⟩ = some (.int .i64 l[k].f.size) ∧ wr.cell? ⟨b, off + k * 6 + 5, none⟩ = some (.string (bs l[k].p)) := by
  rcases h.later hb with ⟨_, rfl⟩ | ⟨b, off, cap, e, hc, hlt, hcell⟩
  · simp at hk
  · injection e with e1 e2 e3
    rcases h with ⟨_, rfl⟩ | ⟨b', off', cap', e', hc', hlt', _⟩
    · simp at hk
    · injection e' with e1' _ _
      rw [e1] at e1'
      injection e1' with e1'
      injection e1' with e4 e5 e6
      subst e4
      obtain ⟨c0, c1, c2, c3, c4, c5⟩ := stc_get l k hk
      exact ⟨b, off, e1, hlt', hcell _ _ c0, by rw [Nat.add_assoc]; exact hcell _ _ c1, by rw [Nat.add_assoc]; exact hcell _ _ c2, by rw [Nat.add_assoc]; exact hcell _ _ c3, by rw [Nat.add_assoc]; exact hcell _ _ c4, by rw [Nat.add_assoc]; exact hcell _ _ c5⟩
/-- what a machine has -/
structure SSm (l : List Stp) : Prop where
  len : l.length ≤ 4194304
  each : ∀ s ∈ l, Fok s.f ∧ s.p.length ≤ 4194304 ∧ -9223372036854775808 ≤ s.kind ∧ s.kind ≤ 9223372036854775807

end Go.Proofs.YtceoelclnnfhhadGreat
