/-
  Steps in memory; two steps held against each other.
-/
import Derived.Test.YtfdcfcalbongeaaGreatJWg
import Derived.Test.YtfdcfcalbongeaaGreatJPl2
import Derived.Test.YtfdcfcalbongeaaGreatJSEq
namespace Go.Proofs.YtfdcfcalbongeaaGreat
open Go.RowKit

def Sp.val (s : Sp) : Value := .agg #[.int .i64 s.kind, .string (bs s.p), .string (bs s.f.path), .string (bs s.f.text), .int .i64 s.f.blob, .int .i64 s.f.size]
def Sp.cs (s : Sp) : List Value := [.int .i64 s.kind, .string (bs s.p), .string (bs s.f.path), .string (bs s.f.text), .int .i64 s.f.blob, .int .i64 s.f.size]
def pc : List Sp → List Value
  | [] => []
  | s :: r => .int .i64 s.kind :: .string (bs s.p) :: .string (bs s.f.path) :: .string (bs s.f.text) :: .int .i64 s.f.blob :: .int .i64 s.f.size :: pc r
theorem pc_length : ∀ l, (pc l).length = l.length * 6
  | [] => rfl
  | s :: r => by simp only [pc, List.length_cons, pc_length r]; omega
theorem pc_append : ∀ a b, pc (a ++ b) = pc a ++ pc b
  | [], _ => rfl
  | s :: a, b => by simp [pc, pc_append a b]
theorem pc_one : ∀ (l : List Sp), ∀ u ∈ pc l, u.oneCell' = true
  | [], u, h => by cases h
  | s :: r, u, h => by
    simp only [pc, List.mem_cons] at h
    rcases h with rfl | rfl | rfl | rfl | rfl | rfl | h
    · rfl
    · rfl
    · rfl
    · rfl
    · rfl
    · rfl
    · exact pc_one r u h
theorem pc_get : ∀ (l : List Sp) (k : Nat) (h : k < l.length), (pc l)[k * 6]? = some (.int .i64 l[k].kind) ∧ (pc l)[k * 6 + 1]? = some (.string (bs l[k].p)) ∧ (pc l)[k * 6 + 2]? = some (.string (bs l[k].f.path)) ∧ (pc l)[k * 6 + 3]? = some (.string (bs l[k].f.text)) ∧ (pc l)[k * 6 + 4]? = some (.int .i64 l[k].f.blob) ∧ (pc l)[k * 6 + 5]? = some (.int .i64 l[k].f.size)
  | [], k, h => by simp at h
  | s :: r, 0, _ => by simp [pc]
  | s :: r, k + 1, h => by
    have := pc_get r k (by simpa using h)
    simp only [List.getElem_cons_succ]
    rw [show (k + 1) * 6 = k * 6 + 6 by omega]
    simpa [pc] using this
/-- steps as they lie -/
def PS (w : World) (v : Value) (l : List Sp) : Prop :=
  ((∃ a c, v = .slice a 0 c) ∧ l = []) ∨
  ∃ b off cap, v = .slice (some ⟨b, off, none⟩) l.length cap ∧ l.length ≤ cap ∧ b < w.heap.size ∧ ∀ i u, (pc l)[i]? = some u → w.cell? ⟨b, off + i, none⟩ = some u
/-- steps of the call's own, from some place of their block on -/
def OwS (base : Nat) (w : World) (v : Value) (l : List Sp) : Prop := OwR 42 6 base w v l.length (pc l)
section
variable {base : Nat} {w w' : World} {v : Value} {l : List Sp}
theorem PS.later (h : PS w v l) (hb : Below w.heap.size w w') : PS w' v l := by
  rcases h with h | ⟨b, off, cap, rfl, hc, hlt, hcell⟩
  · exact .inl h
  · refine .inr ⟨b, off, cap, rfl, hc, Nat.lt_of_lt_of_le hlt hb.size, fun i u hu => ?_⟩
    rw [hb.cell (p := ⟨b, off + i, none⟩) hlt]; exact hcell i u hu
theorem PS.form (h : PS w v l) : ∃ a c, v = .slice a l.length c := by
  rcases h with ⟨⟨a, c, rfl⟩, rfl⟩ | ⟨b, off, cap, rfl, _⟩
  · exact ⟨a, c, rfl⟩
  · exact ⟨_, _, rfl⟩
theorem PS.at {a : Option Addr} {c : Nat} (h : PS w (.slice a l.length c) l) {wr : World} (hb : Below w.heap.size w wr) {k : Nat} (hk : k < l.length) : ∃ b off, a = some ⟨b, off, none⟩ ∧ b < w.heap.size ∧
    wr.cell? ⟨b, off + k * 6, none⟩ = some (.int .i64 l[k].kind) ∧ wr.cell? ⟨b, off + k * 6 + 1, none⟩ = some (.string (bs l[k].p)) ∧ wr.cell? ⟨b, off + k * 6 + 2, none⟩ = some (.string (bs l[k].f.path)) ∧ wr.cell? ⟨b, off + k * 6 + 3, none⟩ = some (.string (bs l[k].f.text)) ∧ wr.cell? ⟨b, off + k * 6 + 4, none⟩ = some (.int .i64 l[k].f.blob) ∧ wr.cell? ⟨b, off + k * 6 + 5, none⟩ = some (.int .i64 l[k].f.size) := by
  rcases h with ⟨_, rfl⟩ | ⟨b, off, cap, e, hc, hlt, hcell⟩
  · simp at hk
  · injection e with e1 e2 e3
    obtain ⟨c0, c1, c2, c3, c4, c5⟩ := pc_get l k hk
    have g : ∀ i u, (pc l)[i]? = some u → wr.cell? ⟨b, off + i, none⟩ = some u := fun i u hu => (hb.cell (p := ⟨b, off + i, none⟩) hlt).trans (hcell i u hu)
    exact ⟨b, off, e1, hlt, g _ _ c0, by rw [Nat.add_assoc]; exact g _ _ c1, by rw [Nat.add_assoc]; exact g _ _ c2, by rw [Nat.add_assoc]; exact g _ _ c3, by rw [Nat.add_assoc]; exact g _ _ c4, by rw [Nat.add_assoc]; exact g _ _ c5⟩
theorem OwS.ps (h : OwS base w v l) : PS w v l := by
  rcases h.2 with ⟨rfl, h0⟩ | ⟨g, off, cap, cur, rfl, h2, h3, h4, h5, h6, h7⟩
  · exact .inl ⟨⟨_, _, rfl⟩, List.eq_nil_of_length_eq_zero h0⟩
  · exact .inr ⟨g, off, cap, rfl, h4, (Array.getElem?_eq_some_iff.1 h3).1, fun i u hu => by rw [cell_blkR h3]; exact h7 i u hu⟩
theorem OwS.nil (base : Nat) (w : World) : OwS base w (.slice none 0 0) [] := OwR.nil 42 6 base w
theorem OwS.later (h : OwS base w v l) (hb : Below w.heap.size w w') : OwS base w' v l := OwR.later h hb
theorem OwS.mono {base' : Nat} (h : OwS base w v l) (hb : base' ≤ base) : OwS base' w v l := OwR.mono h hb
theorem OwS.lt (h : OwS base w v l) {j : Nat} (hj : v.ownBlock = some j) : base ≤ j ∧ j < w.heap.size := OwR.lt h hj
theorem OwS.len (h : OwS base w v l) : ∃ a c, v = .slice a l.length c := OwR.len h
end
theorem Own.stay {base : Nat} {w w' : World} {v : Value} {l : List (List UInt8)} (h : Own base w v l) (hs : ∀ k, v.ownBlock = some k → w'.heap[k]? = w.heap[k]?) : Own base w' v l := by
  refine ⟨h.1, ?_⟩
  rcases h.2 with h | ⟨g, cap, cur, rfl, hbg, hg, h3⟩
  · exact .inl h
  · exact .inr ⟨g, cap, cur, rfl, hbg, (hs g rfl).trans hg, h3⟩
/-- a list of texts stays when steps grow -/
theorem Own.past {base B : Nat} {w w' : World} {v x : Value} {l : List Sp} {A : List (List UInt8)} (h : Own B w x A) (ho : OwS base w v l) (hst : ∀ j, j < w.heap.size → v.ownBlock ≠ some j → w'.heap[j]? = w.heap[j]?) : Own B w' x A :=
  h.stay fun k hk => hst k (h.lt hk).2 (fun e => (OwR.own h).ne ho (by decide) k hk e)
theorem und23 : Tryz.prog.underlying 23 = some (.slice 42) := by kernel_rfl
theorem info42 : (Tryz.prog.info? 42).map (fun i => (i.zero, i.size, i.bytes)) = some (some (.agg #[.int .i64 0, .string ⟨#[]⟩, .string ⟨#[]⟩, .string ⟨#[]⟩, .int .i64 0, .int .i64 0]), 6, 72) := by kernel_rfl
/-- one step more -/
theorem app_step {w : World} {base : Nat} {v : Value} {l : List Sp} (s : Sp) (hown : OwS base w v l) (hb : l.length + 1 ≤ 1000000000) (hbase : base ≤ w.heap.size)
    {ops : Array Oper} {rest : List Oper} {o : Oper} {a : Act} {Q : Exit → Act → World → Prop} (hgd : o.guard = none) (d y : Operand)
    (ho : o.op = .call { callee := .builtin .append, args := #[d, y], argTypes := #[23, 23] }) (hv : a.eval d = v) (hx : a.eval y = .slice (some ⟨w.heap.size, 0, none⟩) 1 1)
    (h : ∀ v' w', OwS base w' v' (l ++ [s]) → Below base w w' → (∀ j, j < w.heap.size → v.ownBlock ≠ some j → w'.heap[j]? = w.heap[j]?) → wpList Tryz.prog ops Q rest (a.put o.dst v') w') :
    wpList Tryz.prog ops Q (o :: rest) a (w.alloc (.cells #[.int .i64 s.kind, .string (bs s.p), .string (bs s.f.path), .string (bs s.f.text), .int .i64 s.f.blob, .int .i64 s.f.size] 42)) := by
  obtain ⟨w1, hw1⟩ : ∃ w1, w.alloc (.cells #[.int .i64 s.kind, .string (bs s.p), .string (bs s.f.path), .string (bs s.f.text), .int .i64 s.f.blob, .int .i64 s.f.size] 42) = w1 := ⟨_, rfl⟩
  obtain ⟨i0, hi, hz0, hz1, hz2⟩ := info_parts info42
  have hblk : w1.heap[w.heap.size]? = some (.cells #[.int .i64 s.kind, .string (bs s.p), .string (bs s.f.path), .string (bs s.f.text), .int .i64 s.f.blob, .int .i64 s.f.size] 42 (0, 0)) := by rw [← hw1]; exact heap_alloc_new _ _
  have hsrc : Src Tryz.prog i0.size 23 (.slice (some ⟨w.heap.size, 0, none⟩) 1 1) 1 (pc [s]) w1 := by
    rw [hz1]
    refine Src.ofSlice _ und23 ⟨w.heap.size, 0, none⟩ 1 1 (pc [s]) (by simp [pc]) (fun j u hu => ?_) (pc_one _)
    rw [add_lit, Nat.zero_add, cell_blkR hblk]
    simpa [pc] using hu
  have hb1 : Below w.heap.size w w1 := by rw [← hw1]; exact balloc _ _
  have hz : w1.heap.size = w.heap.size + 1 := by rw [← hw1]; simp
  have ho1 : OwR 42 i0.size base w1 v l.length (pc l) := by rw [hz1]; exact OwR.later hown hb1
  obtain ⟨v', w', hr, h1, h2⟩ := run_app_R (P := Tryz.prog) w1 base 23 o.type 42 i0 _ und23 hi hz0 (by rw [hz1]; rfl) v l.length (pc l) ho1 (.slice (some ⟨w.heap.size, 0, none⟩) 1 1) (pc [s]) hsrc (by unfold maxLen; omega) (by rw [hz2]; omega) (by omega)
  rw [hz1] at h1
  have hown' : OwS base w' v' (l ++ [s]) := by
    unfold OwS
    rw [pc_append, List.length_append]
    exact h1
  have hB : Below base w w' := by
    refine below_trans (below_mono hb1 hbase) ?_
    rcases h2 with ⟨g, off, cap, e, _, hg⟩ | ⟨b, _, _, hbb⟩
    · exact (Below.refl _ _).grown hg (by omega) (fun j hj => by
        cases hj
        exact (hown.lt (j := g) (by rw [e]; rfl)).1)
    · exact below_mono hbb (by omega)
  have hst : ∀ j, j < w.heap.size → v.ownBlock ≠ some j → w'.heap[j]? = w.heap[j]? := fun j hj hne => by
    rw [← hb1.block j hj]
    rcases h2 with ⟨g, off, cap, e, _, hg⟩ | ⟨b, _, _, hbb⟩
    · exact hg.block j (by omega) (fun e2 => hne (by rw [e]; cases e2; rfl))
    · exact hbb.block j (by omega)
  rw [hw1]
  refine wpList_plain hgd fun K hK => ?_
  unfold Oper.wp execOp
  simp only [ho, resolve, invoke, builtin, Sem.run_bind, Sem.run_pure, Result.andThen_ok, List.map_toArray, List.map_cons, List.map_nil, hv, hx, hr]
  exact hK _ _ (h v' w' hown' hB hst)
end Go.Proofs.YtfdcfcalbongeaaGreat
