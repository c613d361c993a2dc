/-
  Tokens in memory: one by one, and as rows.
-/
import Derived.Test.YtclpbhoopmdojaaWords
namespace Go.Proofs.Ytclpbhoopmdojaa
open Go.RowKit

def Tk.val (t : Tk) : Value := .agg #[.int .i64 t.kind, .string (bs t.text), .int .i64 t.at']
def tc : List Tk → List Value
  | [] => []
  | t :: r => .int .i64 t.kind :: .string (bs t.text) :: .int .i64 t.at' :: tc r
theorem tc_length : ∀ l, (tc l).length = l.length * 3
  | [] => rfl
  | f :: r => by simp only [tc, List.length_cons, tc_length r]; omega
theorem tc_append : ∀ a b, tc (a ++ b) = tc a ++ tc b
  | [], b => rfl
  | f :: r, b => by simp [tc, tc_append r b]
theorem tc_one : ∀ (l : List Tk), ∀ u ∈ tc l, u.oneCell' = true
  | [], u, h => by simp [tc] at h
  | f :: r, u, h => by
    simp only [tc, List.mem_cons] at h
    rcases h with rfl | rfl | rfl | h
    · rfl
    · rfl
    · rfl
    · exact tc_one r u h
theorem tc_get : ∀ (l : List Tk) (k : Nat) (h : k < l.length), (tc l)[k * 3]? = some (.int .i64 l[k].kind) ∧ (tc l)[k * 3 + 1]? = some (.string (bs l[k].text)) ∧ (tc l)[k * 3 + 2]? = some (.int .i64 l[k].at')
  | f :: r, 0, _ => ⟨rfl, rfl, rfl⟩
  | f :: r, k + 1, h => by
    have ih := tc_get r k (by simpa using h)
    rw [show (k + 1) * 3 = k * 3 + 3 by omega]
    simp only [tc, List.getElem_cons_succ]
    exact ⟨ih.1, ih.2.1, ih.2.2⟩

/-- a slice of tokens reads as a list -/
def TS (w : World) (v : Value) (l : List Tk) : Prop :=
  ((∃ a c, v = .slice a 0 c) ∧ l = []) ∨
  ∃ b off cap, v = .slice (some ⟨b, off, none⟩) l.length cap ∧ l.length ≤ cap ∧ b < w.heap.size ∧ ∀ i u, (tc l)[i]? = some u → w.cell? ⟨b, off + i, none⟩ = some u
theorem TS.later {w w' : World} {v : Value} {l : List Tk} (h : TS w v l) (hb : Below w.heap.size w w') : TS w' v l := by
  rcases h with h | ⟨b, off, cap, rfl, hc, hlt, hcell⟩
  · exact .inl h
  · refine .inr ⟨b, off, cap, rfl, hc, Nat.lt_of_lt_of_le hlt hb.size, fun i u hu => ?_⟩
    rw [hb.cell (p := ⟨b, off + i, none⟩) hlt]; exact hcell i u hu
theorem TS.below {w w' : World} {v : Value} {l : List Tk} {B : Nat} (h : TS w v l) (hb : Below B w w') (hv : ∀ k, v.ownBlock = some k → k < B) : TS w' v l := by
  rcases h with h | ⟨b, off, cap, rfl, hc, hlt, hcell⟩
  · exact .inl h
  · refine .inr ⟨b, off, cap, rfl, hc, Nat.lt_of_lt_of_le hlt hb.size, fun i u hu => ?_⟩
    rw [hb.cell (p := ⟨b, off + i, none⟩) (hv b rfl)]; exact hcell i u hu
theorem TS_nil (w : World) : TS w (.slice none 0 0) [] := .inl ⟨⟨_, _, rfl⟩, rfl⟩
theorem TS.form {w : World} {v : Value} {l : List Tk} (h : TS w v l) : ∃ a c, v = .slice a l.length c ∧ (∀ k, (hk : k < l.length) → ∃ b off, a = some ⟨b, off, none⟩ ∧ b < w.heap.size ∧
    w.cell? ⟨b, off + k * 3, none⟩ = some (.int .i64 l[k].kind) ∧ w.cell? ⟨b, off + k * 3 + 1, none⟩ = some (.string (bs l[k].text)) ∧ w.cell? ⟨b, off + k * 3 + 2, none⟩ = some (.int .i64 l[k].at')) := by
  rcases h with ⟨⟨a, c, rfl⟩, rfl⟩ | ⟨b, off, cap, rfl, hc, hlt, hcell⟩
  · exact ⟨a, c, rfl, fun k hk => by simp at hk⟩
  · refine ⟨_, cap, rfl, fun k hk => ⟨b, off, rfl, hlt, ?_⟩⟩
    obtain ⟨c0, c1, c2⟩ := tc_get l k hk
    exact ⟨hcell _ _ c0, by rw [Nat.add_assoc]; exact hcell _ _ c1, by rw [Nat.add_assoc]; exact hcell _ _ c2⟩
/-- at one place, in a later world -/
theorem TS.at {w : World} {a : Option Addr} {c n : Nat} {l : List Tk} (h : TS w (.slice a n c) l) {wr : World} (hb : Below w.heap.size w wr) {k : Nat} (hk : k < l.length) : ∃ b off, a = some ⟨b, off, none⟩ ∧ b < w.heap.size ∧
    wr.cell? ⟨b, off + k * 3, none⟩ = some (.int .i64 l[k].kind) ∧ wr.cell? ⟨b, off + k * 3 + 1, none⟩ = some (.string (bs l[k].text)) ∧ wr.cell? ⟨b, off + k * 3 + 2, none⟩ = some (.int .i64 l[k].at') := by
  rcases h with ⟨⟨a', c', e⟩, rfl⟩ | ⟨b, off, cap, e, hc, hlt, hcell⟩
  · simp at hk
  · injection e with e1 e2 e3
    subst e1
    obtain ⟨c0, c1, c2⟩ := tc_get l k hk
    refine ⟨b, off, rfl, hlt, ?_, ?_, ?_⟩
    · rw [hb.cell (p := ⟨b, off + k * 3, none⟩) hlt]; exact hcell _ _ c0
    · rw [hb.cell (p := ⟨b, off + k * 3 + 1, none⟩) hlt, Nat.add_assoc]; exact hcell _ _ c1
    · rw [hb.cell (p := ⟨b, off + k * 3 + 2, none⟩) hlt, Nat.add_assoc]; exact hcell _ _ c2
theorem und22 : Try.prog.underlying 22 = some (.slice 26) := by kernel_rfl
theorem und33 : Try.prog.underlying 33 = some (.slice 43) := by kernel_rfl
theorem und37 : Try.prog.underlying 37 = some (.slice 22) := by kernel_rfl
theorem info26 : (Try.prog.info? 26).map (fun i => (i.zero, i.size, i.bytes)) = some (some (.agg #[.int .i64 0, .string ⟨#[]⟩, .int .i64 0]), 3, 32) := by kernel_rfl
theorem info43 : (Try.prog.info? 43).map (fun i => (i.zero, i.size, i.bytes)) = some (some (.agg #[.int .i64 0, .string ⟨#[]⟩, .int .i64 0]), 3, 32) := by kernel_rfl

/-- a row of tokens of the call's own (e: the program's token, or the document's) -/
def OwnT (e : TypeId) (base : Nat) (w : World) (v : Value) (l : List Tk) : Prop := w.ownsRow base e 3 v l.length (tc l)
theorem OwnT.nil (e : TypeId) (base : Nat) (w : World) : OwnT e base w (.slice none 0 0) [] := World.ownsRow_nil w base e 3
theorem OwnT.mono {e : TypeId} {base base' : Nat} {w : World} {v : Value} {l : List Tk} (h : OwnT e base w v l) (hb : base' ≤ base) : OwnT e base' w v l := World.ownsRow.mono h hb
theorem OwnT.ts {e : TypeId} {base : Nat} {w : World} {v : Value} {l : List Tk} (h : OwnT e base w v l) : TS w v l := by
  rcases h.2 with ⟨rfl, h0⟩ | ⟨g, cap, cur, rfl, hb, hg, hn, _⟩
  · exact .inl ⟨⟨_, _, rfl⟩, List.eq_nil_of_length_eq_zero h0⟩
  · refine .inr ⟨g, 0, cap, rfl, hn, (Array.getElem?_eq_some_iff.1 hg).1, fun i u hu => ?_⟩
    have := World.ownsRow.cells h (g := g) rfl i u hu
    rw [add_lit] at this; exact this
theorem OwnT.lt {e : TypeId} {base : Nat} {w : World} {v : Value} {l : List Tk} (h : OwnT e base w v l) {k : Nat} (hk : v.ownBlock = some k) : base ≤ k ∧ k < w.heap.size := World.ownsRow.lt h k hk
theorem OwnT.only {S : List Nat} {e : TypeId} {base : Nat} {w w' : World} {v : Value} {l : List Tk} (h : OwnT e base w v l) (ho : Only S w w') (hn : ∀ k, v.ownBlock = some k → k ∉ S) : OwnT e base w' v l := by
  rcases h with ⟨h0, h | ⟨g, cap, cur, rfl, hb, hg, hr⟩⟩
  · exact ⟨h0, .inl h⟩
  · exact ⟨h0, .inr ⟨g, cap, cur, rfl, hb, (ho.block g (Array.getElem?_eq_some_iff.1 hg).1 (hn g rfl)).trans hg, hr⟩⟩
theorem OwnT.later {e : TypeId} {base : Nat} {w w' : World} {v : Value} {l : List Tk} (h : OwnT e base w v l) (hb : Below w.heap.size w w') : OwnT e base w' v l :=
  h.only (Only.of_below hb []) (by simp)
theorem OwnT.form {e : TypeId} {base : Nat} {w : World} {v : Value} {l : List Tk} (h : OwnT e base w v l) : ∃ a c, v = .slice a l.length c := by
  obtain ⟨a, c, e, _⟩ := h.ts.form; exact ⟨a, c, e⟩
/-- append of tokens onto tokens of the call's own -/
theorem app_toks {t e : TypeId} (hu : Try.prog.underlying t = some (.slice e)) (hinf : (Try.prog.info? e).map (fun i => (i.zero, i.size, i.bytes)) = some (some (.agg #[.int .i64 0, .string ⟨#[]⟩, .int .i64 0]), 3, 32)) {w : World} {base : Nat} {v x : Value} {l k : List Tk} (hown : OwnT e base w v l) (hs : Src Try.prog 3 t x k.length (tc k) w) (hb : l.length + k.length ≤ 1000000000) (hbase : base ≤ w.heap.size)
    {ops : Array Oper} {rest : List Oper} {o : Oper} {a : Act} {Q : Exit → Act → World → Prop} (hgd : o.guard = none) (s y : Operand)
    (ho : o.op = .call { callee := .builtin .append, args := #[s, y], argTypes := #[t, t] }) (hv : a.eval s = v) (hx : a.eval y = x)
    (h : ∀ v' w', OwnT e base w' v' (l ++ k) → w.grownBy w' v.ownBlock → (v'.ownBlock = v.ownBlock ∨ v'.ownBlock = some w.heap.size) → wpList Try.prog ops Q rest (a.put o.dst v') w') :
    wpList Try.prog ops Q (o :: rest) a w := by
  obtain ⟨i0, hi, hz0, hz1, hz2⟩ := info_parts hinf
  refine wpList_append_src w hgd s y t t ho base e i0 _ 3 32 hu hi hz0 hz1 hz2 rfl v l.length (tc l) hv hown x k.length (tc k) hx hs (by simp only [maxLen]; omega) (by omega) hbase ?_
  intro v' w' h1 h2 h3
  exact h v' w' (by unfold OwnT; rw [tc_append, List.length_append]; exact h1) h2 h3
theorem src_tok {t e : TypeId} (hu : Try.prog.underlying t = some (.slice e)) (w : World) (a b : Int) (X : ByteArray) : Src Try.prog 3 t (.slice (some ⟨w.heap.size, 0, none⟩) 1 1) [(⟨a, X.data.toList, b⟩ : Tk)].length (tc [⟨a, X.data.toList, b⟩]) (w.alloc (.cells #[.int .i64 a, .string X, .int .i64 b] e)) := by
  refine Src.ofSlice _ hu ⟨w.heap.size, 0, none⟩ 1 1 (tc [⟨a, X.data.toList, b⟩]) (by simp [tc_length]) ?_ (tc_one _)
  exact World.news_of_block (heap_alloc_new w _)
/-- append of one token, its own block made ahead of it -/
theorem app_tok {t e : TypeId} (hu : Try.prog.underlying t = some (.slice e)) (hinf : (Try.prog.info? e).map (fun i => (i.zero, i.size, i.bytes)) = some (some (.agg #[.int .i64 0, .string ⟨#[]⟩, .int .i64 0]), 3, 32)) {w : World} {base : Nat} {v : Value} {l : List Tk} (p q : Int) (X : ByteArray) (hown : OwnT e base w v l) (hb : l.length + 1 ≤ 1000000000) (hbase : base ≤ w.heap.size)
    {ops : Array Oper} {rest : List Oper} {o : Oper} {a : Act} {Q : Exit → Act → World → Prop} (hgd : o.guard = none) (s y : Operand)
    (ho : o.op = .call { callee := .builtin .append, args := #[s, y], argTypes := #[t, t] }) (hv : a.eval s = v) (hx : a.eval y = .slice (some ⟨w.heap.size, 0, none⟩) 1 1)
    (h : ∀ v' w', OwnT e base w' v' (l ++ [⟨p, X.data.toList, q⟩]) → Below base w w' → base ≤ w'.heap.size → wpList Try.prog ops Q rest (a.put o.dst v') w') :
    wpList Try.prog ops Q (o :: rest) a (w.alloc (.cells #[.int .i64 p, .string X, .int .i64 q] e)) := by
  refine app_toks hu hinf (base := base) (l := l) (k := [⟨p, X.data.toList, q⟩]) (World.ownsRow.alloc hown _) (src_tok hu w p q X) (by simpa using hb) (by simp; omega) hgd s y ho hv hx ?_
  intro v' w' h1 h2 h3
  have hlt := World.ownsRow.lt hown
  have hB : Below base w w' := ((Below.refl _ _).alloc hbase _).grown h2 (by simp; omega) (fun k hk => (hlt k hk).1)
  exact h v' w' h1 hB (Nat.le_trans hbase hB.size)
end Go.Proofs.Ytclpbhoopmdojaa
