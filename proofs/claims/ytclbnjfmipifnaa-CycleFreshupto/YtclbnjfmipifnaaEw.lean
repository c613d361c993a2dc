/-
  Rows of edges in memory.
-/
import Derived.Test.YtclbnjfmipifnaaDs
namespace Go.Proofs.Ytclbnjfmipifnaa
open Go.RowKit Go.Maps

abbrev Ee := Lb × Lb
def ec : List Ee → List Value
  | [] => []
  | t :: r => .string (bs t.1.pkg) :: .string (bs t.1.name) :: .string (bs t.2.pkg) :: .string (bs t.2.name) :: ec r
theorem ec_length : ∀ l, (ec l).length = l.length * 4
  | [] => rfl
  | f :: r => by simp only [ec, List.length_cons, ec_length r]; omega
theorem ec_append : ∀ a b, ec (a ++ b) = ec a ++ ec b
  | [], b => rfl
  | f :: r, b => by simp [ec, ec_append r b]
theorem ec_one : ∀ (l : List Ee), ∀ u ∈ ec l, u.oneCell' = true
  | [], u, h => by simp [ec] at h
  | f :: r, u, h => by
    simp only [ec, List.mem_cons] at h
    rcases h with rfl | rfl | rfl | rfl | h
    · rfl
    · rfl
    · rfl
    · rfl
    · exact ec_one r u h
theorem ec_get : ∀ (l : List Ee) (k : Nat) (h : k < l.length), (ec l)[k * 4]? = some (.string (bs l[k].1.pkg)) ∧ (ec l)[k * 4 + 1]? = some (.string (bs l[k].1.name)) ∧ (ec l)[k * 4 + 2]? = some (.string (bs l[k].2.pkg)) ∧ (ec l)[k * 4 + 3]? = some (.string (bs l[k].2.name))
  | f :: r, 0, _ => ⟨rfl, rfl, rfl, rfl⟩
  | f :: r, k + 1, h => by
    have ih := ec_get r k (by simpa using h)
    rw [show (k + 1) * 4 = k * 4 + 4 by omega]
    simp only [ec, List.getElem_cons_succ]
    exact ih
/-- a slice of them reads as a list -/
def ES (w : World) (v : Value) (l : List Ee) : Prop :=
  ((∃ a c, v = .slice a 0 c) ∧ l = []) ∨
  ∃ b off cap, v = .slice (some ⟨b, off, none⟩) l.length cap ∧ l.length ≤ cap ∧ b < w.heap.size ∧ ∀ i u, (ec l)[i]? = some u → w.cell? ⟨b, off + i, none⟩ = some u
theorem ES.form {w : World} {v : Value} {l : List Ee} (h : ES w v l) : ∃ a c, v = .slice a l.length c := by
  rcases h with ⟨⟨a, c, rfl⟩, rfl⟩ | ⟨b, off, cap, rfl, hc, hlt, hcell⟩
  · exact ⟨a, c, rfl⟩
  · exact ⟨_, cap, rfl⟩
theorem ES.at {w : World} {a : Option Addr} {c n : Nat} {l : List Ee} (h : ES w (.slice a n c) l) {wr : World} (hb : Below w.heap.size w wr) {k : Nat} (hk : k < l.length) : ∃ b off, a = some ⟨b, off, none⟩ ∧ b < w.heap.size ∧
    wr.cell? ⟨b, off + k * 4, none⟩ = some (.string (bs l[k].1.pkg)) ∧ wr.cell? ⟨b, off + k * 4 + 1, none⟩ = some (.string (bs l[k].1.name)) ∧ wr.cell? ⟨b, off + k * 4 + 2, none⟩ = some (.string (bs l[k].2.pkg)) ∧ wr.cell? ⟨b, off + k * 4 + 3, none⟩ = some (.string (bs l[k].2.name)) := by
  rcases h with ⟨⟨a', c', e⟩, rfl⟩ | ⟨b, off, cap, e, hc, hlt, hcell⟩
  · simp at hk
  · injection e with e1 e2 e3
    subst e1
    obtain ⟨c0, c1, c2, c3⟩ := ec_get l k hk
    have hr : ∀ o, wr.cell? ⟨b, o, none⟩ = w.cell? ⟨b, o, none⟩ := fun o => hb.cell (p := ⟨b, o, none⟩) hlt
    refine ⟨b, off, rfl, hlt, ?_, ?_, ?_, ?_⟩
    · rw [hr]; exact hcell _ _ c0
    · rw [hr, Nat.add_assoc]; exact hcell _ _ c1
    · rw [hr, Nat.add_assoc]; exact hcell _ _ c2
    · rw [hr, Nat.add_assoc]; exact hcell _ _ c3
/-- a row of the call's own -/
def OwnE (base : Nat) (w : World) (v : Value) (l : List Ee) : Prop := w.ownsRow base 66 4 v l.length (ec l)
theorem OwnE.nil (base : Nat) (w : World) : OwnE base w (.slice none 0 0) [] := World.ownsRow_nil w base 66 4
theorem OwnE.rs {base : Nat} {w : World} {v : Value} {l : List Ee} (h : OwnE base w v l) : ES w v l := by
  rcases h.2 with ⟨rfl, h0⟩ | ⟨g, cap, cur, rfl, hb, hg, hn, _⟩
  · exact .inl ⟨⟨_, _, rfl⟩, List.eq_nil_of_length_eq_zero h0⟩
  · refine .inr ⟨g, 0, cap, rfl, hn, (Array.getElem?_eq_some_iff.1 hg).1, fun i u hu => ?_⟩
    have := World.ownsRow.cells h (g := g) rfl i u hu
    rw [add_lit] at this; exact this
theorem OwnE.lt {base : Nat} {w : World} {v : Value} {l : List Ee} (h : OwnE base w v l) {k : Nat} (hk : v.ownBlock = some k) : base ≤ k ∧ k < w.heap.size := World.ownsRow.lt h k hk
theorem OwnE.blk {base : Nat} {w : World} {v : Value} {l : List Ee} (h : OwnE base w v l) {k : Nat} (hk : v.ownBlock = some k) : ∃ cs fr, w.heap[k]? = some (.cells cs 66 fr) := by
  rcases h.2 with ⟨rfl, h0⟩ | ⟨g, cap, cur, rfl, hb, hg, hn, _⟩
  · cases hk
  · simp only [Value.ownBlock, Option.some.injEq] at hk
    subst hk
    exact ⟨_, _, hg⟩
theorem OwnL.blk {base : Nat} {w : World} {v : Value} {l : List Lb} (h : OwnL base w v l) {k : Nat} (hk : v.ownBlock = some k) : ∃ cs fr, w.heap[k]? = some (.cells cs 35 fr) := by
  rcases h.2 with ⟨rfl, h0⟩ | ⟨g, cap, cur, rfl, hb, hg, hn, _⟩
  · cases hk
  · simp only [Value.ownBlock, Option.some.injEq] at hk
    subst hk
    exact ⟨_, _, hg⟩
theorem OwnE.stay {base : Nat} {w w' : World} {v : Value} {l : List Ee} (h : OwnE base w v l) (hn : ∀ k, v.ownBlock = some k → w'.heap[k]? = w.heap[k]?) : OwnE base w' v l := by
  rcases h with ⟨h0, h | ⟨g, cap, cur, rfl, hb, hg, hr⟩⟩
  · exact ⟨h0, .inl h⟩
  · exact ⟨h0, .inr ⟨g, cap, cur, rfl, hb, (hn g rfl).trans hg, hr⟩⟩
theorem OwnL.stay {base : Nat} {w w' : World} {v : Value} {l : List Lb} (h : OwnL base w v l) (hn : ∀ k, v.ownBlock = some k → w'.heap[k]? = w.heap[k]?) : OwnL base w' v l := by
  rcases h with ⟨h0, h | ⟨g, cap, cur, rfl, hb, hg, hr⟩⟩
  · exact ⟨h0, .inl h⟩
  · exact ⟨h0, .inr ⟨g, cap, cur, rfl, hb, (hn g rfl).trans hg, hr⟩⟩
theorem OwnE.later {base : Nat} {w w' : World} {v : Value} {l : List Ee} (h : OwnE base w v l) (hb : Below w.heap.size w w') : OwnE base w' v l := h.stay (fun k hk => hb.block k (h.lt hk).2)
theorem OwnE.form {base : Nat} {w : World} {v : Value} {l : List Ee} (h : OwnE base w v l) : ∃ a c, v = .slice a l.length c := h.rs.form
theorem und_E : Try.prog.underlying 41 = some (.slice 66) := by kernel_rfl
theorem info_E : (Try.prog.info? 66).map (fun i => (i.zero, i.size, i.bytes)) = some (some (.agg #[.string ⟨#[]⟩, .string ⟨#[]⟩, .string ⟨#[]⟩, .string ⟨#[]⟩]), 4, 64) := by kernel_rfl
theorem step_app_E {ops : Array Oper} {o : Oper} {a : Act} {w : World} {K : Act → World → Prop} {Q : Exit → Act → World → Prop} {E : Prop} (hgd : o.guard = none) (s y : Operand)
    (ho : o.op = .call { callee := .builtin .append, args := #[s, y], argTypes := #[41, 41] }) (base : Nat) (l k : List Ee) (v x : Value) (hv : a.eval s = v) (hx : a.eval y = x)
    (hown : OwnE base w v l) (hs : Src Try.prog 4 41 x k.length (ec k) w) (hb : l.length + k.length ≤ 100000000) (hbase : base ≤ w.heap.size)
    (h : ∀ v' w', OwnE base w' v' (l ++ k) → w.grownBy w' v.ownBlock → (v'.ownBlock = v.ownBlock ∨ v'.ownBlock = some w.heap.size) → K (a.put o.dst v') w') :
    if Region.wanted o (yielded ops a.tmps) = true then Oper.wp Try.prog o a w K Q else E := by
  have hw : Region.wanted o (yielded ops a.tmps) = true := by simp [Region.wanted, hgd]
  rw [if_pos hw]
  obtain ⟨i0, hi, hz0, hz1, hz2⟩ := info_parts info_E
  obtain ⟨v', w', hr, h2, h3, h4⟩ := run_append_src (P := Try.prog) w base 41 41 o.type 66 i0 _ 4 64 und_E hi hz0 hz1 hz2 rfl v l.length (ec l) hown x k.length (ec k) hs (by simp only [maxLen]; omega) (by omega) hbase
  unfold Oper.wp execOp
  simp only [ho, resolve, invoke, builtin, Sem.run_bind, Sem.run_pure, Result.andThen_ok, List.map_toArray, List.map_cons, List.map_nil, hv, hx, hr]
  exact h v' w' (by unfold OwnE; rw [ec_append, List.length_append]; exact h2) h3 h4
theorem src_Ed (w : World) (t : Ee) : Src Try.prog 4 41 (.slice (some ⟨w.heap.size, 0, none⟩) 1 1) [t].length (ec [t]) (w.alloc (.cells #[.string (bs t.1.pkg), .string (bs t.1.name), .string (bs t.2.pkg), .string (bs t.2.name)] 66)).drew := by
  refine Src.ofSlice _ und_E ⟨w.heap.size, 0, none⟩ 1 1 (ec [t]) (by simp [ec_length]) ?_ (ec_one _)
  exact fun j u hu => World.news_of_block (heap_alloc_new w _) j u hu

/-- the document's graph in block d; F: its blocks -/
structure DG (w : World) (F : Nat → Prop) (d : Nat) (N : List Lb) (E : List Ee) : Prop where
  it : ∃ nv ev, w.heap[d]? = some (.cells #[nv, ev] 43 (0, 0)) ∧ OwnL 0 w nv N ∧ OwnE 0 w ev E ∧ (∀ k, nv.ownBlock = some k → F k) ∧ (∀ k, ev.ownBlock = some k → F k)
  own : F d
  lt : ∀ k, F k → k < w.heap.size
  nd : N.Nodup
  en : E.Nodup
  sub : ∀ e ∈ E, e.1 ∈ N ∧ e.2 ∈ N
  lu : ∀ a ∈ N, Lu a
  nz : N.length ≤ 1000000
  ez : E.length ≤ 1000000
section
variable {w w' : World} {F : Nat → Prop} {d : Nat} {N : List Lb} {E : List Ee}
theorem DG.stay (h : DG w F d N E) (hz : w.heap.size ≤ w'.heap.size) (hs : ∀ k, F k → w'.heap[k]? = w.heap[k]?) : DG w' F d N E := by
  obtain ⟨⟨nv, ev, h1, h2, h3, h4, h5⟩, own, lt, r1, r2, r3, r4, r5, r6⟩ := h
  exact ⟨⟨nv, ev, (hs d own).trans h1, h2.stay (fun k hk => hs k (h4 k hk)), h3.stay (fun k hk => hs k (h5 k hk)), h4, h5⟩, own, fun k hk => Nat.lt_of_lt_of_le (lt k hk) hz, r1, r2, r3, r4, r5, r6⟩
theorem DG.later (h : DG w F d N E) (hb : Below w.heap.size w w') : DG w' F d N E := h.stay hb.size (fun k hk => hb.block k (h.lt k hk))
theorem DG.only {G : Nat → Prop} (h : DG w F d N E) (hb : OnlyP G w w') (hd : ∀ k, F k → ¬ G k) : DG w' F d N E := h.stay hb.size (fun k hk => hb.block k (h.lt k hk) (hd k hk))
theorem DG.wider {F' : Nat → Prop} (h : DG w F d N E) (hF : ∀ k, F k → F' k) (hl : ∀ k, F' k → k < w.heap.size) : DG w F' d N E := by
  obtain ⟨⟨nv, ev, h1, h2, h3, h4, h5⟩, own, lt, r1, r2, r3, r4, r5, r6⟩ := h
  exact ⟨⟨nv, ev, h1, h2, h3, fun k hk => hF k (h4 k hk), fun k hk => hF k (h5 k hk)⟩, hF d own, hl, r1, r2, r3, r4, r5, r6⟩
/-- its two rows -/
theorem DG.rows (h : DG w F d N E) : ∃ an cn ae ce, w.cell? ⟨d, 0, none⟩ = some (.slice an N.length cn) ∧ w.cell? ⟨d, 1, none⟩ = some (.slice ae E.length ce) ∧ w.frozen? ⟨d, 0, none⟩ = false ∧ w.frozen? ⟨d, 1, none⟩ = false ∧
    OwnL 0 w (.slice an N.length cn) N ∧ OwnE 0 w (.slice ae E.length ce) E := by
  obtain ⟨⟨nv, ev, h1, h2, h3, h4, h5⟩, _⟩ := h
  obtain ⟨an, cn, e1⟩ := h2.form
  obtain ⟨ae, ce, e2⟩ := h3.form
  subst e1 e2
  exact ⟨an, cn, ae, ce, by simp [World.cell?, h1], by simp [World.cell?, h1], by simp [World.frozen?, h1], by simp [World.frozen?, h1], h2, h3⟩
theorem DG.dlt (h : DG w F d N E) : d < w.heap.size := h.lt d h.own
theorem DG.new (w : World) : DG (w.alloc (.cells #[.slice none 0 0, .slice none 0 0] 43)) (fun k => k = w.heap.size) w.heap.size [] [] :=
  ⟨⟨.slice none 0 0, .slice none 0 0, heap_alloc_new _ _, OwnL.nil _ _, OwnE.nil _ _, (fun k hk => by cases hk), (fun k hk => by cases hk)⟩, rfl, fun k hk => by subst hk; simp, List.nodup_nil, List.nodup_nil, by simp, by simp, by simp, by simp⟩
end
end Go.Proofs.Ytclbnjfmipifnaa
