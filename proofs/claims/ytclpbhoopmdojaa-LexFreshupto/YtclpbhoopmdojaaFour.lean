/-
  Four lists of tokens, each in memory of its own: marks, and the longer ones.
-/
import Derived.Test.YtclpbhoopmdojaaKnown
import Derived.Deep.OwnRows
import Derived.Laws.OwnMore
namespace Go.Proofs.Ytclpbhoopmdojaa
open Go.RowKit

/-- the mark of list number i -/
def mkT (i : Nat) : Tk := ⟨-1 - (i : Int), [], 0⟩
theorem tc_set : ∀ (l : List Tk) (i : Nat) (f : Tk), tc (l.set i f) = (((tc l).set (i * 3) (.int .i64 f.kind)).set (i * 3 + 1) (.string (bs f.text))).set (i * 3 + 2) (.int .i64 f.at')
  | [], i, f => by simp [tc]
  | g :: r, 0, f => by simp [tc]
  | g :: r, i + 1, f => by
    rw [List.set_cons_succ, tc, tc_set r i f, show (i + 1) * 3 = i * 3 + 3 by omega]
    simp [tc]
theorem own_setT {e : TypeId} {base : Nat} {w : World} {g n cap : Nat} {l : List Tk} (h : OwnT e base w (.slice (some ⟨g, 0, none⟩) n cap) l) (i : Nat) (f : Tk) :
    OwnT e base (((w.setCell ⟨g, i * 3, none⟩ (.int .i64 f.kind)).setCell ⟨g, i * 3 + 1, none⟩ (.string (bs f.text))).setCell ⟨g, i * 3 + 2, none⟩ (.int .i64 f.at')) (.slice (some ⟨g, 0, none⟩) n cap) (l.set i f) := by
  rcases h.2 with ⟨e, _⟩ | ⟨g', cap', cur, e, hbg, hg, hn, hcm, hcs, htake⟩
  · cases e
  · injection e with e1 e2 e3
    injection e1 with e1
    injection e1 with e1 _ _
    subst e1
    subst e3
    refine ⟨by rw [tc_length, List.length_set], .inr ⟨g, cap, _, by rw [List.length_set, e2], hbg, heap_setCell _ _ _ _ (heap_setCell _ _ _ _ (heap_setCell w g _ _ hg)), by rw [List.length_set]; exact hn, hcm, by simpa using hcs, ?_⟩⟩
    rw [List.length_set, tc_set]
    have h2 : cur.toList.take (l.length * 3) = tc l := htake
    rw [← h2]
    simp only [Array.toList_setIfInBounds, List.take_set]
theorem TS.only {S : List Nat} {w w' : World} {v : Value} {l : List Tk} (h : TS w v l) (ho : Only S w w') (hn : ∀ g, v.ownBlock = some g → g ∉ S) : TS w' v l := by
  rcases h with h | ⟨b, off, cap, rfl, hc, hlt, hcell⟩
  · exact .inl h
  · refine .inr ⟨b, off, cap, rfl, hc, Nat.lt_of_lt_of_le hlt ho.size, fun i u hu => ?_⟩
    rw [World.cell?_of_block (w := w) (ho.block b hlt (hn b rfl))]
    exact hcell i u hu
/-- the block of a value, as a list -/
def bl (v : Value) : List Nat := v.ownBlock.toList
theorem mem_bl {v : Value} {g : Nat} : g ∈ bl v ↔ v.ownBlock = some g := by
  unfold bl
  cases v.ownBlock with
  | none => simp
  | some k => simp [eq_comm]
theorem only_grown {w w' : World} {row : Option Nat} (h : w.grownBy w' row) : Only row.toList w w' :=
  ⟨h.os, h.tape, h.output, h.size, fun k hk hn => h.block k hk (by
    intro e
    apply hn
    rw [← e]; simp)⟩
theorem ts_of_own {e : TypeId} {base : Nat} {w : World} {g n m c c' : Nat} {l : List Tk} (h : OwnT e base w (.slice (some ⟨g, 0, none⟩) m c) l) (hn : n ≤ l.length) (hc : n ≤ c') : TS w (.slice (some ⟨g, 0, none⟩) n c') (l.take n) := by
  have hlt := (h.lt (k := g) rfl).2
  have e : (l.take n).length = n := by simp; omega
  have ef : tc l = tc (l.take n) ++ tc (l.drop n) := by rw [← tc_append, List.take_append_drop]
  refine .inr ⟨g, 0, c', by rw [e], by omega, hlt, fun i u hu => ?_⟩
  have hi := (List.getElem?_eq_some_iff.1 hu).1
  have := World.ownsRow.cells h (g := g) rfl i u (by rw [ef, List.getElem?_append_left hi]; exact hu)
  rw [add_lit] at this; exact this
/-- append where there is room: the same row, the same capacity -/
theorem run_append_intoT (w : World) (base g n cap : Nat) (ty : TypeId) (l : List Tk) (k : List Tk) (x : Value)
    (hown : OwnT 26 base w (.slice (some ⟨g, 0, none⟩) n cap) l) (hs : Src Try.prog 3 22 x k.length (tc k) w) (hn : l.length = n) (hroom : n + k.length ≤ cap) :
    ∃ w', (Builtin.append_ #[22, 22] ty #[.slice (some ⟨g, 0, none⟩) n cap, x]).run Try.prog w = .ok (.slice (some ⟨g, 0, none⟩) (n + k.length) cap) w' ∧
      OwnT 26 base w' (.slice (some ⟨g, 0, none⟩) (n + k.length) cap) (l ++ k) ∧ w.grownBy w' (some g) := by
  obtain ⟨i, hi, hz0, hz1, hz2⟩ := info_parts info26
  subst hn
  rcases hown.2 with ⟨h0, _⟩ | ⟨g', cap', cur, e, hbg, hg, hnc, hcm, hcs, htake⟩
  · cases h0
  injection e with e1 e2 e3
  injection e1 with e1
  injection e1 with e1 _ _
  subst e1
  subst e3
  have hfit : l.length * i.size + (tc k).length ≤ cur.size := by rw [hz1, tc_length, hcs]; omega
  have hst := run_storeCells_at Try.prog g (l.length * i.size) 26 (tc k) 0 cur w hg (by simpa using hfit) hs.one
  simp only [Nat.add_zero] at hst
  have hr : (Builtin.append_ #[22, 22] ty #[.slice (some ⟨g, 0, none⟩) l.length cap, x]).run Try.prog w =
      .ok (.slice (some ⟨g, 0, none⟩) (l.length + k.length) cap) (w.setRow g (cur.toList.take (l.length * i.size) ++ tc k ++ cur.toList.drop (l.length * i.size + (tc k).length)).toArray) := by
    rw [← hz1] at hs
    simp [Builtin.append_, run_underlying und22, sizeOf, typeInfo, hi, hs.len, hroom, hs.cells, Addr.add_lit, hst]
  refine ⟨_, hr, ⟨by rw [tc_append, List.length_append, tc_length, tc_length, List.length_append]; omega, .inr ⟨g, cap, _, by rw [List.length_append], hbg, setRow_heap w g cur _ 26 _ hg, by rw [List.length_append]; omega, hcm, ?_, ?_⟩⟩, ⟨rfl, rfl, rfl, by simp, fun k' _ hk => setRow_other w g k' _ (fun e => hk (by simp [e]))⟩⟩
  · simp only [List.size_toArray, List.length_append, List.length_take, List.length_drop, Array.length_toList, tc_length, hz1]
    simp only [tc_length, hz1] at hfit
    omega
  · have ht : cur.toList.take (l.length * 3) = tc l := htake
    rw [hz1, ht, tc_append, List.length_append]
    have e4 : (l.length + k.length) * 3 = (tc l ++ tc k).length := by rw [List.length_append, tc_length, tc_length]; omega
    rw [e4]
    exact List.take_left
theorem below_drew_alloc (w : World) (o : Obj) : Below w.heap.size w (w.drew.alloc o) := (Below.refl _ _).drew.alloc (Nat.le_refl _) o

/-- what an append of one token does: in its place, or in new memory while all else stays -/
theorem run_append_put {w1 : World} {base : Nat} {v : Value} {l : List Tk} (f : Tk) (x : Value) (ty : TypeId) (hown1 : OwnT 26 base w1 v l) (hsrc : Src Try.prog 3 22 x [f].length (tc [f]) w1) (hb : l.length + 1 ≤ 1000000000) (hbase : base ≤ w1.heap.size) :
    ∃ v' w', (Builtin.append_ #[22, 22] ty #[v, x]).run Try.prog w1 = .ok v' w' ∧ OwnT 26 base w' v' (l ++ [f]) ∧ ((∃ g n cap, v = .slice (some ⟨g, 0, none⟩) n cap ∧ v' = .slice (some ⟨g, 0, none⟩) (n + 1) cap ∧ w1.grownBy w' (some g)) ∨ (∃ b, v'.ownBlock = some b ∧ w1.heap.size ≤ b ∧ Below w1.heap.size w1 w')) := by
  obtain ⟨i, hi, hz0, hzs, hz2⟩ := info_parts info26
  obtain ⟨v2, w2, hr2, h2, _, _⟩ := run_append_src (P := Try.prog) w1 base 22 22 ty 26 i _ 3 32 und22 hi hz0 hzs hz2 rfl v l.length (tc l) hown1 x [f].length (tc [f]) hsrc (by simp only [maxLen, List.length_cons, List.length_nil]; omega) (by simp only [List.length_cons, List.length_nil]; omega) hbase
  have hO2 : OwnT 26 base w2 v2 (l ++ [f]) := by unfold OwnT; rw [tc_append, List.length_append]; exact h2
  rcases hown1.2 with ⟨rfl, h0⟩ | ⟨g, cap, cur, rfl, hbg, hg, hnc, hcm, hcs, htake⟩
  · have hl : l = [] := List.eq_nil_of_length_eq_zero h0
    subst hl
    have hr := run_append_grow_src (P := Try.prog) w1 22 22 ty 26 i _ und22 hi hz0 none 0 0 [] (run_firstCells_none w1.drew i.size 0 0 0) x 1 (tc [f]) (by rw [hzs]; exact hsrc) (by omega) (by omega) (growslice_fits (by omega) (by rw [hz2]; omega))
    rw [hr2] at hr
    injection hr with e1 e2
    refine ⟨v2, w2, hr2, hO2, .inr ⟨w1.heap.size, by rw [e1]; rfl, Nat.le_refl _, ?_⟩⟩
    rw [e2]
    exact below_drew_alloc w1 _
  · by_cases hroom : l.length + 1 ≤ cap
    · obtain ⟨w3, hr3, h3, hg3⟩ := run_append_intoT w1 base g l.length cap ty l [f] _ hown1 hsrc rfl hroom
      exact ⟨_, w3, hr3, h3, .inl ⟨g, l.length, cap, rfl, rfl, hg3⟩⟩
    · have holds : ∀ j u, (tc l)[j]? = some u → w1.cell? ((⟨g, 0, none⟩ : Addr).add j) = some u := World.ownsRow.cells hown1 (g := g) rfl
      have hr := run_append_grow_src (P := Try.prog) w1 22 22 ty 26 i _ und22 hi hz0 (some ⟨g, 0, none⟩) l.length cap (tc l) (run_firstCells_some w1.drew i.size l.length _ l.length cap (tc l) (by rw [tc_length, hzs]) (by simpa using holds)) x 1 (tc [f]) (by rw [hzs]; exact hsrc) (by omega) (by omega) (growslice_fits (by omega) (by rw [hz2]; omega))
      rw [hr2] at hr
      injection hr with e1 e2
      refine ⟨v2, w2, hr2, hO2, .inr ⟨w1.heap.size, by rw [e1]; rfl, Nat.le_refl _, ?_⟩⟩
      rw [e2]
      exact below_drew_alloc w1 _
/-- the same, as an operation -/
theorem app_put {w : World} {base : Nat} {v : Value} {l : List Tk} (f : Tk) {x : Value} (hown : OwnT 26 base w v l) (hs : Src Try.prog 3 22 x [f].length (tc [f]) w) (hb : l.length + 1 ≤ 1000000000) (hbase : base ≤ w.heap.size)
    {ops : Array Oper} {rest : List Oper} {o : Oper} {a : Act} {Q : Exit → Act → World → Prop} (hgd : o.guard = none) (s y : Operand)
    (ho : o.op = .call { callee := .builtin .append, args := #[s, y], argTypes := #[22, 22] }) (hv : a.eval s = v) (hx : a.eval y = x)
    (h : ∀ v' w', OwnT 26 base w' v' (l ++ [f]) → ((∃ g n cap, v = .slice (some ⟨g, 0, none⟩) n cap ∧ v' = .slice (some ⟨g, 0, none⟩) (n + 1) cap ∧ w.grownBy w' (some g)) ∨ (∃ b, v'.ownBlock = some b ∧ w.heap.size ≤ b ∧ Below w.heap.size w w')) → wpList Try.prog ops Q rest (a.put o.dst v') w') :
    wpList Try.prog ops Q (o :: rest) a w := by
  refine wpList_plain hgd fun K hK => ?_
  obtain ⟨v', w', hr, h2, h3⟩ := run_append_put (w1 := w) f x o.type hown hs hb hbase
  unfold Oper.wp execOp
  simp only [ho, resolve, invoke, builtin, Sem.run_bind, Sem.run_pure, Result.andThen_ok, List.map_toArray, List.map_cons, List.map_nil, hv, hx, hr]
  exact hK _ _ (h v' w' h2 h3)

/-- four lists in block ga, each in memory of its own -/
structure Quad (w : World) (ga : Nat) (V : Nat → Value) : Prop where
  cell : ∀ i, i < 4 → w.cell? ⟨ga, i, none⟩ = some (V i)
  galt : ga < w.heap.size
  ne : ∀ i, i < 4 → (V i).ownBlock ≠ some ga
  lt : ∀ i, i < 4 → ∀ g, (V i).ownBlock = some g → g < w.heap.size
  apart : ∀ i j, i < 4 → j < 4 → i ≠ j → ∀ g, (V i).ownBlock = some g → (V j).ownBlock ≠ some g
theorem Quad.only {S : List Nat} {w w' : World} {ga : Nat} {V : Nat → Value} (h : Quad w ga V) (ho : Only S w w') (hg : ga ∉ S) : Quad w' ga V :=
  ⟨fun i hi => by rw [World.cell?_of_block (w := w) (ho.block ga h.galt hg)]; exact h.cell i hi, Nat.lt_of_lt_of_le h.galt ho.size, h.ne, fun i hi g hg => Nat.lt_of_lt_of_le (h.lt i hi g hg) ho.size, h.apart⟩
theorem Quad.later {w w' : World} {ga : Nat} {V : Nat → Value} (h : Quad w ga V) (hb : Below w.heap.size w w') : Quad w' ga V := h.only (Only.of_below hb []) (by simp)

/-- the lists while they are marked -/
structure M4 (B : Nat) (w wr : World) (ga : Nat) (V : Nat → Value) (C : Nat → List Tk) : Prop where
  quad : Quad wr ga V
  below : Below B w wr
  B0 : B ≤ w.heap.size
  own : ∀ i, i < 4 → OwnT 26 B wr (V i) (C i)
theorem M4.set {B : Nat} {w wr : World} {ga : Nat} {V : Nat → Value} {C : Nat → List Tk} (h : M4 B w wr ga V C) {k g n cap : Nat} (hk : k < 4) (hv : V k = .slice (some ⟨g, 0, none⟩) n cap) (j : Nat) (f : Tk) :
    M4 B w (((wr.setCell ⟨g, j * 3, none⟩ (.int .i64 f.kind)).setCell ⟨g, j * 3 + 1, none⟩ (.string (bs f.text))).setCell ⟨g, j * 3 + 2, none⟩ (.int .i64 f.at')) ga V (fun i => if i = k then (C k).set j f else C i) := by
  have hO : Only [g] wr (((wr.setCell ⟨g, j * 3, none⟩ (.int .i64 f.kind)).setCell ⟨g, j * 3 + 1, none⟩ (.string (bs f.text))).setCell ⟨g, j * 3 + 2, none⟩ (.int .i64 f.at')) := ((Only.set _ _ _ _).trans (Only.set _ _ _ _)).trans (Only.set _ _ _ _)
  have hgb : (V k).ownBlock = some g := by rw [hv]; rfl
  have hBg := (h.own k hk).lt hgb
  have hsz := h.below.size
  refine ⟨h.quad.only hO (fun e => h.quad.ne k hk (by rw [hgb]; simp at e; rw [e])), below_trans h.below (hO.below (by have := h.B0; omega) (fun x hx => by simp at hx; omega)), h.B0, fun i hi => ?_⟩
  by_cases hik : i = k
  · subst hik
    simp only [if_true]
    rw [hv]
    exact own_setT (by rw [← hv]; exact h.own i hi) j f
  · simp only [hik, if_false]
    exact (h.own i hi).only hO (fun x hx e => h.quad.apart i k hi hk hik x hx (by rw [hgb]; simp at e; rw [e]))

/-- the lists, and the longer ones in block gl, behind k rounds (list i has n i tokens) -/
structure P4 (B : Nat) (w wr : World) (ga gl : Nat) (V U : Nat → Value) (n : Nat → Nat) (k : Nat) : Prop where
  quad : Quad wr ga V
  below : Below B w wr
  B0 : B ≤ w.heap.size
  ts : ∀ i, i < 4 → TS wr (V i) (List.replicate (n i) (mkT i))
  own : ∀ i, i < 4 → k ≤ i → OwnT 26 B wr (V i) (List.replicate (n i) (mkT i))
  blk : ∃ cs : Array Value, wr.heap[gl]? = some (.cells cs 22) ∧ cs.size = 4 ∧ ∀ i, i < k → cs[i]? = some (U i)
  Bgl : B ≤ gl
  gal : ga ≠ gl
  vgl : ∀ i, i < 4 → (V i).ownBlock ≠ some gl
  su : ∀ i, i < k → TS wr (U i) (List.replicate (n i + 16) (mkT i))
  uga : ∀ i, i < k → (U i).ownBlock ≠ some ga
  ugl : ∀ i, i < k → (U i).ownBlock ≠ some gl
  ub : ∀ i, i < k → ∀ g, (U i).ownBlock = some g → g < wr.heap.size
  vU : ∀ i, i < 4 → k ≤ i → ∀ j, j < k → ∀ g, (V i).ownBlock = some g → (U j).ownBlock ≠ some g
theorem P4.gllt {B : Nat} {w wr : World} {ga gl : Nat} {V U : Nat → Value} {n : Nat → Nat} {k : Nat} (h : P4 B w wr ga gl V U n k) : gl < wr.heap.size := by
  obtain ⟨cs, hc, _⟩ := h.blk
  exact (Array.getElem?_eq_some_iff.1 hc).1
/-- list k while it grows: m tokens so far -/
structure In4 (B : Nat) (wo wr : World) (gl k : Nat) (U : Nat → Value) (v u : Value) (n m : Nat) : Prop where
  own : OwnT 26 B wr u (List.replicate m (mkT k))
  nm : n ≤ m
  which : u.ownBlock = v.ownBlock ∨ ∃ b, u.ownBlock = some b ∧ wo.heap.size ≤ b
  ts : TS wr v (List.replicate n (mkT k))
  only : Only (gl :: bl v) wo wr
  blk : ∃ cs : Array Value, wr.heap[gl]? = some (.cells cs 22) ∧ cs.size = 4 ∧ cs[k]? = some u ∧ ∀ i, i < k → cs[i]? = some (U i)
  vlt : ∀ g, v.ownBlock = some g → g < wo.heap.size
  v0 : ∀ b off q c, v = .slice (some ⟨b, off, none⟩) q c → off = 0
  gllt : gl < wo.heap.size
  vgl : v.ownBlock ≠ some gl
theorem In4.ugl {B : Nat} {wo wr : World} {gl k : Nat} {U : Nat → Value} {v u : Value} {n m : Nat} (h : In4 B wo wr gl k U v u n m) : u.ownBlock ≠ some gl := fun e => by
  rcases h.which with e1 | ⟨b, e1, h1⟩
  · exact h.vgl (by rw [← e1]; exact e)
  · rw [e1] at e; injection e with e; have := h.gllt; omega
theorem In4.cell {B : Nat} {wo wr : World} {gl k : Nat} {U : Nat → Value} {v u : Value} {n m : Nat} (h : In4 B wo wr gl k U v u n m) : wr.cell? ⟨gl, k, none⟩ = some u ∧ wr.frozen? ⟨gl, k, none⟩ = false := by
  obtain ⟨cs, hb, _, hc, _⟩ := h.blk
  exact ⟨by simp [World.cell?, hb, hc], by simp [World.frozen?, hb]⟩
theorem blk_set {wr : World} {gl k : Nat} {U : Nat → Value} {cs : Array Value} (hb : wr.heap[gl]? = some (.cells cs 22)) (hs : cs.size = 4) (hk : k < 4) (hU : ∀ i, i < k → cs[i]? = some (U i)) (u : Value) :
    ∃ cs' : Array Value, (wr.setCell ⟨gl, k, none⟩ u).heap[gl]? = some (.cells cs' 22) ∧ cs'.size = 4 ∧ cs'[k]? = some u ∧ ∀ i, i < k → cs'[i]? = some (U i) := by
  refine ⟨_, heap_setCell wr gl k u hb, by simpa using hs, by simp [hs, hk], fun i hi => ?_⟩
  rw [Array.getElem?_setIfInBounds, if_neg (by omega)]
  exact hU i hi
/-- where it begins: long[k] = all[k] -/
theorem P4.begin {B : Nat} {w wr : World} {ga gl : Nat} {V U : Nat → Value} {n : Nat → Nat} {k : Nat} (h : P4 B w wr ga gl V U n k) (hk : k < 4) : In4 B wr (wr.setCell ⟨gl, k, none⟩ (V k)) gl k U (V k) (V k) (n k) (n k) := by
  obtain ⟨cs, hb, hs, hU⟩ := h.blk
  have hSet : Only [gl] wr (wr.setCell ⟨gl, k, none⟩ (V k)) := Only.set _ _ _ _
  have hv : ∀ g, (V k).ownBlock = some g → g ∉ [gl] := fun g hg e => h.vgl k hk (by simp at e; rw [← e]; exact hg)
  refine ⟨(h.own k hk (Nat.le_refl _)).only hSet hv, Nat.le_refl _, .inl rfl, (h.ts k hk).only hSet hv, hSet.mono (fun x hx => by simp at hx; simp [hx]), blk_set hb hs hk hU _, h.quad.lt k hk, fun b off q c e => ?_, h.gllt, h.vgl k hk⟩
  rcases (h.own k hk (Nat.le_refl _)).form' with ⟨e1, _⟩ | ⟨g, c', e1, _⟩
  · rw [e1] at e; cases e
  · rw [e1] at e
    injection e with e2
    injection e2 with e2
    injection e2 with _ e3 _
    exact e3.symm
theorem P4.cells {B : Nat} {w wr : World} {ga gl : Nat} {V U : Nat → Value} {n : Nat → Nat} {k : Nat} (h : P4 B w wr ga gl V U n k) (hk : k < 4) : (∃ x, wr.cell? ⟨gl, k, none⟩ = some x) ∧ wr.frozen? ⟨gl, k, none⟩ = false := by
  obtain ⟨cs, hb, hs, _⟩ := h.blk
  exact ⟨⟨cs[k]'(by omega), by simp [World.cell?, hb, hs, hk]⟩, by simp [World.frozen?, hb]⟩
theorem P4.long {B : Nat} {w wr : World} {ga gl : Nat} {V U : Nat → Value} {n : Nat → Nat} {k i : Nat} (h : P4 B w wr ga gl V U n k) (hi : i < k) : wr.cell? ⟨gl, i, none⟩ = some (U i) := by
  obtain ⟨cs, hb, hs, hU⟩ := h.blk
  simp [World.cell?, hb, hU i hi]
/-- one append, and the store of what came of it -/
theorem in4_step {B : Nat} {wo wr wa w' : World} {gl k : Nat} {U : Nat → Value} {v u u' : Value} {n m : Nat} (h : In4 B wo wr gl k U v u n m) (hk : k < 4) (hb0 : Below wr.heap.size wr wa)
    (ho : OwnT 26 B w' u' (List.replicate m (mkT k) ++ [mkT k]))
    (hc : (∃ b q cap, u = .slice (some ⟨b, 0, none⟩) q cap ∧ u' = .slice (some ⟨b, 0, none⟩) (q + 1) cap ∧ wa.grownBy w' (some b)) ∨ (∃ b, u'.ownBlock = some b ∧ wa.heap.size ≤ b ∧ Below wa.heap.size wa w')) :
    In4 B wo (w'.setCell ⟨gl, k, none⟩ u') gl k U v u' n (m + 1) ∧ w'.cell? ⟨gl, k, none⟩ = some u ∧ w'.frozen? ⟨gl, k, none⟩ = false := by
  have e : List.replicate m (mkT k) ++ [mkT k] = List.replicate (m + 1) (mkT k) := by rw [List.replicate_succ']
  rw [e] at ho
  have hs0 := h.only.size
  have hs1 := hb0.size
  have hgl := h.gllt
  have hO1 : Only (gl :: bl v) wo wa := h.only.trans (Only.of_below hb0 _)
  have hblk0 : wa.heap[gl]? = wr.heap[gl]? := hb0.block gl (by omega)
  have key : TS w' v (List.replicate n (mkT k)) ∧ Only (gl :: bl v) wo w' ∧ (u'.ownBlock = v.ownBlock ∨ ∃ b, u'.ownBlock = some b ∧ wo.heap.size ≤ b) ∧ w'.heap[gl]? = wr.heap[gl]? := by
    rcases hc with ⟨b, q, cap, rfl, rfl, hg⟩ | ⟨b, hb, hge, hbel⟩
    · have hbgl : b ≠ gl := fun e => h.ugl (by rw [e]; rfl)
      refine ⟨?_, ?_, ?_, ?_⟩
      · rcases h.which with e1 | ⟨b', e1, h1⟩
        · have hb : v.ownBlock = some b := by rw [← e1]; rfl
          rcases h.ts with ⟨⟨a0, c0, rfl⟩, h0⟩ | ⟨b0, off, cap0, hv, hcc, _, _⟩
          · exact .inl ⟨⟨_, _, rfl⟩, h0⟩
          · rw [hv] at hb
            have hb2 : b0 = b := by simpa [Value.ownBlock] using hb
            subst hb2
            have hoff : off = 0 := h.v0 _ _ _ _ hv
            subst hoff
            rw [hv]
            have := ts_of_own (n := n) (c' := cap0) ho (by simp; have := h.nm; omega) (by simpa using hcc)
            rw [List.take_replicate, Nat.min_eq_left (by have := h.nm; omega)] at this
            rw [List.length_replicate]
            exact this
        · have e2 : b = b' := by simpa [Value.ownBlock] using e1
          subst e2
          exact (h.ts.later hb0).only (only_grown hg) (fun g hgv e => by
            have := h.vlt g hgv
            simp at e
            omega)
      · refine ⟨hg.os.trans hO1.os, hg.tape.trans hO1.tape, hg.output.trans hO1.output, Nat.le_trans hO1.size hg.size, fun x hx hn => ?_⟩
        rw [hg.block x (by have := hO1.size; omega) (fun e => ?_)]
        · exact hO1.block x hx hn
        · injection e with e
          subst e
          rcases h.which with e1 | ⟨b', e1, h1⟩
          · exact hn (List.mem_cons_of_mem _ (mem_bl.2 (by rw [← e1]; rfl)))
          · have e2 : x = b' := by simpa [Value.ownBlock] using e1
            omega
      · rcases h.which with e1 | ⟨b', e1, h1⟩
        · exact .inl e1
        · exact .inr ⟨b', e1, h1⟩
      · rw [hg.block gl (by omega) (fun e => hbgl (by injection e with e; exact e.symm))]; exact hblk0
    · exact ⟨(h.ts.later hb0).later hbel, hO1.trans (Only.of_below hbel _), .inr ⟨b, hb, by omega⟩, (hbel.block gl (by omega)).trans hblk0⟩
  obtain ⟨k1, k2, k3, k4⟩ := key
  obtain ⟨cs, hb, hs, hc, hU⟩ := h.blk
  rw [← k4] at hb
  have hSet : Only [gl] w' (w'.setCell ⟨gl, k, none⟩ u') := Only.set _ _ _ _
  have hu' : u'.ownBlock ≠ some gl := fun e => by
    rcases k3 with e1 | ⟨b, e1, h1⟩
    · exact h.vgl (by rw [← e1]; exact e)
    · rw [e1] at e; injection e with e; omega
  refine ⟨⟨ho.only hSet (fun g hg e => hu' (by simp at e; rw [← e]; exact hg)), by have := h.nm; omega, k3, k1.only hSet (fun g hg e => h.vgl (by simp at e; rw [← e]; exact hg)), k2.trans (hSet.mono (fun x hx => by simp at hx; simp [hx])), blk_set hb hs hk hU _, h.vlt, h.v0, h.gllt, h.vgl⟩, by simp [World.cell?, hb, hc], by simp [World.frozen?, hb]⟩
theorem p4_next {B : Nat} {w wo wr : World} {ga gl : Nat} {V U : Nat → Value} {n : Nat → Nat} {k : Nat} {u : Value} (h : P4 B w wo ga gl V U n k) (hk : k < 4) (i3 : In4 B wo wr gl k U (V k) u (n k) (n k + 16)) :
    P4 B w wr ga gl V (fun i => if i = k then u else U i) n (k + 1) := by
  have hO := i3.only
  have hsz := hO.size
  have hnv : ∀ i, i < 4 → i ≠ k → ∀ g, (V i).ownBlock = some g → g ∉ gl :: bl (V k) := fun i hi hik g hg e => by
    rcases List.mem_cons.1 e with e | e
    · exact h.vgl i hi (by rw [← e]; exact hg)
    · exact h.quad.apart i k hi hk hik g hg (mem_bl.1 e)
  have hBk : ∀ x, x ∈ gl :: bl (V k) → B ≤ x := fun x hx => by
    rcases List.mem_cons.1 hx with e | e
    · rw [e]; exact h.Bgl
    · exact ((h.own k hk (Nat.le_refl _)).lt (mem_bl.1 e)).1
  have hB := h.B0
  have hsw := h.below.size
  have huga : u.ownBlock ≠ some ga := fun e => by
    rcases i3.which with e1 | ⟨b, e1, h1⟩
    · exact h.quad.ne k hk (by rw [← e1]; exact e)
    · rw [e1] at e; injection e with e; have := h.quad.galt; omega
  refine ⟨h.quad.only hO (fun e => ?_), below_trans h.below (hO.below (by omega) hBk), h.B0, fun i hi => ?_, fun i hi hki => ?_, ?_, h.Bgl, h.gal, h.vgl, fun i hi => ?_, fun i hi => ?_, fun i hi => ?_, fun i hi g hg => ?_, fun i hi hki j hj g hg e => ?_⟩
  · rcases List.mem_cons.1 e with e | e
    · exact h.gal e
    · exact h.quad.ne k hk (mem_bl.1 e)
  · by_cases hik : i = k
    · subst hik; exact i3.ts
    · exact (h.ts i hi).only hO (hnv i hi hik)
  · exact (h.own i hi (by omega)).only hO (hnv i hi (by omega))
  · obtain ⟨cs, hb, hs, hc, hU⟩ := i3.blk
    refine ⟨cs, hb, hs, fun i hi => ?_⟩
    by_cases hik : i = k
    · subst hik; simp only [if_true]; exact hc
    · simp only [hik, if_false]; exact hU i (by omega)
  · by_cases hik : i = k
    · subst hik; simp only [if_true]; exact i3.own.ts
    · simp only [hik, if_false]
      exact (h.su i (by omega)).only hO (fun g hg e => by
        rcases List.mem_cons.1 e with e | e
        · exact h.ugl i (by omega) (by rw [← e]; exact hg)
        · exact h.vU k hk (Nat.le_refl _) i (by omega) g (mem_bl.1 e) hg)
  · by_cases hik : i = k
    · simp only [hik, if_true]; exact huga
    · simp only [hik, if_false]; exact h.uga i (by omega)
  · by_cases hik : i = k
    · simp only [hik, if_true]; exact i3.ugl
    · simp only [hik, if_false]; exact h.ugl i (by omega)
  · by_cases hik : i = k
    · simp only [hik, if_true] at hg; exact (i3.own.lt hg).2
    · simp only [hik, if_false] at hg
      exact Nat.lt_of_lt_of_le (h.ub i (by omega) g hg) hsz
  · by_cases hjk : j = k
    · simp only [hjk, if_true] at e
      rcases i3.which with e1 | ⟨b, e1, h1⟩
      · exact h.quad.apart i k hi hk (by omega) g hg (by rw [← e1]; exact e)
      · rw [e1] at e; injection e with e; have := h.quad.lt i hi g hg; omega
    · simp only [hjk, if_false] at e
      exact h.vU i hi (by omega) j (by omega) g hg e
end Go.Proofs.Ytclpbhoopmdojaa
