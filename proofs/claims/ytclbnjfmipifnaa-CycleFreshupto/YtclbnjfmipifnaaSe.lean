/-
  The search in memory.
-/
import Derived.Test.YtclbnjfmipifnaaJRw
import Derived.BigRegion
import Derived.WalkMore
namespace Go.Proofs.Ytclbnjfmipifnaa
open Go.RowKit Go.Maps

structure SK where
  sb : Nat
  gm : Nat
  ge : Nat
  gl : Nat
  n : Nat
  vo : Value
  out : Nat → List Nat
/-- where each number's edges lead -/
def RO (w : World) (v : Value) (n : Nat) (out : Nat → List Nat) : Prop :=
  ∃ go, v = .slice (some ⟨go, 0, none⟩) n n ∧ go < w.heap.size ∧ ∀ i, i < n → ∃ vi, w.cell? ⟨go, i, none⟩ = some vi ∧ IS w vi (out i)
structure SF (w0 : World) (K : SK) : Prop where
  ro : RO w0 K.vo K.n K.out
  sz : K.n ≤ 100000
  me : K.gm ≠ K.ge
  ml : K.gm ≠ K.gl
  el : K.ge ≠ K.gl
  sm : K.sb ≠ K.gm
  se : K.sb ≠ K.ge
  sl : K.sb ≠ K.gl
  b1 : w0.heap.size ≤ K.sb
  b2 : w0.heap.size ≤ K.gm
  b3 : w0.heap.size ≤ K.ge
  b4 : w0.heap.size ≤ K.gl
  ol : ∀ x, (K.out x).length ≤ K.n
  os : ∀ x, ∀ y ∈ K.out x, y < K.n
abbrev arr (n : Nat) (f : Nat → Nat) : Obj := .cells (nv (nf n f)).toArray 3 (0, 0)
structure SE (w0 : World) (K : SK) (vp : Value) (s : Tj.St) (w : World) : Prop where
  b0 : Below w0.heap.size w0 w
  blk : w.heap[K.sb]? = some (.cells #[K.vo, .slice (some ⟨K.gm, 0, none⟩) K.n K.n, .slice (some ⟨K.ge, 0, none⟩) K.n K.n, .slice (some ⟨K.gl, 0, none⟩) K.n K.n, vp, .int .i64 (s.cnt : Int)] 78 (0, 0))
  rm : w.heap[K.gm]? = some (arr K.n s.met)
  re : w.heap[K.ge]? = some (arr K.n s.early)
  rl : w.heap[K.gl]? = some (arr K.n s.least)
  rp : w.ownsRow w0.heap.size 3 1 vp s.op.length (nv s.op)
  pn : ∀ k, vp.ownBlock = some k → k ≠ K.sb ∧ k ≠ K.gm ∧ k ≠ K.ge ∧ k ≠ K.gl
/-- the search's blocks -/
abbrev sF (K : SK) (vp : Value) : Nat → Prop := fun k => k = K.sb ∨ k = K.gm ∨ k = K.ge ∨ k = K.gl ∨ vp.ownBlock = some k
def SX (K : SK) (vp vp' : Value) (w w' : World) : Prop := OnlyP (sF K vp) w w' ∧ ∀ k, vp'.ownBlock = some k → vp.ownBlock = some k ∨ w.heap.size ≤ k
theorem SX.refl (K : SK) (vp : Value) (w : World) : SX K vp vp w w := ⟨OnlyP.refl _ _, fun _ h => .inl h⟩
theorem SX.trans {K : SK} {a b c : Value} {u v w : World} (h : SX K a b u v) (k : SX K b c v w) : SX K a c u w := by
  refine ⟨h.1.trans k.1 (fun i hi hF => ?_), fun i hi => ?_⟩
  · rcases hF with e | e | e | e | e
    · exact .inl e
    · exact .inr (.inl e)
    · exact .inr (.inr (.inl e))
    · exact .inr (.inr (.inr (.inl e)))
    · rcases h.2 i e with e | e
      · exact .inr (.inr (.inr (.inr e)))
      · omega
  · rcases k.2 i hi with e | e
    · exact h.2 i e
    · exact .inr (Nat.le_trans h.1.size e)
section
variable {w0 w w' : World} {K : SK} {vp : Value} {s : Tj.St}
theorem SE.slt (h : SE w0 K vp s w) : K.sb < w.heap.size := (Array.getElem?_eq_some_iff.1 h.blk).1
theorem SE.mlt (h : SE w0 K vp s w) : K.gm < w.heap.size := (Array.getElem?_eq_some_iff.1 h.rm).1
theorem SE.elt (h : SE w0 K vp s w) : K.ge < w.heap.size := (Array.getElem?_eq_some_iff.1 h.re).1
theorem SE.llt (h : SE w0 K vp s w) : K.gl < w.heap.size := (Array.getElem?_eq_some_iff.1 h.rl).1
theorem SE.c0 (h : SE w0 K vp s w) : w.cell? ⟨K.sb, 0, none⟩ = some K.vo := by simp [World.cell?, h.blk]
theorem SE.c1 (h : SE w0 K vp s w) : w.cell? ⟨K.sb, 1, none⟩ = some (.slice (some ⟨K.gm, 0, none⟩) K.n K.n) := by simp [World.cell?, h.blk]
theorem SE.c2 (h : SE w0 K vp s w) : w.cell? ⟨K.sb, 2, none⟩ = some (.slice (some ⟨K.ge, 0, none⟩) K.n K.n) := by simp [World.cell?, h.blk]
theorem SE.c3 (h : SE w0 K vp s w) : w.cell? ⟨K.sb, 3, none⟩ = some (.slice (some ⟨K.gl, 0, none⟩) K.n K.n) := by simp [World.cell?, h.blk]
theorem SE.c4 (h : SE w0 K vp s w) : w.cell? ⟨K.sb, 4, none⟩ = some vp := by simp [World.cell?, h.blk]
theorem SE.c5 (h : SE w0 K vp s w) : w.cell? ⟨K.sb, 5, none⟩ = some (.int .i64 (s.cnt : Int)) := by simp [World.cell?, h.blk]
theorem SE.soft (h : SE w0 K vp s w) (o : Nat) : w.frozen? ⟨K.sb, o, none⟩ = false := by simp [World.frozen?, h.blk]
theorem arr_cell {g n : Nat} {f : Nat → Nat} (h : w.heap[g]? = some (arr n f)) {a : Nat} (ha : a < n) : w.cell? ⟨g, a, none⟩ = some (.int .i64 (f a : Int)) := by
  have h1 := nf_get (f := f) ha
  simp only [World.cell?, h]
  simpa using h1
theorem arr_soft {g n : Nat} {f : Nat → Nat} (h : w.heap[g]? = some (arr n f)) (o : Nat) : w.frozen? ⟨g, o, none⟩ = false := by simp [World.frozen?, h]
theorem arr_set {g n : Nat} {f : Nat → Nat} (h : w.heap[g]? = some (arr n f)) (a x : Nat) : (w.setCell ⟨g, a, none⟩ (.int .i64 (x : Int))).heap[g]? = some (arr n (Tj.upd f a x)) := by
  rw [heap_setCell w g a _ h]
  congr 2
  apply Array.toList_inj.1
  simp only [Array.toList_setIfInBounds]
  exact nf_set
theorem SE.later (h : SE w0 K vp s w) (hb : Below w.heap.size w w') : SE w0 K vp s w' :=
  ⟨below_trans h.b0 (below_mono hb h.b0.size), (hb.block _ h.slt).trans h.blk, (hb.block _ h.mlt).trans h.rm, (hb.block _ h.elt).trans h.re, (hb.block _ h.llt).trans h.rl, row_later h.rp hb, h.pn⟩
theorem SE.only {S : List Nat} (h : SE w0 K vp s w) (ho : Only S w w') (hS : ∀ k ∈ S, w0.heap.size ≤ k) (hs : K.sb ∉ S) (hm : K.gm ∉ S) (he : K.ge ∉ S) (hl : K.gl ∉ S) (hp : ∀ k, vp.ownBlock = some k → k ∉ S) : SE w0 K vp s w' :=
  ⟨below_trans h.b0 ((OnlyP.of_only (F := fun k => k ∈ S) ho (fun _ hk _ => hk)).below h.b0.size hS), (ho.block _ h.slt hs).trans h.blk, (ho.block _ h.mlt hm).trans h.rm, (ho.block _ h.elt he).trans h.re, (ho.block _ h.llt hl).trans h.rl, row_only h.rp ho hp, h.pn⟩
theorem only_b0 {S : List Nat} (h : SE w0 K vp s w) (ho : Only S w w') (hS : ∀ k ∈ S, w0.heap.size ≤ k) : Below w0.heap.size w0 w' :=
  below_trans h.b0 ((OnlyP.of_only (F := fun k => k ∈ S) ho (fun _ hk _ => hk)).below h.b0.size hS)
theorem SE.setm (hF : SF w0 K) (h : SE w0 K vp s w) (a x : Nat) : SE w0 K vp { s with met := Tj.upd s.met a x } (w.setCell ⟨K.gm, a, none⟩ (.int .i64 (x : Int))) := by
  have ho := Only.set w K.gm a (.int .i64 (x : Int))
  exact ⟨only_b0 h ho (by simpa using hF.b2), (ho.block _ h.slt (by simpa using hF.sm)).trans h.blk, arr_set h.rm a x, (ho.block _ h.elt (by simpa using hF.me.symm)).trans h.re, (ho.block _ h.llt (by simpa using hF.ml.symm)).trans h.rl, row_only h.rp ho (fun k hk => by simpa using (h.pn k hk).2.1), h.pn⟩
theorem SE.sete (hF : SF w0 K) (h : SE w0 K vp s w) (a x : Nat) : SE w0 K vp { s with early := Tj.upd s.early a x } (w.setCell ⟨K.ge, a, none⟩ (.int .i64 (x : Int))) := by
  have ho := Only.set w K.ge a (.int .i64 (x : Int))
  exact ⟨only_b0 h ho (by simpa using hF.b3), (ho.block _ h.slt (by simpa using hF.se)).trans h.blk, (ho.block _ h.mlt (by simpa using hF.me)).trans h.rm, arr_set h.re a x, (ho.block _ h.llt (by simpa using hF.el.symm)).trans h.rl, row_only h.rp ho (fun k hk => by simpa using (h.pn k hk).2.2.1), h.pn⟩
theorem SE.setl (hF : SF w0 K) (h : SE w0 K vp s w) (a x : Nat) : SE w0 K vp { s with least := Tj.upd s.least a x } (w.setCell ⟨K.gl, a, none⟩ (.int .i64 (x : Int))) := by
  have ho := Only.set w K.gl a (.int .i64 (x : Int))
  exact ⟨only_b0 h ho (by simpa using hF.b4), (ho.block _ h.slt (by simpa using hF.sl)).trans h.blk, (ho.block _ h.mlt (by simpa using hF.ml)).trans h.rm, (ho.block _ h.elt (by simpa using hF.el)).trans h.re, arr_set h.rl a x, row_only h.rp ho (fun k hk => by simpa using (h.pn k hk).2.2.2), h.pn⟩
theorem SE.setc (hF : SF w0 K) (h : SE w0 K vp s w) (x : Nat) : SE w0 K vp { s with cnt := x } (w.setCell ⟨K.sb, 5, none⟩ (.int .i64 (x : Int))) := by
  have ho := Only.set w K.sb 5 (.int .i64 (x : Int))
  refine ⟨only_b0 h ho (by simpa using hF.b1), ?_, (ho.block _ h.mlt (by simpa using hF.sm.symm)).trans h.rm, (ho.block _ h.elt (by simpa using hF.se.symm)).trans h.re, (ho.block _ h.llt (by simpa using hF.sl.symm)).trans h.rl, row_only h.rp ho (fun k hk => by simpa using (h.pn k hk).1), h.pn⟩
  rw [heap_setCell w K.sb 5 _ h.blk]
  rfl
/-- the list of open ones is another -/
theorem SE.setp (hF : SF w0 K) (h : SE w0 K vp s w) {v' : Value} {l : List Nat} (hr : w.ownsRow w0.heap.size 3 1 v' l.length (nv l)) (hn : ∀ k, v'.ownBlock = some k → k ≠ K.sb ∧ k ≠ K.gm ∧ k ≠ K.ge ∧ k ≠ K.gl) : SE w0 K v' { s with op := l } (w.setCell ⟨K.sb, 4, none⟩ v') := by
  have ho := Only.set w K.sb 4 v'
  refine ⟨only_b0 h ho (by simpa using hF.b1), ?_, (ho.block _ h.mlt (by simpa using hF.sm.symm)).trans h.rm, (ho.block _ h.elt (by simpa using hF.se.symm)).trans h.re, (ho.block _ h.llt (by simpa using hF.sl.symm)).trans h.rl, row_only hr ho (fun k hk => by simpa using (hn k hk).1), hn⟩
  rw [heap_setCell w K.sb 4 _ h.blk]
  rfl
/-- the list of open ones grows -/
theorem SE.app4 (h : SE w0 K vp s w) {o : Obj} (hg : (w.alloc o).grownBy w' vp.ownBlock) : w'.cell? ⟨K.sb, 4, none⟩ = some vp ∧ w'.frozen? ⟨K.sb, 4, none⟩ = false ∧ w'.heap[K.sb]? = w.heap[K.sb]? ∧ w'.heap[K.gm]? = w.heap[K.gm]? ∧ w'.heap[K.ge]? = w.heap[K.ge]? ∧ w'.heap[K.gl]? = w.heap[K.gl]? := by
  have ho : Only vp.ownBlock.toList w w' := only_alloc hg
  have hn : ∀ k, k ∈ vp.ownBlock.toList → vp.ownBlock = some k := fun k hk => by simpa using hk
  have e1 := ho.block K.sb h.slt (fun e => (h.pn _ (hn _ e)).1 rfl)
  have hb := e1.trans h.blk
  exact ⟨by simp [World.cell?, hb], by simp [World.frozen?, hb], e1, ho.block K.gm h.mlt (fun e => (h.pn _ (hn _ e)).2.1 rfl), ho.block K.ge h.elt (fun e => (h.pn _ (hn _ e)).2.2.1 rfl), ho.block K.gl h.llt (fun e => (h.pn _ (hn _ e)).2.2.2 rfl)⟩
theorem SE.grown (hF : SF w0 K) (h : SE w0 K vp s w) {o : Obj} {v' : Value} {l : List Nat} (hg : (w.alloc o).grownBy w' vp.ownBlock) (hr : w'.ownsRow w0.heap.size 3 1 v' l.length (nv l)) (hv : v'.ownBlock = vp.ownBlock ∨ v'.ownBlock = some (w.alloc o).heap.size) : SE w0 K v' { s with op := l } (w'.setCell ⟨K.sb, 4, none⟩ v') ∧ SX K vp v' w (w'.setCell ⟨K.sb, 4, none⟩ v') := by
  obtain ⟨_, _, e1, e2, e3, e4⟩ := h.app4 hg
  have ho : Only vp.ownBlock.toList w w' := only_alloc hg
  have hs : (w.alloc o).heap.size = w.heap.size + 1 := by simp
  have hn : ∀ k, k ∈ vp.ownBlock.toList → vp.ownBlock = some k := fun k hk => by simpa using hk
  have hS : ∀ k ∈ vp.ownBlock.toList, w0.heap.size ≤ k := fun k hk => (row_tag h.rp (hn k hk)).1
  have hne : ∀ k, v'.ownBlock = some k → k ≠ K.sb ∧ k ≠ K.gm ∧ k ≠ K.ge ∧ k ≠ K.gl := fun k hk => by
    rcases hv with e | e
    · exact h.pn k (e ▸ hk)
    · rw [e] at hk
      injection hk with hk
      have := h.slt
      have := h.mlt
      have := h.elt
      have := h.llt
      omega
  have hset := Only.set w' K.sb 4 v'
  have b' := only_b0 h ho hS
  have hle := ho.size
  refine ⟨⟨below_trans b' ((OnlyP.of_only (F := fun k => k = K.sb) hset (fun k hk _ => List.mem_singleton.1 hk)).below b'.size (fun k hk => hk ▸ hF.b1)), ?_, (hset.block _ (Nat.lt_of_lt_of_le h.mlt hle) (by simpa using hF.sm.symm)).trans (e2.trans h.rm), (hset.block _ (Nat.lt_of_lt_of_le h.elt hle) (by simpa using hF.se.symm)).trans (e3.trans h.re), (hset.block _ (Nat.lt_of_lt_of_le h.llt hle) (by simpa using hF.sl.symm)).trans (e4.trans h.rl), row_only hr hset (fun k hk => by simpa using (hne k hk).1), hne⟩, (OnlyP.of_only ho (fun k hk _ => .inr (.inr (.inr (.inr (hn k hk)))))).trans (OnlyP.of_only (F := sF K vp) hset (fun k hk _ => .inl (List.mem_singleton.1 hk))) (fun _ _ e => e), fun k hk => ?_⟩
  · rw [heap_setCell w' K.sb 4 _ (e1.trans h.blk)]
    rfl
  · rcases hv with e | e
    · exact .inl (e ▸ hk)
    · rw [e] at hk
      injection hk with hk
      right
      omega
theorem sx_set {g o : Nat} (v : Value) (w : World) (hg : sF K vp g) : SX K vp vp w (w.setCell ⟨g, o, none⟩ v) :=
  ⟨OnlyP.of_only (Only.set w g o v) (fun k hk _ => by rw [List.mem_singleton.1 hk]; exact hg), fun _ h => .inl h⟩
theorem sx_below (hb : Below w.heap.size w w') : SX K vp vp w w' := ⟨OnlyP.of_below hb _, fun _ h => .inl h⟩
end

set_option maxRecDepth 100000 in
set_option maxHeartbeats 4000000 in
theorem smeet_any {w0 w : World} {K : SK} {vp : Value} {s : Tj.St} (hF : SF w0 K) (h : SE w0 K vp s w) (a : Nat) (ha : a < K.n) (hc : s.cnt + 1 ≤ 1000000) (hl : s.op.length + 1 ≤ 1000000) :
    Calls Try.prog 53 #[.pointer (some ⟨K.sb, 0, none⟩), .int .i64 (a : Int)] w fun e w' => e = .returned (.tuple #[]) ∧ ∃ vp', SE w0 K vp' (Tj.meet s a) w' ∧ SX K vp vp' w w' := by
  obtain ⟨av, cv, hvv⟩ := row_form h.rp
  obtain ⟨ol, hol⟩ : ∃ ol, s.op.length = ol := ⟨_, rfl⟩
  rw [hol] at hvv
  subst hvv
  have HOL : Hid (s.op.length = ol) := hol
  clear hol
  have H : Hid (SF w0 K ∧ SE w0 K (.slice av ol cv) s w) := ⟨hF, h⟩
  have q5 := h.c5
  have f5 := h.soft 5
  obtain ⟨n, hn⟩ : ∃ n, K.n = n := ⟨_, rfl⟩
  have k1 : (0 : Int) ≤ (a : Int) := by omega
  have k2 : (a : Int) < (n : Int) := by omega
  have k3 : (s.cnt : Int) + 1 ≤ 1000000 := by omega
  have k4 : (0 : Int) ≤ (s.cnt : Int) := by omega
  obtain ⟨w1, hw1⟩ : ∃ w1, w1 = w.setCell ⟨K.sb, 5, none⟩ (.int .i64 ((s.cnt : Int) + 1)) := ⟨_, rfl⟩
  have H1 : Hid (SE w0 K (.slice av ol cv) { s with cnt := s.cnt + 1 } w1 ∧ SX K (.slice av ol cv) (.slice av ol cv) w w1) := by
    rw [hw1]
    exact ⟨by simpa using h.setc hF (s.cnt + 1), sx_set _ _ (.inl rfl)⟩
  clear h
  have d5 : ((w1.cell? ⟨K.sb, 5, none⟩) = some (.int .i64 ((s.cnt : Int) + 1))) := by have := H1.out.1.c5; simpa using this
  have d1 := H1.out.1.c1
  have e1 : w1.frozen? ⟨K.gm, a, none⟩ = false := arr_soft H1.out.1.rm a
  have g1 := arr_cell H1.out.1.rm ha
  rw [hn] at d1
  clear q5 f5
  have q5 := H.out.2.c5
  have f5 := H.out.2.soft 5
  go_enter Try.func53, Try.ntmps53
  go_wp2_with fail
  rw [← hw1]
  clear q5 f5 hw1
  go_region
  have H2 : Hid (SE w0 K (.slice av ol cv) { s with cnt := s.cnt + 1, met := Tj.upd s.met a (s.cnt + 1) } ((w1.setCell ⟨K.gm, a, none⟩ (.int .i64 ((s.cnt : Int) + 1))).drew) ∧ SX K (.slice av ol cv) (.slice av ol cv) w ((w1.setCell ⟨K.gm, a, none⟩ (.int .i64 ((s.cnt : Int) + 1))).drew)) := by
    refine ⟨(SE.later (by simpa using H1.out.1.setm H.out.1 a (s.cnt + 1)) (Below.refl _ _).drew), (H1.out.2.trans (sx_set _ _ (.inr (.inl rfl)))).trans (sx_below (Below.refl _ _).drew)⟩
  clear d5 d1 e1 g1 H1
  generalize (w1.setCell ⟨K.gm, a, none⟩ (.int .i64 ((s.cnt : Int) + 1))).drew = w2 at H2 ⊢
  have d5 : ((w2.cell? ⟨K.sb, 5, none⟩) = some (.int .i64 ((s.cnt : Int) + 1))) := by have := H2.out.1.c5; simpa using this
  have d1 := H2.out.1.c2
  have e1 : w2.frozen? ⟨K.ge, a, none⟩ = false := arr_soft H2.out.1.re a
  have g1 := arr_cell H2.out.1.re ha
  rw [hn] at d1
  go_wp2_with fail
  go_region
  have H3 : Hid (SE w0 K (.slice av ol cv) { s with cnt := s.cnt + 1, met := Tj.upd s.met a (s.cnt + 1), early := Tj.upd s.early a (s.cnt + 1) } ((w2.setCell ⟨K.ge, a, none⟩ (.int .i64 ((s.cnt : Int) + 1))).drew) ∧ SX K (.slice av ol cv) (.slice av ol cv) w ((w2.setCell ⟨K.ge, a, none⟩ (.int .i64 ((s.cnt : Int) + 1))).drew)) := by
    refine ⟨(SE.later (by simpa using H2.out.1.sete H.out.1 a (s.cnt + 1)) (Below.refl _ _).drew), (H2.out.2.trans (sx_set _ _ (.inr (.inr (.inl rfl))))).trans (sx_below (Below.refl _ _).drew)⟩
  clear d5 d1 e1 g1 H2
  generalize (w2.setCell ⟨K.ge, a, none⟩ (.int .i64 ((s.cnt : Int) + 1))).drew = w3 at H3 ⊢
  have d4 := H3.out.1.c4
  have HL : Hid (s.op.length + 1 ≤ 1000000) := hl
  have HR3 : Hid (w3.ownsRow w0.heap.size 3 1 (.slice av ol cv) s.op.length (nv s.op)) := H3.out.1.rp
  have HB3 : Hid (w0.heap.size ≤ w3.heap.size) := H3.out.1.b0.size
  clear hl
  go_wp2_with (first | (at_builtin; refine app_I (base := w0.heap.size) (l := s.op) a HR3.out HL.out HB3.out rfl (.tmp 35) (.tmp 37) rfl rfl rfl ?_; intro v4 w4 ho4 hg4 hv4; obtain ⟨a4, c4x, rfl⟩ := row_form ho4; have c4 : w4.cell? ⟨K.sb, 4, none⟩ = some (.slice av ol cv) := (SE.app4 H3.out.1 hg4).1; have f4 : w4.frozen? ⟨K.sb, 4, none⟩ = false := (SE.app4 H3.out.1 hg4).2.1))
  go_end0
  have hfin := SE.grown H.out.1 H3.out.1 hg4 ho4 hv4
  rw [show (s.op ++ [a]).length = s.op.length + 1 by simp] at hfin
  exact ⟨rfl, _, hfin.1, H3.out.2.trans hfin.2⟩

set_option maxRecDepth 100000 in
set_option maxHeartbeats 8000000 in
theorem reaches_any {w0 w : World} {K : SK} {vp : Value} {s : Tj.St} (hF : SF w0 K) (h : SE w0 K vp s w) (a b : Nat) (ha : a < K.n) (hb : b < K.n) :
    Calls Try.prog 54 #[.pointer (some ⟨K.sb, 0, none⟩), .int .i64 (a : Int), .int .i64 (b : Int)] w fun e w' => e = .returned (.tuple #[]) ∧ SE w0 K vp (Tj.reaches s a b) w' ∧ SX K vp vp w w' := by
  have H : Hid (SF w0 K ∧ SE w0 K vp s w) := ⟨hF, h⟩
  have d2 := h.c2
  have ca := arr_cell h.re ha
  have cb := arr_cell h.re hb
  have fa := arr_soft h.re a
  obtain ⟨n, hn⟩ : ∃ n, K.n = n := ⟨_, rfl⟩
  rw [hn] at d2 ha hb
  obtain ⟨ea, hea⟩ : ∃ x, s.early a = x := ⟨_, rfl⟩
  obtain ⟨eb, heb⟩ : ∃ x, s.early b = x := ⟨_, rfl⟩
  rw [hea] at ca
  rw [heb] at cb
  have HE : Hid (s.early a = ea ∧ s.early b = eb) := ⟨hea, heb⟩
  have k1 : (0 : Int) ≤ (a : Int) := by omega
  have k2 : (a : Int) < (n : Int) := by omega
  have k3 : (0 : Int) ≤ (b : Int) := by omega
  have k4 : (b : Int) < (n : Int) := by omega
  clear h hea heb hF
  by_cases hp : 0 < eb
  · have p1 : (0 : Int) < (eb : Int) := by omega
    go_enter Try.func54, Try.ntmps54
    go_wp2_with fail
    go_region
    go_end0
    have e1 : min (ea : Int) (eb : Int) = ((min ea eb : Nat) : Int) := by omega
    rw [e1]
    refine ⟨rfl, SE.later ?_ (Below.refl _ _).drew, (sx_set _ _ (.inr (.inr (.inl rfl)))).trans (sx_below (Below.refl _ _).drew)⟩
    have h9 := H.out.2.sete H.out.1 a (min ea eb)
    unfold Tj.reaches
    rw [HE.out.1, HE.out.2, if_pos hp]
    exact h9
  · have p1 : eb = 0 := by omega
    subst p1
    go_enter Try.func54, Try.ntmps54
    go_wp2_with fail
    go_end0
    refine ⟨rfl, ?_, SX.refl _ _ _⟩
    unfold Tj.reaches
    rw [HE.out.2]
    exact H.out.2
end Go.Proofs.Ytclbnjfmipifnaa
