/-
  What stands through the look at fresh memory.
-/
import Derived.Test.YtgibjnfaagnbfadGreatDoorFour
import Derived.Test.YtgibjnfaagnbfadGreatDoorHead
import Derived.Test.YtgibjnfaagnbfadGreatDoorBackPure
import Derived.Test.YtgibjnfaagnbfadGreatDoorRefB
import Derived.Test.YtgibjnfaagnbfadGreatDoorRefR
import Derived.Deep.DeepCutAuto
namespace Go.Proofs.YtgibjnfaagnbfadGreatDoor
open Go.RowKit

/-- does a statement begin with this region? -/
def beg (n : Nat) : Code → Bool
  | .region m _ _ => m == n
  | .seq a _ => beg n a
  | .block _ c => beg n c
  | .loop c => beg n c
  | .scope c => beg n c
  | _ => false
/-- what stands from there on -/
def suff (n : Nat) : Code → Code
  | .seq a b => if beg n a then .seq a b else suff n b
  | c => c
/-- what the law answers -/
def Good (w : World) (e : Ending) (w' : World) : Prop := e = .returned (.bool true) ∧ Below w.heap.size w w'

theorem OwnF.below {B base : Nat} {w w' : World} {v : Value} {l : List Fl} (h : OwnF base w v l) (hb : Below B w w') (hv : ∀ k, v.ownBlock = some k → k < B) : OwnF base w' v l := by
  rcases h with ⟨h0, h | ⟨g, cap, cur, rfl, hbb, hg, hr⟩⟩
  · exact ⟨h0, .inl h⟩
  · exact ⟨h0, .inr ⟨g, cap, cur, rfl, hbb, (hb.block g (hv g rfl)).trans hg, hr⟩⟩
theorem Own.below {B base : Nat} {w w' : World} {v : Value} {l : List (List UInt8)} (h : Own base w v l) (hb : Below B w w') (hv : ∀ k, v.ownBlock = some k → k < B) : Own base w' v l := by
  rcases h with ⟨h0, h | ⟨g, cap, cur, rfl, hbb, hg, hr⟩⟩
  · exact ⟨h0, .inl h⟩
  · exact ⟨h0, .inr ⟨g, cap, cur, rfl, hbb, (hb.block g (hv g rfl)).trans hg, hr⟩⟩
theorem own_cell {base : Nat} {w : World} {g n cap : Nat} {l : List (List UInt8)} (h : Own base w (.slice (some ⟨g, 0, none⟩) n cap) l) (i : Nat) (hi : i < l.length) :
    w.cell? ⟨g, i, none⟩ = some (.string (bs l[i])) := by
  have := World.ownsRow.cells h (g := g) rfl i (.string (bs l[i])) (by simp [sc_get, hi])
  rw [add_lit, Nat.zero_add] at this
  exact this
theorem ss_of_own {base : Nat} {w : World} {g n m c c' : Nat} {l : List (List UInt8)} (h : Own base w (.slice (some ⟨g, 0, none⟩) m c) l) (hn : n ≤ l.length) (hc : n ≤ c') : SS w (.slice (some ⟨g, 0, none⟩) n c') (l.take n) := by
  have hlt := (h.lt (k := g) rfl).2
  have e : (l.take n).length = n := by simp; omega
  refine .inr ⟨g, 0, c', by rw [e], by omega, hlt, fun i u hu => ?_⟩
  have hi : i < n := by
    have := (List.getElem?_eq_some_iff.1 hu).1
    rw [sc_length, e] at this; exact this
  have := World.ownsRow.cells h (g := g) rfl i u (by
    rw [sc_get, List.getElem?_take_of_lt hi] at hu
    rw [sc_get]; exact hu)
  rw [add_lit] at this; exact this
theorem own_cap {base : Nat} {w : World} {g n cap : Nat} {l : List (List UInt8)} (h : Own base w (.slice (some ⟨g, 0, none⟩) n cap) l) : n = l.length ∧ n ≤ cap := by
  rcases h.2 with ⟨e, _⟩ | ⟨g', cap', cur, e, hbg, hg, hn, _⟩
  · cases e
  · injection e with e1 e2 e3
    omega
theorem own_capF {base : Nat} {w : World} {g n cap : Nat} {l : List Fl} (h : OwnF base w (.slice (some ⟨g, 0, none⟩) n cap) l) : n = l.length ∧ n ≤ cap := by
  rcases h.2 with ⟨e, _⟩ | ⟨g', cap', cur, e, hbg, hg, hn, _⟩
  · cases e
  · injection e with e1 e2 e3
    omega

theorem FS.below2 {w w' : World} {v : Value} {l : List Fl} {B : Nat} (h : FS w v l) (hb : Below B w w') (hv : l ≠ [] → ∀ k, v.ownBlock = some k → k < B) : FS w' v l := by
  by_cases hl : l = []
  · obtain ⟨a, c, e, _⟩ := h.form
    subst hl
    exact .inl ⟨⟨a, c, e⟩, rfl⟩
  · exact h.below hb (hv hl)
theorem FS.lt {w : World} {v : Value} {l : List Fl} (h : FS w v l) (hl : l ≠ []) : ∀ k, v.ownBlock = some k → k < w.heap.size := by
  rcases h with ⟨_, e⟩ | ⟨b, off, cap, rfl, hc, hlt, hcell⟩
  · exact absurd e hl
  · intro k hk
    simp [Value.ownBlock] at hk
    omega
theorem SS.below2 {w w' : World} {v : Value} {l : List (List UInt8)} {B : Nat} (h : SS w v l) (hb : Below B w w') (hv : l ≠ [] → ∀ k, v.ownBlock = some k → k < B) : SS w' v l := by
  by_cases hl : l = []
  · obtain ⟨a, c, e, _⟩ := h.form
    subst hl
    exact .inl ⟨⟨a, c, e⟩, rfl⟩
  · exact h.below hb (hv hl)
theorem SS.lt {w : World} {v : Value} {l : List (List UInt8)} (h : SS w v l) (hl : l ≠ []) : ∀ k, v.ownBlock = some k → k < w.heap.size := by
  rcases h with ⟨_, e⟩ | ⟨b, off, cap, rfl, hc, hlt, hcell⟩
  · exact absurd e hl
  · intro k hk
    simp [Value.ownBlock] at hk
    omega
def fm1 : Fl := ⟨[109, 49], [], 0, 0⟩
def fm2 : Fl := ⟨[109, 50], [], 0, 0⟩
/-- what came in, what was made of it, and what is kept: all below B -/
structure FW (B : Nat) (w wc : World) (vl vp vk : Value) (gm cm gn cn n m : Nat) (L : List Fl) (PS : List (List UInt8)) : Prop where
  below : Below w.heap.size w wc
  fl : FS wc vl L
  sp : SS wc vp PS
  mine : OwnF w.heap.size wc (.slice (some ⟨gm, 0, none⟩) (n + 2) cm) (L ++ [fm1, fm2])
  names : Own w.heap.size wc (.slice (some ⟨gn, 0, none⟩) (m + 2) cn) (PS ++ [[110, 49], [110, 50]])
  kept : FS wc vk (keep L PS)
  bl : L ≠ [] → ∀ k, vl.ownBlock = some k → k < B
  bp : PS ≠ [] → ∀ k, vp.ownBlock = some k → k < B
  bk : keep L PS ≠ [] → ∀ k, vk.ownBlock = some k → k < B
  bm : gm < B
  bn : gn < B
  big : B ≤ wc.heap.size
  base : w.heap.size ≤ B
  hn : L.length = n
  hm : PS.length = m
theorem FW.later {B : Nat} {w wc wd : World} {vl vp vk : Value} {gm cm gn cn n m : Nat} {L : List Fl} {PS : List (List UInt8)} (h : FW B w wc vl vp vk gm cm gn cn n m L PS) (hb : Below B wc wd) : FW B w wd vl vp vk gm cm gn cn n m L PS :=
  ⟨below_trans h.below (below_mono hb h.base), h.fl.below2 hb h.bl, h.sp.below2 hb h.bp, h.mine.below hb (fun k hk => by simp [Value.ownBlock] at hk; subst hk; exact h.bm), h.names.below hb (fun k hk => by simp [Value.ownBlock] at hk; subst hk; exact h.bn), h.kept.below2 hb h.bk, h.bl, h.bp, h.bk, h.bm, h.bn, Nat.le_trans h.big hb.size, h.base, h.hn, h.hm⟩
theorem FW.a {B : Nat} {w wc : World} {vl vp vk : Value} {gm cm gn cn n m : Nat} {L : List Fl} {PS : List (List UInt8)} (h : FW B w wc vl vp vk gm cm gn cn n m L PS) : FS wc (.slice (some ⟨gm, 0, none⟩) n cm) L := by
  have h1 := fs_of_own (n := n) (c' := cm) h.mine (by have := h.hn; simp; omega) (by have := own_capF h.mine; omega)
  rwa [List.take_append_of_le_length (by have := h.hn; omega), List.take_of_length_le (by have := h.hn; omega)] at h1
theorem FW.b {B : Nat} {w wc : World} {vl vp vk : Value} {gm cm gn cn n m : Nat} {L : List Fl} {PS : List (List UInt8)} (h : FW B w wc vl vp vk gm cm gn cn n m L PS) : SS wc (.slice (some ⟨gn, 0, none⟩) m cn) PS := by
  have h1 := ss_of_own (n := m) (c' := cn) h.names (by have := h.hm; simp; omega) (by have := own_cap h.names; omega)
  rwa [List.take_append_of_le_length (by have := h.hm; omega), List.take_of_length_le (by have := h.hm; omega)] at h1
theorem FW.marks {B : Nat} {w wc : World} {vl vp vk : Value} {gm cm gn cn n m : Nat} {L : List Fl} {PS : List (List UInt8)} (h : FW B w wc vl vp vk gm cm gn cn n m L PS) :
    wc.cell? ⟨gm, n * 4, none⟩ = some (.string ⟨#[109, 49]⟩) ∧ wc.cell? ⟨gm, (n + 1) * 4, none⟩ = some (.string ⟨#[109, 50]⟩) ∧ wc.cell? ⟨gn, m, none⟩ = some (.string ⟨#[110, 49]⟩) ∧ wc.cell? ⟨gn, m + 1, none⟩ = some (.string ⟨#[110, 50]⟩) := by
  have hn := h.hn
  have hm := h.hm
  have e1 := (own_cellF h.mine n (by simp; omega)).1.1
  have e2 := (own_cellF h.mine (n + 1) (by simp; omega)).1.1
  have e3 := own_cell h.names m (by simp; omega)
  have e4 := own_cell h.names (m + 1) (by simp; omega)
  subst hn
  subst hm
  refine ⟨?_, ?_, ?_, ?_⟩
  · rw [e1]; simp [fm1]; rfl
  · rw [e2]; simp [fm2]; rfl
  · rw [e3]; simp; rfl
  · rw [e4]; simp; rfl
theorem FW.name {B : Nat} {w wc : World} {vl vp vk : Value} {gm cm gn cn n m : Nat} {L : List Fl} {PS : List (List UInt8)} (h : FW B w wc vl vp vk gm cm gn cn n m L PS) {k : Nat} (hk : k < PS.length) : wc.cell? ⟨gn, k, none⟩ = some (.string (bs PS[k])) := by
  rw [own_cell h.names k (by simp; omega), List.getElem_append_left hk]

theorem und35 : Tryz.prog.underlying 35 = some (.slice 22) := by kernel_rfl
theorem info22 : (Tryz.prog.info? 22).map (fun i => (i.zero, i.size, i.bytes)) = some (some (.slice none 0 0), 1, 24) := by kernel_rfl
theorem src_vals (w : World) (ys : List Value) (hy : ∀ u ∈ ys, u.oneCell' = true) : Src Tryz.prog 1 35 (.slice (some ⟨w.heap.size, 0, none⟩) ys.length ys.length) ys.length ys (w.alloc (.cells ys.toArray 22)) := by
  refine Src.ofSlice _ und35 ⟨w.heap.size, 0, none⟩ ys.length ys.length ys (by simp) ?_ hy
  have := World.news_of_block (heap_alloc_new w (.cells ys.toArray 22))
  simpa using this
/-- append of lists to the lists -/
theorem app_vals {w : World} {base k : Nat} {m : Value} {xs : List Value} (ys : List Value) (hy : ∀ u ∈ ys, u.oneCell' = true) (hown : w.ownsRow base 22 1 m k xs) (hk : k + ys.length ≤ 8) (hbase : base ≤ w.heap.size)
    {ops : Array Oper} {rest : List Oper} {o : Oper} {a : Act} {Q : Exit → Act → World → Prop} (hgd : o.guard = none) (s y : Operand)
    (ho : o.op = .call { callee := .builtin .append, args := #[s, y], argTypes := #[35, 35] }) (hv : a.eval s = m) (hx : a.eval y = .slice (some ⟨w.heap.size, 0, none⟩) ys.length ys.length)
    (h : ∀ v' w', w'.ownsRow base 22 1 v' (k + ys.length) (xs ++ ys) → w.grownBy w' m.ownBlock → (v'.ownBlock = m.ownBlock ∨ v'.ownBlock = some (w.heap.size + 1)) → wpList Tryz.prog ops Q rest (a.put o.dst v') w') :
    wpList Tryz.prog ops Q (o :: rest) a (w.alloc (.cells ys.toArray 22)) := by
  obtain ⟨i0, hi, hz0, hz1, hz2⟩ := info_parts info22
  refine wpList_append_src _ hgd s y 35 35 ho base 22 i0 (.slice none 0 0) 1 24 und35 hi hz0 hz1 hz2 rfl m k xs hv (World.ownsRow.alloc hown _) _ ys.length ys hx (src_vals w ys hy) (by simp only [maxLen]; omega) (by omega) (by simp; omega) ?_
  intro v' w' h1 h2 h3
  exact h v' w' h1 ((World.grownBy_alloc w _ _).trans h2) (by simpa using h3)
/-- append of one file: in its place, or in new memory while all else stays -/
theorem app_putF {w : World} {base : Nat} {v : Value} {l : List Fl} (f : Fl) (hown : OwnF base w v l) (hb : l.length + 1 ≤ 100000000) (hbase : base ≤ w.heap.size)
    {ops : Array Oper} {rest : List Oper} {o : Oper} {a : Act} {Q : Exit → Act → World → Prop} (hgd : o.guard = none) (s y : Operand)
    (ho : o.op = .call { callee := .builtin .append, args := #[s, y], argTypes := #[22, 22] }) (hv : a.eval s = v) (hx : a.eval y = .slice (some ⟨w.heap.size, 0, none⟩) 1 1)
    (h : ∀ wr v' w', Below w.heap.size w wr → OwnF base w' v' (l ++ [f]) → ((∃ g n cap, v = .slice (some ⟨g, 0, none⟩) n cap ∧ v' = .slice (some ⟨g, 0, none⟩) (n + 1) cap ∧ wr.grownBy w' (some g)) ∨ (∃ b, v'.ownBlock = some b ∧ wr.heap.size ≤ b ∧ Below wr.heap.size wr w')) → wpList Tryz.prog ops Q rest (a.put o.dst v') w') :
    wpList Tryz.prog ops Q (o :: rest) a (w.alloc (.cells #[.string (bs f.path), .string (bs f.text), .int .i64 f.blob, .int .i64 f.size] 26)) := by
  obtain ⟨w1, hw1⟩ : ∃ w1, w.alloc (.cells #[.string (bs f.path), .string (bs f.text), .int .i64 f.blob, .int .i64 f.size] 26) = w1 := ⟨_, rfl⟩
  have hsrc : Src Tryz.prog 4 22 (.slice (some ⟨w.heap.size, 0, none⟩) 1 1) [f].length (fc [f]) w1 := by rw [← hw1]; exact src_file w f
  have hb1 : Below w.heap.size w w1 := by rw [← hw1]; exact balloc _ _
  rw [hw1]
  obtain ⟨v', w', hr, h1, h2⟩ := run_append_put f _ o.type (hown.later hb1) hsrc hb (Nat.le_trans hbase hb1.size)
  refine wpList_plain hgd fun K hK => ?_
  unfold Oper.wp execOp
  simp only [ho, resolve, invoke, builtin, Sem.run_bind, Sem.run_pure, Result.andThen_ok, List.map_toArray, List.map_cons, List.map_nil, hv, hx, hr]
  exact hK _ _ (h w1 v' w' hb1 h1 h2)
/-- a row of lists stays where only another block is written -/
theorem row_only {S : List Nat} {base k : Nat} {w w' : World} {m : Value} {xs : List Value} (h : w.ownsRow base 22 1 m k xs) (ho : Only S w w') (hn : ∀ g, m.ownBlock = some g → g ∉ S) : w'.ownsRow base 22 1 m k xs := by
  refine ⟨h.1, ?_⟩
  rcases h.2 with ⟨e, h0⟩ | ⟨g, cap, cur, e, hb, hg, hr⟩
  · exact .inl ⟨e, h0⟩
  · exact .inr ⟨g, cap, cur, e, hb, (ho.block g (Array.getElem?_eq_some_iff.1 hg).1 (hn g (by rw [e]; rfl))).trans hg, hr⟩

/-- the answers so far: two a turn -/
structure A2 (B : Nat) (wc wr : World) (v : Value) (t : Nat) (V : Nat → Value) (LL : Nat → List Fl) : Prop where
  row : wr.ownsRow B 22 1 v (2 * t) ((List.range (2 * t)).map V)
  own : ∀ i, i < 2 * t → OwnF B wr (V i) (LL i)
  apart : ∀ i j, i < 2 * t → j < 2 * t → i ≠ j → ∀ g, (V i).ownBlock = some g → (V j).ownBlock ≠ some g
  vn : ∀ i, i < 2 * t → ∀ g, v.ownBlock = some g → (V i).ownBlock ≠ some g
  below : Below B wc wr
  big : B ≤ wr.heap.size
theorem a2_next {B : Nat} {wc wo w5 w7 : World} {v v' kp r : Value} {t : Nat} {V : Nat → Value} {LL : Nat → List Fl} (h : A2 B wc wo v t V LL) (hb : Below wo.heap.size wo w5)
    (ok : OwnF wo.heap.size w5 kp (LL (2 * t))) (or : OwnF wo.heap.size w5 r (LL (2 * t + 1))) (hd : ∀ g, kp.ownBlock = some g → r.ownBlock ≠ some g)
    (hr : w7.ownsRow B 22 1 v' (2 * t + 2) ((List.range (2 * t)).map V ++ [kp, r])) (hg : w5.grownBy w7 v.ownBlock) (hw : v'.ownBlock = v.ownBlock ∨ v'.ownBlock = some (w5.heap.size + 1)) :
    A2 B wc w7 v' (t + 1) (fun i => if i = 2 * t then kp else if i = 2 * t + 1 then r else V i) LL := by
  have hG := only_grown hg
  have hbig := h.big
  have hz := hb.size
  have hvlt : ∀ g, v.ownBlock = some g → B ≤ g ∧ g < wo.heap.size := fun g hg => World.ownsRow.lt h.row g hg
  have hmem : ∀ g, g ∈ v.ownBlock.toList → v.ownBlock = some g := fun g hg => by
    cases hv : v.ownBlock with
    | none => rw [hv] at hg; simp at hg
    | some c => rw [hv] at hg; simp at hg; rw [hg]
  have hVlt : ∀ i, i < 2 * t → ∀ g, (V i).ownBlock = some g → g < wo.heap.size := fun i hi g hg => ((h.own i hi).lt hg).2
  have hklt : ∀ g, kp.ownBlock = some g → wo.heap.size ≤ g ∧ g < w5.heap.size := fun g hg => ok.lt hg
  have hrlt : ∀ g, r.ownBlock = some g → wo.heap.size ≤ g ∧ g < w5.heap.size := fun g hg => or.lt hg
  have hV : ∀ i, i < 2 * t → (if i = 2 * t then kp else if i = 2 * t + 1 then r else V i) = V i := fun i hi => by rw [if_neg (by omega), if_neg (by omega)]
  have hcase : ∀ i, i < 2 * (t + 1) → i < 2 * t ∨ i = 2 * t ∨ i = 2 * t + 1 := fun i hi => by omega
  refine ⟨?_, fun i hi => ?_, fun i j hi hj hij g hg1 hg2 => ?_, fun i hi g hg1 hg2 => ?_, ?_, ?_⟩
  · have e : (List.range (2 * (t + 1))).map (fun i => if i = 2 * t then kp else if i = 2 * t + 1 then r else V i) = (List.range (2 * t)).map V ++ [kp, r] := by
      rw [show 2 * (t + 1) = 2 * t + 1 + 1 by omega, List.range_succ, List.range_succ, List.map_append, List.map_append, List.append_assoc]
      congr 1
      · exact List.map_congr_left (fun i hi => hV i (List.mem_range.1 hi))
      · simp
    rw [e]; exact hr
  · rcases hcase i hi with h1 | rfl | rfl
    · show OwnF B w7 (if i = 2 * t then kp else if i = 2 * t + 1 then r else V i) (LL i)
      rw [hV i h1]
      exact ((h.own i h1).later hb).only hG (fun g hg e => h.vn i h1 g (hmem g e) hg)
    · show OwnF B w7 (if 2 * t = 2 * t then kp else _) (LL (2 * t))
      rw [if_pos rfl]
      exact (ok.mono hbig).only hG (fun g hg e => by have := (hvlt g (hmem g e)).2; have := (hklt g hg).1; omega)
    · show OwnF B w7 (if 2 * t + 1 = 2 * t then kp else if 2 * t + 1 = 2 * t + 1 then r else _) (LL (2 * t + 1))
      rw [if_neg (by omega), if_pos rfl]
      exact (or.mono hbig).only hG (fun g hg e => by have := (hvlt g (hmem g e)).2; have := (hrlt g hg).1; omega)
  · have k1 : (if i = 2 * t then kp else if i = 2 * t + 1 then r else V i).ownBlock = some g := hg1
    have k2 : (if j = 2 * t then kp else if j = 2 * t + 1 then r else V j).ownBlock = some g := hg2
    rcases hcase i hi with h1 | h1 | h1 <;> rcases hcase j hj with h2 | h2 | h2
    · rw [hV i h1] at k1; rw [hV j h2] at k2; exact h.apart i j h1 h2 hij g k1 k2
    · rw [hV i h1] at k1; rw [if_pos h2] at k2; have := hVlt i h1 g k1; have := (hklt g k2).1; omega
    · rw [hV i h1] at k1; rw [if_neg (by omega), if_pos h2] at k2; have := hVlt i h1 g k1; have := (hrlt g k2).1; omega
    · rw [if_pos h1] at k1; rw [hV j h2] at k2; have := hVlt j h2 g k2; have := (hklt g k1).1; omega
    · omega
    · rw [if_pos h1] at k1; rw [if_neg (by omega), if_pos h2] at k2; exact hd g k1 k2
    · rw [if_neg (by omega), if_pos h1] at k1; rw [hV j h2] at k2; have := hVlt j h2 g k2; have := (hrlt g k1).1; omega
    · rw [if_neg (by omega), if_pos h1] at k1; rw [if_pos h2] at k2; exact hd g k2 k1
    · omega
  · have k2 : (if i = 2 * t then kp else if i = 2 * t + 1 then r else V i).ownBlock = some g := hg2
    have hnew : v.ownBlock = some g ∨ g = w5.heap.size + 1 := by
      rcases hw with e | e
      · exact .inl (by rw [← e]; exact hg1)
      · rw [e] at hg1; injection hg1 with hg1; exact .inr hg1.symm
    rcases hcase i hi with h1 | h1 | h1
    · rw [hV i h1] at k2
      rcases hnew with e | e
      · exact h.vn i h1 g e k2
      · have := hVlt i h1 g k2; omega
    · rw [if_pos h1] at k2
      rcases hnew with e | e
      · have := (hvlt g e).2; have := (hklt g k2).1; omega
      · have := (hklt g k2).2; omega
    · rw [if_neg (by omega), if_pos h1] at k2
      rcases hnew with e | e
      · have := (hvlt g e).2; have := (hrlt g k2).1; omega
      · have := (hrlt g k2).2; omega
  · refine below_trans h.below (below_trans (below_mono hb hbig) (hG.below (by omega) (fun x hx => (hvlt x (hmem x hx)).1)))
  · have := hG.size; omega
/-- four answers: four lists in memory of their own -/
theorem A2.quad {B : Nat} {wc wr : World} {ga ca : Nat} {V : Nat → Value} {LL : Nat → List Fl} (h : A2 B wc wr (.slice (some ⟨ga, 0, none⟩) 4 ca) 2 V LL) : Quad wr ga V :=
  ⟨fun i hi => by
      have := World.ownsRow.cells h.row (g := ga) rfl i (V i) (by simp [hi])
      rw [add_lit, Nat.zero_add] at this
      exact this,
   (World.ownsRow.lt h.row ga rfl).2, fun i hi e => h.vn i (by omega) ga rfl e, fun i hi g hg => ((h.own i (by omega)).lt hg).2, fun i j hi hj hij g hg => h.apart i j (by omega) (by omega) hij g hg⟩
theorem ownF_empty (w : World) (base : Nat) (hb : base ≤ w.heap.size) : OwnF base (w.alloc (.cells #[] 26)) (.slice (some ⟨w.heap.size, 0, none⟩) 0 0) [] :=
  ⟨by simp [fc], .inr ⟨w.heap.size, 0, #[], rfl, hb, heap_alloc_new w _, by simp, by unfold maxLen; omega, by simp, by simp [fc]⟩⟩
theorem own_empty (w : World) (base : Nat) (hb : base ≤ w.heap.size) : Own base (w.alloc (.cells #[] 9)) (.slice (some ⟨w.heap.size, 0, none⟩) 0 0) [] :=
  ⟨by simp [sc], .inr ⟨w.heap.size, 0, #[], rfl, hb, heap_alloc_new w _, by simp, by unfold maxLen; omega, by simp, by simp [sc]⟩⟩

structure FU (w wc : World) (gm cm gn cn n m : Nat) (L : List Fl) (PS : List (List UInt8)) : Prop where
  below : Below w.heap.size w wc
  mine : OwnF w.heap.size wc (.slice (some ⟨gm, 0, none⟩) (n + 2) cm) (L ++ [fm1, fm2])
  names : Own w.heap.size wc (.slice (some ⟨gn, 0, none⟩) (m + 2) cn) (PS ++ [[110, 49], [110, 50]])
  hn : L.length = n
  hm : PS.length = m
theorem FU.later {w wc wd : World} {gm cm gn cn n m : Nat} {L : List Fl} {PS : List (List UInt8)} (h : FU w wc gm cm gn cn n m L PS) (hb : Below wc.heap.size wc wd) : FU w wd gm cm gn cn n m L PS :=
  ⟨bstep h.below hb, h.mine.later hb, h.names.later hb, h.hn, h.hm⟩
theorem FU.a {w wc : World} {gm cm gn cn n m : Nat} {L : List Fl} {PS : List (List UInt8)} (h : FU w wc gm cm gn cn n m L PS) : FS wc (.slice (some ⟨gm, 0, none⟩) n cm) L := by
  have h1 := fs_of_own (n := n) (c' := cm) h.mine (by have := h.hn; simp; omega) (by have := own_capF h.mine; omega)
  rwa [List.take_append_of_le_length (by have := h.hn; omega), List.take_of_length_le (by have := h.hn; omega)] at h1
/-- with what is kept, all below the world's end -/
theorem FU.whole {w wc : World} {vl vp vk : Value} {gm cm gn cn n m : Nat} {L : List Fl} {PS : List (List UInt8)} (h : FU w wc gm cm gn cn n m L PS) (fl : FS w vl L) (sp : SS w vp PS) (ok : OwnF w.heap.size wc vk (keep L PS)) : FW wc.heap.size w wc vl vp vk gm cm gn cn n m L PS :=
  ⟨h.below, fl.later h.below, sp.later h.below, h.mine, h.names, ok.fs, fun hl k hk => Nat.lt_of_lt_of_le (fl.lt hl k hk) h.below.size, fun hl k hk => Nat.lt_of_lt_of_le (sp.lt hl k hk) h.below.size, fun _ _ hk => (ok.lt hk).2, (h.mine.lt (k := gm) rfl).2, (h.names.lt (k := gn) rfl).2, Nat.le_refl _, h.below.size, h.hn, h.hm⟩
end Go.Proofs.YtgibjnfaagnbfadGreatDoor
