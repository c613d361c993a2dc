/-
  Four lists of files, each in memory of its own: marks, and the longer ones.
-/
import Derived.Test.YtgibjnfaagnbfadGreatDoorRead
import Derived.Deep.OwnRows
import Derived.Laws.OwnMore
namespace Go.Proofs.YtgibjnfaagnbfadGreatDoor
open Go.RowKit

/-- the mark of list number i -/
def mkF (i : Nat) : Fl := ⟨[109, 97, 114, 107], [], 0, (i : Int)⟩
theorem fc_set : ∀ (l : List Fl) (i : Nat) (f : Fl), fc (l.set i f) = ((((fc l).set (i * 4) (.string (bs f.path))).set (i * 4 + 1) (.string (bs f.text))).set (i * 4 + 2) (.int .i64 f.blob)).set (i * 4 + 3) (.int .i64 f.size)
  | [], i, f => by simp [fc]
  | g :: r, 0, f => by simp [fc]
  | g :: r, i + 1, f => by
    rw [List.set_cons_succ, fc, fc_set r i f, show (i + 1) * 4 = i * 4 + 4 by omega]
    simp [fc]
theorem own_setF {base : Nat} {w : World} {g n cap : Nat} {l : List Fl} (h : OwnF base w (.slice (some ⟨g, 0, none⟩) n cap) l) (i : Nat) (f : Fl) :
    OwnF base ((((w.setCell ⟨g, i * 4, none⟩ (.string (bs f.path))).setCell ⟨g, i * 4 + 1, none⟩ (.string (bs f.text))).setCell ⟨g, i * 4 + 2, none⟩ (.int .i64 f.blob)).setCell ⟨g, i * 4 + 3, none⟩ (.int .i64 f.size)) (.slice (some ⟨g, 0, none⟩) n cap) (l.set i f) := by
  rcases h.2 with ⟨e, _⟩ | ⟨g', cap', cur, e, hbg, hg, hn, hcm, hcs, htake⟩
  · cases e
  · injection e with e1 e2 e3
    injection e1 with e1
    injection e1 with e1 _ _
    subst e1
    subst e3
    refine ⟨by rw [fc_length, List.length_set], .inr ⟨g, cap, _, by rw [List.length_set, e2], hbg, heap_setCell _ _ _ _ (heap_setCell _ _ _ _ (heap_setCell _ _ _ _ (heap_setCell w g _ _ hg))), by rw [List.length_set]; exact hn, hcm, by simpa using hcs, ?_⟩⟩
    rw [List.length_set, fc_set]
    have h2 : cur.toList.take (l.length * 4) = fc l := htake
    rw [← h2]
    simp only [Array.toList_setIfInBounds, List.take_set]
theorem own_cellF {base : Nat} {w : World} {g n cap : Nat} {l : List Fl} (h : OwnF base w (.slice (some ⟨g, 0, none⟩) n cap) l) (i : Nat) (hi : i < l.length) :
    (w.cell? ⟨g, i * 4, none⟩ = some (.string (bs l[i].path)) ∧ w.cell? ⟨g, i * 4 + 1, none⟩ = some (.string (bs l[i].text)) ∧ w.cell? ⟨g, i * 4 + 2, none⟩ = some (.int .i64 l[i].blob) ∧ w.cell? ⟨g, i * 4 + 3, none⟩ = some (.int .i64 l[i].size)) ∧
    (w.frozen? ⟨g, i * 4, none⟩ = false ∧ w.frozen? ⟨g, i * 4 + 1, none⟩ = false ∧ w.frozen? ⟨g, i * 4 + 2, none⟩ = false ∧ w.frozen? ⟨g, i * 4 + 3, none⟩ = false) ∧ base ≤ g ∧ g < w.heap.size := by
  have hlt := h.lt (k := g) rfl
  obtain ⟨c0, c1, c2, c3⟩ := fc_get l i hi
  have hc : ∀ j u, (fc l)[j]? = some u → w.cell? ⟨g, j, none⟩ = some u := fun j u hu => by
    have := World.ownsRow.cells h (g := g) rfl j u hu
    rw [add_lit, Nat.zero_add] at this
    exact this
  have hf : ∀ j, w.frozen? ⟨g, j, none⟩ = false := fun j => by
    rcases h.2 with ⟨e, _⟩ | ⟨g', cap', cur, e, hbg, hg, _⟩
    · cases e
    · injection e with e1 e2 e3
      injection e1 with e1
      injection e1 with e1 _ _
      subst e1
      simp [World.frozen?, hg]
  exact ⟨⟨hc _ _ c0, hc _ _ c1, hc _ _ c2, hc _ _ c3⟩, ⟨hf _, hf _, hf _, hf _⟩, hlt⟩
theorem FS.only {S : List Nat} {w w' : World} {v : Value} {l : List Fl} (h : FS w v l) (ho : Only S w w') (hn : ∀ g, v.ownBlock = some g → g ∉ S) : FS w' v l := by
  rcases h with h | ⟨b, off, cap, rfl, hc, hlt, hcell⟩
  · exact .inl h
  · refine .inr ⟨b, off, cap, rfl, hc, Nat.lt_of_lt_of_le hlt ho.size, fun i u hu => ?_⟩
    rw [World.cell?_of_block (w := w) (ho.block b hlt (hn b rfl))]
    exact hcell i u hu
theorem FS.grown {w w' : World} {v : Value} {l : List Fl} {row : Option Nat} (h : FS w v l) (hg : w.grownBy w' row) (hn : v.ownBlock = none ∨ row ≠ v.ownBlock) : FS w' v l := by
  rcases h with h | ⟨b, off, cap, rfl, hc, hlt, hcell⟩
  · exact .inl h
  · refine .inr ⟨b, off, cap, rfl, hc, Nat.lt_of_lt_of_le hlt hg.size, fun i u hu => ?_⟩
    have hb : w'.heap[b]? = w.heap[b]? := hg.block b hlt (fun e => by
      rcases hn with h0 | h0
      · simp [Value.ownBlock] at h0
      · exact h0 (by rw [← e]; rfl))
    rw [World.cell?_of_block (w := w) hb]
    exact hcell i u hu
/-- the block of a value, as a list -/
def bl (v : Value) : List Nat := v.ownBlock.toList
theorem mem_bl {v : Value} {g : Nat} : g ∈ bl v ↔ v.ownBlock = some g := by
  unfold bl
  cases v.ownBlock with
  | none => simp
  | some k => simp [eq_comm]
theorem only_grown {w w' : World} {row : Option Nat} (h : w.grownBy w' row) : Only row.toList w w' :=
  ⟨h.os, h.tape, h.output, h.size, fun k hk hn => h.block k hk (by
    intro e
    apply hn
    rw [← e]; simp)⟩
theorem OwnF.form' {base : Nat} {w : World} {v : Value} {l : List Fl} (h : OwnF base w v l) : (v = .slice none 0 0 ∧ l = []) ∨ ∃ g c, v = .slice (some ⟨g, 0, none⟩) l.length c ∧ l.length ≤ c ∧ base ≤ g ∧ g < w.heap.size := by
  rcases h.2 with ⟨rfl, h0⟩ | ⟨g, cap, cur, rfl, hb, hg, hn, _⟩
  · exact .inl ⟨rfl, List.eq_nil_of_length_eq_zero h0⟩
  · exact .inr ⟨g, cap, rfl, hn, hb, (Array.getElem?_eq_some_iff.1 hg).1⟩
theorem fs_of_own {base : Nat} {w : World} {g n m c c' : Nat} {l : List Fl} (h : OwnF base w (.slice (some ⟨g, 0, none⟩) m c) l) (hn : n ≤ l.length) (hc : n ≤ c') : FS w (.slice (some ⟨g, 0, none⟩) n c') (l.take n) := by
  have hlt := (h.lt (k := g) rfl).2
  have e : (l.take n).length = n := by simp; omega
  have ef : fc l = fc (l.take n) ++ fc (l.drop n) := by rw [← fc_append, List.take_append_drop]
  refine .inr ⟨g, 0, c', by rw [e], by omega, hlt, fun i u hu => ?_⟩
  have hi := (List.getElem?_eq_some_iff.1 hu).1
  have := World.ownsRow.cells h (g := g) rfl i u (by rw [ef, List.getElem?_append_left hi]; exact hu)
  rw [add_lit] at this; exact this

/-- append where there is room: the same row, the same capacity -/
theorem run_append_intoF (w : World) (base g n cap : Nat) (ty : TypeId) (l : List Fl) (k : List Fl) (x : Value)
    (hown : OwnF base w (.slice (some ⟨g, 0, none⟩) n cap) l) (hs : Src Tryz.prog 4 22 x k.length (fc k) w) (hn : l.length = n) (hroom : n + k.length ≤ cap) :
    ∃ w', (Builtin.append_ #[22, 22] ty #[.slice (some ⟨g, 0, none⟩) n cap, x]).run Tryz.prog w = .ok (.slice (some ⟨g, 0, none⟩) (n + k.length) cap) w' ∧
      OwnF base w' (.slice (some ⟨g, 0, none⟩) (n + k.length) cap) (l ++ k) ∧ w.grownBy w' (some g) := by
  obtain ⟨i, hi, hz0, hz1, hz2⟩ := info_parts info26
  subst hn
  rcases hown.2 with ⟨h0, _⟩ | ⟨g', cap', cur, e, hbg, hg, hnc, hcm, hcs, htake⟩
  · cases h0
  injection e with e1 e2 e3
  injection e1 with e1
  injection e1 with e1 _ _
  subst e1
  subst e3
  have hfit : l.length * i.size + (fc k).length ≤ cur.size := by rw [hz1, fc_length, hcs]; omega
  have hst := run_storeCells_at Tryz.prog g (l.length * i.size) 26 (fc k) 0 cur w hg (by simpa using hfit) hs.one
  simp only [Nat.add_zero] at hst
  have hr : (Builtin.append_ #[22, 22] ty #[.slice (some ⟨g, 0, none⟩) l.length cap, x]).run Tryz.prog w =
      .ok (.slice (some ⟨g, 0, none⟩) (l.length + k.length) cap) (w.setRow g (cur.toList.take (l.length * i.size) ++ fc k ++ cur.toList.drop (l.length * i.size + (fc k).length)).toArray) := by
    rw [← hz1] at hs
    simp [Builtin.append_, run_underlying und22, sizeOf, typeInfo, hi, hs.len, hroom, hs.cells, Addr.add_lit, hst]
  refine ⟨_, hr, ⟨by rw [fc_append, List.length_append, fc_length, fc_length, List.length_append]; omega, .inr ⟨g, cap, _, by rw [List.length_append], hbg, setRow_heap w g cur _ 26 _ hg, by rw [List.length_append]; omega, hcm, ?_, ?_⟩⟩, ⟨rfl, rfl, rfl, by simp, fun k' _ hk => setRow_other w g k' _ (fun e => hk (by simp [e]))⟩⟩
  · simp only [List.size_toArray, List.length_append, List.length_take, List.length_drop, Array.length_toList, fc_length, hz1]
    simp only [fc_length, hz1] at hfit
    omega
  · have ht : cur.toList.take (l.length * 4) = fc l := htake
    rw [hz1, ht, fc_append, List.length_append]
    have e4 : (l.length + k.length) * 4 = (fc l ++ fc k).length := by rw [List.length_append, fc_length, fc_length]; omega
    rw [e4]
    exact List.take_left
theorem below_drew_alloc (w : World) (o : Obj) : Below w.heap.size w (w.drew.alloc o) := (Below.refl _ _).drew.alloc (Nat.le_refl _) o

/-- what an append of one file does: in its place, or in new memory while all else stays -/
theorem run_append_put {w1 : World} {base : Nat} {v : Value} {l : List Fl} (f : Fl) (x : Value) (ty : TypeId) (hown1 : OwnF base w1 v l) (hsrc : Src Tryz.prog 4 22 x [f].length (fc [f]) w1) (hb : l.length + 1 ≤ 100000000) (hbase : base ≤ w1.heap.size) :
    ∃ v' w', (Builtin.append_ #[22, 22] ty #[v, x]).run Tryz.prog w1 = .ok v' w' ∧ OwnF base w' v' (l ++ [f]) ∧ ((∃ g n cap, v = .slice (some ⟨g, 0, none⟩) n cap ∧ v' = .slice (some ⟨g, 0, none⟩) (n + 1) cap ∧ w1.grownBy w' (some g)) ∨ (∃ b, v'.ownBlock = some b ∧ w1.heap.size ≤ b ∧ Below w1.heap.size w1 w')) := by
  obtain ⟨i, hi, hz0, hzs, hz2⟩ := info_parts info26
  obtain ⟨v2, w2, hr2, h2, _, _⟩ := run_append_src (P := Tryz.prog) w1 base 22 22 ty 26 i _ 4 48 und22 hi hz0 hzs hz2 rfl v l.length (fc l) hown1 x [f].length (fc [f]) hsrc (by simp only [maxLen, List.length_cons, List.length_nil]; omega) (by simp only [List.length_cons, List.length_nil]; omega) hbase
  have hO2 : OwnF base w2 v2 (l ++ [f]) := by unfold OwnF; rw [fc_append, List.length_append]; exact h2
  rcases hown1.2 with ⟨rfl, h0⟩ | ⟨g, cap, cur, rfl, hbg, hg, hnc, hcm, hcs, htake⟩
  · have hl : l = [] := List.eq_nil_of_length_eq_zero h0
    subst hl
    have hr := run_append_grow_src (P := Tryz.prog) w1 22 22 ty 26 i _ und22 hi hz0 none 0 0 [] (run_firstCells_none w1.drew i.size 0 0 0) x 1 (fc [f]) (by rw [hzs]; exact hsrc) (by omega) (by omega) (growslice_fits (by omega) (by rw [hz2]; omega))
    rw [hr2] at hr
    injection hr with e1 e2
    refine ⟨v2, w2, hr2, hO2, .inr ⟨w1.heap.size, by rw [e1]; rfl, Nat.le_refl _, ?_⟩⟩
    rw [e2]
    exact below_drew_alloc w1 _
  · by_cases hroom : l.length + 1 ≤ cap
    · obtain ⟨w3, hr3, h3, hg3⟩ := run_append_intoF w1 base g l.length cap ty l [f] _ hown1 hsrc rfl hroom
      exact ⟨_, w3, hr3, h3, .inl ⟨g, l.length, cap, rfl, rfl, hg3⟩⟩
    · have holds : ∀ j u, (fc l)[j]? = some u → w1.cell? ((⟨g, 0, none⟩ : Addr).add j) = some u := World.ownsRow.cells hown1 (g := g) rfl
      have hr := run_append_grow_src (P := Tryz.prog) w1 22 22 ty 26 i _ und22 hi hz0 (some ⟨g, 0, none⟩) l.length cap (fc l) (run_firstCells_some w1.drew i.size l.length _ l.length cap (fc l) (by rw [fc_length, hzs]) (by simpa using holds)) x 1 (fc [f]) (by rw [hzs]; exact hsrc) (by omega) (by omega) (growslice_fits (by omega) (by rw [hz2]; omega))
      rw [hr2] at hr
      injection hr with e1 e2
      refine ⟨v2, w2, hr2, hO2, .inr ⟨w1.heap.size, by rw [e1]; rfl, Nat.le_refl _, ?_⟩⟩
      rw [e2]
      exact below_drew_alloc w1 _

/-- four lists in block ga, each in memory of its own -/
structure Quad (w : World) (ga : Nat) (V : Nat → Value) : Prop where
  cell : ∀ i, i < 4 → w.cell? ⟨ga, i, none⟩ = some (V i)
  galt : ga < w.heap.size
  ne : ∀ i, i < 4 → (V i).ownBlock ≠ some ga
  lt : ∀ i, i < 4 → ∀ g, (V i).ownBlock = some g → g < w.heap.size
  apart : ∀ i j, i < 4 → j < 4 → i ≠ j → ∀ g, (V i).ownBlock = some g → (V j).ownBlock ≠ some g
theorem Quad.only {S : List Nat} {w w' : World} {ga : Nat} {V : Nat → Value} (h : Quad w ga V) (ho : Only S w w') (hg : ga ∉ S) : Quad w' ga V :=
  ⟨fun i hi => by rw [World.cell?_of_block (w := w) (ho.block ga h.galt hg)]; exact h.cell i hi, Nat.lt_of_lt_of_le h.galt ho.size, h.ne, fun i hi g hg => Nat.lt_of_lt_of_le (h.lt i hi g hg) ho.size, h.apart⟩
theorem Quad.later {w w' : World} {ga : Nat} {V : Nat → Value} (h : Quad w ga V) (hb : Below w.heap.size w w') : Quad w' ga V := h.only (Only.of_below hb []) (by simp)

/-- the lists (list i has n i files), and the longer ones, behind k rounds -/
structure P4 (B : Nat) (w wr : World) (ga : Nat) (V : Nat → Value) (n : Nat → Nat) (k : Nat) (m : Value) (U : Nat → Value) : Prop where
  quad : Quad wr ga V
  below : Below B w wr
  ss : ∀ i, i < 4 → FS wr (V i) (List.replicate (n i) (mkF i))
  own : ∀ i, i < 4 → k ≤ i → OwnF B wr (V i) (List.replicate (n i) (mkF i))
  more : wr.ownsRow B 22 1 m k ((List.range k).map U)
  su : ∀ i, i < k → FS wr (U i) (List.replicate (n i + 1) (mkF i))
  mga : m.ownBlock ≠ some ga
  mV : ∀ i, i < 4 → ∀ g, m.ownBlock = some g → (V i).ownBlock ≠ some g
  mU : ∀ i, i < k → ∀ g, m.ownBlock = some g → (U i).ownBlock ≠ some g
  ub : ∀ i, i < k → ∀ g, (U i).ownBlock = some g → g < wr.heap.size
  vU : ∀ i, i < 4 → k ≤ i → ∀ j, j < k → ∀ g, (V i).ownBlock = some g → (U j).ownBlock ≠ some g
/-- one list grown by one -/
structure In4 (B : Nat) (wo wr : World) (v g : Value) (n k : Nat) : Prop where
  own : OwnF B wr g (List.replicate (n + 1) (mkF k))
  which : g.ownBlock = v.ownBlock ∨ ∃ b, g.ownBlock = some b ∧ wo.heap.size ≤ b
  ss : FS wr v (List.replicate n (mkF k))
  only : Only (bl v) wo wr
theorem in4_step {B : Nat} {wo wr w' : World} {v g' : Value} {n k : Nat} (hv : OwnF B wo v (List.replicate n (mkF k))) (hb0 : Below wo.heap.size wo wr)
    (ho : OwnF B w' g' (List.replicate n (mkF k) ++ [mkF k]))
    (hc : (∃ b m cap, v = .slice (some ⟨b, 0, none⟩) m cap ∧ g' = .slice (some ⟨b, 0, none⟩) (m + 1) cap ∧ wr.grownBy w' (some b)) ∨ (∃ b, g'.ownBlock = some b ∧ wr.heap.size ≤ b ∧ Below wr.heap.size wr w')) : In4 B wo w' v g' n k := by
  have e : List.replicate n (mkF k) ++ [mkF k] = List.replicate (n + 1) (mkF k) := by rw [List.replicate_succ']
  rw [e] at ho
  rcases hc with ⟨b, m, cap, rfl, rfl, hg⟩ | ⟨b, hb, hge, hbel⟩
  · refine ⟨ho, .inl rfl, ?_, ?_⟩
    · have hle : m = n ∧ n ≤ cap := by
        rcases hv.form' with ⟨e, _⟩ | ⟨g, c, e, hle, _, _⟩
        · cases e
        · injection e with _ e2 e3
          simp at e2 hle
          omega
      have := fs_of_own (n := n) (c' := cap) ho (by simp) hle.2
      rw [List.take_replicate, Nat.min_eq_left (by omega)] at this
      rw [hle.1]; exact this
    · exact (Only.of_below hb0 _).trans (only_grown hg)
  · exact ⟨ho, .inr ⟨b, hb, Nat.le_trans hb0.size hge⟩, (hv.fs.later hb0).later hbel, (Only.of_below hb0 _).trans (Only.of_below hbel _)⟩
theorem p4_next {B : Nat} {w wo wr w' : World} {ga : Nat} {V : Nat → Value} {n : Nat → Nat} {k : Nat} {m m' g : Value} {U : Nat → Value} (h : P4 B w wo ga V n k m U) (hk : k < 4) (i3 : In4 B wo wr (V k) g (n k) k) (hB : B ≤ wo.heap.size)
    (hm : w'.ownsRow B 22 1 m' (k + 1) ((List.range k).map U ++ [g])) (hg : wr.grownBy w' m.ownBlock) (hw : m'.ownBlock = m.ownBlock ∨ ∃ b, m'.ownBlock = some b ∧ wr.heap.size ≤ b) :
    P4 B w w' ga V n (k + 1) m' (fun i => if i = k then g else U i) := by
  have hO := i3.only
  have hG := only_grown hg
  have hmlt : ∀ b, m.ownBlock = some b → b < wo.heap.size := fun b hb => (World.ownsRow.lt h.more b hb).2
  have hsz1 := hO.size
  have hgm : ∀ b, m.ownBlock = some b → g.ownBlock ≠ some b := fun b hb e => by
    rcases i3.which with h1 | ⟨b', h1, h2⟩
    · exact h.mV k hk b hb (by rw [← h1]; exact e)
    · have := hmlt b hb
      rw [h1] at e
      injection e with e
      omega
  have hglt : ∀ b, g.ownBlock = some b → b < wr.heap.size := fun b hb => (i3.own.lt hb).2
  have hvlt : ∀ i, i < 4 → k ≤ i → ∀ b, (V i).ownBlock = some b → b < wo.heap.size := fun i hi hki b hb => ((h.own i hi hki).lt hb).2
  have nG : ∀ b, m.ownBlock ≠ some b → b ∉ m.ownBlock.toList := fun b hb e => by
    cases hmm : m.ownBlock with
    | none => rw [hmm] at e; simp at e
    | some c => rw [hmm] at e; simp at e; subst e; exact hb hmm
  have hBk : ∀ x, x ∈ bl (V k) → B ≤ x := fun x hx => ((h.own k hk (Nat.le_refl _)).lt (mem_bl.1 hx)).1
  have hnew : ∀ b, m'.ownBlock = some b → m.ownBlock = some b ∨ wr.heap.size ≤ b := fun b hb => by
    rcases hw with e | ⟨b', e, hge⟩
    · exact .inl (by rw [← e]; exact hb)
    · rw [e] at hb; injection hb with hb; exact .inr (by omega)
  have hbelow : Below B w w' := by
    refine below_trans h.below (below_trans (hO.below hB hBk) (hG.below (by omega) (fun x hx => ?_)))
    cases hmm : m.ownBlock with
    | none => rw [hmm] at hx; simp at hx
    | some c => rw [hmm] at hx; simp at hx; subst hx; exact (World.ownsRow.lt h.more _ hmm).1
  refine ⟨(h.quad.only hO (fun e => h.quad.ne k hk (mem_bl.1 e))).only hG (nG ga h.mga), hbelow, fun i hi => ?_, fun i hi hki => ?_, ?_, fun i hi => ?_, fun e => ?_, fun i hi b hb e => ?_, fun i hi b hb e => ?_, fun i hi b hb => ?_, fun i hi hki j hj b hb e => ?_⟩
  · by_cases hik : i = k
    · subst hik
      exact i3.ss.only hG (fun b hb => nG b (fun e => h.mV i hi b e hb))
    · exact ((h.ss i hi).only hO (fun b hb e => h.quad.apart i k hi hk hik b hb (mem_bl.1 e))).only hG (fun b hb => nG b (fun e => h.mV i hi b e hb))
  · have hik : i ≠ k := by omega
    exact ((h.own i hi (by omega)).only hO (fun b hb e => h.quad.apart i k hi hk hik b hb (mem_bl.1 e))).only hG (fun b hb => nG b (fun e => h.mV i hi b e hb))
  · have e : (List.range (k + 1)).map (fun i => if i = k then g else U i) = (List.range k).map U ++ [g] := by
      rw [List.range_succ, List.map_append]
      congr 1
      · apply List.map_congr_left
        intro i hi
        have := List.mem_range.1 hi
        rw [if_neg (by omega)]
      · simp
    rw [e]; exact hm
  · show FS w' (if i = k then g else U i) _
    by_cases hik : i = k
    · subst hik
      rw [if_pos rfl]
      exact i3.own.fs.only hG (fun b hb => nG b (fun e => hgm b e hb))
    · rw [if_neg hik]
      exact ((h.su i (by omega)).only hO (fun b hb e => h.vU k hk (Nat.le_refl _) i (by omega) b (mem_bl.1 e) hb)).only hG (fun b hb => nG b (fun e => h.mU i (by omega) b e hb))
  · rcases hnew ga e with e | e
    · exact h.mga e
    · have := h.quad.galt; omega
  · rcases hnew b hb with e' | e'
    · exact h.mV i hi b e' e
    · have := h.quad.lt i hi b e; omega
  · have e2 : (if i = k then g else U i).ownBlock = some b := e
    rcases hnew b hb with e' | e'
    · by_cases hik : i = k
      · rw [if_pos hik] at e2; exact hgm b e' e2
      · rw [if_neg hik] at e2; exact h.mU i (by omega) b e' e2
    · by_cases hik : i = k
      · rw [if_pos hik] at e2; have := hglt b e2; omega
      · rw [if_neg hik] at e2; have := h.ub i (by omega) b e2; omega
  · have hb2 : (if i = k then g else U i).ownBlock = some b := hb
    have hs2 := hG.size
    by_cases hik : i = k
    · rw [if_pos hik] at hb2; have := hglt b hb2; omega
    · rw [if_neg hik] at hb2; have := h.ub i (by omega) b hb2; omega
  · have e2 : (if j = k then g else U j).ownBlock = some b := e
    by_cases hjk : j = k
    · rw [if_pos hjk] at e2
      rcases i3.which with h1 | ⟨b', h1, h2⟩
      · exact h.quad.apart i k hi hk (by omega) b hb (by rw [← h1]; exact e2)
      · rw [h1] at e2
        injection e2 with e2
        have := h.quad.lt i hi b hb
        omega
    · rw [if_neg hjk] at e2; exact h.vU i hi (by omega) j (by omega) b hb e2
end Go.Proofs.YtgibjnfaagnbfadGreatDoor
