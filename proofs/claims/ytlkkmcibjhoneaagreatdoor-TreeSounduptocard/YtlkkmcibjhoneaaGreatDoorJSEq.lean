/-
  What came in: bytes, the steps of a script.
  The three variables, as they are laid.
  Two files held against each other.
-/
import Derived.Test.YtlkkmcibjhoneaaGreatDoorJKn2
import Derived.Test.YtlkkmcibjhoneaaGreatDoorTr
import Derived.ChangeSlices
import Derived.Test.YtlkkmcibjhoneaaGreatDoorJWw
import Derived.Test.YtlkkmcibjhoneaaGreatDoorJFil
import Derived.Test.YtlkkmcibjhoneaaGreatDoorFiles
import Derived.Laws.StructEq
namespace Go.Proofs.YtlkkmcibjhoneaaGreatDoor
open Go.ChangeShapes Go.WideShapes Go.ChangeAt Go.RowKit Go.Deep

set_option maxRecDepth 100000 in
theorem cells34 : Tryz.prog.cellsOf 34 = 8 := by kernel_rfl
set_option maxRecDepth 100000 in
theorem cells32 : Tryz.prog.cellsOf 32 = 1 := by kernel_rfl
theorem bulk_one {H : Type} (d : DataW H) : 1 ≤ Rows.uptoBulk d := by
  cases d with
  | lit l => cases l <;> simp [Rows.uptoBulk]
  | nil => simp [Rows.uptoBulk]
  | ptr d => simp [Rows.uptoBulk]
  | slice elems spare => simp [Rows.uptoBulk]
  | agg parts => simp [Rows.uptoBulk]
  | iface t d => simp [Rows.uptoBulk]
  | map entries => simp [Rows.uptoBulk]
  | held h => simp [Rows.uptoBulk]
theorem bulk_lenAll {H : Type} (l : List (DataW H)) : l.length ≤ Rows.uptoBulkAll l := by
  induction l with
  | nil => simp [Rows.uptoBulkAll]
  | cons x r ih => have := bulk_one x; simp only [Rows.uptoBulkAll, List.length_cons]; omega
set_option maxRecDepth 100000 in
/-- bytes that came in -/
theorem bytes_of {H : Type} {enc : TypeId × Value → H} {W : World} {fuel : Nat} {v : Value} {d : DataW H} {ps : List MemPlace} (h : DataW.trod enc Tryz.prog W 0 (fun _ => true) true fuel 32 [v] = some (d, ps)) :
    ∃ (l : List UInt8), (∃ a n c, v = .slice a n c) ∧ BS W v l ∧ (l ≠ [] → ∀ j, v.ownBlock = some j → j < W.heap.size) ∧ l.length ≤ Rows.uptoBulk d := by
  rcases open_ints Tryz.underlying32 Tryz.underlying5 (by kernel_rfl) h with ⟨hcs, _⟩ | ⟨x, len0, cap0, zs, hcs, _, hl, hm, hz, hx, hcell, hwz⟩
  · injection hcs with hcs _
    subst hcs
    exact ⟨[], ⟨_, _, _, rfl⟩, .inl ⟨⟨_, _, rfl⟩, rfl⟩, fun h => absurd rfl h, by simp⟩
  · injection hcs with hcs _
    subst hcs
    simp at hz
    have hd : d = .slice (lits .u8 (zs.take len0)) (lits .u8 (zs.drop len0)) := by simpa using congrArg Prod.fst hx
    have hb : len0 ≤ Rows.uptoBulk d := by
      rw [hd]
      simp only [Rows.uptoBulk]
      have := bulk_lenAll (H := H) (lits .u8 (zs.take len0))
      have e : (lits (H := H) .u8 (zs.take len0)).length = len0 := by simp [lits]; omega
      omega
    by_cases h0 : len0 = 0
    · subst h0
      exact ⟨[], ⟨_, _, _, rfl⟩, .inl ⟨⟨_, _, rfl⟩, rfl⟩, fun h => absurd rfl h, by simp⟩
    · obtain ⟨b, off, rfl, hc⟩ := ints_at hcell (by omega)
      have hlt : b < W.heap.size := World.block_lt_of_cell? W ⟨b, off + 0, none⟩ (hc 0 (by omega))
      refine ⟨(zs.take len0).map fun n => UInt8.ofNat n.toNat, ⟨_, _, _, rfl⟩, .inr ⟨b, off, cap0, by simp; omega, by simp; omega, hlt, fun i u hu => ?_⟩, fun _ j hj => ?_, by simp; omega⟩
      · have hi : i < len0 := by
          have := (List.getElem?_eq_some_iff.1 hu).1
          simp [bc_length] at this
          omega
        rw [hc i (by omega), ← hu, bc_get]
        have hw := hwz (zs.getD i 0) (by rw [List.getD_eq_getElem?_getD, List.getElem?_eq_getElem (by omega)]; exact List.getElem_mem _)
        have hu8 := bounds_u8 hw
        rw [List.getElem?_map, List.getElem?_take_of_lt hi, List.getElem?_eq_getElem (by omega)]
        rw [List.getD_eq_getElem?_getD, List.getElem?_eq_getElem (by omega)] at hu8 ⊢
        simp only [Option.map_some, Option.getD_some] at hu8 ⊢
        congr 2
        rw [UInt8.toNat_ofNat']
        omega
      · have : b = j := by simpa [Value.ownBlock] using hj
        omega
set_option maxRecDepth 100000 in
theorem open_bytes {H : Type} {enc : TypeId × Value → H} {W : World} {base : Nat} {v : Value} {d : DataW H} {ps : List MemPlace} (hok : Value.okWide Tryz.prog W .any base 32 v)
    (h : DataW.Trod enc Tryz.prog W 0 (fun _ => true) true 32 v d ps) : ∃ l : List UInt8, BS W v l ∧ (l ≠ [] → ∀ j, v.ownBlock = some j → j < W.heap.size) ∧ l.length ≤ Rows.uptoBulk d := by
  obtain ⟨a0, len0, cap0, rfl⟩ := okWide_slice Tryz.underlying32 hok
  obtain ⟨fuel, hf⟩ := h
  obtain ⟨l, _, h1, h2, h3⟩ := bytes_of (by simpa [Value.cells] using hf)
  exact ⟨l, h1, h2, h3⟩
/-- what a step weighs -/
def wtO (o : Opp) : Nat := o.p.length + o.f.path.length + o.f.text.length + o.b.length + 5
def wtOs : List Opp → Nat
  | [] => 0
  | o :: r => wtO o + wtOs r
theorem wtOs_mem : ∀ (l : List Opp), ∀ o ∈ l, wtO o ≤ wtOs l
  | [], o, h => by cases h
  | g :: r, o, h => by
    simp only [wtOs]
    rcases List.mem_cons.1 h with rfl | h
    · omega
    · have := wtOs_mem r o h; omega
theorem wtOs_bsm : ∀ l : List Opp, bsm l ≤ wtOs l
  | [] => by simp [bsm, wtOs]
  | o :: r => by
    have := wtOs_bsm r
    unfold bsm at this ⊢
    simp only [List.map_cons, List.sum_cons, wtOs, wtO]
    omega
theorem wtOs_range {H : Type} (q : Nat → Opp × Value) (D : Nat → DataW H) : ∀ r : List Nat, (∀ i ∈ r, wtO (q i).1 ≤ Rows.uptoBulk (D i)) → wtOs (r.map fun i => (q i).1) ≤ Rows.uptoBulkAll (r.map D)
  | [], _ => by simp [wtOs]
  | i :: r, h => by
    have h1 := h i (by simp)
    have h2 := wtOs_range q D r (fun j hj => h j (by simp [hj]))
    simp only [List.map_cons, wtOs, Rows.uptoBulkAll]
    omega
/-- numbers that a machine has -/
structure Onm (o : Opp) : Prop where
  k0 : -9223372036854775808 ≤ o.kind
  k1 : o.kind ≤ 9223372036854775807
  n0 : -9223372036854775808 ≤ o.n
  n1 : o.n ≤ 9223372036854775807
  b0 : -9223372036854775808 ≤ o.f.blob
  b1 : o.f.blob ≤ 9223372036854775807
  s0 : -9223372036854775808 ≤ o.f.size
  s1 : o.f.size ≤ 9223372036854775807
/-- a step's cells -/
def opl (o : Opp) (u : Value) : List Value := [.int .i64 o.kind, .string (bs o.p), .string (bs o.f.path), .string (bs o.f.text), .int .i64 o.f.blob, .int .i64 o.f.size, u, .int .i64 o.n]
set_option maxRecDepth 100000 in
/-- a file that came in -/
theorem fl_of {H : Type} {enc : TypeId × Value → H} {W : World} {fuel : Nat} {v0 v1 v2 v3 : Value} {y : DataW H × List MemPlace} (h2 : DataW.trod enc Tryz.prog W 0 (fun _ => true) true fuel 31 [v0, v1, v2, v3] = some y) :
    ∃ f : Fl, [v0, v1, v2, v3] = [.string (bs f.path), .string (bs f.text), .int .i64 f.blob, .int .i64 f.size] ∧ Rows.uptoBulk y.1 = f.path.length + f.text.length + 5 ∧
      -9223372036854775808 ≤ f.blob ∧ f.blob ≤ 9223372036854775807 ∧ -9223372036854775808 ≤ f.size ∧ f.size ≤ 9223372036854775807 := by
  obtain ⟨xs, k, hk, hxy, _, hxl, hfl⟩ := DataW.trod_struct Tryz.underlying31 h2
  match xs, hxl with
  | [y0, y1, y2, y3], _ =>
    have g0 := hfl 0 _ rfl
    have g1 := hfl 1 _ rfl
    have g2 := hfl 2 _ rfl
    have g3 := hfl 3 _ rfl
    simp [cells3', cells9] at g0 g1 g2 g3
    obtain ⟨s0, e0, x0, ws0⟩ := DataW.trod_string Tryz.underlying9 g0
    obtain ⟨s1, e1, x1, ws1⟩ := DataW.trod_string Tryz.underlying9 g1
    obtain ⟨z2, e2, x2, wz2⟩ := DataW.trod_int Tryz.underlying3 g2
    obtain ⟨z3, e3, x3, wz3⟩ := DataW.trod_int Tryz.underlying3 g3
    simp at e0 e1 e2 e3
    subst e0 e1 e2 e3 x0 x1 x2 x3
    have b2 := bounds_i64 wz2
    have b3 := bounds_i64 wz3
    refine ⟨⟨s0.data.toList, s1.data.toList, z2, z3⟩, rfl, ?_, b2.1, b2.2, b3.1, b3.2⟩
    rw [hxy]
    simp only [List.map_cons, List.map_nil, Rows.uptoBulk, Rows.uptoBulkAll]
    omega
set_option maxRecDepth 100000 in
set_option maxHeartbeats 1000000 in
theorem open_ops {H : Type} {enc : TypeId × Value → H} {W : World} {base : Nat} {v : Value} {d : DataW H} {ps : List MemPlace} (hok : Value.okWide Tryz.prog W .any base 23 v)
    (h : DataW.Trod enc Tryz.prog W 0 (fun _ => true) true 23 v d ps) (hd : Rows.uptoBulk d ≤ 1048576) :
    ∃ S : List Opp, OS (fun k => k < W.heap.size) W v S ∧ (∀ o ∈ S, Ook o) ∧ (∀ o ∈ S, o.f.path.length ≤ 100000000) ∧ bsm S ≤ 1048576 := by
  suffices hs : ∃ S : List Opp, OS (fun k => k < W.heap.size) W v S ∧ (∀ o ∈ S, Onm o) ∧ wtOs S ≤ Rows.uptoBulk d by
    obtain ⟨S, h1, h2, h3⟩ := hs
    have h4 := wtOs_mem S
    have h5 := wtOs_bsm S
    refine ⟨S, h1, fun o ho => ?_, fun o ho => ?_, by omega⟩
    · have := h4 o ho
      unfold wtO at this
      have n := h2 o ho
      exact ⟨by omega, ⟨by omega, by omega, n.b0, n.b1, n.s0, n.s1⟩, by omega, n.n0, n.n1, n.k0, n.k1⟩
    · have := h4 o ho
      unfold wtO at this
      omega
  clear hd
  obtain ⟨a0, len0, cap0, rfl⟩ := okWide_slice Tryz.underlying23 hok
  obtain ⟨fuel, hf⟩ := h
  rcases open_slice Tryz.underlying23 hf with ⟨hcs, _⟩ | ⟨a, len, cap, m, n, D, Pl, hcs, _, hl, hm, hmm, hx, hel⟩
  · simp [Value.cells] at hcs
    obtain ⟨rfl, rfl, rfl⟩ := hcs
    exact ⟨[], ⟨fun _ h => h, none, 0, rfl, (fun k hk => absurd hk (Nat.not_lt_zero k))⟩, (fun o ho => absurd ho (List.not_mem_nil)), Nat.zero_le _⟩
  · simp [Value.cells] at hcs
    obtain ⟨rfl, rfl, rfl⟩ := hcs
    simp at hmm
    subst hmm
    have each : ∀ i, i < m → ∃ q : Opp × Value, (∀ j, j < 8 → W.cell? (a.add (i * 8 + j)) = (opl q.1 q.2)[j]?) ∧ BS W q.2 q.1.b ∧ (q.1.b ≠ [] → ∀ j, q.2.ownBlock = some j → j < W.heap.size) ∧ Onm q.1 ∧ wtO q.1 ≤ Rows.uptoBulk (D i) := by
      intro i hi
      obtain ⟨cs', h1, h2⟩ := hel i hi
      rw [cells34] at h1
      obtain ⟨_, hlen, hcell⟩ := World.cells?_some h1
      obtain ⟨xs, k, hk, hxy, _, hxl, hfl⟩ := DataW.trod_struct Tryz.underlying34 h2
      match xs, hxl, cs', hlen with
      | [y0, y1, y2, y3, y4], _, [v0, v1, v2, v3, v4, v5, v6, v7], _ =>
        have g0 := hfl 0 _ rfl
        have g1 := hfl 1 _ rfl
        have g2 := hfl 2 _ rfl
        have g3 := hfl 3 _ rfl
        have g4 := hfl 4 _ rfl
        simp [cells3', cells9, cells30, cells32] at g0 g1 g2 g3 g4
        obtain ⟨z0, e0, x0, wz0⟩ := DataW.trod_int Tryz.underlying3 g0
        obtain ⟨s1, e1, x1, ws1⟩ := DataW.trod_string Tryz.underlying9 g1
        obtain ⟨z7, e7, x7, wz7⟩ := DataW.trod_int Tryz.underlying3 g4
        obtain ⟨f, ef, fb, fn⟩ := fl_of g2
        obtain ⟨y30, y31⟩ := y3
        obtain ⟨lb, _, hb1, hb2, hb3⟩ := bytes_of g3
        have cc : ∀ j, j < 8 → W.cell? (a.add (i * 8 + j)) = [v0, v1, v2, v3, v4, v5, v6, v7][j]? := fun j hj => by rw [← add_add]; exact hcell j hj
        simp at e0 e1 e7
        simp only [List.cons.injEq, and_true] at ef
        obtain ⟨rfl, rfl, rfl, rfl⟩ := ef
        subst e0 e1 e7 x0 x1 x7
        have b0 := bounds_i64 wz0
        have b7 := bounds_i64 wz7
        have hD : D i = _ := congrArg Prod.fst hxy
        refine ⟨(⟨z0, s1.data.toList, f, lb, z7⟩, v6), fun j hj => ?_, hb1, hb2, ⟨b0.1, b0.2, b7.1, b7.2, fn.1, fn.2.1, fn.2.2.1, fn.2.2.2⟩, ?_⟩
        · rw [cc j hj]
          rfl
        · rw [hD]
          simp only [List.map_cons, List.map_nil, Rows.uptoBulk, Rows.uptoBulkAll, wtO]
          omega
    have hinh : Inhabited (Opp × Value) := ⟨(⟨0, [], zfO, [], 0⟩, default)⟩
    obtain ⟨q, hq⟩ := choose_lt (α := Opp × Value) each
    refine ⟨(List.range len0).map fun i => (q i).1, ⟨fun _ h => h, some a, m, by simp, fun k hk => ?_⟩, fun o ho => ?_, ?_⟩
    · have hk' : k < len0 := by simpa using hk
      obtain ⟨h1, h2, h3, _⟩ := hq k (by omega)
      obtain ⟨b, off, spot⟩ := a
      have h10 := (hq 0 (by omega)).1 0 (by omega)
      have hspot : spot = none := by simpa [Addr.add] using World.cell?_spot h10
      subst hspot
      have hc : ∀ j, j < 8 → W.cell? ⟨b, off + k * 8 + j, none⟩ = (opl (q k).1 (q k).2)[j]? := fun j hj => by
        have := h1 j hj
        rw [add_lit] at this
        rw [← this, Nat.add_assoc]
      refine ⟨b, off, (q k).2, rfl, World.block_lt_of_cell? W _ (hc 0 (by omega)), ?_, ?_⟩
      · simp only [List.getElem_map, List.getElem_range]
        exact ⟨hc 0 (by omega), hc 1 (by omega), hc 2 (by omega), hc 3 (by omega), hc 4 (by omega), hc 5 (by omega), hc 6 (by omega), hc 7 (by omega), h2⟩
      · simp only [List.getElem_map, List.getElem_range]
        exact h3
    · obtain ⟨j, hj, rfl⟩ := List.mem_map.1 ho
      exact (hq j (by have := List.mem_range.1 hj; omega)).2.2.2.1
    · have hd : d = .slice ((List.range len0).map D) ((List.range (m - len0)).map fun j => D (len0 + j)) := by simpa using congrArg Prod.fst hx
      have := wtOs_range q D (List.range len0) (fun i hi => (hq i (by have := List.mem_range.1 hi; omega)).2.2.2.2)
      rw [hd]
      simp only [Rows.uptoBulk]
      omega
end Go.Proofs.YtlkkmcibjhoneaaGreatDoor

namespace Go.Proofs.YtlkkmcibjhoneaaGreatDoor
open Go.ChangeShapes Go.WideShapes Go.ChangeAt Go.RowKit

theorem cells95 : Tryz.prog.cellsOf 95 = 2 := by kernel_rfl
theorem cells4' : Tryz.prog.cellsOf 4 = 1 := by kernel_rfl
theorem g_n : Tryz.prog.globalNamed "copse/tree.nothing" = some 0 := by kernel_rfl
theorem g_d : Tryz.prog.globalNamed "copse/tree.directory" = some 1 := by kernel_rfl
theorem g_f : Tryz.prog.globalNamed "copse/tree.file" = some 2 := by kernel_rfl
theorem cell_bool {P : Program} {w : World} {t : TypeId} {v : Value} (hu : P.underlying t = some .bool) (h : Cell.ok P w .any 0 t v) : ∃ b, v = .bool b := by
  unfold Cell.ok at h
  rw [hu] at h
  cases v <;> first | (simp at h; done) | exact ⟨_, rfl⟩
set_option maxRecDepth 100000 in
theorem pair_of_shape {w : World} {g : Nat} (h : w.ShapedOpen Tryz.prog) (hg : g < Tryz.prog.globals.size)
    (h0 : ((begin Tryz.prog (fun _ _ => 0) default).world.heap[g]?).bind Obj.row? = some (#[.bool false, .bool false], 95)) : ∃ a b, w.heap[g]? = some (.cells #[.bool a, .bool b] 95 (0, 0)) := by
  obtain ⟨cs, hh, hs, hr⟩ := h.1 g _ 95 hg h0
  obtain ⟨ts, hts, _, hall⟩ := hr (by kernel_rfl)
  rw [show Tryz.prog.cellTypes Tryz.prog.depth 95 = some [4, 4] by kernel_rfl] at hts
  cases hts
  have hs2 : cs.size = 2 := hs
  obtain ⟨u, hu, h1⟩ := hall 0 cs[0] (by simp [hs2])
  obtain ⟨u', hu', h2⟩ := hall 1 cs[1] (by simp [hs2])
  have e1 : u = 4 := by simpa using hu.symm
  have e2 : u' = 4 := by simpa using hu'.symm
  subst e1
  subst e2
  obtain ⟨a, ha⟩ := cell_bool Tryz.underlying4 h1
  obtain ⟨b, hb⟩ := cell_bool Tryz.underlying4 h2
  refine ⟨a, b, ?_⟩
  rw [hh]
  congr 2
  apply Array.ext
  · simp [hs2]
  · intro i hi1 hi2
    rcases (show i = 0 ∨ i = 1 by omega) with rfl | rfl
    · exact ha
    · exact hb
theorem trod95 {w : World} {fuel : Nat} {a b : Bool} {d : DataW Unit} {p : List MemPlace} (h : DataW.trod (fun _ => ()) Tryz.prog w 0 (fun _ => true) false fuel 95 [.bool a, .bool b] = some (d, p)) : d = .agg [.lit (.bool a), .lit (.bool b)] := by
  cases fuel with
  | zero => cases h
  | succ fuel =>
    cases fuel with
    | zero => simp [DataW.trod, cells95, List.range, List.range.loop] at h
    | succ fuel =>
      simp [DataW.trod, cells95, cells4', Tryz.underlying4, List.range, List.range.loop] at h
      exact h.1.symm
theorem pair_laid {w : World} {n : String} {g : Nat} {x y : Bool} {cs : Array Value} {fuel : Nat} {p : List MemPlace} (hn : Tryz.prog.globalNamed n = some g) (hs : ∃ a b, w.heap[g]? = some (.cells #[.bool a, .bool b] 95 (0, 0)))
    (hv : w.var? Tryz.prog n = some cs) (ht : DataW.trod (fun _ => ()) Tryz.prog w 0 (fun _ => true) false fuel 95 cs.toList = some (.agg [.lit (.bool x), .lit (.bool y)], p)) : w.heap[g]? = some (.cells #[.bool x, .bool y] 95 (0, 0)) := by
  obtain ⟨a, b, hh⟩ := hs
  have hc : cs = #[.bool a, .bool b] := by
    simp [World.var?, hn, hh] at hv
    exact hv.symm
  subst hc
  have := trod95 ht
  simp at this
  rw [hh, this.1, this.2]
/-- what the rows list -/
noncomputable def laid9 : List (String × DataW Unit) := Rows.treeStopsUptoRow.laid
set_option maxRecDepth 100000 in
theorem env_of {W : World} (h : laidMetH Tryz.prog laid9 W) (hsh : W.ShapedOpen Tryz.prog) : Ev W := by
  have h' : laidMet Tryz.prog [("copse/tree.nothing", Rows.laid_copse_tree_nothing), ("copse/tree.directory", Rows.laid_copse_tree_directory), ("copse/tree.file", Rows.laid_copse_tree_file)] W := h
  obtain ⟨ps, ⟨g0, t0, c0, f0, p0, q0, a1, a2, a3, a4, ⟨g1, t1, c1, f1, p1, q1, b1, b2, b3, b4, ⟨g2, t2, c2, f2, p2, q2, d1, d2, d3, d4, _⟩, _⟩, _⟩, _⟩ := h'
  obtain rfl : g0 = 0 := Option.some.inj (a1.symm.trans g_n)
  obtain rfl : g1 = 1 := Option.some.inj (b1.symm.trans g_d)
  obtain rfl : g2 = 2 := Option.some.inj (d1.symm.trans g_f)
  obtain rfl : t0 = 95 := Option.some.inj (a2.symm.trans (by kernel_rfl))
  obtain rfl : t1 = 95 := Option.some.inj (b2.symm.trans (by kernel_rfl))
  obtain rfl : t2 = 95 := Option.some.inj (d2.symm.trans (by kernel_rfl))
  have s0 := pair_of_shape (g := 0) hsh (of_decide_eq_true (by kernel_rfl)) (by kernel_rfl)
  have s1 := pair_of_shape (g := 1) hsh (of_decide_eq_true (by kernel_rfl)) (by kernel_rfl)
  have s2 := pair_of_shape (g := 2) hsh (of_decide_eq_true (by kernel_rfl)) (by kernel_rfl)
  refine ⟨pair_laid g_n s0 a3 a4, pair_laid g_d s1 b3 b4, pair_laid g_f s2 d3 d4, ?_⟩
  obtain ⟨zs, hz⟩ : ∃ zs, ((begin Tryz.prog (fun _ _ => 0) default).world.heap[3]?).bind Obj.row? = some (zs, 3) := ⟨#[.int .i64 0], by kernel_rfl⟩
  obtain ⟨cs, hh, _, _⟩ := hsh.1 3 zs 3 (of_decide_eq_true (by kernel_rfl)) hz
  have := (Array.getElem?_eq_some_iff.1 hh).1
  omega
end Go.Proofs.YtlkkmcibjhoneaaGreatDoor

namespace Go.Proofs.YtlkkmcibjhoneaaGreatDoor
open Go.RowKit

theorem Own.len {base : Nat} {w : World} {v : Value} {l : List (List UInt8)} (h : Own base w v l) : ∃ a c, v = .slice a l.length c := by
  obtain ⟨a, c, e, _⟩ := h.bs.form
  exact ⟨a, c, e⟩

theorem bdrewN {B : Nat} {w w1 : World} {n : Nat} (h : Below B w w1) : Below B w (w1.drewN n) := ⟨h.os, h.tape, h.output, h.size, h.block⟩
end Go.Proofs.YtlkkmcibjhoneaaGreatDoor

namespace Go.Proofs.YtlkkmcibjhoneaaGreatDoor
open Go.RowKit

theorem st30 : Tryz.prog.underlying 31 = some (.struct (Tryz.prog.fieldsOf 31)) := by kernel_rfl
theorem held30 : Tryz.prog.stoodInHeld 31 = false := by kernel_rfl
theorem guard30 : Tryz.prog.eqGuardType Tryz.prog.depth 31 = false := by kernel_rfl
theorem flds30 : (Tryz.prog.fieldsOf 31).toList.map (fun f => (f.name, f.type, f.offset)) = [("Path", 9, 0), ("Text", 9, 1), ("Blob", 3, 2), ("Size", 3, 3)] := by kernel_rfl
theorem u9 : Tryz.prog.underlying 9 = some .string := by kernel_rfl
theorem u3 : Tryz.prog.underlying 3 = some (.int .i64) := by kernel_rfl
theorem agg9 (w : World) : (isAgg 9).run Tryz.prog w = .ok false w := by simp [isAgg, run_underlying u9]
theorem fequal_run (w : World) (p t p' t' : List UInt8) (b s b' s' : Int) :
    (Op.equalIn 10000 31 (.agg #[.string (bs p), .string (bs t), .int .i64 b, .int .i64 s]) (.agg #[.string (bs p'), .string (bs t'), .int .i64 b', .int .i64 s'])).run Tryz.prog w = .ok (feq ⟨p, t, b, s⟩ ⟨p', t', b', s'⟩) w := by
  rw [run_equalIn_struct w 9999 31 _ _ st30 held30]
  have h := flds30
  revert h
  generalize (Tryz.prog.fieldsOf 31).toList = L
  intro h
  have hl : L.length = 4 := by have := congrArg List.length h; simpa using this
  obtain ⟨f0, f1, f2, f3, rfl⟩ : ∃ f0 f1 f2 f3, L = [f0, f1, f2, f3] := by
    rcases L with _ | ⟨f0, _ | ⟨f1, _ | ⟨f2, _ | ⟨f3, _ | ⟨f4, r⟩⟩⟩⟩⟩
    · simp at hl
    · simp at hl
    · simp at hl
    · simp at hl
    · exact ⟨f0, f1, f2, f3, rfl⟩
    · simp at hl
  · simp only [List.map_cons, List.map_nil, List.cons.injEq, Prod.mk.injEq, and_true] at h
    obtain ⟨⟨n0, t0, o0⟩, ⟨n1, t1, o1⟩, ⟨n2, t2, o2⟩, ⟨n3, t3, o3⟩⟩ := h
    have e9 : ∀ (a c : List UInt8) (w : World), (Op.equalIn 9999 9 (.string (bs a)) (.string (bs c))).run Tryz.prog w = .ok (a == c) w := fun a c w => by
      have := run_equalIn_string (P := Tryz.prog) w 9998 9 (bs a) (bs c) u9
      rw [bs_toList, bs_toList] at this; exact this
    have e3 : ∀ (a c : Int) (w : World), (Op.equalIn 9999 3 (.int .i64 a) (.int .i64 c)).run Tryz.prog w = .ok (a == c) w := fun a c w => run_equalIn_int (P := Tryz.prog) w 9998 3 .i64 .i64 a c u3
    simp only [Op.eqFields, n0, n1, n2, n3, t0, t1, t2, t3, o0, o1, o2, o3]
    have g0 : ("Path" : String) ≠ "_" := by decide
    have g1 : ("Text" : String) ≠ "_" := by decide
    have g2 : ("Blob" : String) ≠ "_" := by decide
    have g3 : ("Size" : String) ≠ "_" := by decide
    simp only [g0, g1, g2, g3, ne_eq, not_false_eq_true, if_true, part, Sem.run_bind, agg9, Result.andThen_ok, Bool.false_eq_true, if_false]
    simp [e9, e3, feq]
    by_cases hp : p = p' <;> by_cases ht : t = t' <;> by_cases hb : b = b' <;> by_cases hs : s = s' <;> simp [hp, ht, hb, hs]
theorem feql_run (w : World) (p t p' t' : List UInt8) (b s b' s' : Int) :
    (binOp .eql 31 (.agg #[.string (bs p), .string (bs t), .int .i64 b, .int .i64 s]) (.agg #[.string (bs p'), .string (bs t'), .int .i64 b', .int .i64 s'])).run Tryz.prog w = .ok (.bool (feq ⟨p, t, b, s⟩ ⟨p', t', b', s'⟩)) w := by
  rw [run_eql_struct, fequal_run]; rfl
theorem neq_run (w : World) (p t p' t' : List UInt8) (b s b' s' : Int) :
    (binOp .neq 31 (.agg #[.string (bs p), .string (bs t), .int .i64 b, .int .i64 s]) (.agg #[.string (bs p'), .string (bs t'), .int .i64 b', .int .i64 s'])).run Tryz.prog w = .ok (.bool (!feq ⟨p, t, b, s⟩ ⟨p', t', b', s'⟩)) w := by
  rw [run_neq_struct, fequal_run]; rfl
theorem fguard_run (w : World) (op : BinOp) (x y : Operand) (xs ys : Array Value) : (eqGuard op 31 x y (.agg xs) (.agg ys)).run Tryz.prog w = .ok () w := run_eqGuard_agg w op 31 x y xs ys guard30
end Go.Proofs.YtlkkmcibjhoneaaGreatDoor
