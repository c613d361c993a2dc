/-
  Targets that came in.
  Blanks and a comment ahead; how far a fault stands; how much a good list is.
-/
import Derived.Test.YtemoplpfndnklaaGreatDoorJBkA
import Derived.Test.YtemoplpfndnklaaGreatDoorJCutg
import Derived.Test.YtemoplpfndnklaaGreatDoorJJoin
import Derived.Test.YtemoplpfndnklaaGreatDoorGd
namespace Go.Proofs.YtemoplpfndnklaaGreatDoor
open Go.ChangeShapes Go.WideShapes Go.ChangeAt Go.RowKit Go.Deep

def wtS : List (List UInt8) → Nat
  | [] => 0
  | x :: r => x.length + 1 + wtS r
def wtL : List Lb → Nat
  | [] => 0
  | x :: r => x.pkg.length + x.name.length + 3 + wtL r
def wtT (t : Tg) : Nat := t.name.length + wtS t.srcs + wtL t.deps + wtS t.see + 2
def wtG : List Tg → Nat
  | [] => 0
  | t :: r => wtT t + wtG r
theorem cells9 : Tryz.prog.cellsOf 9 = 1 := by kernel_rfl
theorem cells58 : Tryz.prog.cellsOf 58 = 2 := by kernel_rfl
theorem cells37 : Tryz.prog.cellsOf 37 = 4 := by kernel_rfl
theorem cells33 : Tryz.prog.cellsOf 33 = 1 := by kernel_rfl
theorem cells35 : Tryz.prog.cellsOf 35 = 1 := by kernel_rfl
theorem wtS_range {H : Type} (Sx : Nat → ByteArray) : ∀ r : List Nat, wtS (r.map fun i => (Sx i).data.toList) = Rows.uptoBulkAll (r.map fun i => (DataW.lit (.string (Sx i).data.toList) : DataW H))
  | [] => rfl
  | i :: r => by
    have := wtS_range (H := H) Sx r
    simp only [List.map_cons, wtS, Rows.uptoBulkAll, Rows.uptoBulk]
    omega
theorem SS_of_cells {W : World} {a : Addr} {n cap : Nat} (hl : n ≤ cap) (Sx : Nat → ByteArray) (hc : ∀ i, i < n → W.cell? (a.add i) = some (.string (Sx i))) : SS W (.slice (some a) n cap) ((List.range n).map fun i => (Sx i).data.toList) := by
  by_cases h0 : n = 0
  · subst h0
    exact .inl ⟨⟨_, _, rfl⟩, rfl⟩
  · obtain ⟨b, off, spot⟩ := a
    have hspot : spot = none := by simpa [Addr.add] using World.cell?_spot (hc 0 (by omega))
    subst hspot
    have hc0 := hc 0 (by omega)
    rw [add_lit] at hc0
    refine .inr ⟨b, off, cap, by simp, by simpa using hl, World.block_lt_of_cell? W _ hc0, fun i u hu => ?_⟩
    have hi : i < n := by
      have := (List.getElem?_eq_some_iff.1 hu).1
      simpa [sc_length] using this
    have hci := hc i hi
    rw [add_lit] at hci
    rw [hci, ← hu]
    simp [sc, hi]
    rfl
set_option maxRecDepth 100000 in
theorem texts_of {H : Type} {enc : TypeId × Value → H} {W : World} {fuel : Nat} {v : Value} {d : DataW H} {ps : List MemPlace} (h : DataW.trod enc Tryz.prog W 0 (fun _ => true) true fuel 33 [v] = some (d, ps)) :
    ∃ a n c l, v = .slice a n c ∧ SS W v l ∧ wtS l ≤ Rows.uptoBulk d := by
  rcases open_strs Tryz.underlying33 Tryz.underlying9 cells9 h with ⟨hcs, _⟩ | ⟨a, len, cap, m, Sx, hcs, _, hl, hm, hmm, hx, hcell⟩
  · injection hcs with hcs _
    subst hcs
    exact ⟨_, _, _, [], rfl, SS_nil _, by simp [wtS]⟩
  · injection hcs with hcs _
    subst hcs
    simp at hmm
    subst hmm
    have hd : d = .slice ((List.range len).map fun i => .lit (.string (Sx i).data.toList)) ((List.range (m - len)).map fun j => .lit (.string (Sx (len + j)).data.toList)) := by simpa using congrArg Prod.fst hx
    refine ⟨_, _, _, _, rfl, SS_of_cells hl Sx (fun i hi => (hcell i (by omega)).1), ?_⟩
    rw [hd, wtS_range (H := H)]
    simp only [Rows.uptoBulk]
    omega
theorem wtL_range {H : Type} (A B : Nat → ByteArray) : ∀ r : List Nat, wtL (r.map fun i => ⟨(A i).data.toList, (B i).data.toList⟩) = Rows.uptoBulkAll (r.map fun i => (DataW.agg [.lit (.string (A i).data.toList), .lit (.string (B i).data.toList)] : DataW H))
  | [] => rfl
  | i :: r => by
    have := wtL_range (H := H) A B r
    simp only [List.map_cons, wtL, Rows.uptoBulkAll, Rows.uptoBulk]
    omega
theorem LS_of_cells {W : World} {a : Addr} {n cap : Nat} (hl : n ≤ cap) (A B : Nat → ByteArray) (hc : ∀ i, i < n → W.cell? (a.add (i * 2)) = some (.string (A i)) ∧ W.cell? (a.add (i * 2 + 1)) = some (.string (B i))) : LS W (.slice (some a) n cap) ((List.range n).map fun i => ⟨(A i).data.toList, (B i).data.toList⟩) := by
  by_cases h0 : n = 0
  · subst h0
    exact .inl ⟨⟨_, _, rfl⟩, rfl⟩
  · obtain ⟨b, off, spot⟩ := a
    have hspot : spot = none := by simpa [Addr.add] using World.cell?_spot (hc 0 (by omega)).1
    subst hspot
    have hc0 := (hc 0 (by omega)).1
    rw [add_lit] at hc0
    refine .inr ⟨b, off, cap, by simp, by simpa using hl, World.block_lt_of_cell? W _ hc0, fun i u hu => ?_⟩
    have hi : i < n * 2 := by
      have := (List.getElem?_eq_some_iff.1 hu).1
      rw [lc_length] at this
      simpa using this
    have hj : i / 2 < ((List.range n).map fun i => (⟨(A i).data.toList, (B i).data.toList⟩ : Lb)).length := by simp; omega
    obtain ⟨t0, t1⟩ := lc_get _ (i / 2) hj
    obtain ⟨u0, u1⟩ := hc (i / 2) (by omega)
    rw [add_lit] at u0 u1
    simp only [List.getElem_map, List.getElem_range] at t0 t1
    have hr : i % 2 = 0 ∨ i % 2 = 1 := by omega
    rcases hr with hr | hr
    · rw [show i / 2 * 2 = i from by omega] at t0 u0
      rw [t0] at hu
      rw [u0]
      exact hu
    · rw [show i / 2 * 2 + 1 = i from by omega] at t1 u1
      rw [t1] at hu
      rw [u1]
      exact hu
set_option maxRecDepth 100000 in
theorem labels_of {H : Type} {enc : TypeId × Value → H} {W : World} {fuel : Nat} {v : Value} {d : DataW H} {ps : List MemPlace} (h : DataW.trod enc Tryz.prog W 0 (fun _ => true) true fuel 35 [v] = some (d, ps)) :
    ∃ a n c l, v = .slice a n c ∧ LS W v l ∧ wtL l ≤ Rows.uptoBulk d := by
  rcases open_slice_pairs Tryz.underlying35 Tryz.underlying58 cells58 rfl rfl cells9 cells9 h with ⟨hcs, _⟩ | ⟨a, len, cap, m, n, V0, V1, D0, D1, P0, P1, hcs, _, hl, hm, hmm, hx, hcell⟩
  · injection hcs with hcs _
    subst hcs
    exact ⟨_, _, _, [], rfl, LS_nil _, by simp [wtL]⟩
  · injection hcs with hcs _
    subst hcs
    simp at hmm
    subst hmm
    have each : ∀ i, i < m → ∃ q : ByteArray × ByteArray, W.cell? (a.add (i * 2)) = some (.string q.1) ∧ W.cell? (a.add (i * 2 + 1)) = some (.string q.2) ∧ D0 i = .lit (.string q.1.data.toList) ∧ D1 i = .lit (.string q.2.data.toList) := fun i hi => by
      obtain ⟨c0, c1, g0, g1⟩ := hcell i hi
      obtain ⟨s0, e0, x0, _⟩ := DataW.trod_string Tryz.underlying9 g0
      obtain ⟨s1, e1, x1, _⟩ := DataW.trod_string Tryz.underlying9 g1
      simp at e0 e1
      rw [e0] at c0
      rw [e1] at c1
      simp only [Prod.mk.injEq] at x0 x1
      exact ⟨(s0, s1), c0, c1, x0.1, x1.1⟩
    have hinh : Inhabited (ByteArray × ByteArray) := ⟨(.empty, .empty)⟩
    obtain ⟨q, hq⟩ := choose_lt each
    have hd : d = .slice ((List.range len).map fun i => .agg [D0 i, D1 i]) ((List.range (m - len)).map fun j => .agg [D0 (len + j), D1 (len + j)]) := by simpa using congrArg Prod.fst hx
    have hD : (List.range len).map (fun i => (DataW.agg [D0 i, D1 i] : DataW H)) = (List.range len).map fun i => .agg [.lit (.string (q i).1.data.toList), .lit (.string (q i).2.data.toList)] := List.map_congr_left (fun i hi => by
      have := hq i (by have := List.mem_range.1 hi; omega)
      rw [this.2.2.1, this.2.2.2])
    refine ⟨_, _, _, _, rfl, LS_of_cells hl (fun i => (q i).1) (fun i => (q i).2) (fun i hi => ⟨(hq i (by omega)).1, (hq i (by omega)).2.1⟩), ?_⟩
    rw [hd, hD, wtL_range (H := H)]
    simp only [Rows.uptoBulk]
    omega
theorem wtG_range {H : Type} (q : Nat → Tv × Tg) (D : Nat → DataW H) : ∀ r : List Nat, (∀ i ∈ r, wtT (q i).2 ≤ Rows.uptoBulk (D i)) → wtG (r.map fun i => (q i).2) ≤ Rows.uptoBulkAll (r.map D)
  | [], _ => by simp [wtG]
  | i :: r, h => by
    have h1 := h i (by simp)
    have h2 := wtG_range q D r (fun j hj => h j (by simp [hj]))
    simp only [List.map_cons, wtG, Rows.uptoBulkAll]
    omega
theorem TsRead_range {W : World} (q : Nat → Tv × Tg) : ∀ r : List Nat, (∀ i ∈ r, TRead W (q i).1 (q i).2) → TsRead W (r.map fun i => (q i).1) (r.map fun i => (q i).2)
  | [], _ => trivial
  | i :: r, h => ⟨h i (by simp), TsRead_range q r fun j hj => h j (by simp [hj])⟩
theorem GS_of_cells {W : World} {a : Addr} {n cap : Nat} (hl : n ≤ cap) (q : Nat → Tv) (hc : ∀ i, i < n → W.cell? (a.add (i * 4)) = some (.string (bs (q i).name)) ∧ W.cell? (a.add (i * 4 + 1)) = some (.slice (q i).sa (q i).sn (q i).sc) ∧ W.cell? (a.add (i * 4 + 2)) = some (.slice (q i).da (q i).dn (q i).dc) ∧ W.cell? (a.add (i * 4 + 3)) = some (.slice (q i).ea (q i).en (q i).ec)) : GS W (.slice (some a) n cap) ((List.range n).map q) := by
  by_cases h0 : n = 0
  · subst h0
    exact .inl ⟨⟨_, _, rfl⟩, rfl⟩
  · obtain ⟨b, off, spot⟩ := a
    have hspot : spot = none := by simpa [Addr.add] using World.cell?_spot (hc 0 (by omega)).1
    subst hspot
    have hc0 := (hc 0 (by omega)).1
    rw [add_lit] at hc0
    refine .inr ⟨b, off, cap, by simp, by simpa using hl, World.block_lt_of_cell? W _ hc0, fun i u hu => ?_⟩
    have hi : i < n * 4 := by
      have := (List.getElem?_eq_some_iff.1 hu).1
      rw [gc_length] at this
      simpa using this
    have hj : i / 4 < ((List.range n).map q).length := by simp; omega
    obtain ⟨t0, t1, t2, t3⟩ := gc_get _ (i / 4) hj
    obtain ⟨u0, u1, u2, u3⟩ := hc (i / 4) (by omega)
    rw [add_lit] at u0 u1 u2 u3
    simp only [List.getElem_map, List.getElem_range] at t0 t1 t2 t3
    have hr : i % 4 = 0 ∨ i % 4 = 1 ∨ i % 4 = 2 ∨ i % 4 = 3 := by omega
    rcases hr with hr | hr | hr | hr
    · rw [show i / 4 * 4 = i from by omega] at t0 u0
      rw [t0] at hu; rw [u0]; exact hu
    · rw [show i / 4 * 4 + 1 = i from by omega] at t1 u1
      rw [t1] at hu; rw [u1]; exact hu
    · rw [show i / 4 * 4 + 2 = i from by omega] at t2 u2
      rw [t2] at hu; rw [u2]; exact hu
    · rw [show i / 4 * 4 + 3 = i from by omega] at t3 u3
      rw [t3] at hu; rw [u3]; exact hu
set_option maxRecDepth 100000 in
theorem open_targets {H : Type} {enc : TypeId × Value → H} {W : World} {base : Nat} {v : Value} {d : DataW H} {ps : List MemPlace} (hok : Value.okWide Tryz.prog W .any base 22 v)
    (h : DataW.Trod enc Tryz.prog W 0 (fun _ => true) true 22 v d ps) : ∃ l : List Tg, GR W v l ∧ wtG l ≤ Rows.uptoBulk d := by
  obtain ⟨a0, len0, cap0, rfl⟩ := okWide_slice Tryz.underlying22 hok
  obtain ⟨fuel, hf⟩ := h
  rcases open_slice Tryz.underlying22 hf with ⟨hcs, _⟩ | ⟨a, len, cap, m, n, D, Pl, hcs, _, hl, hm, hmm, hx, hel⟩
  · simp [Value.cells] at hcs
    obtain ⟨rfl, rfl, rfl⟩ := hcs
    exact ⟨[], ⟨[], GS_nil _, trivial⟩, by simp [wtG]⟩
  · simp [Value.cells] at hcs
    obtain ⟨rfl, rfl, rfl⟩ := hcs
    simp at hmm
    subst hmm
    have each : ∀ i, i < m → ∃ q : Tv × Tg, (W.cell? (a.add (i * 4)) = some (.string (bs q.1.name)) ∧ W.cell? (a.add (i * 4 + 1)) = some (.slice q.1.sa q.1.sn q.1.sc) ∧ W.cell? (a.add (i * 4 + 2)) = some (.slice q.1.da q.1.dn q.1.dc) ∧ W.cell? (a.add (i * 4 + 3)) = some (.slice q.1.ea q.1.en q.1.ec)) ∧ TRead W q.1 q.2 ∧ wtT q.2 ≤ Rows.uptoBulk (D i) := by
      intro i hi
      obtain ⟨cs', h1, h2⟩ := hel i hi
      rw [cells37] at h1
      obtain ⟨_, hlen, hcell⟩ := World.cells?_some h1
      obtain ⟨xs, k, hk, hxy, _, hxl, hfl⟩ := DataW.trod_struct Tryz.underlying37 h2
      match xs, hxl, cs', hlen with
      | [y0, y1, y2, y3], _, [v0, v1, v2, v3], _ =>
        have g0 := hfl 0 _ rfl
        have g1 := hfl 1 _ rfl
        have g2 := hfl 2 _ rfl
        have g3 := hfl 3 _ rfl
        simp [cells9, cells33, cells35] at g0 g1 g2 g3
        obtain ⟨s0, e0, x0, ws0⟩ := DataW.trod_string Tryz.underlying9 g0
        obtain ⟨sa, sn, sc, S, e1, hS, wS⟩ := texts_of g1
        obtain ⟨da, dn, dc, L, e2, hL, wL⟩ := labels_of g2
        obtain ⟨ea, en, ec, T, e3, hT, wT⟩ := texts_of g3
        have c0 := hcell 0 (by simp)
        have c1 := hcell 1 (by simp)
        have c2 := hcell 2 (by simp)
        have c3 := hcell 3 (by simp)
        rw [add_add] at c0 c1 c2 c3
        simp at e0
        subst e0 e1 e2 e3 x0
        simp only [Prod.mk.injEq] at hxy
        have c0' : W.cell? (a.add (i * 4)) = some (.string s0) := by simpa using c0
        refine ⟨(⟨s0.data.toList, sa, sn, sc, da, dn, dc, ea, en, ec⟩, ⟨s0.data.toList, S, L, T⟩), ⟨c0', by simpa using c1, by simpa using c2, by simpa using c3⟩, ⟨rfl, hS, hL, hT⟩, ?_⟩
        rw [hxy.1]
        simp only [List.map_cons, List.map_nil, Rows.uptoBulk, Rows.uptoBulkAll, wtT]
        omega
    have hinh : Inhabited (Tv × Tg) := ⟨(⟨[], none, 0, 0, none, 0, 0, none, 0, 0⟩, ⟨[], [], [], []⟩)⟩
    obtain ⟨q, hq⟩ := choose_lt each
    have hd : d = .slice ((List.range len0).map D) ((List.range (m - len0)).map fun j => D (len0 + j)) := by simpa using congrArg Prod.fst hx
    refine ⟨(List.range len0).map fun i => (q i).2, ⟨(List.range len0).map fun i => (q i).1, GS_of_cells hl (fun i => (q i).1) (fun i hi => (hq i (by omega)).1), TsRead_range q _ fun i hi => (hq i (by have := List.mem_range.1 hi; omega)).2.1⟩, ?_⟩
    have := wtG_range q D (List.range len0) fun i hi => (hq i (by have := List.mem_range.1 hi; omega)).2.2
    rw [hd]
    simp only [Rows.uptoBulk]
    omega

theorem wtS_len : ∀ L, L.length ≤ wtS L
  | [] => by simp
  | x :: r => by have := wtS_len r; simp only [List.length_cons, wtS]; omega
theorem wtL_len : ∀ L, L.length ≤ wtL L
  | [] => by simp
  | x :: r => by have := wtL_len r; simp only [List.length_cons, wtL]; omega
theorem wtL_mem : ∀ (L : List Lb), ∀ x ∈ L, x.pkg.length + x.name.length ≤ wtL L
  | [], x, h => by cases h
  | y :: r, x, h => by
    simp only [wtL]
    rcases List.mem_cons.1 h with rfl | h
    · omega
    · have := wtL_mem r x h; omega
theorem jnw_wt : ∀ L, (jnw L).length ≤ 2 * wtS L
  | [] => by simp [jnw]
  | [x] => by simp [jnw, wtS]; omega
  | x :: y :: r => by have := jnw_wt (y :: r); rw [jnw, wtS]; simp only [List.length_append, List.length_cons, List.length_nil]; omega
theorem fld_wt (wd : List UInt8) (h : wd.length ≤ 4) (L : List (List UInt8)) : (fld wd L).length ≤ 14 * wtS L := by
  unfold fld
  cases L with
  | nil => simp
  | cons x r =>
    have h1 := jnw_wt (x :: r)
    have h2 : 1 ≤ wtS (x :: r) := by rw [wtS]; omega
    simp only [List.isEmpty_cons, Bool.false_eq_true, if_false, List.length_append, List.length_cons, List.length_nil]
    omega
theorem prt_wt : ∀ L : List Lb, wtS (L.map prt) ≤ 2 * wtL L
  | [] => by simp [wtS]
  | x :: r => by have := prt_wt r; simp only [List.map_cons, wtS, wtL, prt, List.length_cons, List.length_append]; omega
theorem one_wt (t : Tg) : (one t).length ≤ 28 * wtT t := by
  have h0 := one_len t
  have h1 := fld_wt wSrcs (by decide) t.srcs
  have h2 := fld_wt wDeps (by decide) (t.deps.map prt)
  have h3 := fld_wt wSee (by decide) t.see
  have h4 := prt_wt t.deps
  unfold wtT
  omega
theorem wrt_wt : ∀ l, (wrt l).length ≤ 28 * wtG l
  | [] => by simp [wrt]
  | t :: r => by have := wrt_wt r; have := one_wt t; rw [wrt_cons, List.length_append, wtG]; omega
theorem wtG_len : ∀ l, 2 * l.length ≤ wtG l
  | [] => by simp
  | t :: r => by have := wtG_len r; simp only [List.length_cons, wtG, wtT]; omega
theorem wtG_mem : ∀ (l : List Tg), ∀ t ∈ l, wtT t ≤ wtG l
  | [], t, h => by cases h
  | y :: r, t, h => by
    simp only [wtG]
    rcases List.mem_cons.1 h with rfl | h
    · omega
    · have := wtG_mem r t h; omega
theorem Wm_of {l : List Tg} (h : wtG l ≤ 1048576) : Wm l := by
  have h1 := wrt_wt l
  have h2 := wtG_len l
  refine ⟨by omega, by omega, fun t ht => ?_⟩
  have h3 := wtG_mem l t ht
  unfold wtT at h3
  have a1 := wtS_len t.srcs
  have a2 := wtL_len t.deps
  have a3 := wtS_len t.see
  refine ⟨by omega, by omega, by omega, fun x hx => ?_⟩
  have := wtL_mem t.deps x hx
  exact ⟨by omega, by omega⟩
theorem Lu_of {l : List Tg} (h : wtG l ≤ 1048576) : ∀ t ∈ l, ∀ x ∈ t.deps, Lu x := fun t ht x hx => by
  have h3 := wtG_mem l t ht
  unfold wtT at h3
  have := wtL_mem t.deps x hx
  exact ⟨by omega, by omega⟩
end Go.Proofs.YtemoplpfndnklaaGreatDoor

namespace Go.Proofs.YtemoplpfndnklaaGreatDoor

def sh (d : Nat) (t : Tk) : Tk := ⟨t.kind, t.text, t.at' + d⟩
def shE (d : Nat) (e : Int) : Int := if e < 0 then e else e + d
theorem tq_shift (d : Nat) : ∀ (k : Nat) (r : List UInt8) (n : Nat), r.length ≤ k → tq r (n + d) = ((tq r n).1.map (sh d), shE d (tq r n).2)
  | 0, r, n, h => by
    have : r = [] := List.eq_nil_of_length_eq_zero (by omega)
    subst this
    rw [tq_nil, tq_nil]; simp [shE]
  | k + 1, [], n, h => by rw [tq_nil, tq_nil]; simp [shE]
  | k + 1, c :: q, n, h => by
    by_cases h0 : kd c = 0
    · rw [tq_bad h0, tq_bad h0]
      have : shE d (n : Int) = ((n + d : Nat) : Int) := by unfold shE; rw [if_neg (by omega)]; omega
      simp [this]
    · rw [tq_tok h0, tq_tok h0]
      unfold tg
      have ih := tq_shift d k ((q.drop (ktl c q)).drop (gp false (q.drop (ktl c q)))) (n + 1 + ktl c q + gp false (q.drop (ktl c q))) (by simp only [List.length_drop, List.length_cons] at h ⊢; omega)
      rw [show n + d + 1 + ktl c q + gp false (q.drop (ktl c q)) = n + 1 + ktl c q + gp false (q.drop (ktl c q)) + d from by omega, ih]
      simp [sh]
theorem tg_shift (d : Nat) (r : List UInt8) (n : Nat) : tg r (n + d) = ((tg r n).1.map (sh d), shE d (tg r n).2) := by
  unfold tg
  rw [show n + d + gp false r = n + gp false r + d from by omega]
  exact tq_shift d _ _ _ (Nat.le_refl _)
/-- what stands ahead -/
def hdb (c : List UInt8) (m : Nat) : List UInt8 := 35 :: (c ++ 10 :: List.replicate m 9)
theorem hdb_len (c : List UInt8) (m : Nat) : (hdb c m).length = c.length + 2 + m := by simp [hdb]; omega
theorem cl_app : ∀ (c R : List UInt8), (∀ x ∈ c, x ≠ 10) → cl (c ++ 10 :: R) = c.length
  | [], R, _ => by simp [cl]
  | x :: c, R, h => by
    have ih := cl_app c R (fun y hy => h y (by simp [hy]))
    have hx := h x (by simp)
    simp only [List.cons_append, List.length_cons]
    unfold cl
    rw [if_neg (by simpa using hx), ih]; omega
theorem tg_tabs : ∀ (m : Nat) (s : List UInt8) (n : Nat), tg (List.replicate m 9 ++ s) n = tg s (n + m)
  | 0, s, n => rfl
  | m + 1, s, n => by
    rw [List.replicate_succ, List.cons_append, tg_blank (by decide), tg_tabs m]
    congr 1; omega
theorem tg_hdb (c : List UInt8) (m : Nat) (hc : ∀ x ∈ c, x ≠ 10) (s : List UInt8) (n : Nat) : tg (hdb c m ++ s) n = tg s (n + (hdb c m).length) := by
  have e : hdb c m ++ s = 35 :: (c ++ 10 :: (List.replicate m 9 ++ s)) := by simp [hdb]
  rw [e, tg_comment, cl_app _ _ hc, List.drop_left, tg_lf, tg_tabs, hdb_len]
  congr 1; omega
theorem go_shift {p : List UInt8} {E S : Int} {d : Nat} (hE : 0 ≤ E) : ∀ (L : List Tk) (st : St), (∀ k ∈ L, 0 ≤ k.at') → go p (E + d) (shE d S) st (L.map (sh d)) = ((go p E S st L).1, shE d (go p E S st L).2)
  | [], st, _ => by
    simp only [List.map_nil]
    unfold go
    have h1 : shE d E = E + d := by unfold shE; rw [if_neg (by omega)]
    cases st with
    | top l =>
      simp only [fin]
      by_cases hS : 0 ≤ S
      · rw [if_pos hS, if_pos (by unfold shE; rw [if_neg (by omega)]; omega)]
      · rw [if_neg hS, if_neg (by unfold shE; rw [if_pos (by omega)]; omega)]
        rfl
    | _ => simp only [fin]; rw [h1]
  | k :: r, st, hk => by
    simp only [List.map_cons]
    unfold go
    have e : stp p st (sh d k) = stp p st k := by cases st <;> rfl
    rw [e]
    cases hs : stp p st k with
    | none =>
      have h0 := hk k (by simp)
      have : shE d k.at' = k.at' + d := by unfold shE; rw [if_neg (by omega)]
      simp [this, sh]
    | some st' => exact go_shift hE r st' (fun x hx => hk x (by simp [hx]))
theorem prsM_shift {p s c : List UInt8} {m : Nat} (hp : okP p = true) (hc : ∀ x ∈ c, x ≠ 10) (hl : (hdb c m).length + s.length ≤ 4096) : prsM p (hdb c m ++ s) = ((prsM p s).1, shE (hdb c m).length (prsM p s).2) := by
  have e0 : tg s (0 + (hdb c m).length) = _ := tg_shift (hdb c m).length s 0
  have e : toks (hdb c m ++ s) = ((toks s).1.map (sh (hdb c m).length), shE (hdb c m).length (toks s).2) := by
    unfold toks
    rw [tg_hdb c m hc, e0]
  have eE : endE (hdb c m ++ s) = endE s + (hdb c m).length := by
    unfold endE
    rw [e]
    by_cases hS : 0 ≤ (toks s).2
    · have : shE (hdb c m).length (toks s).2 = (toks s).2 + (hdb c m).length := by unfold shE; rw [if_neg (by omega)]
      simp only [this]
      rw [if_pos hS, if_pos (by omega)]
    · have : shE (hdb c m).length (toks s).2 = (toks s).2 := by unfold shE; rw [if_pos (by omega)]
      simp only [this]
      rw [if_neg hS, if_neg hS]
      simp only [List.length_append]; omega
  unfold prsM
  rw [if_pos hp, if_pos hp, if_pos (by simp only [List.length_append]; exact hl), if_pos (by omega), eE, e]
  exact go_shift (endE_nonneg s) _ _ (fun k hk => (toks_word s k hk).2)
theorem tq_hi : ∀ (n : Nat) (r : List UInt8) (m : Nat), r.length ≤ n → ∀ k ∈ (tq r m).1, k.at' ≤ m + r.length
  | 0, r, m, h, k, hk => by
    have : r = [] := List.eq_nil_of_length_eq_zero (by omega)
    subst this
    rw [tq_nil] at hk
    simp at hk
  | n + 1, [], m, h, k, hk => by rw [tq_nil] at hk; simp at hk
  | n + 1, c :: q, m, h, k, hk => by
    by_cases h0 : kd c = 0
    · rw [tq_bad h0] at hk; simp at hk
    · rw [tq_tok h0] at hk
      rcases List.mem_cons.1 hk with rfl | hk
      · simp; omega
      · unfold tg at hk
        have h1 := tq_hi n _ _ (by simp only [List.length_drop, List.length_cons] at h ⊢; omega) k hk
        have h2 := ktl_le c q
        have h3 := gp_le false (q.drop (ktl c q))
        simp only [List.length_drop, List.length_cons] at h1 h3 ⊢
        omega
theorem toks_hi (s : List UInt8) : ∀ k ∈ (toks s).1, k.at' ≤ s.length := fun k hk => by
  unfold toks tg at hk
  have h1 := tq_hi _ _ _ (Nat.le_refl _) k hk
  have h3 := gp_le false s
  simp only [List.length_drop] at h1
  omega
theorem go_hi {p : List UInt8} {E S m : Int} (hE : E ≤ m) (hS : S ≤ m) (hm : -1 ≤ m) : ∀ (L : List Tk) (st : St), (∀ k ∈ L, k.at' ≤ m) → (go p E S st L).2 ≤ m
  | [], st, _ => by
    unfold go
    cases st <;> simp only [fin] <;> (try exact hE)
    split
    · exact hS
    · exact hm
  | k :: r, st, h => by
    unfold go
    cases hs : stp p st k with
    | none => exact h k (by simp)
    | some st' => exact go_hi hE hS hm r st' (fun x hx => h x (by simp [hx]))
theorem prsM_hi (p s : List UInt8) : -1 ≤ (prsM p s).2 ∧ (prsM p s).2 ≤ s.length := by
  refine ⟨by rcases prsM_range p s with h | h <;> omega, ?_⟩
  unfold prsM
  split
  · split
    · have h1 := toks_num s
      refine go_hi ?_ h1.2.2 (by omega) _ _ (toks_hi s)
      unfold endE
      split
      · exact h1.2.2
      · exact Int.le_refl _
    · simp only; omega
  · simp only; omega
theorem prsM_nil (p : List UInt8) : (prsM p []).1 = [] ∧ (prsM p []).2 = if okP p = true then -1 else 0 := by
  cases hp : okP p
  · unfold prsM; rw [if_neg (by rw [hp]; decide)]; exact ⟨rfl, rfl⟩
  · rw [prsM_gob hp (by decide), gob_end]
    exact ⟨rfl, rfl⟩
theorem wtS_each : ∀ (L : List (List UInt8)) (m : Nat), (∀ x ∈ L, x.length ≤ m) → wtS L ≤ L.length * (m + 1)
  | [], m, _ => by simp [wtS]
  | x :: r, m, h => by
    have := wtS_each r m (fun y hy => h y (by simp [hy]))
    have := h x (by simp)
    simp only [wtS, List.length_cons, Nat.succ_mul]; omega
theorem wtL_each : ∀ (L : List Lb) (m : Nat), (∀ x ∈ L, x.pkg.length + x.name.length ≤ m) → wtL L ≤ L.length * (m + 3)
  | [], m, _ => by simp [wtL]
  | x :: r, m, h => by
    have := wtL_each r m (fun y hy => h y (by simp [hy]))
    have := h x (by simp)
    simp only [wtL, List.length_cons, Nat.succ_mul]; omega
theorem srcW_len {p x : List UInt8} (h : srcW p x = true) : x.length ≤ 300 := by
  refine word_len (p := p) (F := wSrcs) (t := ⟨[], [], [], []⟩) (u := ⟨[], [x], [], []⟩) ?_
  unfold addI; rw [if_pos rfl, if_pos (by simp [h])]; rfl
theorem ser_len {p x : List UInt8} (h : ser x = true) : x.length ≤ 300 := by
  refine word_len (p := p) (F := wSee) (t := ⟨[], [], [], []⟩) (u := ⟨[], [], [], [x]⟩) ?_
  unfold addI; rw [if_neg (by decide), if_neg (by decide), if_pos (by simp [h])]; rfl
theorem GT.wt {p : List UInt8} {t : Tg} (h : GT p t) : wtT t ≤ 60000 := by
  have h1 := wtS_each t.srcs 300 (fun x hx => srcW_len (h.srcs x hx).1)
  have h2 := wtS_each t.see 300 (fun x hx => ser_len (p := p) (h.see x hx).1)
  have h3 := wtL_each t.deps 155 (fun x hx => by have := okL_len (h.deps x hx); simp [prt] at this; omega)
  have h4 := okC_len h.name
  have a1 := h.srcsL
  have a2 := h.seeL
  have a3 := h.depsL
  have b1 : t.srcs.length * (300 + 1) ≤ 64 * 301 := Nat.mul_le_mul_right _ a1
  have b2 : t.see.length * (300 + 1) ≤ 64 * 301 := Nat.mul_le_mul_right _ a2
  have b3 : t.deps.length * (155 + 3) ≤ 64 * 158 := Nat.mul_le_mul_right _ a3
  unfold wtT
  omega
theorem wtG_each {p : List UInt8} : ∀ (l : List Tg), (∀ t ∈ l, GT p t) → wtG l ≤ l.length * 60000
  | [], _ => by simp [wtG]
  | t :: r, h => by
    have := wtG_each r (fun x hx => h x (by simp [hx]))
    have := (h t (by simp)).wt
    simp only [wtG, List.length_cons, Nat.succ_mul]; omega
theorem Wm_big {l : List Tg} (h : wtG l ≤ 4000000) : Wm l := by
  have h1 := wrt_wt l
  have h2 := wtG_len l
  refine ⟨by omega, by omega, fun t ht => ?_⟩
  have h3 := wtG_mem l t ht
  unfold wtT at h3
  have a1 := wtS_len t.srcs
  have a2 := wtL_len t.deps
  have a3 := wtS_len t.see
  refine ⟨by omega, by omega, by omega, fun x hx => ?_⟩
  have := wtL_mem t.deps x hx
  exact ⟨by omega, by omega⟩
theorem GL.wm {p : List UInt8} {l : List Tg} (h : GL p l) : Wm l := by
  refine Wm_big ?_
  have h1 := wtG_each l h.each
  have h2 : l.length * 60000 ≤ 64 * 60000 := Nat.mul_le_mul_right _ h.len
  omega
end Go.Proofs.YtemoplpfndnklaaGreatDoor
