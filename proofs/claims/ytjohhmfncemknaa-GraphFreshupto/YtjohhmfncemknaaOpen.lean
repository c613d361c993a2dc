/-
  What came in: steps of a script, labels.
-/
import Derived.Test.YtjohhmfncemknaaJSp
import Derived.ProofKit
import Derived.OpenShut
import Derived.ShutString
import Derived.ChangeOld
import Derived.JoinedCond
import Derived.SizedLaws
import Derived.Deep.Strs
import Derived.Deep.SlicePairs
namespace Go.Proofs.Ytjohhmfncemknaa
open Go.ChangeShapes Go.WideShapes Go.ChangeAt Go.RowKit Go.Deep

theorem own0 : ownKnob Try.prog.godebug = none := by kernel_rfl
theorem bulk_bound {H : Type} {l : List (DataW H)} (hk : Rows.uptoSmall H l = true) : Rows.uptoBulkAll l ≤ 1048576 := of_decide_eq_true hk
theorem cells9 : Try.prog.cellsOf 9 = 1 := by kernel_rfl
theorem cells3' : Try.prog.cellsOf 3 = 1 := by kernel_rfl
theorem cells31 : Try.prog.cellsOf 31 = 2 := by kernel_rfl
theorem cells51 : Try.prog.cellsOf 51 = 6 := by kernel_rfl

/-- a label's datum -/
def Lb.datum {H : Type} (l : Lb) : DataW H := .agg [.lit (.string l.pkg), .lit (.string l.name)]
/-- a step's datum -/
def Stp.datum {H : Type} (s : Stp) : DataW H := .agg [.lit (.int .i64 s.kind), .lit (.int .i64 s.which), s.a.datum, s.b.datum]
def tots : List Stp → Nat
  | [] => 0
  | s :: r => s.a.pkg.length + s.a.name.length + s.b.pkg.length + s.b.name.length + 5 + tots r
theorem bulk_steps {H : Type} : ∀ l : List Stp, tots l ≤ Rows.uptoBulkAll (l.map (Stp.datum (H := H)))
  | [] => by simp [tots]
  | f :: r => by
    have := bulk_steps (H := H) r
    rw [List.map_cons]
    simp only [Rows.uptoBulkAll, Stp.datum, Lb.datum, Rows.uptoBulk, tots]
    omega
theorem tots_len : ∀ l : List Stp, 5 * l.length ≤ tots l
  | [] => by simp [tots]
  | f :: r => by have := tots_len r; simp only [tots, List.length_cons]; omega
theorem tots_mem : ∀ l : List Stp, ∀ s ∈ l, s.a.pkg.length + s.a.name.length + s.b.pkg.length + s.b.name.length ≤ tots l
  | [], f, h => by cases h
  | g :: r, f, h => by
    simp only [tots]
    rcases List.mem_cons.1 h with rfl | h
    · omega
    · have := tots_mem r f h; omega

set_option maxRecDepth 100000 in
theorem open_steps {H : Type} {enc : TypeId × Value → H} {W : World} {base : Nat} {v : Value} {d : DataW H} {ps : List MemPlace} (hok : Value.okWide Try.prog W .any base 43 v)
    (h : DataW.Trod enc Try.prog W 0 (fun _ => true) true 43 v d ps) (hd : Rows.uptoBulk d ≤ 1048576) :
    ∃ l : List Stp, TS6 W v l ∧ SSm l := by
  suffices hs : ∃ l : List Stp, TS6 W v l ∧ (∀ i ∈ l, -9223372036854775808 ≤ i.kind ∧ i.kind ≤ 9223372036854775807) ∧ Rows.uptoBulkAll (l.map (Stp.datum (H := H))) ≤ Rows.uptoBulk d by
    obtain ⟨l, h1, h2, h3⟩ := hs
    have h4 := bulk_steps (H := H) l
    have h5 := tots_len l
    have h6 := tots_mem l
    refine ⟨l, h1, ⟨by omega, fun s hs => ?_⟩⟩
    have := h6 s hs
    obtain ⟨g5, g6⟩ := h2 s hs
    exact ⟨⟨by omega, by omega⟩, ⟨by omega, by omega⟩, g5, g6⟩
  clear hd
  obtain ⟨a0, len0, cap0, rfl⟩ := okWide_slice Try.underlying43 hok
  obtain ⟨fuel, hf⟩ := h
  rcases open_slice Try.underlying43 hf with ⟨hcs, _⟩ | ⟨a, len, cap, m, n, D, Pl, hcs, _, hl, hm, hmm, hx, hel⟩
  · simp [Value.cells] at hcs
    obtain ⟨rfl, rfl, rfl⟩ := hcs
    exact ⟨[], .inl ⟨⟨_, _, rfl⟩, rfl⟩, (fun i hi => (by cases hi)), by simp [Rows.uptoBulkAll]⟩
  · simp [Value.cells] at hcs
    obtain ⟨rfl, rfl, rfl⟩ := hcs
    simp at hmm
    subst hmm
    have each : ∀ i, i < m → ∃ q : Stp, W.cell? (a.add (i * 6)) = some (.int .i64 q.kind) ∧ W.cell? (a.add (i * 6 + 1)) = some (.int .i64 q.which) ∧ W.cell? (a.add (i * 6 + 2)) = some (.string (bs q.a.pkg)) ∧ W.cell? (a.add (i * 6 + 3)) = some (.string (bs q.a.name)) ∧ W.cell? (a.add (i * 6 + 4)) = some (.string (bs q.b.pkg)) ∧ W.cell? (a.add (i * 6 + 5)) = some (.string (bs q.b.name)) ∧ D i = q.datum ∧
        -9223372036854775808 ≤ q.kind ∧ q.kind ≤ 9223372036854775807 := by
      intro i hi
      obtain ⟨cs', h1, h2⟩ := hel i hi
      rw [cells51] at h1
      obtain ⟨_, hlen, hcell⟩ := World.cells?_some h1
      obtain ⟨xs, k, hk, hxy, _, hxl, hfl⟩ := DataW.trod_struct Try.underlying51 h2
      match xs, hxl, cs', hlen with
      | [y0, y1, y2, y3], _, [v0, v1, v2, v3, v4, v5], _ =>
        have g0 := hfl 0 _ rfl
        have g1 := hfl 1 _ rfl
        have g2 := hfl 2 _ rfl
        have g3 := hfl 3 _ rfl
        simp [cells3', cells31] at g0 g1 g2 g3
        obtain ⟨z0, e0, x0, wz0⟩ := DataW.trod_int Try.underlying3 g0
        obtain ⟨z1, e1, x1, wz1⟩ := DataW.trod_int Try.underlying3 g1
        obtain ⟨xs2, k2, hk2, hxy2, _, hxl2, hfl2⟩ := DataW.trod_struct Try.underlying31 g2
        obtain ⟨xs3, k3, hk3, hxy3, _, hxl3, hfl3⟩ := DataW.trod_struct Try.underlying31 g3
        match xs2, hxl2, xs3, hxl3 with
        | [u0, u1], _, [t0, t1], _ =>
          have i0 := hfl2 0 _ rfl
          have i1 := hfl2 1 _ rfl
          have i2 := hfl3 0 _ rfl
          have i3 := hfl3 1 _ rfl
          simp [cells9] at i0 i1 i2 i3
          obtain ⟨s2, e2, x2, ws2⟩ := DataW.trod_string Try.underlying9 i0
          obtain ⟨s3, e3, x3, ws3⟩ := DataW.trod_string Try.underlying9 i1
          obtain ⟨s4, e4, x4, ws4⟩ := DataW.trod_string Try.underlying9 i2
          obtain ⟨s5, e5, x5, ws5⟩ := DataW.trod_string Try.underlying9 i3
          have c0 := hcell 0 (by simp)
          have c1 := hcell 1 (by simp)
          have c2 := hcell 2 (by simp)
          have c3 := hcell 3 (by simp)
          have c4 := hcell 4 (by simp)
          have c5 := hcell 5 (by simp)
          rw [add_add] at c0 c1 c2 c3 c4 c5
          simp at e0 e1 e2 e3 e4 e5
          subst e0 e1 e2 e3 e4 e5 x0 x1 x2 x3 x4 x5
          have b0 := bounds_i64 wz0
          subst hxy2 hxy3
          simp only [Prod.mk.injEq] at hxy
          have c2' : W.cell? (a.add (i * 6 + 2)) = some (.string s2) := by simpa using c2
          have c3' : W.cell? (a.add (i * 6 + 3)) = some (.string s3) := by simpa using c3
          have c4' : W.cell? (a.add (i * 6 + 4)) = some (.string s4) := by simpa using c4
          have c5' : W.cell? (a.add (i * 6 + 5)) = some (.string s5) := by simpa using c5
          exact ⟨⟨z0, z1, ⟨s2.data.toList, s3.data.toList⟩, ⟨s4.data.toList, s5.data.toList⟩⟩, by simpa using c0, by simpa using c1, c2', c3', c4', c5', by simpa [Stp.datum, Lb.datum] using hxy.1, b0.1, b0.2⟩
    have hinh : Inhabited Stp := ⟨⟨0, 0, zl, zl⟩⟩
    obtain ⟨q, hq⟩ := choose_lt (α := Stp) each
    have hD : (List.range len0).map D = (List.range len0).map fun i => (q i).datum := List.map_congr_left (fun i hi => (hq i (by have := List.mem_range.1 hi; omega)).2.2.2.2.2.2.1)
    refine ⟨(List.range len0).map q, ?_, ?_, ?_⟩
    · by_cases h0 : len0 = 0
      · subst h0
        exact .inl ⟨⟨_, _, rfl⟩, rfl⟩
      · obtain ⟨b, off, spot⟩ := a
        have hspot : spot = none := by simpa [Addr.add] using World.cell?_spot (hq 0 (by omega)).1
        subst hspot
        refine .inr ⟨b, off, m, by simp, by simpa using hl, World.block_lt_of_cell? W _ (by have := (hq 0 (by omega)).1; rw [add_lit] at this; exact this), fun i u hu => ?_⟩
        have hi : i < len0 * 6 := by
          have := (List.getElem?_eq_some_iff.1 hu).1
          rw [stc_length] at this
          simpa using this
        have hj : i / 6 < ((List.range len0).map q).length := by simp; omega
        obtain ⟨t0, t1, t2, t3, t4, t5⟩ := stc_get ((List.range len0).map q) (i / 6) hj
        obtain ⟨u0, u1, u2, u3, u4, u5, _⟩ := hq (i / 6) (by omega)
        rw [add_lit] at u0 u1 u2 u3 u4 u5
        simp only [List.getElem_map, List.getElem_range] at t0 t1 t2 t3 t4 t5
        have hr : i % 6 = 0 ∨ i % 6 = 1 ∨ i % 6 = 2 ∨ i % 6 = 3 ∨ i % 6 = 4 ∨ i % 6 = 5 := by omega
        rcases hr with hr | hr | hr | hr | hr | hr
        · rw [show i / 6 * 6 = i from by omega] at t0 u0
          rw [t0] at hu
          rw [u0]
          exact hu
        · rw [show i / 6 * 6 + 1 = i from by omega] at t1 u1
          rw [t1] at hu
          rw [u1]
          exact hu
        · rw [show i / 6 * 6 + 2 = i from by omega] at t2 u2
          rw [t2] at hu
          rw [u2]
          exact hu
        · rw [show i / 6 * 6 + 3 = i from by omega] at t3 u3
          rw [t3] at hu
          rw [u3]
          exact hu
        · rw [show i / 6 * 6 + 4 = i from by omega] at t4 u4
          rw [t4] at hu
          rw [u4]
          exact hu
        · rw [show i / 6 * 6 + 5 = i from by omega] at t5 u5
          rw [t5] at hu
          rw [u5]
          exact hu
    · intro i hi
      obtain ⟨j, hj, rfl⟩ := List.mem_map.1 hi
      obtain ⟨_, _, _, _, _, _, _, r⟩ := hq j (by have := List.mem_range.1 hj; omega)
      exact r
    · have hd : d = .slice ((List.range len0).map D) ((List.range (m - len0)).map fun j => D (len0 + j)) := by simpa using congrArg Prod.fst hx
      rw [hd, hD]
      simp only [Rows.uptoBulk, List.map_map]
      have e : (List.range len0).map (Stp.datum (H := H) ∘ q) = (List.range len0).map fun i => (q i).datum := rfl
      rw [e]
      omega

def totl : List Lb → Nat
  | [] => 0
  | s :: r => s.pkg.length + s.name.length + 2 + totl r
theorem bulk_labels {H : Type} : ∀ l : List Lb, totl l ≤ Rows.uptoBulkAll (l.map (Lb.datum (H := H)))
  | [] => by simp [totl]
  | f :: r => by
    have := bulk_labels (H := H) r
    rw [List.map_cons]
    simp only [Rows.uptoBulkAll, Lb.datum, Rows.uptoBulk, totl]
    omega
theorem totl_len : ∀ l : List Lb, 2 * l.length ≤ totl l
  | [] => by simp [totl]
  | f :: r => by have := totl_len r; simp only [totl, List.length_cons]; omega
theorem totl_mem : ∀ l : List Lb, ∀ s ∈ l, s.pkg.length + s.name.length ≤ totl l
  | [], f, h => by cases h
  | g :: r, f, h => by
    simp only [totl]
    rcases List.mem_cons.1 h with rfl | h
    · omega
    · have := totl_mem r f h; omega

set_option maxRecDepth 100000 in
theorem open_labels {H : Type} {enc : TypeId × Value → H} {W : World} {base : Nat} {v : Value} {d : DataW H} {ps : List MemPlace} (hok : Value.okWide Try.prog W .any base 28 v)
    (h : DataW.Trod enc Try.prog W 0 (fun _ => true) true 28 v d ps) (hd : Rows.uptoBulk d ≤ 1048576) :
    ∃ l : List Lb, LS W v l ∧ (∀ x ∈ l, Lu x) ∧ l.length ≤ 1048576 := by
  suffices hs : ∃ l : List Lb, LS W v l ∧ Rows.uptoBulkAll (l.map (Lb.datum (H := H))) ≤ Rows.uptoBulk d by
    obtain ⟨l, h1, h3⟩ := hs
    have h4 := bulk_labels (H := H) l
    have h5 := totl_len l
    have h6 := totl_mem l
    refine ⟨l, h1, fun s hs => ?_, by omega⟩
    have := h6 s hs
    exact ⟨by omega, by omega⟩
  clear hd
  obtain ⟨a0, len0, cap0, rfl⟩ := okWide_slice Try.underlying28 hok
  obtain ⟨fuel, hf⟩ := h
  rcases open_slice Try.underlying28 hf with ⟨hcs, _⟩ | ⟨a, len, cap, m, n, D, Pl, hcs, _, hl, hm, hmm, hx, hel⟩
  · simp [Value.cells] at hcs
    obtain ⟨rfl, rfl, rfl⟩ := hcs
    exact ⟨[], .inl ⟨⟨_, _, rfl⟩, rfl⟩, by simp [Rows.uptoBulkAll]⟩
  · simp [Value.cells] at hcs
    obtain ⟨rfl, rfl, rfl⟩ := hcs
    simp at hmm
    subst hmm
    have each : ∀ i, i < m → ∃ q : Lb, W.cell? (a.add (i * 2)) = some (.string (bs q.pkg)) ∧ W.cell? (a.add (i * 2 + 1)) = some (.string (bs q.name)) ∧ D i = q.datum := by
      intro i hi
      obtain ⟨cs', h1, h2⟩ := hel i hi
      rw [cells31] at h1
      obtain ⟨_, hlen, hcell⟩ := World.cells?_some h1
      obtain ⟨xs, k, hk, hxy, _, hxl, hfl⟩ := DataW.trod_struct Try.underlying31 h2
      match xs, hxl, cs', hlen with
      | [y0, y1], _, [v0, v1], _ =>
        have g0 := hfl 0 _ rfl
        have g1 := hfl 1 _ rfl
        simp [cells9] at g0 g1
        obtain ⟨s0, e0, x0, ws0⟩ := DataW.trod_string Try.underlying9 g0
        obtain ⟨s1, e1, x1, ws1⟩ := DataW.trod_string Try.underlying9 g1
        have c0 := hcell 0 (by simp)
        have c1 := hcell 1 (by simp)
        rw [add_add] at c0 c1
        simp at e0 e1
        subst e0 e1 x0 x1
        simp only [Prod.mk.injEq] at hxy
        have c0' : W.cell? (a.add (i * 2)) = some (.string s0) := by simpa using c0
        have c1' : W.cell? (a.add (i * 2 + 1)) = some (.string s1) := by simpa using c1
        exact ⟨⟨s0.data.toList, s1.data.toList⟩, c0', c1', by simpa [Lb.datum] using hxy.1⟩
    have hinh : Inhabited Lb := ⟨zl⟩
    obtain ⟨q, hq⟩ := choose_lt (α := Lb) each
    have hD : (List.range len0).map D = (List.range len0).map fun i => (q i).datum := List.map_congr_left (fun i hi => (hq i (by have := List.mem_range.1 hi; omega)).2.2)
    refine ⟨(List.range len0).map q, ?_, ?_⟩
    · by_cases h0 : len0 = 0
      · subst h0
        exact .inl ⟨⟨_, _, rfl⟩, rfl⟩
      · obtain ⟨b, off, spot⟩ := a
        have hspot : spot = none := by simpa [Addr.add] using World.cell?_spot (hq 0 (by omega)).1
        subst hspot
        refine .inr ⟨b, off, m, by simp, by simpa using hl, World.block_lt_of_cell? W _ (by have := (hq 0 (by omega)).1; rw [add_lit] at this; exact this), fun i u hu => ?_⟩
        have hi : i < len0 * 2 := by
          have := (List.getElem?_eq_some_iff.1 hu).1
          rw [lc_length] at this
          simpa using this
        have hj : i / 2 < ((List.range len0).map q).length := by simp; omega
        obtain ⟨t0, t1⟩ := lc_get ((List.range len0).map q) (i / 2) hj
        obtain ⟨u0, u1, _⟩ := hq (i / 2) (by omega)
        rw [add_lit] at u0 u1
        simp only [List.getElem_map, List.getElem_range] at t0 t1
        have hr : i % 2 = 0 ∨ i % 2 = 1 := by omega
        rcases hr with hr | hr
        · rw [show i / 2 * 2 = i from by omega] at t0 u0
          rw [t0] at hu
          rw [u0]
          exact hu
        · rw [show i / 2 * 2 + 1 = i from by omega] at t1 u1
          rw [t1] at hu
          rw [u1]
          exact hu
    · have hd : d = .slice ((List.range len0).map D) ((List.range (m - len0)).map fun j => D (len0 + j)) := by simpa using congrArg Prod.fst hx
      rw [hd, hD]
      simp only [Rows.uptoBulk, List.map_map]
      have e : (List.range len0).map (Lb.datum (H := H) ∘ q) = (List.range len0).map fun i => (q i).datum := rfl
      rw [e]
      omega
end Go.Proofs.Ytjohhmfncemknaa
