/-
  What came in: edges.
-/
import Derived.Test.YtclbnjfmipifnaaMd
import Derived.ProofKit
import Derived.OpenShut
import Derived.ShutString
import Derived.ChangeOld
import Derived.JoinedCond
import Derived.SizedLaws
import Derived.Deep.Strs
import Derived.Deep.SlicePairs
namespace Go.Proofs.Ytclbnjfmipifnaa
open Go.ChangeShapes Go.WideShapes Go.ChangeAt Go.RowKit Go.Deep

theorem own0 : ownKnob Try.prog.godebug = none := by kernel_rfl
theorem bulk_bound {H : Type} {l : List (DataW H)} (hk : Rows.uptoSmall H l = true) : Rows.uptoBulkAll l ≤ 1048576 := of_decide_eq_true hk
theorem cells9 : Try.prog.cellsOf 9 = 1 := by kernel_rfl
theorem cells3' : Try.prog.cellsOf 4 = 1 := by kernel_rfl
theorem cells31 : Try.prog.cellsOf 35 = 2 := by kernel_rfl
theorem cells51 : Try.prog.cellsOf 55 = 5 := by kernel_rfl

/-- a label's datum -/
def Lb.datum {H : Type} (l : Lb) : DataW H := .agg [.lit (.string l.pkg), .lit (.string l.name)]
/-- an edge's datum -/
def Ein.datum {H : Type} (s : Ein) : DataW H := .agg [s.a.datum, s.b.datum, .lit (.bool s.alone)]
def tots : List Ein → Nat
  | [] => 0
  | s :: r => s.a.pkg.length + s.a.name.length + s.b.pkg.length + s.b.name.length + 4 + tots r
theorem bulk_steps {H : Type} : ∀ l : List Ein, tots l ≤ Rows.uptoBulkAll (l.map (Ein.datum (H := H)))
  | [] => by simp [tots]
  | f :: r => by
    have := bulk_steps (H := H) r
    rw [List.map_cons]
    simp only [Rows.uptoBulkAll, Ein.datum, Lb.datum, Rows.uptoBulk, tots]
    omega
theorem tots_len : ∀ l : List Ein, 4 * l.length ≤ tots l
  | [] => by simp [tots]
  | f :: r => by have := tots_len r; simp only [tots, List.length_cons]; omega
theorem tots_mem : ∀ l : List Ein, ∀ s ∈ l, s.a.pkg.length + s.a.name.length + s.b.pkg.length + s.b.name.length ≤ tots l
  | [], f, h => by cases h
  | g :: r, f, h => by
    simp only [tots]
    rcases List.mem_cons.1 h with rfl | h
    · omega
    · have := tots_mem r f h; omega

set_option maxRecDepth 100000 in
theorem open_edges {H : Type} {enc : TypeId × Value → H} {W : World} {base : Nat} {v : Value} {d : DataW H} {ps : List MemPlace} (hok : Value.okWide Try.prog W .any base 22 v)
    (h : DataW.Trod enc Try.prog W 0 (fun _ => true) true 22 v d ps) (hd : Rows.uptoBulk d ≤ 1048576) :
    ∃ l : List Ein, TE W v l ∧ EEm l := by
  suffices hs : ∃ l : List Ein, TE W v l ∧ Rows.uptoBulkAll (l.map (Ein.datum (H := H))) ≤ Rows.uptoBulk d by
    obtain ⟨l, h1, h3⟩ := hs
    have h4 := bulk_steps (H := H) l
    have h5 := tots_len l
    have h6 := tots_mem l
    refine ⟨l, h1, ⟨by omega, fun s hs => ?_⟩⟩
    have := h6 s hs
    exact ⟨⟨by omega, by omega⟩, ⟨by omega, by omega⟩⟩
  clear hd
  obtain ⟨a0, len0, cap0, rfl⟩ := okWide_slice Try.underlying22 hok
  obtain ⟨fuel, hf⟩ := h
  rcases open_slice Try.underlying22 hf with ⟨hcs, _⟩ | ⟨a, len, cap, m, n, D, Pl, hcs, _, hl, hm, hmm, hx, hel⟩
  · simp [Value.cells] at hcs
    obtain ⟨rfl, rfl, rfl⟩ := hcs
    exact ⟨[], .inl ⟨⟨_, _, rfl⟩, rfl⟩, by simp [Rows.uptoBulkAll]⟩
  · simp [Value.cells] at hcs
    obtain ⟨rfl, rfl, rfl⟩ := hcs
    simp at hmm
    subst hmm
    have each : ∀ i, i < m → ∃ q : Ein, W.cell? (a.add (i * 5)) = some (.string (bs q.a.pkg)) ∧ W.cell? (a.add (i * 5 + 1)) = some (.string (bs q.a.name)) ∧ W.cell? (a.add (i * 5 + 2)) = some (.string (bs q.b.pkg)) ∧ W.cell? (a.add (i * 5 + 3)) = some (.string (bs q.b.name)) ∧ W.cell? (a.add (i * 5 + 4)) = some (.bool q.alone) ∧ D i = q.datum := by
      intro i hi
      obtain ⟨cs', h1, h2⟩ := hel i hi
      rw [cells51] at h1
      obtain ⟨_, hlen, hcell⟩ := World.cells?_some h1
      obtain ⟨xs, k, hk, hxy, _, hxl, hfl⟩ := DataW.trod_struct Try.underlying55 h2
      match xs, hxl, cs', hlen with
      | [y0, y1, y2], _, [v0, v1, v2, v3, v4], _ =>
        have g0 := hfl 0 _ rfl
        have g1 := hfl 1 _ rfl
        have g2 := hfl 2 _ rfl
        simp [cells3', cells31] at g0 g1 g2
        obtain ⟨xs2, k2, hk2, hxy2, _, hxl2, hfl2⟩ := DataW.trod_struct Try.underlying35 g0
        obtain ⟨xs3, k3, hk3, hxy3, _, hxl3, hfl3⟩ := DataW.trod_struct Try.underlying35 g1
        obtain ⟨b4, e4, x4⟩ := DataW.trod_bool Try.underlying4 g2
        match xs2, hxl2, xs3, hxl3 with
        | [u0, u1], _, [t0, t1], _ =>
          have i0 := hfl2 0 _ rfl
          have i1 := hfl2 1 _ rfl
          have i2 := hfl3 0 _ rfl
          have i3 := hfl3 1 _ rfl
          simp [cells9] at i0 i1 i2 i3
          obtain ⟨s2, e0, x0, ws2⟩ := DataW.trod_string Try.underlying9 i0
          obtain ⟨s3, e1, x1, ws3⟩ := DataW.trod_string Try.underlying9 i1
          obtain ⟨s4, e2, x2, ws4⟩ := DataW.trod_string Try.underlying9 i2
          obtain ⟨s5, e3, x3, ws5⟩ := DataW.trod_string Try.underlying9 i3
          have c0 := hcell 0 (by simp)
          have c1 := hcell 1 (by simp)
          have c2 := hcell 2 (by simp)
          have c3 := hcell 3 (by simp)
          have c4 := hcell 4 (by simp)
          rw [add_add] at c0 c1 c2 c3 c4
          simp at e0 e1 e2 e3 e4
          subst e0 e1 e2 e3 e4 x0 x1 x2 x3 x4
          subst hxy2 hxy3
          simp only [Prod.mk.injEq] at hxy
          have c0' : W.cell? (a.add (i * 5)) = some (.string s2) := by simpa using c0
          have c1' : W.cell? (a.add (i * 5 + 1)) = some (.string s3) := by simpa using c1
          have c2' : W.cell? (a.add (i * 5 + 2)) = some (.string s4) := by simpa using c2
          have c3' : W.cell? (a.add (i * 5 + 3)) = some (.string s5) := by simpa using c3
          exact ⟨⟨⟨s2.data.toList, s3.data.toList⟩, ⟨s4.data.toList, s5.data.toList⟩, b4⟩, c0', c1', c2', c3', by simpa using c4, by simpa [Ein.datum, Lb.datum] using hxy.1⟩
    have hinh : Inhabited Ein := ⟨⟨⟨[], []⟩, ⟨[], []⟩, false⟩⟩
    obtain ⟨q, hq⟩ := choose_lt (α := Ein) each
    have hD : (List.range len0).map D = (List.range len0).map fun i => (q i).datum := List.map_congr_left (fun i hi => (hq i (by have := List.mem_range.1 hi; omega)).2.2.2.2.2)
    refine ⟨(List.range len0).map q, ?_, ?_⟩
    · by_cases h0 : len0 = 0
      · subst h0
        exact .inl ⟨⟨_, _, rfl⟩, rfl⟩
      · obtain ⟨b, off, spot⟩ := a
        have hspot : spot = none := by simpa [Addr.add] using World.cell?_spot (hq 0 (by omega)).1
        subst hspot
        refine .inr ⟨b, off, m, by simp, by simpa using hl, World.block_lt_of_cell? W _ (by have := (hq 0 (by omega)).1; rw [add_lit] at this; exact this), fun i u hu => ?_⟩
        have hi : i < len0 * 5 := by
          have := (List.getElem?_eq_some_iff.1 hu).1
          rw [eic_length] at this
          simpa using this
        have hj : i / 5 < ((List.range len0).map q).length := by simp; omega
        obtain ⟨t0, t1, t2, t3, t4⟩ := eic_get ((List.range len0).map q) (i / 5) hj
        obtain ⟨u0, u1, u2, u3, u4, _⟩ := hq (i / 5) (by omega)
        rw [add_lit] at u0 u1 u2 u3 u4
        simp only [List.getElem_map, List.getElem_range] at t0 t1 t2 t3 t4
        have hr : i % 5 = 0 ∨ i % 5 = 1 ∨ i % 5 = 2 ∨ i % 5 = 3 ∨ i % 5 = 4 := by omega
        rcases hr with hr | hr | hr | hr | hr
        · rw [show i / 5 * 5 = i from by omega] at t0 u0
          rw [t0] at hu
          rw [u0]
          exact hu
        · rw [show i / 5 * 5 + 1 = i from by omega] at t1 u1
          rw [t1] at hu
          rw [u1]
          exact hu
        · rw [show i / 5 * 5 + 2 = i from by omega] at t2 u2
          rw [t2] at hu
          rw [u2]
          exact hu
        · rw [show i / 5 * 5 + 3 = i from by omega] at t3 u3
          rw [t3] at hu
          rw [u3]
          exact hu
        · rw [show i / 5 * 5 + 4 = i from by omega] at t4 u4
          rw [t4] at hu
          rw [u4]
          exact hu
    · have hd : d = .slice ((List.range len0).map D) ((List.range (m - len0)).map fun j => D (len0 + j)) := by simpa using congrArg Prod.fst hx
      rw [hd, hD]
      simp only [Rows.uptoBulk, List.map_map]
      have e : (List.range len0).map (Ein.datum (H := H) ∘ q) = (List.range len0).map fun i => (q i).datum := rfl
      rw [e]
      omega

end Go.Proofs.Ytclbnjfmipifnaa
