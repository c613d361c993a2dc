/-
  What came in: files, changes.
-/
import Derived.Test.YtinhdjoidbcfaaaBack
import Derived.ProofKit
import Derived.OpenShut
import Derived.ShutString
import Derived.ChangeOld
import Derived.JoinedCond
import Derived.SizedLaws
import Derived.Deep.Strs
import Derived.Deep.SlicePairs
namespace Go.Proofs.Ytinhdjoidbcfaaa
open Go.ChangeShapes Go.WideShapes Go.ChangeAt Go.RowKit Go.Deep

theorem own0 : ownKnob Try.prog.godebug = none := by kernel_rfl
theorem laidOut : laidOutB Try.prog = true := by kernel_rfl
theorem cells9 : Try.prog.cellsOf 9 = 1 := by kernel_rfl
theorem cells3' : Try.prog.cellsOf 3 = 1 := by kernel_rfl
theorem cells30 : Try.prog.cellsOf 40 = 4 := by kernel_rfl

/-- a file's datum -/
def Fl.datum {H : Type} (f : Fl) : DataW H := .agg [.lit (.string f.path), .lit (.string f.text), .lit (.int .i64 f.blob), .lit (.int .i64 f.size)]
theorem w_all {H : Type} {e : TypeId} : ∀ {l : List (DataW H)} {d : DataW H}, d ∈ l → ∀ n ∈ d.weights Try.prog e, n ∈ DataW.weightsAll Try.prog e l
  | [], d, h => by cases h
  | c :: r, d, h => fun n hn => by
    rw [DataW.weightsAll, List.mem_append]
    rcases List.mem_cons.1 h with rfl | h
    · exact .inl hn
    · exact .inr (w_all h n hn)
theorem w_file {H : Type} (f : Fl) : f.path.length ∈ (Fl.datum (H := H) f).weights Try.prog 40 ∧ f.text.length ∈ (Fl.datum (H := H) f).weights Try.prog 40 := by
  simp [Fl.datum, DataW.weights, Try.underlying40, DataW.weightsEach]
theorem bytes30 : Try.prog.bytesOf 40 = 48 := by kernel_rfl
theorem w_slice {H : Type} {t e : TypeId} {elems spare : List (DataW H)} (hu : Try.prog.underlying t = some (.slice e)) :
    (elems.length + spare.length) * Try.prog.bytesOf e ∈ (DataW.slice elems spare).weights Try.prog t ∧ ∀ d ∈ elems, ∀ n ∈ d.weights Try.prog e, n ∈ (DataW.slice elems spare).weights Try.prog t := by
  simp only [DataW.weights, hu]
  refine ⟨List.mem_cons_self, fun d hd n hn => List.mem_cons_of_mem _ (List.mem_append_left _ (w_all hd n hn))⟩

set_option maxRecDepth 100000 in
theorem read_files {H : Type} {enc : TypeId × Value → H} {W : World} {base : Nat} {v : Value} {d : DataW H} {ps : List MemPlace} (hok : Value.okWide Try.prog W .any base 22 v)
    (h : DataW.Trod enc Try.prog W 0 (fun _ => true) true 22 v d ps) :
    ∃ l : List Fl, FS W v l ∧ (∀ i ∈ l, -9223372036854775808 ≤ i.blob ∧ i.blob ≤ 9223372036854775807 ∧ -9223372036854775808 ≤ i.size ∧ i.size ≤ 9223372036854775807) ∧ (l = [] ∨ ∃ sp, d = .slice (l.map (Fl.datum (H := H))) sp) := by
  obtain ⟨a0, len0, cap0, rfl⟩ := okWide_slice Try.underlying22 hok
  obtain ⟨fuel, hf⟩ := h
  rcases open_slice Try.underlying22 hf with ⟨hcs, _⟩ | ⟨a, len, cap, m, n, D, Pl, hcs, _, hl, hm, hmm, hx, hel⟩
  · simp [Value.cells] at hcs
    obtain ⟨rfl, rfl, rfl⟩ := hcs
    exact ⟨[], .inl ⟨⟨_, _, rfl⟩, rfl⟩, (fun i hi => (by cases hi)), .inl rfl⟩
  · simp [Value.cells] at hcs
    obtain ⟨rfl, rfl, rfl⟩ := hcs
    simp at hmm
    subst hmm
    have each : ∀ i, i < m → ∃ q : Fl, W.cell? (a.add (i * 4)) = some (.string (bs q.path)) ∧ W.cell? (a.add (i * 4 + 1)) = some (.string (bs q.text)) ∧ W.cell? (a.add (i * 4 + 2)) = some (.int .i64 q.blob) ∧ W.cell? (a.add (i * 4 + 3)) = some (.int .i64 q.size) ∧ D i = q.datum ∧
        -9223372036854775808 ≤ q.blob ∧ q.blob ≤ 9223372036854775807 ∧ -9223372036854775808 ≤ q.size ∧ q.size ≤ 9223372036854775807 := by
      intro i hi
      obtain ⟨cs', h1, h2⟩ := hel i hi
      rw [cells30] at h1
      obtain ⟨_, hlen, hcell⟩ := World.cells?_some h1
      obtain ⟨xs, k, hk, hxy, _, hxl, hfl⟩ := DataW.trod_struct Try.underlying40 h2
      match xs, hxl, cs', hlen with
      | [y0, y1, y2, y3], _, [v0, v1, v2, v3], _ =>
        have g0 := hfl 0 _ rfl
        have g1 := hfl 1 _ rfl
        have g2 := hfl 2 _ rfl
        have g3 := hfl 3 _ rfl
        simp [cells3', cells9] at g0 g1 g2 g3
        obtain ⟨s0, e0, x0, ws0⟩ := DataW.trod_string Try.underlying9 g0
        obtain ⟨s1, e1, x1, ws1⟩ := DataW.trod_string Try.underlying9 g1
        obtain ⟨z2, e2, x2, wz2⟩ := DataW.trod_int Try.underlying3 g2
        obtain ⟨z3, e3, x3, wz3⟩ := DataW.trod_int Try.underlying3 g3
        have c0 := hcell 0 (by simp)
        have c1 := hcell 1 (by simp)
        have c2 := hcell 2 (by simp)
        have c3 := hcell 3 (by simp)
        rw [add_add] at c0 c1 c2 c3
        simp at e0 e1 e2 e3
        subst e0 e1 e2 e3 x0 x1 x2 x3
        have b2 := bounds_i64 wz2
        have b3 := bounds_i64 wz3
        simp only [Prod.mk.injEq] at hxy
        have c0' : W.cell? (a.add (i * 4)) = some (.string s0) := by simpa using c0
        have c1' : W.cell? (a.add (i * 4 + 1)) = some (.string s1) := by simpa using c1
        exact ⟨⟨s0.data.toList, s1.data.toList, z2, z3⟩, c0', c1', by simpa using c2, by simpa using c3, by simpa [Fl.datum] using hxy.1, b2.1, b2.2, b3.1, b3.2⟩
    have hinh : Inhabited Fl := ⟨zf⟩
    obtain ⟨q, hq⟩ := choose_lt (α := Fl) each
    have hD : (List.range len0).map D = (List.range len0).map fun i => (q i).datum := List.map_congr_left (fun i hi => (hq i (by have := List.mem_range.1 hi; omega)).2.2.2.2.1)
    refine ⟨(List.range len0).map q, ?_, ?_, ?_⟩
    · by_cases h0 : len0 = 0
      · subst h0
        exact .inl ⟨⟨_, _, rfl⟩, rfl⟩
      · obtain ⟨b, off, spot⟩ := a
        have hspot : spot = none := by simpa [Addr.add] using World.cell?_spot (hq 0 (by omega)).1
        subst hspot
        refine .inr ⟨b, off, m, by simp, by simpa using hl, World.block_lt_of_cell? W _ (by have := (hq 0 (by omega)).1; rw [add_lit] at this; exact this), fun i u hu => ?_⟩
        have hi : i < len0 * 4 := by
          have := (List.getElem?_eq_some_iff.1 hu).1
          rw [fc_length] at this
          simpa using this
        have hj : i / 4 < ((List.range len0).map q).length := by simp; omega
        obtain ⟨t0, t1, t2, t3⟩ := fc_get ((List.range len0).map q) (i / 4) hj
        obtain ⟨u0, u1, u2, u3, _⟩ := hq (i / 4) (by omega)
        rw [add_lit] at u0 u1 u2 u3
        simp only [List.getElem_map, List.getElem_range] at t0 t1 t2 t3
        have hr : i % 4 = 0 ∨ i % 4 = 1 ∨ i % 4 = 2 ∨ i % 4 = 3 := by omega
        rcases hr with hr | hr | hr | hr
        · rw [show i / 4 * 4 = i from by omega] at t0 u0
          rw [t0] at hu
          rw [u0]
          exact hu
        · rw [show i / 4 * 4 + 1 = i from by omega] at t1 u1
          rw [t1] at hu
          rw [u1]
          exact hu
        · rw [show i / 4 * 4 + 2 = i from by omega] at t2 u2
          rw [t2] at hu
          rw [u2]
          exact hu
        · rw [show i / 4 * 4 + 3 = i from by omega] at t3 u3
          rw [t3] at hu
          rw [u3]
          exact hu
    · intro i hi
      obtain ⟨j, hj, rfl⟩ := List.mem_map.1 hi
      obtain ⟨_, _, _, _, _, r⟩ := hq j (by have := List.mem_range.1 hj; omega)
      exact r
    · have hd : d = .slice ((List.range len0).map D) ((List.range (m - len0)).map fun j => D (len0 + j)) := by simpa using congrArg Prod.fst hx
      exact .inr ⟨_, by rw [hd, hD, List.map_map]; rfl⟩
set_option maxRecDepth 100000 in
theorem open_files {H : Type} {enc : TypeId × Value → H} {W : World} {base : Nat} {v : Value} {d : DataW H} {ps : List MemPlace} (hok : Value.okWide Try.prog W .any base 22 v)
    (h : DataW.Trod enc Try.prog W 0 (fun _ => true) true 22 v d ps) (hd : ∀ n ∈ d.weights Try.prog 22, n ≤ reachBytes) :
    ∃ l : List Fl, FS W v l ∧ FSm l := by
  suffices hs : ∃ l : List Fl, FS W v l ∧ (∀ i ∈ l, -9223372036854775808 ≤ i.blob ∧ i.blob ≤ 9223372036854775807 ∧ -9223372036854775808 ≤ i.size ∧ i.size ≤ 9223372036854775807) ∧ (l = [] ∨ ∃ sp, d = .slice (l.map (Fl.datum (H := H))) sp) by
    obtain ⟨l, h1, h2, h3⟩ := hs
    rcases h3 with rfl | ⟨sp, rfl⟩
    · exact ⟨[], h1, ⟨by simp, fun f hf => by cases hf⟩⟩
    · obtain ⟨w1, w2⟩ := w_slice (H := H) (elems := l.map (Fl.datum (H := H))) (spare := sp) Try.underlying22
      have b1 := hd _ w1
      rw [bytes30, List.length_map] at b1
      simp only [reachBytes] at b1
      refine ⟨l, h1, ⟨by omega, fun f hf => ?_⟩⟩
      have b2 := hd _ (w2 _ (List.mem_map_of_mem hf) _ (w_file f).1)
      have b3 := hd _ (w2 _ (List.mem_map_of_mem hf) _ (w_file f).2)
      simp only [reachBytes] at b2 b3
      obtain ⟨g1, g2, g3, g4⟩ := h2 f hf
      exact ⟨by omega, by omega, g1, g2, g3, g4⟩
  exact read_files hok h
end Go.Proofs.Ytinhdjoidbcfaaa
