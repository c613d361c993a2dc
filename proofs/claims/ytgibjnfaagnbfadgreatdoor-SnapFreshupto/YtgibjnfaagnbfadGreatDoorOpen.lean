/-
  What came in: texts, files; the library's variables.
-/
import Derived.Test.YtgibjnfaagnbfadGreatDoorHead
import Derived.ProofKit
import Derived.OpenShut
import Derived.ShutString
import Derived.ChangeOld
import Derived.JoinedCond
import Derived.SizedLaws
import Derived.Deep.Strs
import Derived.Deep.SlicePairs
import Derived.Lib.LaidTab
import Derived.Stop.LaidErr
import Derived.LaidLaws
namespace Go.Proofs.YtgibjnfaagnbfadGreatDoor
open Go.ChangeShapes Go.WideShapes Go.ChangeAt Go.RowKit Go.Deep

theorem own : ownKnob Tryz.prog.godebug = none := by kernel_rfl
theorem laidOut : laidOutB Tryz.prog = true := by kernel_rfl
theorem bulk_bound {H : Type} {l : List (DataW H)} (hk : Rows.uptoSmall H l = true) : Rows.uptoBulkAll l ≤ 1048576 := of_decide_eq_true hk
theorem cells9 : Tryz.prog.cellsOf 9 = 1 := by kernel_rfl
theorem cells3' : Tryz.prog.cellsOf 3 = 1 := by kernel_rfl
theorem cells26 : Tryz.prog.cellsOf 26 = 4 := by kernel_rfl

theorem bulk_strs {H : Type} : ∀ l : List (List UInt8), l.length ≤ Rows.uptoBulkAll (l.map fun s => (DataW.lit (.string s) : DataW H)) ∧ ∀ x ∈ l, x.length ≤ Rows.uptoBulkAll (l.map fun s => (DataW.lit (.string s) : DataW H))
  | [] => ⟨by simp, fun x hx => by cases hx⟩
  | y :: l => by
    obtain ⟨h1, h2⟩ := bulk_strs (H := H) l
    rw [List.map_cons]
    simp only [Rows.uptoBulkAll, Rows.uptoBulk, List.length_cons]
    refine ⟨by omega, fun x hx => ?_⟩
    rcases List.mem_cons.1 hx with rfl | hx
    · omega
    · have := h2 x hx; omega

set_option maxRecDepth 100000 in
/-- a slice of texts that came in: what it reads as, and how much it is -/
theorem open_texts {H : Type} {enc : TypeId × Value → H} {W : World} {base : Nat} {v : Value} {d : DataW H} {ps : List MemPlace} (hok : Value.okWide Tryz.prog W .any base 23 v)
    (h : DataW.Trod enc Tryz.prog W 0 (fun _ => true) true 23 v d ps) (hd : Rows.uptoBulk d ≤ 1048576) : ∃ l : List (List UInt8), SS W v l ∧ l.length ≤ 1048576 ∧ Sm l := by
  obtain ⟨a0, len0, cap0, rfl⟩ := okWide_slice Tryz.underlying23 hok
  obtain ⟨fuel, hf⟩ := h
  rcases open_strs Tryz.underlying23 Tryz.underlying9 cells9 hf with ⟨hcs, _⟩ | ⟨a, len, cap, m, Sx, hcs, _, hl, hm, hmm, hx, hcell⟩
  · simp [Value.cells] at hcs
    obtain ⟨rfl, rfl, rfl⟩ := hcs
    exact ⟨[], SS_nil _, by simp, ⟨by simp, fun x hx => by cases hx⟩⟩
  · simp [Value.cells] at hcs
    obtain ⟨rfl, rfl, rfl⟩ := hcs
    simp at hmm
    subst hmm
    have hd2 : d = .slice ((List.range len0).map fun i => .lit (.string (Sx i).data.toList)) ((List.range (m - len0)).map fun j => .lit (.string (Sx (len0 + j)).data.toList)) := by simpa using congrArg Prod.fst hx
    have e1 : (List.range len0).map (fun i => (DataW.lit (.string (Sx i).data.toList) : DataW H)) = ((List.range len0).map fun i => (Sx i).data.toList).map fun s => .lit (.string s) := by simp [Function.comp_def]
    obtain ⟨h1, h2⟩ := bulk_strs (H := H) ((List.range len0).map fun i => (Sx i).data.toList)
    rw [← e1] at h1 h2
    rw [hd2] at hd
    simp only [Rows.uptoBulk] at hd
    refine ⟨(List.range len0).map fun i => (Sx i).data.toList, ?_, by omega, ⟨by omega, fun x hx => by have := h2 x hx; omega⟩⟩
    by_cases h0 : len0 = 0
    · subst h0
      exact .inl ⟨⟨_, _, rfl⟩, rfl⟩
    · obtain ⟨b, off, spot⟩ := a
      have hspot : spot = none := by simpa [Addr.add] using World.cell?_spot (hcell 0 (by omega)).1
      subst hspot
      have hc0 := (hcell 0 (by omega)).1
      rw [add_lit] at hc0
      refine .inr ⟨b, off, m, by simp, by simpa using hl, World.block_lt_of_cell? W _ hc0, fun i u hu => ?_⟩
      have hi : i < len0 := by
        have := (List.getElem?_eq_some_iff.1 hu).1
        simpa [sc_length] using this
      have hc := (hcell i (by omega)).1
      rw [add_lit] at hc
      rw [hc, ← hu]
      simp [sc, hi]
      rfl

/-- a file's datum -/
def Fl.datum {H : Type} (f : Fl) : DataW H := .agg [.lit (.string f.path), .lit (.string f.text), .lit (.int .i64 f.blob), .lit (.int .i64 f.size)]
/-- how long the texts of files are, all in all -/
def tot : List Fl → Nat
  | [] => 0
  | f :: r => f.path.length + f.text.length + 5 + tot r
theorem bulk_files {H : Type} : ∀ l : List Fl, tot l ≤ Rows.uptoBulkAll (l.map (Fl.datum (H := H)))
  | [] => by simp [tot]
  | f :: r => by
    have := bulk_files (H := H) r
    rw [List.map_cons]
    simp only [Rows.uptoBulkAll, Fl.datum, Rows.uptoBulk, tot]
    omega
theorem tot_len : ∀ l : List Fl, 5 * l.length ≤ tot l
  | [] => by simp [tot]
  | f :: r => by have := tot_len r; simp only [tot, List.length_cons]; omega
theorem tot_mem : ∀ l : List Fl, ∀ f ∈ l, f.path.length + f.text.length ≤ tot l
  | [], f, h => by cases h
  | g :: r, f, h => by
    simp only [tot]
    rcases List.mem_cons.1 h with rfl | h
    · omega
    · have := tot_mem r f h; omega

set_option maxRecDepth 100000 in
theorem open_files {H : Type} {enc : TypeId × Value → H} {W : World} {base : Nat} {v : Value} {d : DataW H} {ps : List MemPlace} (hok : Value.okWide Tryz.prog W .any base 22 v)
    (h : DataW.Trod enc Tryz.prog W 0 (fun _ => true) true 22 v d ps) (hd : Rows.uptoBulk d ≤ 1048576) :
    ∃ l : List Fl, FS W v l ∧ FSm l ∧ tot l ≤ 1048576 := by
  suffices hs : ∃ l : List Fl, FS W v l ∧ (∀ i ∈ l, -9223372036854775808 ≤ i.blob ∧ i.blob ≤ 9223372036854775807 ∧ -9223372036854775808 ≤ i.size ∧ i.size ≤ 9223372036854775807) ∧ Rows.uptoBulkAll (l.map (Fl.datum (H := H))) ≤ Rows.uptoBulk d by
    obtain ⟨l, h1, h2, h3⟩ := hs
    have h4 := bulk_files (H := H) l
    have h5 := tot_len l
    have h6 := tot_mem l
    refine ⟨l, h1, ⟨by omega, fun f hf => ?_⟩, by omega⟩
    have := h6 f hf
    obtain ⟨g1, g2, g3, g4⟩ := h2 f hf
    exact ⟨by omega, by omega, g1, g2, g3, g4⟩
  clear hd
  obtain ⟨a0, len0, cap0, rfl⟩ := okWide_slice Tryz.underlying22 hok
  obtain ⟨fuel, hf⟩ := h
  rcases open_slice Tryz.underlying22 hf with ⟨hcs, _⟩ | ⟨a, len, cap, m, n, D, Pl, hcs, _, hl, hm, hmm, hx, hel⟩
  · simp [Value.cells] at hcs
    obtain ⟨rfl, rfl, rfl⟩ := hcs
    exact ⟨[], .inl ⟨⟨_, _, rfl⟩, rfl⟩, (fun i hi => (by cases hi)), by simp [Rows.uptoBulkAll]⟩
  · simp [Value.cells] at hcs
    obtain ⟨rfl, rfl, rfl⟩ := hcs
    simp at hmm
    subst hmm
    have each : ∀ i, i < m → ∃ q : Fl, W.cell? (a.add (i * 4)) = some (.string (bs q.path)) ∧ W.cell? (a.add (i * 4 + 1)) = some (.string (bs q.text)) ∧ W.cell? (a.add (i * 4 + 2)) = some (.int .i64 q.blob) ∧ W.cell? (a.add (i * 4 + 3)) = some (.int .i64 q.size) ∧ D i = q.datum ∧
        -9223372036854775808 ≤ q.blob ∧ q.blob ≤ 9223372036854775807 ∧ -9223372036854775808 ≤ q.size ∧ q.size ≤ 9223372036854775807 := by
      intro i hi
      obtain ⟨cs', h1, h2⟩ := hel i hi
      rw [cells26] at h1
      obtain ⟨_, hlen, hcell⟩ := World.cells?_some h1
      obtain ⟨xs, k, hk, hxy, _, hxl, hfl⟩ := DataW.trod_struct Tryz.underlying26 h2
      match xs, hxl, cs', hlen with
      | [y0, y1, y2, y3], _, [v0, v1, v2, v3], _ =>
        have g0 := hfl 0 _ rfl
        have g1 := hfl 1 _ rfl
        have g2 := hfl 2 _ rfl
        have g3 := hfl 3 _ rfl
        simp [cells3', cells9] at g0 g1 g2 g3
        obtain ⟨s0, e0, x0, ws0⟩ := DataW.trod_string Tryz.underlying9 g0
        obtain ⟨s1, e1, x1, ws1⟩ := DataW.trod_string Tryz.underlying9 g1
        obtain ⟨z2, e2, x2, wz2⟩ := DataW.trod_int Tryz.underlying3 g2
        obtain ⟨z3, e3, x3, wz3⟩ := DataW.trod_int Tryz.underlying3 g3
        have c0 := hcell 0 (by simp)
        have c1 := hcell 1 (by simp)
        have c2 := hcell 2 (by simp)
        have c3 := hcell 3 (by simp)
        rw [add_add] at c0 c1 c2 c3
        simp at e0 e1 e2 e3
        subst e0 e1 e2 e3 x0 x1 x2 x3
        have b2 := bounds_i64 wz2
        have b3 := bounds_i64 wz3
        simp only [Prod.mk.injEq] at hxy
        have c0' : W.cell? (a.add (i * 4)) = some (.string s0) := by simpa using c0
        have c1' : W.cell? (a.add (i * 4 + 1)) = some (.string s1) := by simpa using c1
        exact ⟨⟨s0.data.toList, s1.data.toList, z2, z3⟩, c0', c1', by simpa using c2, by simpa using c3, by simpa [Fl.datum] using hxy.1, b2.1, b2.2, b3.1, b3.2⟩
    have hinh : Inhabited Fl := ⟨zf⟩
    obtain ⟨q, hq⟩ := choose_lt (α := Fl) each
    have hD : (List.range len0).map D = (List.range len0).map fun i => (q i).datum := List.map_congr_left (fun i hi => (hq i (by have := List.mem_range.1 hi; omega)).2.2.2.2.1)
    refine ⟨(List.range len0).map q, ?_, ?_, ?_⟩
    · by_cases h0 : len0 = 0
      · subst h0
        exact .inl ⟨⟨_, _, rfl⟩, rfl⟩
      · obtain ⟨b, off, spot⟩ := a
        have hspot : spot = none := by simpa [Addr.add] using World.cell?_spot (hq 0 (by omega)).1
        subst hspot
        refine .inr ⟨b, off, m, by simp, by simpa using hl, World.block_lt_of_cell? W _ (by have := (hq 0 (by omega)).1; rw [add_lit] at this; exact this), fun i u hu => ?_⟩
        have hi : i < len0 * 4 := by
          have := (List.getElem?_eq_some_iff.1 hu).1
          rw [fc_length] at this
          simpa using this
        have hj : i / 4 < ((List.range len0).map q).length := by simp; omega
        obtain ⟨t0, t1, t2, t3⟩ := fc_get ((List.range len0).map q) (i / 4) hj
        obtain ⟨u0, u1, u2, u3, _⟩ := hq (i / 4) (by omega)
        rw [add_lit] at u0 u1 u2 u3
        simp only [List.getElem_map, List.getElem_range] at t0 t1 t2 t3
        have hr : i % 4 = 0 ∨ i % 4 = 1 ∨ i % 4 = 2 ∨ i % 4 = 3 := by omega
        rcases hr with hr | hr | hr | hr
        · rw [show i / 4 * 4 = i from by omega] at t0 u0
          rw [t0] at hu
          rw [u0]
          exact hu
        · rw [show i / 4 * 4 + 1 = i from by omega] at t1 u1
          rw [t1] at hu
          rw [u1]
          exact hu
        · rw [show i / 4 * 4 + 2 = i from by omega] at t2 u2
          rw [t2] at hu
          rw [u2]
          exact hu
        · rw [show i / 4 * 4 + 3 = i from by omega] at t3 u3
          rw [t3] at hu
          rw [u3]
          exact hu
    · intro i hi
      obtain ⟨j, hj, rfl⟩ := List.mem_map.1 hi
      obtain ⟨_, _, _, _, _, r⟩ := hq j (by have := List.mem_range.1 hj; omega)
      exact r
    · have hd : d = .slice ((List.range len0).map D) ((List.range (m - len0)).map fun j => D (len0 + j)) := by simpa using congrArg Prod.fst hx
      rw [hd, hD]
      simp only [Rows.uptoBulk, List.map_map]
      have e : (List.range len0).map (Fl.datum (H := H) ∘ q) = (List.range len0).map fun i => (q i).datum := rfl
      rw [e]
      omega

theorem gSynType : (Tryz.prog.globals[1]?).map (·.type) = some 49 := by kernel_rfl
theorem gRngType : (Tryz.prog.globals[2]?).map (·.type) = some 49 := by kernel_rfl
theorem gPowType : (Tryz.prog.globals[3]?).map (·.type) = some 136 := by kernel_rfl
theorem gBru : Tryz.prog.globalNamed "math/bits.deBruijn64tab" = some 7 := by kernel_rfl
theorem gBruType : (Tryz.prog.globals[7]?).map (·.type) = some 155 := by kernel_rfl
theorem und136 : Tryz.prog.underlying 136 = some (.array 20 78) := by kernel_rfl
theorem und78 : Tryz.prog.underlying 78 = some (.int .u64) := by kernel_rfl
theorem und155 : Tryz.prog.underlying 155 = some (.array 64 5) := by kernel_rfl
theorem cells78 : Tryz.prog.cellsOf 78 = 1 := by kernel_rfl
theorem cells136 : Tryz.prog.cellsOf 136 = 20 := by kernel_rfl
theorem cells5 : Tryz.prog.cellsOf 5 = 1 := by kernel_rfl
theorem cells155 : Tryz.prog.cellsOf 155 = 64 := by kernel_rfl
theorem cells141 : Tryz.prog.cellsOf 141 = 1 := by kernel_rfl
theorem star : "*" ++ "errors.errorString" = "*errors.errorString" := by decide
theorem row139 (u : TypeId) (h : Tryz.prog.typeName? 3 u = some "*errors.errorString") : u = 139 :=
  typeName_ptr_named (nm := "errors.errorString") (by rw [star]; kernel_rfl) (by kernel_rfl) (by decide) u (by rw [star]; exact h)
theorem und139 : Tryz.prog.underlying 139 = some (.pointer 141) := by kernel_rfl

set_option maxRecDepth 100000 in
/-- the library's variables lie as the row's list says -/
theorem env_of {W : World} (h : laidMetH Tryz.prog Rows.snapFreshUptoRow.laid W) (hsh : W.ShapedOpen Tryz.prog) : Env W := by
  have h1 : laidMet Tryz.prog Rows.snapFreshUptoRow.laid W := h
  have h2 := h1.tail
  have h3 := h2.tail
  have h4 := h3.tail
  have h5 := h4.tail
  have h6 := h5.tail
  obtain ⟨a0, s0, hv0, _, _, _⟩ := laid_sentinel h5 gRng gRngType Tryz.underlying49 row139 und139 Tryz.underlying141 rfl rfl Tryz.underlying9 cells141 cells9
  obtain ⟨a1, s1, hv1, _, _, _⟩ := laid_sentinel h6 gSyn gSynType Tryz.underlying49 row139 und139 Tryz.underlying141 rfl rfl Tryz.underlying9 cells141 cells9
  have ht : Lib.TabIs Tryz.prog W "internal/strconv.uint64pow10" .u64 Lib.pow10Tab := Lib.tabIs_of_head gPow gPowType und136 und78 cells78 cells136 h3
  have hz : 7 < W.heap.size := by
    obtain ⟨ps, ⟨g0, t0, cs0, f0, p0, q0, hg0, ht0, hvv, hd0, _, e0⟩, _, hrows⟩ := h2
    unfold World.var? at hvv
    rw [gBru] at hvv
    simp only [Option.bind_some] at hvv
    rcases Nat.lt_or_ge 7 W.heap.size with h' | h'
    · exact h'
    · simp [Array.getElem?_eq_none h'] at hvv
  exact ⟨ht, ⟨_, _, hv1⟩, ⟨_, _, hv0⟩, Tryz.splitL.s1_3 W hsh, hz⟩
end Go.Proofs.YtgibjnfaagnbfadGreatDoor
