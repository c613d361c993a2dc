/-
  The law MergeKeeps.
  What came in: files, texts, where they are small.
  What came in: a directory and a budget.
-/
import Derived.Test.YtbaheiimcnfaaaaGreatOz
import Derived.Test.YtbaheiimcnfaaaaGreatJSEq
import Derived.Test.YtbaheiimcnfaaaaGreatJNorm
import Derived.Test.YtbaheiimcnfaaaaGreatRows
import Derived.ProofKit
import Derived.OpenShut
import Derived.ShutString
import Derived.ChangeOld
import Derived.JoinedCond
import Derived.SizedLaws
import Derived.Deep.Strs
import Derived.Deep.SlicePairs
import Derived.Lib.SmallJoins
namespace Go.Proofs.YtbaheiimcnfaaaaGreat
open Go.RowKit Go.Maps
attribute [local go_sem] Oper.semAt_some

set_option maxRecDepth 100000 in
set_option maxHeartbeats 16000000 in
theorem mkeeps_law {w : World} {lv kv : Value} {l : List Fl} {k : List (List UInt8)} (p : List UInt8) (b : Int) (hf : FS w lv l) (hk : SS w kv k) (sl : FSm l) (sk : Sm k) (hl : l.length ≤ 1000000000) (hkl : k.length ≤ 1000000000) (hp : p.length ≤ 4194304) :
    Calls Tryz.prog 4 #[lv, kv, .agg #[.string (bs p), .int .i64 b]] w (GoodK w) := by
  have HX : Hid (FSm l ∧ Sm k) := ⟨sl, sk⟩
  have HP : Hid (p.length ≤ 4194304) := hp
  have HH := hid_of (fun W => head_any mc_any W)
  have HSM := hid_of (fun W (hW : Below w.heap.size w W) => small_any (hf.later hW) (hk.later hW) hl hkl)
  have HG : Hid (∀ W, Below (w.alloc (.cells #[.string (bs p), .int .i64 b] 43)).heap.size (w.alloc (.cells #[.string (bs p), .int .i64 b] 43)) W → W.cell? ⟨w.heap.size, 0, none⟩ = some (.string (bs p)) ∧ W.cell? ⟨w.heap.size, 1, none⟩ = some (.int .i64 b)) := fun W hW => by
    have hb := (hW.block w.heap.size (by simp)).trans (heap_alloc_new w (.cells #[.string (bs p), .int .i64 b] 43))
    refine ⟨?_, ?_⟩ <;> (simp only [World.cell?, hb]; rfl)
  have B0 := hid_of (balloc w (.cells #[.string (bs p), .int .i64 b] 43))
  obtain ⟨B, _, hB8, hB⟩ := bud7 b
  have HBB : Hid (B ≤ 8 ∧ wrap64 (1 + bits .and .i64 b 7) = (B : Int)) := ⟨hB8, hB⟩
  obtain ⟨fa, fcp, hfv, -⟩ := hf.form
  generalize l.length = fn at hfv
  subst hfv
  obtain ⟨ka, kcp, hkv, -⟩ := hk.form
  generalize k.length = kn at hkv
  subst hkv
  clear hf hk sl sk hl hkl hp hB8 hB
  go_enter Tryz.func4, Tryz.ntmps4
  refine wp_seq_k fun K hK => ?_
  have HK : Hid _ := hK
  clear hK
  go_wp2_with fail
  refine HK.out _ _ ?_
  clear HK K
  generalize hW0 : w.alloc (.cells #[.string (bs p), .int .i64 b] 43) = W0 at HG B0 ⊢
  clear hW0
  generalize hg0 : w.heap.size = g0 at HG ⊢
  refine wp_seq_k fun K hK => ?_
  have HK : Hid _ := hK
  clear hK
  go_wp2_with fail
  refine (HH.out W0).mono ?_
  rintro e w1 ⟨rfl, hb1⟩
  have B1 : Hid (Below W0.heap.size W0 w1) := hb1
  have B1w : Hid (Below w.heap.size w w1) := bstep B0.out hb1
  clear HH hb1
  go_wp2_with fail
  refine HK.out _ _ ?_
  clear HK K
  refine wp_seq_k fun K hK => ?_
  have HK : Hid _ := hK
  clear hK
  go_wp2_with fail
  refine (HSM.out w1 B1w.out).mono ?_
  rintro e w2 ⟨⟨x, y, rfl, hfx, hky⟩, hb2⟩
  have HL0 : Hid (FSm (l.take 120) ∧ Sm (k.take 16) ∧ (k.take 16).length ≤ 16 ∧ (l.take 120).length ≤ 120) := ⟨HX.out.1.take _, HX.out.2.takes _, by rw [List.length_take]; omega, by rw [List.length_take]; omega⟩
  have B2 : Hid (Below W0.heap.size W0 w2) := bstep B1.out hb2
  have B2w : Hid (Below w.heap.size w w2) := bstep B1w.out hb2
  clear hb2 HSM HX
  generalize l.take 120 = L at hfx HL0
  generalize k.take 16 = Kk at hky HL0
  obtain ⟨la, lc, hx, -⟩ := hfx.form
  obtain ⟨ln, hln⟩ : ∃ ln, L.length = ln := ⟨_, rfl⟩
  rw [hln] at hx
  subst hx
  obtain ⟨qa, qc, hy, -⟩ := hky.form
  obtain ⟨qn, hqn⟩ : ∃ qn, Kk.length = qn := ⟨_, rfl⟩
  rw [hqn] at hy
  subst hy
  have Z : Hid (MZ w w2 la qa ln qn lc qc L Kk) := ⟨B2w.out, hln, hqn, by rw [← hln]; exact HL0.out.2.2.2, by rw [← hqn]; exact HL0.out.2.2.1, hfx, hky, HL0.out.1, HL0.out.2.1⟩
  have HQY : Hid (QY w2 g0 p b B) := ⟨(HG.out w2 B2.out).1, (HG.out w2 B2.out).2, HP.out, HBB.out.2, HBB.out.1⟩
  clear hfx hky hln hqn
  go_wp2_with fail
  refine HK.out _ _ ?_
  clear HK K
  exact p4 Z HQY
end Go.Proofs.YtbaheiimcnfaaaaGreat

namespace Go.Proofs.YtbaheiimcnfaaaaGreat
open Go.ChangeShapes Go.WideShapes Go.ChangeAt Go.RowKit Go.Deep

def zf : Fl := ⟨[], [], 0, 0⟩
set_option maxRecDepth 100000 in
theorem own0 : ownKnob Tryz.prog.godebug = none := by kernel_rfl
set_option maxRecDepth 100000 in
theorem laidOut : laidOutB Tryz.prog = true := by kernel_rfl
set_option maxRecDepth 100000 in
theorem cells9 : Tryz.prog.cellsOf 9 = 1 := by kernel_rfl
set_option maxRecDepth 100000 in
theorem cells3' : Tryz.prog.cellsOf 3 = 1 := by kernel_rfl
set_option maxRecDepth 100000 in
theorem cells30 : Tryz.prog.cellsOf 45 = 4 := by kernel_rfl

/-- a file's datum -/
def Fl.datum {H : Type} (f : Fl) : DataW H := .agg [.lit (.string f.path), .lit (.string f.text), .lit (.int .i64 f.blob), .lit (.int .i64 f.size)]
set_option maxRecDepth 100000 in
theorem read_files {H : Type} {enc : TypeId × Value → H} {W : World} {base : Nat} {v : Value} {d : DataW H} {ps : List MemPlace} (hok : Value.okWide Tryz.prog W .any base 22 v)
    (h : DataW.Trod enc Tryz.prog W 0 (fun _ => true) true 22 v d ps) :
    ∃ l : List Fl, FS W v l ∧ (∀ i ∈ l, -9223372036854775808 ≤ i.blob ∧ i.blob ≤ 9223372036854775807 ∧ -9223372036854775808 ≤ i.size ∧ i.size ≤ 9223372036854775807) ∧ (l = [] ∨ ∃ sp, d = .slice (l.map (Fl.datum (H := H))) sp) := by
  obtain ⟨a0, len0, cap0, rfl⟩ := okWide_slice Tryz.underlying22 hok
  obtain ⟨fuel, hf⟩ := h
  rcases open_slice Tryz.underlying22 hf with ⟨hcs, _⟩ | ⟨a, len, cap, m, n, D, Pl, hcs, _, hl, hm, hmm, hx, hel⟩
  · simp [Value.cells] at hcs
    obtain ⟨rfl, rfl, rfl⟩ := hcs
    exact ⟨[], .inl ⟨⟨_, _, rfl⟩, rfl⟩, (fun i hi => (by cases hi)), .inl rfl⟩
  · simp [Value.cells] at hcs
    obtain ⟨rfl, rfl, rfl⟩ := hcs
    simp at hmm
    subst hmm
    have each : ∀ i, i < m → ∃ q : Fl, W.cell? (a.add (i * 4)) = some (.string (bs q.path)) ∧ W.cell? (a.add (i * 4 + 1)) = some (.string (bs q.text)) ∧ W.cell? (a.add (i * 4 + 2)) = some (.int .i64 q.blob) ∧ W.cell? (a.add (i * 4 + 3)) = some (.int .i64 q.size) ∧ D i = q.datum ∧
        -9223372036854775808 ≤ q.blob ∧ q.blob ≤ 9223372036854775807 ∧ -9223372036854775808 ≤ q.size ∧ q.size ≤ 9223372036854775807 := by
      intro i hi
      obtain ⟨cs', h1, h2⟩ := hel i hi
      rw [cells30] at h1
      obtain ⟨_, hlen, hcell⟩ := World.cells?_some h1
      obtain ⟨xs, k, hk, hxy, _, hxl, hfl⟩ := DataW.trod_struct Tryz.underlying45 h2
      match xs, hxl, cs', hlen with
      | [y0, y1, y2, y3], _, [v0, v1, v2, v3], _ =>
        have g0 := hfl 0 _ rfl
        have g1 := hfl 1 _ rfl
        have g2 := hfl 2 _ rfl
        have g3 := hfl 3 _ rfl
        simp [cells3', cells9] at g0 g1 g2 g3
        obtain ⟨s0, e0, x0, ws0⟩ := DataW.trod_string Tryz.underlying9 g0
        obtain ⟨s1, e1, x1, ws1⟩ := DataW.trod_string Tryz.underlying9 g1
        obtain ⟨z2, e2, x2, wz2⟩ := DataW.trod_int Tryz.underlying3 g2
        obtain ⟨z3, e3, x3, wz3⟩ := DataW.trod_int Tryz.underlying3 g3
        have c0 := hcell 0 (by simp)
        have c1 := hcell 1 (by simp)
        have c2 := hcell 2 (by simp)
        have c3 := hcell 3 (by simp)
        rw [add_add] at c0 c1 c2 c3
        simp at e0 e1 e2 e3
        subst e0 e1 e2 e3 x0 x1 x2 x3
        have b2 := bounds_i64 wz2
        have b3 := bounds_i64 wz3
        simp only [Prod.mk.injEq] at hxy
        have c0' : W.cell? (a.add (i * 4)) = some (.string s0) := by simpa using c0
        have c1' : W.cell? (a.add (i * 4 + 1)) = some (.string s1) := by simpa using c1
        exact ⟨⟨s0.data.toList, s1.data.toList, z2, z3⟩, c0', c1', by simpa using c2, by simpa using c3, by simpa [Fl.datum] using hxy.1, b2.1, b2.2, b3.1, b3.2⟩
    have hinh : Inhabited Fl := ⟨zf⟩
    obtain ⟨q, hq⟩ := choose_lt (α := Fl) each
    have hD : (List.range len0).map D = (List.range len0).map fun i => (q i).datum := List.map_congr_left (fun i hi => (hq i (by have := List.mem_range.1 hi; omega)).2.2.2.2.1)
    refine ⟨(List.range len0).map q, ?_, ?_, ?_⟩
    · by_cases h0 : len0 = 0
      · subst h0
        exact .inl ⟨⟨_, _, rfl⟩, rfl⟩
      · obtain ⟨b, off, spot⟩ := a
        have hspot : spot = none := by simpa [Addr.add] using World.cell?_spot (hq 0 (by omega)).1
        subst hspot
        refine .inr ⟨b, off, m, by simp, by simpa using hl, World.block_lt_of_cell? W _ (by have := (hq 0 (by omega)).1; rw [add_lit] at this; exact this), fun i u hu => ?_⟩
        have hi : i < len0 * 4 := by
          have := (List.getElem?_eq_some_iff.1 hu).1
          rw [fc_length] at this
          simpa using this
        have hj : i / 4 < ((List.range len0).map q).length := by simp; omega
        obtain ⟨t0, t1, t2, t3⟩ := fc_get ((List.range len0).map q) (i / 4) hj
        obtain ⟨u0, u1, u2, u3, _⟩ := hq (i / 4) (by omega)
        rw [add_lit] at u0 u1 u2 u3
        simp only [List.getElem_map, List.getElem_range] at t0 t1 t2 t3
        have hr : i % 4 = 0 ∨ i % 4 = 1 ∨ i % 4 = 2 ∨ i % 4 = 3 := by omega
        rcases hr with hr | hr | hr | hr
        · rw [show i / 4 * 4 = i from by omega] at t0 u0
          rw [t0] at hu
          rw [u0]
          exact hu
        · rw [show i / 4 * 4 + 1 = i from by omega] at t1 u1
          rw [t1] at hu
          rw [u1]
          exact hu
        · rw [show i / 4 * 4 + 2 = i from by omega] at t2 u2
          rw [t2] at hu
          rw [u2]
          exact hu
        · rw [show i / 4 * 4 + 3 = i from by omega] at t3 u3
          rw [t3] at hu
          rw [u3]
          exact hu
    · intro i hi
      obtain ⟨j, hj, rfl⟩ := List.mem_map.1 hi
      obtain ⟨_, _, _, _, _, r⟩ := hq j (by have := List.mem_range.1 hj; omega)
      exact r
    · have hd : d = .slice ((List.range len0).map D) ((List.range (m - len0)).map fun j => D (len0 + j)) := by simpa using congrArg Prod.fst hx
      exact .inr ⟨_, by rw [hd, hD, List.map_map]; rfl⟩
set_option maxRecDepth 100000 in
theorem bulk_bound {H : Type} {l : List (DataW H)} (hk : Rows.uptoSmall H l = true) : Rows.uptoBulkAll l ≤ 1048576 := of_decide_eq_true hk
set_option maxRecDepth 100000 in
theorem bulk_mem {H : Type} : ∀ {l : List (DataW H)} {d : DataW H}, d ∈ l → Rows.uptoBulk d ≤ Rows.uptoBulkAll l
  | c :: r, d, h => by
    simp only [Rows.uptoBulkAll]
    rcases List.mem_cons.1 h with rfl | h
    · omega
    · have := bulk_mem h; omega
set_option maxRecDepth 100000 in
theorem bulk_len {H : Type} (k : Nat) : ∀ {l : List (DataW H)}, (∀ d ∈ l, k ≤ Rows.uptoBulk d) → k * l.length ≤ Rows.uptoBulkAll l
  | [], _ => by simp
  | c :: r, h => by
    have h1 := bulk_len k (l := r) (fun d hd => h d (by simp [hd]))
    have h2 := h c (by simp)
    simp only [Rows.uptoBulkAll, List.length_cons, Nat.mul_add]; omega
set_option maxRecDepth 100000 in
theorem bulk_fl {H : Type} (f : Fl) : Rows.uptoBulk (Fl.datum (H := H) f) = f.path.length + f.text.length + 5 := by
  simp only [Fl.datum, Rows.uptoBulk, Rows.uptoBulkAll]; omega
set_option maxRecDepth 100000 in
theorem upto_files {H : Type} {enc : TypeId × Value → H} {W : World} {base : Nat} {v : Value} {d : DataW H} {ps : List MemPlace} (hok : Value.okWide Tryz.prog W .any base 22 v)
    (h : DataW.Trod enc Tryz.prog W 0 (fun _ => true) true 22 v d ps) (hd : Rows.uptoBulk d ≤ 1048576) : ∃ l : List Fl, FS W v l ∧ FSm l ∧ l.length ≤ 1048576 := by
  obtain ⟨l, h1, h2, h3⟩ := read_files hok h
  rcases h3 with rfl | ⟨sp, rfl⟩
  · exact ⟨[], h1, ⟨by simp, fun f hf => by cases hf⟩, by simp⟩
  · simp only [Rows.uptoBulk] at hd
    have hl := bulk_len (H := H) 1 (l := l.map (Fl.datum (H := H))) (fun d hd => by
      obtain ⟨c, _, rfl⟩ := List.mem_map.1 hd
      rw [bulk_fl]; omega)
    simp only [List.length_map] at hl
    refine ⟨l, h1, ⟨by omega, fun c hc => ?_⟩, by omega⟩
    have hb := bulk_mem (H := H) (List.mem_map_of_mem (f := Fl.datum (H := H)) hc)
    rw [bulk_fl] at hb
    obtain ⟨g1, g2, g3, g4⟩ := h2 c hc
    exact ⟨by omega, by omega, g1, g2, g3, g4⟩
set_option maxRecDepth 100000 in
theorem bulk_strs {H : Type} : ∀ l : List (List UInt8), l.length ≤ Rows.uptoBulkAll (l.map fun s => (DataW.lit (.string s) : DataW H)) ∧ ∀ x ∈ l, x.length ≤ Rows.uptoBulkAll (l.map fun s => (DataW.lit (.string s) : DataW H))
  | [] => ⟨by simp, fun x hx => by cases hx⟩
  | y :: l => by
    obtain ⟨h1, h2⟩ := bulk_strs (H := H) l
    rw [List.map_cons]
    simp only [Rows.uptoBulkAll, Rows.uptoBulk, List.length_cons]
    refine ⟨by omega, fun x hx => ?_⟩
    rcases List.mem_cons.1 hx with rfl | hx
    · omega
    · have := h2 x hx; omega

set_option maxRecDepth 100000 in
/-- a slice of texts that came in: what it reads as, and how much it is -/
theorem open_texts {H : Type} {enc : TypeId × Value → H} {W : World} {base : Nat} {v : Value} {d : DataW H} {ps : List MemPlace} (hok : Value.okWide Tryz.prog W .any base 23 v)
    (h : DataW.Trod enc Tryz.prog W 0 (fun _ => true) true 23 v d ps) (hd : Rows.uptoBulk d ≤ 1048576) : ∃ l : List (List UInt8), SS W v l ∧ l.length ≤ 1048576 ∧ Sm l := by
  obtain ⟨a0, len0, cap0, rfl⟩ := okWide_slice Tryz.underlying23 hok
  obtain ⟨fuel, hf⟩ := h
  rcases open_strs Tryz.underlying23 Tryz.underlying9 cells9 hf with ⟨hcs, _⟩ | ⟨a, len, cap, m, Sx, hcs, _, hl, hm, hmm, hx, hcell⟩
  · simp [Value.cells] at hcs
    obtain ⟨rfl, rfl, rfl⟩ := hcs
    exact ⟨[], SS_nil _, by simp, ⟨by simp, fun x hx => by cases hx⟩⟩
  · simp [Value.cells] at hcs
    obtain ⟨rfl, rfl, rfl⟩ := hcs
    simp at hmm
    subst hmm
    have hd2 : d = .slice ((List.range len0).map fun i => .lit (.string (Sx i).data.toList)) ((List.range (m - len0)).map fun j => .lit (.string (Sx (len0 + j)).data.toList)) := by simpa using congrArg Prod.fst hx
    have e1 : (List.range len0).map (fun i => (DataW.lit (.string (Sx i).data.toList) : DataW H)) = ((List.range len0).map fun i => (Sx i).data.toList).map fun s => .lit (.string s) := by simp [Function.comp_def]
    obtain ⟨h1, h2⟩ := bulk_strs (H := H) ((List.range len0).map fun i => (Sx i).data.toList)
    rw [← e1] at h1 h2
    rw [hd2] at hd
    simp only [Rows.uptoBulk] at hd
    refine ⟨(List.range len0).map fun i => (Sx i).data.toList, ?_, by omega, ⟨by omega, fun x hx => by have := h2 x hx; omega⟩⟩
    by_cases h0 : len0 = 0
    · subst h0
      exact .inl ⟨⟨_, _, rfl⟩, rfl⟩
    · obtain ⟨b, off, spot⟩ := a
      have hspot : spot = none := by simpa [Addr.add] using World.cell?_spot (hcell 0 (by omega)).1
      subst hspot
      have hc0 := (hcell 0 (by omega)).1
      rw [add_lit] at hc0
      refine .inr ⟨b, off, m, by simp, by simpa using hl, World.block_lt_of_cell? W _ hc0, fun i u hu => ?_⟩
      have hi : i < len0 := by
        have := (List.getElem?_eq_some_iff.1 hu).1
        simpa [sc_length] using this
      have hc := (hcell i (by omega)).1
      rw [add_lit] at hc
      rw [hc, ← hu]
      simp [sc, hi]
      rfl
end Go.Proofs.YtbaheiimcnfaaaaGreat

namespace Go.Proofs.YtbaheiimcnfaaaaGreat
open Go.ChangeShapes Go.WideShapes Go.ChangeAt Go.RowKit Go.Deep Go.Joins

set_option maxRecDepth 100000 in
theorem cells43 : Tryz.prog.cellsOf 43 = 2 := by kernel_rfl
set_option maxRecDepth 100000 in
theorem upto_asked {H : Type} {enc : TypeId × Value → H} {W : World} {base : Nat} {v : Value} {d : DataW H} {ps : List MemPlace} (hok : Value.okWide Tryz.prog W .any base 43 v)
    (h : DataW.Trod enc Tryz.prog W 0 (fun _ => true) true 43 v d ps) (hd : Rows.uptoBulk d ≤ 1048576) : ∃ (p : List UInt8) (b : Int), v = .agg #[.string (bs p), .int .i64 b] ∧ p.length ≤ 1048576 ∧ -9223372036854775808 ≤ b ∧ b ≤ 9223372036854775807 := by
  obtain ⟨c0, c1, y0, y1, m, rfl, rfl, rfl, hy0, hy1⟩ := open_agg2 Tryz.underlying43 (by kernel_rfl) cells43 hok h
  obtain ⟨s0, e0, x0, ws0⟩ := DataW.trod_string Tryz.underlying9 hy0
  obtain ⟨z1, e1, x1, wz1⟩ := DataW.trod_int Tryz.underlying3 hy1
  simp at e0 e1
  subst e0 e1 x0 x1
  have b1 := bounds_i64 wz1
  simp only [Rows.uptoBulk, Rows.uptoBulkAll] at hd
  exact ⟨s0.data.toList, z1, rfl, by omega, b1.1, b1.2⟩
end Go.Proofs.YtbaheiimcnfaaaaGreat
