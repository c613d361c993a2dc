/-
  What came in: changes; both, where they are small.
-/
import Derived.Test.YtinhdjoidbcfaaaWide
namespace Go.Proofs.Ytinhdjoidbcfaaa
open Go.ChangeShapes Go.WideShapes Go.ChangeAt Go.RowKit Go.Deep

theorem cells42 : Try.prog.cellsOf 42 = 11 := by kernel_rfl
theorem cells4' : Try.prog.cellsOf 4 = 1 := by kernel_rfl
theorem bytes42 : Try.prog.bytesOf 42 = 120 := by kernel_rfl
theorem bulk_bound {H : Type} {l : List (DataW H)} (hk : Rows.uptoSmall H l = true) : Rows.uptoBulkAll l ≤ 1048576 := of_decide_eq_true hk
/-- a change's datum -/
def Ch.datum {H : Type} (c : Ch) : DataW H := .agg [.lit (.string c.path), .lit (.bool c.had), .lit (.bool c.has), c.old.datum, c.new.datum]
theorem bulk_mem {H : Type} : ∀ {l : List (DataW H)} {d : DataW H}, d ∈ l → Rows.uptoBulk d ≤ Rows.uptoBulkAll l
  | c :: r, d, h => by
    simp only [Rows.uptoBulkAll]
    rcases List.mem_cons.1 h with rfl | h
    · omega
    · have := bulk_mem h; omega
theorem bulk_len {H : Type} (k : Nat) : ∀ {l : List (DataW H)}, (∀ d ∈ l, k ≤ Rows.uptoBulk d) → k * l.length ≤ Rows.uptoBulkAll l
  | [], _ => by simp
  | c :: r, h => by
    have h1 := bulk_len k (l := r) (fun d hd => h d (by simp [hd]))
    have h2 := h c (by simp)
    simp only [Rows.uptoBulkAll, List.length_cons, Nat.mul_add]; omega
theorem bulk_fl {H : Type} (f : Fl) : Rows.uptoBulk (Fl.datum (H := H) f) = f.path.length + f.text.length + 5 := by
  simp only [Fl.datum, Rows.uptoBulk, Rows.uptoBulkAll]; omega
theorem bulk_ch {H : Type} (c : Ch) : Rows.uptoBulk (Ch.datum (H := H) c) = c.path.length + c.old.path.length + c.old.text.length + c.new.path.length + c.new.text.length + 14 := by
  simp only [Ch.datum, Rows.uptoBulk, Rows.uptoBulkAll, bulk_fl]; omega

theorem cc_get : ∀ (l : List Ch) (k : Nat) (h : k < l.length), (cc l)[k * 11]? = some (.string (bs l[k].path)) ∧ (cc l)[k * 11 + 1]? = some (.bool l[k].had) ∧ (cc l)[k * 11 + 2]? = some (.bool l[k].has) ∧ (cc l)[k * 11 + 3]? = some (.string (bs l[k].old.path)) ∧ (cc l)[k * 11 + 4]? = some (.string (bs l[k].old.text)) ∧ (cc l)[k * 11 + 5]? = some (.int .i64 l[k].old.blob) ∧ (cc l)[k * 11 + 6]? = some (.int .i64 l[k].old.size) ∧ (cc l)[k * 11 + 7]? = some (.string (bs l[k].new.path)) ∧ (cc l)[k * 11 + 8]? = some (.string (bs l[k].new.text)) ∧ (cc l)[k * 11 + 9]? = some (.int .i64 l[k].new.blob) ∧ (cc l)[k * 11 + 10]? = some (.int .i64 l[k].new.size)
  | f :: r, 0, _ => ⟨rfl, rfl, rfl, rfl, rfl, rfl, rfl, rfl, rfl, rfl, rfl⟩
  | f :: r, k + 1, h => by
    have ih := cc_get r k (by simpa using h)
    rw [show (k + 1) * 11 = k * 11 + 11 by omega]
    simp only [cc, List.getElem_cons_succ]
    exact ih
set_option maxRecDepth 100000 in
theorem read_changes {H : Type} {enc : TypeId × Value → H} {W : World} {base : Nat} {v : Value} {d : DataW H} {ps : List MemPlace} (hok : Value.okWide Try.prog W .any base 23 v)
    (h : DataW.Trod enc Try.prog W 0 (fun _ => true) true 23 v d ps) :
    ∃ l : List Ch, CS W v l ∧ (∀ i ∈ l, (-9223372036854775808 ≤ i.old.blob ∧ i.old.blob ≤ 9223372036854775807 ∧ -9223372036854775808 ≤ i.old.size ∧ i.old.size ≤ 9223372036854775807) ∧ (-9223372036854775808 ≤ i.new.blob ∧ i.new.blob ≤ 9223372036854775807 ∧ -9223372036854775808 ≤ i.new.size ∧ i.new.size ≤ 9223372036854775807)) ∧ (l = [] ∨ ∃ sp, d = .slice (l.map (Ch.datum (H := H))) sp) := by
  obtain ⟨a0, len0, cap0, rfl⟩ := okWide_slice Try.underlying23 hok
  obtain ⟨fuel, hf⟩ := h
  rcases open_slice Try.underlying23 hf with ⟨hcs, _⟩ | ⟨a, len, cap, m, n, D, Pl, hcs, _, hl, hm, hmm, hx, hel⟩
  · simp [Value.cells] at hcs
    obtain ⟨rfl, rfl, rfl⟩ := hcs
    exact ⟨[], .inl ⟨⟨_, _, rfl⟩, rfl⟩, (fun i hi => (by cases hi)), .inl rfl⟩
  · simp [Value.cells] at hcs
    obtain ⟨rfl, rfl, rfl⟩ := hcs
    simp at hmm
    subst hmm
    have each : ∀ i, i < m → ∃ q : Ch, W.cell? (a.add (i * 11)) = some (.string (bs q.path)) ∧ W.cell? (a.add (i * 11 + 1)) = some (.bool q.had) ∧ W.cell? (a.add (i * 11 + 2)) = some (.bool q.has) ∧ W.cell? (a.add (i * 11 + 3)) = some (.string (bs q.old.path)) ∧ W.cell? (a.add (i * 11 + 4)) = some (.string (bs q.old.text)) ∧ W.cell? (a.add (i * 11 + 5)) = some (.int .i64 q.old.blob) ∧ W.cell? (a.add (i * 11 + 6)) = some (.int .i64 q.old.size) ∧ W.cell? (a.add (i * 11 + 7)) = some (.string (bs q.new.path)) ∧ W.cell? (a.add (i * 11 + 8)) = some (.string (bs q.new.text)) ∧ W.cell? (a.add (i * 11 + 9)) = some (.int .i64 q.new.blob) ∧ W.cell? (a.add (i * 11 + 10)) = some (.int .i64 q.new.size) ∧ D i = q.datum ∧ (-9223372036854775808 ≤ q.old.blob ∧ q.old.blob ≤ 9223372036854775807 ∧ -9223372036854775808 ≤ q.old.size ∧ q.old.size ≤ 9223372036854775807) ∧ (-9223372036854775808 ≤ q.new.blob ∧ q.new.blob ≤ 9223372036854775807 ∧ -9223372036854775808 ≤ q.new.size ∧ q.new.size ≤ 9223372036854775807) := by
      intro i hi
      obtain ⟨cs', h1, h2⟩ := hel i hi
      rw [cells42] at h1
      obtain ⟨_, hlen, hcell⟩ := World.cells?_some h1
      obtain ⟨xs, k, hk, hxy, _, hxl, hfl⟩ := DataW.trod_struct Try.underlying42 h2
      match xs, hxl, cs', hlen with
      | [y0, y1, y2, y3, y4], _, [v0, v1, v2, v3, v4, v5, v6, v7, v8, v9, v10], _ =>
        have g0 := hfl 0 _ rfl
        have g1 := hfl 1 _ rfl
        have g2 := hfl 2 _ rfl
        have g3 := hfl 3 _ rfl
        have g4 := hfl 4 _ rfl
        simp [cells4', cells9, cells30] at g0 g1 g2 g3 g4
        obtain ⟨s0, e0, x0, ws0⟩ := DataW.trod_string Try.underlying9 g0
        obtain ⟨b1, e1, x1⟩ := DataW.trod_bool Try.underlying4 g1
        obtain ⟨b2, e2, x2⟩ := DataW.trod_bool Try.underlying4 g2
        obtain ⟨xs1, k1, hk1, hxy1, _, hxl1, hfl1⟩ := DataW.trod_struct Try.underlying40 g3
        obtain ⟨xs2, k2, hk2, hxy2, _, hxl2, hfl2⟩ := DataW.trod_struct Try.underlying40 g4
        match xs1, hxl1, xs2, hxl2 with
        | [u0, u1, u2, u3], _, [w0, w1, w2, w3], _ =>
          have i0 := hfl1 0 _ rfl
          have i1 := hfl1 1 _ rfl
          have i2 := hfl1 2 _ rfl
          have i3 := hfl1 3 _ rfl
          have j0 := hfl2 0 _ rfl
          have j1 := hfl2 1 _ rfl
          have j2 := hfl2 2 _ rfl
          have j3 := hfl2 3 _ rfl
          simp [cells3', cells9] at i0 i1 i2 i3 j0 j1 j2 j3
          obtain ⟨s3, e3, x3, ws3⟩ := DataW.trod_string Try.underlying9 i0
          obtain ⟨s4, e4, x4, ws4⟩ := DataW.trod_string Try.underlying9 i1
          obtain ⟨z5, e5, x5, wz5⟩ := DataW.trod_int Try.underlying3 i2
          obtain ⟨z6, e6, x6, wz6⟩ := DataW.trod_int Try.underlying3 i3
          obtain ⟨s7, e7, x7, ws7⟩ := DataW.trod_string Try.underlying9 j0
          obtain ⟨s8, e8, x8, ws8⟩ := DataW.trod_string Try.underlying9 j1
          obtain ⟨z9, e9, x9, wz9⟩ := DataW.trod_int Try.underlying3 j2
          obtain ⟨z10, e10, x10, wz10⟩ := DataW.trod_int Try.underlying3 j3
          have c0 := hcell 0 (by simp)
          have c1 := hcell 1 (by simp)
          have c2 := hcell 2 (by simp)
          have c3 := hcell 3 (by simp)
          have c4 := hcell 4 (by simp)
          have c5 := hcell 5 (by simp)
          have c6 := hcell 6 (by simp)
          have c7 := hcell 7 (by simp)
          have c8 := hcell 8 (by simp)
          have c9 := hcell 9 (by simp)
          have c10 := hcell 10 (by simp)
          rw [add_add] at c0 c1 c2 c3 c4 c5 c6 c7 c8 c9 c10
          simp at e0 e1 e2 e3 e4 e5 e6 e7 e8 e9 e10
          subst e0 e1 e2 e3 e4 e5 e6 e7 e8 e9 e10 x0 x1 x2 x3 x4 x5 x6 x7 x8 x9 x10
          have q5 := bounds_i64 wz5
          have q6 := bounds_i64 wz6
          have q9 := bounds_i64 wz9
          have q10 := bounds_i64 wz10
          subst hxy1 hxy2
          simp only [Prod.mk.injEq] at hxy
          have c0' : W.cell? (a.add (i * 11)) = some (.string s0) := by simpa using c0
          have c3' : W.cell? (a.add (i * 11 + 3)) = some (.string s3) := by simpa using c3
          have c4' : W.cell? (a.add (i * 11 + 4)) = some (.string s4) := by simpa using c4
          have c7' : W.cell? (a.add (i * 11 + 7)) = some (.string s7) := by simpa using c7
          have c8' : W.cell? (a.add (i * 11 + 8)) = some (.string s8) := by simpa using c8
          exact ⟨⟨s0.data.toList, b1, b2, ⟨s3.data.toList, s4.data.toList, z5, z6⟩, ⟨s7.data.toList, s8.data.toList, z9, z10⟩⟩, c0', by simpa using c1, by simpa using c2, c3', c4', by simpa using c5, by simpa using c6, c7', c8', by simpa using c9, by simpa using c10, by simpa [Ch.datum, Fl.datum] using hxy.1, ⟨q5.1, q5.2, q6.1, q6.2⟩, q9.1, q9.2, q10.1, q10.2⟩
    have hinh : Inhabited Ch := ⟨zc⟩
    obtain ⟨q, hq⟩ := choose_lt (α := Ch) each
    have hD : (List.range len0).map D = (List.range len0).map fun i => (q i).datum := List.map_congr_left (fun i hi => (hq i (by have := List.mem_range.1 hi; omega)).2.2.2.2.2.2.2.2.2.2.2.1)
    refine ⟨(List.range len0).map q, ?_, ?_, ?_⟩
    · by_cases h0 : len0 = 0
      · subst h0
        exact .inl ⟨⟨_, _, rfl⟩, rfl⟩
      · obtain ⟨b, off, spot⟩ := a
        have hspot : spot = none := by simpa [Addr.add] using World.cell?_spot (hq 0 (by omega)).1
        subst hspot
        refine .inr ⟨b, off, m, by simp, by simpa using hl, World.block_lt_of_cell? W _ (by have := (hq 0 (by omega)).1; rw [add_lit] at this; exact this), fun i u hu => ?_⟩
        have hi : i < len0 * 11 := by
          have := (List.getElem?_eq_some_iff.1 hu).1
          rw [cc_length] at this
          simpa using this
        have hj : i / 11 < ((List.range len0).map q).length := by simp; omega
        obtain ⟨t0, t1, t2, t3, t4, t5, t6, t7, t8, t9, t10⟩ := cc_get ((List.range len0).map q) (i / 11) hj
        obtain ⟨u0, u1, u2, u3, u4, u5, u6, u7, u8, u9, u10, _⟩ := hq (i / 11) (by omega)
        rw [add_lit] at u0 u1 u2 u3 u4 u5 u6 u7 u8 u9 u10
        simp only [List.getElem_map, List.getElem_range] at t0 t1 t2 t3 t4 t5 t6 t7 t8 t9 t10
        have hr : i % 11 = 0 ∨ i % 11 = 1 ∨ i % 11 = 2 ∨ i % 11 = 3 ∨ i % 11 = 4 ∨ i % 11 = 5 ∨ i % 11 = 6 ∨ i % 11 = 7 ∨ i % 11 = 8 ∨ i % 11 = 9 ∨ i % 11 = 10 := by omega
        rcases hr with hr | hr | hr | hr | hr | hr | hr | hr | hr | hr | hr
        · rw [show i / 11 * 11 = i from by omega] at t0 u0
          rw [t0] at hu
          rw [u0]
          exact hu
        · rw [show i / 11 * 11 + 1 = i from by omega] at t1 u1
          rw [t1] at hu
          rw [u1]
          exact hu
        · rw [show i / 11 * 11 + 2 = i from by omega] at t2 u2
          rw [t2] at hu
          rw [u2]
          exact hu
        · rw [show i / 11 * 11 + 3 = i from by omega] at t3 u3
          rw [t3] at hu
          rw [u3]
          exact hu
        · rw [show i / 11 * 11 + 4 = i from by omega] at t4 u4
          rw [t4] at hu
          rw [u4]
          exact hu
        · rw [show i / 11 * 11 + 5 = i from by omega] at t5 u5
          rw [t5] at hu
          rw [u5]
          exact hu
        · rw [show i / 11 * 11 + 6 = i from by omega] at t6 u6
          rw [t6] at hu
          rw [u6]
          exact hu
        · rw [show i / 11 * 11 + 7 = i from by omega] at t7 u7
          rw [t7] at hu
          rw [u7]
          exact hu
        · rw [show i / 11 * 11 + 8 = i from by omega] at t8 u8
          rw [t8] at hu
          rw [u8]
          exact hu
        · rw [show i / 11 * 11 + 9 = i from by omega] at t9 u9
          rw [t9] at hu
          rw [u9]
          exact hu
        · rw [show i / 11 * 11 + 10 = i from by omega] at t10 u10
          rw [t10] at hu
          rw [u10]
          exact hu
    · intro i hi
      obtain ⟨j, hj, rfl⟩ := List.mem_map.1 hi
      obtain ⟨_, _, _, _, _, _, _, _, _, _, _, _, r⟩ := hq j (by have := List.mem_range.1 hj; omega)
      exact r
    · have hd : d = .slice ((List.range len0).map D) ((List.range (m - len0)).map fun j => D (len0 + j)) := by simpa using congrArg Prod.fst hx
      exact .inr ⟨_, by rw [hd, hD, List.map_map]; rfl⟩
set_option maxRecDepth 100000 in
theorem upto_changes {H : Type} {enc : TypeId × Value → H} {W : World} {base : Nat} {v : Value} {d : DataW H} {ps : List MemPlace} (hok : Value.okWide Try.prog W .any base 23 v)
    (h : DataW.Trod enc Try.prog W 0 (fun _ => true) true 23 v d ps) (hd : Rows.uptoBulk d ≤ 1048576) : ∃ l : List Ch, CS W v l ∧ CSm l ∧ l.length ≤ 1048576 := by
  obtain ⟨l, h1, h2, h3⟩ := read_changes hok h
  rcases h3 with rfl | ⟨sp, rfl⟩
  · exact ⟨[], h1, ⟨by simp, fun f hf => by cases hf⟩, by simp⟩
  · simp only [Rows.uptoBulk] at hd
    have hl := bulk_len (H := H) 1 (l := l.map (Ch.datum (H := H))) (fun d hd => by
      obtain ⟨c, _, rfl⟩ := List.mem_map.1 hd
      rw [bulk_ch]; omega)
    simp only [List.length_map] at hl
    refine ⟨l, h1, ⟨by omega, fun c hc => ?_⟩, by omega⟩
    have hb := bulk_mem (H := H) (List.mem_map_of_mem (f := Ch.datum (H := H)) hc)
    rw [bulk_ch] at hb
    obtain ⟨⟨g1, g2, g3, g4⟩, g5, g6, g7, g8⟩ := h2 c hc
    exact ⟨by omega, ⟨by omega, by omega, g1, g2, g3, g4⟩, ⟨by omega, by omega, g5, g6, g7, g8⟩⟩
set_option maxRecDepth 100000 in
theorem upto_files {H : Type} {enc : TypeId × Value → H} {W : World} {base : Nat} {v : Value} {d : DataW H} {ps : List MemPlace} (hok : Value.okWide Try.prog W .any base 22 v)
    (h : DataW.Trod enc Try.prog W 0 (fun _ => true) true 22 v d ps) (hd : Rows.uptoBulk d ≤ 1048576) : ∃ l : List Fl, FS W v l ∧ FSm l ∧ l.length ≤ 1048576 := by
  obtain ⟨l, h1, h2, h3⟩ := read_files hok h
  rcases h3 with rfl | ⟨sp, rfl⟩
  · exact ⟨[], h1, ⟨by simp, fun f hf => by cases hf⟩, by simp⟩
  · simp only [Rows.uptoBulk] at hd
    have hl := bulk_len (H := H) 1 (l := l.map (Fl.datum (H := H))) (fun d hd => by
      obtain ⟨c, _, rfl⟩ := List.mem_map.1 hd
      rw [bulk_fl]; omega)
    simp only [List.length_map] at hl
    refine ⟨l, h1, ⟨by omega, fun c hc => ?_⟩, by omega⟩
    have hb := bulk_mem (H := H) (List.mem_map_of_mem (f := Fl.datum (H := H)) hc)
    rw [bulk_fl] at hb
    obtain ⟨g1, g2, g3, g4⟩ := h2 c hc
    exact ⟨by omega, by omega, g1, g2, g3, g4⟩
end Go.Proofs.Ytinhdjoidbcfaaa
