/-
  The law PlanFresh, from the contracts.
  What came in: files, texts, where they are small.
-/
import Derived.Test.YtfdcfcalbongeaaGreatRk
import Derived.Test.YtfdcfcalbongeaaGreatJSEq
import Derived.Test.YtfdcfcalbongeaaGreatJFil
import Derived.Test.YtfdcfcalbongeaaGreatRows
import Derived.ProofKit
import Derived.OpenShut
import Derived.ShutString
import Derived.ChangeOld
import Derived.JoinedCond
import Derived.SizedLaws
import Derived.Deep.Strs
import Derived.Deep.SlicePairs
namespace Go.Proofs.YtfdcfcalbongeaaGreat
open Go.RowKit
attribute [local go_sem] Oper.semAt_some

/-- what a row of the call's own grows into, seen from before it was begun -/
theorem grown_from {w w1 w2 w3 : World} {v : Value} (h1 : Below w.heap.size w w1) (hb : Below w1.heap.size w1 w2) (hg : w2.grownBy w3 v.ownBlock) (hv : ∀ k, v.ownBlock = some k → w.heap.size ≤ k) : Below w.heap.size w w3 :=
  (bstep h1 hb).grown hg (Nat.le_trans h1.size hb.size) hv
set_option maxRecDepth 100000 in
set_option maxHeartbeats 16000000 in
theorem pfresh_law (C : PcP) {w : World} {vo vn : Value} {old now : List Fl} (ho : FS w vo old) (hn : FS w vn now) (so : Fsz old) (sn : Fsz now) :
    Calls Tryz.prog 3 #[vo, vn] w fun e w' => e = .returned (.bool true) ∧ Below w.heap.size w w' := by
  have M1 : Hid (Calls Tryz.prog 4 #[vo, vn] w fun e w' => ∃ v, e = .returned (.tuple #[v, .int .i64 (mkE old now)]) ∧ OwS w.heap.size w' v (mkA old now) ∧ Below w.heap.size w w') := rmake_any ho hn so.sm sn.sm
  have M2 : Hid (∀ W, Below w.heap.size w W → Calls Tryz.prog 5 #[vn, vo, vn] W fun e w' => ∃ v, e = .returned (.tuple #[v, .int .i64 (mkE old now)]) ∧ Own W.heap.size w' v (drA old now) ∧ Below W.heap.size W w') := fun W h => rdirty_any (hn.later h) (ho.later h) (hn.later h) sn so sn
  obtain ⟨m, hm⟩ : ∃ m, mkE old now = m := ⟨_, rfl⟩
  rw [hm] at M1 M2
  have Hm : Hid (mkE old now = m) := hm
  have HZ : Hid (Fsz old ∧ Fsz now) := ⟨so, sn⟩
  have HF0 : Hid (FS w vo old ∧ FS w vn now) := ⟨ho, hn⟩
  obtain ⟨oa, oc, hvo, _⟩ := ho.form
  obtain ⟨na, nc, hvn, _⟩ := hn.form
  obtain ⟨no, hno⟩ : ∃ x, old.length = x := ⟨_, rfl⟩
  obtain ⟨nn, hnn⟩ : ∃ x, now.length = x := ⟨_, rfl⟩
  rw [hno] at hvo
  rw [hnn] at hvn
  subst hvo
  subst hvn
  have H : Hid (FS w (.slice oa no oc) old ∧ FS w (.slice na nn nc) now ∧ old.length = no ∧ now.length = nn) := ⟨HF0.out.1, HF0.out.2, hno, hnn⟩
  have n1 : no ≤ 1500000 := by rw [← hno]; exact so.len
  have n2 : nn ≤ 1500000 := by rw [← hnn]; exact sn.len
  have l1 : old.length ≤ 1500000 := so.len
  have l2 : now.length ≤ 1500000 := sn.len
  rename_i hx1 hx2
  clear hm ho hn so sn HF0 hx1 hx2 hno hnn
  go_enter Tryz.func3, Tryz.ntmps3
  conv => arg 2; whnf
  refine wp_seq_k fun KK hKK => ?_
  have HK_ : Hid _ := hKK
  clear hKK
  go_wp2_with fail
  refine HK_.out _ _ ?_
  clear HK_
  refine wp_seq_k fun KK hKK => ?_
  have HK_ : Hid _ := hKK
  clear hKK
  go_wp2_with fail
  refine M1.out.mono ?_
  rintro e w1 ⟨v1, rfl, hs1, hb1⟩
  have B1 : Hid (Below w.heap.size w w1 ∧ OwS w.heap.size w1 v1 (mkA old now)) := ⟨hb1, hs1⟩
  clear hs1 hb1
  go_wp2_with fail
  refine HK_.out _ _ ?_
  clear HK_
  refine wp_seq_k fun KK hKK => ?_
  have HK_ : Hid _ := hKK
  clear hKK
  go_wp2_with fail
  refine (M2.out _ B1.out.1).mono ?_
  rintro e w2 ⟨v2, rfl, hs2, hb2⟩
  have B2 : Hid (Below w.heap.size w w2 ∧ OwS w.heap.size w2 v1 (mkA old now) ∧ SS w2 v2 (drA old now)) := ⟨bstep B1.out.1 hb2, B1.out.2.later hb2, hs2.bs⟩
  clear hs2 hb2
  go_wp2_with fail
  refine HK_.out _ _ ?_
  clear HK_
  have HO2 : Hid (FS w2 (.slice oa no oc) old) := H.out.1.later B2.out.1
  have hz0 := B2.out.1.size
  refine wp_seq_k fun KK hKK => ?_
  have HK_ : Hid _ := hKK
  clear hKK
  go_wp2_with (first | (at_builtin; refine app_files (base := w2.heap.size) (l := []) (k := old) (ownF_emptyC w2 _ (Nat.le_refl _)) (HO2.out.later (balloc _ _)).src (by simp <;> omega) (by simp <;> omega) rfl (.tmp 50) (.tmp 51) rfl rfl rfl ?_; intro v3 w3 ho hg hv; have B3 : Hid (Below w2.heap.size w2 w3 ∧ OwnF w2.heap.size w3 v3 old) := ⟨(balloc _ _).grown hg (by simp <;> omega) (fun j hj => by simp [Value.ownBlock] at hj; omega), (by simpa using ho)⟩; have hz3 := B3.out.1.size; clear ho hg hv) | (at_builtin; refine app_files (base := w2.heap.size) (l := old) (k := [fo1, fo2]) (B3.out.2.later (balloc _ _)) (fs_lit w3 [fo1, fo2]).src (by simp <;> omega) (by simp <;> omega) rfl (.tmp 52) (.tmp 55) rfl rfl rfl ?_; intro v4 w4 ho hg hv; have B4 : Hid (Below w2.heap.size w2 w4 ∧ OwnF w2.heap.size w4 v4 (old ++ [fo1, fo2])) := ⟨grown_from B3.out.1 (balloc _ _) hg (fun j hj => (B3.out.2.lt hj).1), ho⟩; have hz4 := B4.out.1.size; clear ho hg hv))
  refine HK_.out _ _ ?_
  clear HK_
  have HN4 : Hid (FS w4 (.slice na nn nc) now) := H.out.2.1.later (bstep B2.out.1 B4.out.1)
  refine wp_seq_k fun KK hKK => ?_
  have HK_ : Hid _ := hKK
  clear hKK
  go_wp2_with (first | (at_builtin; refine app_files (base := w4.heap.size) (l := []) (k := now) (ownF_emptyC w4 _ (Nat.le_refl _)) (HN4.out.later (balloc _ _)).src (by simp <;> omega) (by simp <;> omega) rfl (.tmp 57) (.tmp 58) rfl rfl rfl ?_; intro v5 w5 ho hg hv; have B5 : Hid (Below w4.heap.size w4 w5 ∧ OwnF w4.heap.size w5 v5 now) := ⟨(balloc _ _).grown hg (by simp <;> omega) (fun j hj => by simp [Value.ownBlock] at hj; omega), (by simpa using ho)⟩; have hz5 := B5.out.1.size; clear ho hg hv) | (at_builtin; refine app_files (base := w4.heap.size) (l := now) (k := [fo3, fo4]) (B5.out.2.later (balloc _ _)) (fs_lit w5 [fo3, fo4]).src (by simp <;> omega) (by simp <;> omega) rfl (.tmp 59) (.tmp 62) rfl rfl rfl ?_; intro v6 w6 ho hg hv; have B6 : Hid (Below w4.heap.size w4 w6 ∧ OwnF w4.heap.size w6 v6 (now ++ [fo3, fo4])) := ⟨grown_from B5.out.1 (balloc _ _) hg (fun j hj => (B5.out.2.lt hj).1), ho⟩; have hz6 := B6.out.1.size; clear ho hg hv))
  refine HK_.out _ _ ?_
  clear HK_
  obtain ⟨go, oq, eo⟩ : ∃ go oq, v4 = .slice (some ⟨go, 0, none⟩) (no + 2) oq := by
    rcases ownP_form B4.out.2 with ⟨_, h0⟩ | ⟨g, c, e, _⟩
    · simp at h0
    · exact ⟨g, c, by rw [e]; simp [H.out.2.2.1]⟩
  obtain ⟨gn, nq, en⟩ : ∃ gn nq, v6 = .slice (some ⟨gn, 0, none⟩) (nn + 2) nq := by
    rcases ownP_form B6.out.2 with ⟨_, h0⟩ | ⟨g, c, e, _⟩
    · simp at h0
    · exact ⟨g, c, by rw [e]; simp [H.out.2.2.2]⟩
  subst eo
  subst en
  have q4 := B4.out.2.lt (k := go) rfl
  have q6 := B6.out.2.lt (k := gn) rfl
  have b46 : Below w4.heap.size w4 w6 := B6.out.1
  have b26 : Below w2.heap.size w2 w6 := bstep B4.out.1 b46
  have BW : Below w.heap.size w w6 := bstep B2.out.1 b26
  have hz26 := b26.size
  have hz46 := b46.size
  exact pf5r C ⟨H.out.1, H.out.2.1, (B4.out.2.later b46).mono hz0, B6.out.2.mono (by omega), BW, H.out.2.2.1, H.out.2.2.2, H.out.2.2.2, by omega⟩ (B2.out.2.1.later b26) Hm HZ n1 n2 (B2.out.2.2.later b26) ⟨by omega, by omega, fun k hk => by have := (B2.out.2.1.lt hk).2; omega⟩
end Go.Proofs.YtfdcfcalbongeaaGreat

namespace Go.Proofs.YtfdcfcalbongeaaGreat
open Go.ChangeShapes Go.WideShapes Go.ChangeAt Go.RowKit Go.Deep

def zfO : Fl := ⟨[], [], 0, 0⟩
set_option maxRecDepth 100000 in
theorem own0 : ownKnob Tryz.prog.godebug = none := by kernel_rfl
set_option maxRecDepth 100000 in
theorem laidOut : laidOutB Tryz.prog = true := by kernel_rfl
set_option maxRecDepth 100000 in
theorem cells9 : Tryz.prog.cellsOf 9 = 1 := by kernel_rfl
set_option maxRecDepth 100000 in
theorem cells3' : Tryz.prog.cellsOf 3 = 1 := by kernel_rfl
set_option maxRecDepth 100000 in
theorem cells30 : Tryz.prog.cellsOf 30 = 4 := by kernel_rfl

/-- a file's datum -/
def Fl.datum {H : Type} (f : Fl) : DataW H := .agg [.lit (.string f.path), .lit (.string f.text), .lit (.int .i64 f.blob), .lit (.int .i64 f.size)]
set_option maxRecDepth 100000 in
theorem read_files {H : Type} {enc : TypeId × Value → H} {W : World} {base : Nat} {v : Value} {d : DataW H} {ps : List MemPlace} (hok : Value.okWide Tryz.prog W .any base 22 v)
    (h : DataW.Trod enc Tryz.prog W 0 (fun _ => true) true 22 v d ps) :
    ∃ l : List Fl, FS W v l ∧ (∀ i ∈ l, -9223372036854775808 ≤ i.blob ∧ i.blob ≤ 9223372036854775807 ∧ -9223372036854775808 ≤ i.size ∧ i.size ≤ 9223372036854775807) ∧ (l = [] ∨ ∃ sp, d = .slice (l.map (Fl.datum (H := H))) sp) := by
  obtain ⟨a0, len0, cap0, rfl⟩ := okWide_slice Tryz.underlying22 hok
  obtain ⟨fuel, hf⟩ := h
  rcases open_slice Tryz.underlying22 hf with ⟨hcs, _⟩ | ⟨a, len, cap, m, n, D, Pl, hcs, _, hl, hm, hmm, hx, hel⟩
  · simp [Value.cells] at hcs
    obtain ⟨rfl, rfl, rfl⟩ := hcs
    exact ⟨[], .inl ⟨⟨_, _, rfl⟩, rfl⟩, (fun i hi => (by cases hi)), .inl rfl⟩
  · simp [Value.cells] at hcs
    obtain ⟨rfl, rfl, rfl⟩ := hcs
    simp at hmm
    subst hmm
    have each : ∀ i, i < m → ∃ q : Fl, W.cell? (a.add (i * 4)) = some (.string (bs q.path)) ∧ W.cell? (a.add (i * 4 + 1)) = some (.string (bs q.text)) ∧ W.cell? (a.add (i * 4 + 2)) = some (.int .i64 q.blob) ∧ W.cell? (a.add (i * 4 + 3)) = some (.int .i64 q.size) ∧ D i = q.datum ∧
        -9223372036854775808 ≤ q.blob ∧ q.blob ≤ 9223372036854775807 ∧ -9223372036854775808 ≤ q.size ∧ q.size ≤ 9223372036854775807 := by
      intro i hi
      obtain ⟨cs', h1, h2⟩ := hel i hi
      rw [cells30] at h1
      obtain ⟨_, hlen, hcell⟩ := World.cells?_some h1
      obtain ⟨xs, k, hk, hxy, _, hxl, hfl⟩ := DataW.trod_struct Tryz.underlying30 h2
      match xs, hxl, cs', hlen with
      | [y0, y1, y2, y3], _, [v0, v1, v2, v3], _ =>
        have g0 := hfl 0 _ rfl
        have g1 := hfl 1 _ rfl
        have g2 := hfl 2 _ rfl
        have g3 := hfl 3 _ rfl
        simp [cells3', cells9] at g0 g1 g2 g3
        obtain ⟨s0, e0, x0, ws0⟩ := DataW.trod_string Tryz.underlying9 g0
        obtain ⟨s1, e1, x1, ws1⟩ := DataW.trod_string Tryz.underlying9 g1
        obtain ⟨z2, e2, x2, wz2⟩ := DataW.trod_int Tryz.underlying3 g2
        obtain ⟨z3, e3, x3, wz3⟩ := DataW.trod_int Tryz.underlying3 g3
        have c0 := hcell 0 (by simp)
        have c1 := hcell 1 (by simp)
        have c2 := hcell 2 (by simp)
        have c3 := hcell 3 (by simp)
        rw [add_add] at c0 c1 c2 c3
        simp at e0 e1 e2 e3
        subst e0 e1 e2 e3 x0 x1 x2 x3
        have b2 := bounds_i64 wz2
        have b3 := bounds_i64 wz3
        simp only [Prod.mk.injEq] at hxy
        have c0' : W.cell? (a.add (i * 4)) = some (.string s0) := by simpa using c0
        have c1' : W.cell? (a.add (i * 4 + 1)) = some (.string s1) := by simpa using c1
        exact ⟨⟨s0.data.toList, s1.data.toList, z2, z3⟩, c0', c1', by simpa using c2, by simpa using c3, by simpa [Fl.datum] using hxy.1, b2.1, b2.2, b3.1, b3.2⟩
    have hinh : Inhabited Fl := ⟨zfO⟩
    obtain ⟨q, hq⟩ := choose_lt (α := Fl) each
    have hD : (List.range len0).map D = (List.range len0).map fun i => (q i).datum := List.map_congr_left (fun i hi => (hq i (by have := List.mem_range.1 hi; omega)).2.2.2.2.1)
    refine ⟨(List.range len0).map q, ?_, ?_, ?_⟩
    · by_cases h0 : len0 = 0
      · subst h0
        exact .inl ⟨⟨_, _, rfl⟩, rfl⟩
      · obtain ⟨b, off, spot⟩ := a
        have hspot : spot = none := by simpa [Addr.add] using World.cell?_spot (hq 0 (by omega)).1
        subst hspot
        refine .inr ⟨b, off, m, by simp, by simpa using hl, World.block_lt_of_cell? W _ (by have := (hq 0 (by omega)).1; rw [add_lit] at this; exact this), fun i u hu => ?_⟩
        have hi : i < len0 * 4 := by
          have := (List.getElem?_eq_some_iff.1 hu).1
          rw [fc_length] at this
          simpa using this
        have hj : i / 4 < ((List.range len0).map q).length := by simp; omega
        obtain ⟨t0, t1, t2, t3⟩ := fc_get ((List.range len0).map q) (i / 4) hj
        obtain ⟨u0, u1, u2, u3, _⟩ := hq (i / 4) (by omega)
        rw [add_lit] at u0 u1 u2 u3
        simp only [List.getElem_map, List.getElem_range] at t0 t1 t2 t3
        have hr : i % 4 = 0 ∨ i % 4 = 1 ∨ i % 4 = 2 ∨ i % 4 = 3 := by omega
        rcases hr with hr | hr | hr | hr
        · rw [show i / 4 * 4 = i from by omega] at t0 u0
          rw [t0] at hu
          rw [u0]
          exact hu
        · rw [show i / 4 * 4 + 1 = i from by omega] at t1 u1
          rw [t1] at hu
          rw [u1]
          exact hu
        · rw [show i / 4 * 4 + 2 = i from by omega] at t2 u2
          rw [t2] at hu
          rw [u2]
          exact hu
        · rw [show i / 4 * 4 + 3 = i from by omega] at t3 u3
          rw [t3] at hu
          rw [u3]
          exact hu
    · intro i hi
      obtain ⟨j, hj, rfl⟩ := List.mem_map.1 hi
      obtain ⟨_, _, _, _, _, r⟩ := hq j (by have := List.mem_range.1 hj; omega)
      exact r
    · have hd : d = .slice ((List.range len0).map D) ((List.range (m - len0)).map fun j => D (len0 + j)) := by simpa using congrArg Prod.fst hx
      exact .inr ⟨_, by rw [hd, hD, List.map_map]; rfl⟩
set_option maxRecDepth 100000 in
theorem bulk_bound {H : Type} {l : List (DataW H)} (hk : Rows.uptoSmall H l = true) : Rows.uptoBulkAll l ≤ 1048576 := of_decide_eq_true hk
set_option maxRecDepth 100000 in
theorem bulk_mem {H : Type} : ∀ {l : List (DataW H)} {d : DataW H}, d ∈ l → Rows.uptoBulk d ≤ Rows.uptoBulkAll l
  | c :: r, d, h => by
    simp only [Rows.uptoBulkAll]
    rcases List.mem_cons.1 h with rfl | h
    · omega
    · have := bulk_mem h; omega
set_option maxRecDepth 100000 in
theorem bulk_len {H : Type} (k : Nat) : ∀ {l : List (DataW H)}, (∀ d ∈ l, k ≤ Rows.uptoBulk d) → k * l.length ≤ Rows.uptoBulkAll l
  | [], _ => by simp
  | c :: r, h => by
    have h1 := bulk_len k (l := r) (fun d hd => h d (by simp [hd]))
    have h2 := h c (by simp)
    simp only [Rows.uptoBulkAll, List.length_cons, Nat.mul_add]; omega
set_option maxRecDepth 100000 in
theorem bulk_fl {H : Type} (f : Fl) : Rows.uptoBulk (Fl.datum (H := H) f) = f.path.length + f.text.length + 5 := by
  simp only [Fl.datum, Rows.uptoBulk, Rows.uptoBulkAll]; omega
set_option maxRecDepth 100000 in
theorem upto_files {H : Type} {enc : TypeId × Value → H} {W : World} {base : Nat} {v : Value} {d : DataW H} {ps : List MemPlace} (hok : Value.okWide Tryz.prog W .any base 22 v)
    (h : DataW.Trod enc Tryz.prog W 0 (fun _ => true) true 22 v d ps) (hd : Rows.uptoBulk d ≤ 1048576) : ∃ l : List Fl, FS W v l ∧ FSm l ∧ l.length ≤ 1048576 ∧ ∀ f ∈ l, f.path.length ≤ 1048576 := by
  obtain ⟨l, h1, h2, h3⟩ := read_files hok h
  rcases h3 with rfl | ⟨sp, rfl⟩
  · exact ⟨[], h1, ⟨by simp, fun f hf => by cases hf⟩, by simp, fun f hf => by cases hf⟩
  · simp only [Rows.uptoBulk] at hd
    have hl := bulk_len (H := H) 1 (l := l.map (Fl.datum (H := H))) (fun d hd => by
      obtain ⟨c, _, rfl⟩ := List.mem_map.1 hd
      rw [bulk_fl]; omega)
    simp only [List.length_map] at hl
    refine ⟨l, h1, ⟨by omega, fun c hc => ?_⟩, by omega, fun c hc => ?_⟩
    · have hb := bulk_mem (H := H) (List.mem_map_of_mem (f := Fl.datum (H := H)) hc)
      rw [bulk_fl] at hb
      obtain ⟨g1, g2, g3, g4⟩ := h2 c hc
      exact ⟨by omega, by omega, g1, g2, g3, g4⟩
    · have hb := bulk_mem (H := H) (List.mem_map_of_mem (f := Fl.datum (H := H)) hc)
      rw [bulk_fl] at hb
      omega
set_option maxRecDepth 100000 in
theorem bulk_strs {H : Type} : ∀ l : List (List UInt8), l.length ≤ Rows.uptoBulkAll (l.map fun s => (DataW.lit (.string s) : DataW H)) ∧ ∀ x ∈ l, x.length ≤ Rows.uptoBulkAll (l.map fun s => (DataW.lit (.string s) : DataW H))
  | [] => ⟨by simp, fun x hx => by cases hx⟩
  | y :: l => by
    obtain ⟨h1, h2⟩ := bulk_strs (H := H) l
    rw [List.map_cons]
    simp only [Rows.uptoBulkAll, Rows.uptoBulk, List.length_cons]
    refine ⟨by omega, fun x hx => ?_⟩
    rcases List.mem_cons.1 hx with rfl | hx
    · omega
    · have := h2 x hx; omega

set_option maxRecDepth 100000 in
/-- a slice of texts that came in: what it reads as, and how much it is -/
theorem open_texts {H : Type} {enc : TypeId × Value → H} {W : World} {base : Nat} {v : Value} {d : DataW H} {ps : List MemPlace} (hok : Value.okWide Tryz.prog W .any base 26 v)
    (h : DataW.Trod enc Tryz.prog W 0 (fun _ => true) true 26 v d ps) (hd : Rows.uptoBulk d ≤ 1048576) : ∃ l : List (List UInt8), SS W v l ∧ l.length ≤ 1048576 ∧ Sm l := by
  obtain ⟨a0, len0, cap0, rfl⟩ := okWide_slice Tryz.underlying26 hok
  obtain ⟨fuel, hf⟩ := h
  rcases open_strs Tryz.underlying26 Tryz.underlying9 cells9 hf with ⟨hcs, _⟩ | ⟨a, len, cap, m, Sx, hcs, _, hl, hm, hmm, hx, hcell⟩
  · simp [Value.cells] at hcs
    obtain ⟨rfl, rfl, rfl⟩ := hcs
    exact ⟨[], SS_nil _, by simp, ⟨by simp, fun x hx => by cases hx⟩⟩
  · simp [Value.cells] at hcs
    obtain ⟨rfl, rfl, rfl⟩ := hcs
    simp at hmm
    subst hmm
    have hd2 : d = .slice ((List.range len0).map fun i => .lit (.string (Sx i).data.toList)) ((List.range (m - len0)).map fun j => .lit (.string (Sx (len0 + j)).data.toList)) := by simpa using congrArg Prod.fst hx
    have e1 : (List.range len0).map (fun i => (DataW.lit (.string (Sx i).data.toList) : DataW H)) = ((List.range len0).map fun i => (Sx i).data.toList).map fun s => .lit (.string s) := by simp [Function.comp_def]
    obtain ⟨h1, h2⟩ := bulk_strs (H := H) ((List.range len0).map fun i => (Sx i).data.toList)
    rw [← e1] at h1 h2
    rw [hd2] at hd
    simp only [Rows.uptoBulk] at hd
    refine ⟨(List.range len0).map fun i => (Sx i).data.toList, ?_, by omega, ⟨by omega, fun x hx => by have := h2 x hx; omega⟩⟩
    by_cases h0 : len0 = 0
    · subst h0
      exact .inl ⟨⟨_, _, rfl⟩, rfl⟩
    · obtain ⟨b, off, spot⟩ := a
      have hspot : spot = none := by simpa [Addr.add] using World.cell?_spot (hcell 0 (by omega)).1
      subst hspot
      have hc0 := (hcell 0 (by omega)).1
      rw [add_lit] at hc0
      refine .inr ⟨b, off, m, by simp, by simpa using hl, World.block_lt_of_cell? W _ hc0, fun i u hu => ?_⟩
      have hi : i < len0 := by
        have := (List.getElem?_eq_some_iff.1 hu).1
        simpa [sc_length] using this
      have hc := (hcell i (by omega)).1
      rw [add_lit] at hc
      rw [hc, ← hu]
      simp [sc, hi]
      rfl
end Go.Proofs.YtfdcfcalbongeaaGreat
