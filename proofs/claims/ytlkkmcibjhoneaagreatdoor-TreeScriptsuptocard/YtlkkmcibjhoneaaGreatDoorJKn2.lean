/-
  What came in: files, texts, where they are small.
  Labels, their texts, see words: plain lists.
  Cones, views and covers, as plain lists.
  Views of snapshots, as plain lists.
-/
import Derived.Test.YtlkkmcibjhoneaaGreatDoorFiles
import Derived.Test.YtlkkmcibjhoneaaGreatDoorJFil
import Derived.Test.YtlkkmcibjhoneaaGreatDoorRows
import Derived.ProofKit
import Derived.OpenShut
import Derived.ShutString
import Derived.ChangeOld
import Derived.JoinedCond
import Derived.SizedLaws
import Derived.Deep.Strs
import Derived.Deep.SlicePairs
namespace Go.Proofs.YtlkkmcibjhoneaaGreatDoor
open Go.ChangeShapes Go.WideShapes Go.ChangeAt Go.RowKit Go.Deep

def zfO : Fl := ⟨[], [], 0, 0⟩
set_option maxRecDepth 100000 in
theorem own0 : ownKnob Tryz.prog.godebug = none := by kernel_rfl
set_option maxRecDepth 100000 in
theorem laidOut : laidOutB Tryz.prog = true := by kernel_rfl
set_option maxRecDepth 100000 in
theorem cells9 : Tryz.prog.cellsOf 9 = 1 := by kernel_rfl
set_option maxRecDepth 100000 in
theorem cells3' : Tryz.prog.cellsOf 3 = 1 := by kernel_rfl
set_option maxRecDepth 100000 in
theorem cells30 : Tryz.prog.cellsOf 31 = 4 := by kernel_rfl

/-- a file's datum -/
def Fl.datum {H : Type} (f : Fl) : DataW H := .agg [.lit (.string f.path), .lit (.string f.text), .lit (.int .i64 f.blob), .lit (.int .i64 f.size)]
set_option maxRecDepth 100000 in
theorem read_files {H : Type} {enc : TypeId × Value → H} {W : World} {base : Nat} {v : Value} {d : DataW H} {ps : List MemPlace} (hok : Value.okWide Tryz.prog W .any base 22 v)
    (h : DataW.Trod enc Tryz.prog W 0 (fun _ => true) true 22 v d ps) :
    ∃ l : List Fl, FS W v l ∧ (∀ i ∈ l, -9223372036854775808 ≤ i.blob ∧ i.blob ≤ 9223372036854775807 ∧ -9223372036854775808 ≤ i.size ∧ i.size ≤ 9223372036854775807) ∧ (l = [] ∨ ∃ sp, d = .slice (l.map (Fl.datum (H := H))) sp) := by
  obtain ⟨a0, len0, cap0, rfl⟩ := okWide_slice Tryz.underlying22 hok
  obtain ⟨fuel, hf⟩ := h
  rcases open_slice Tryz.underlying22 hf with ⟨hcs, _⟩ | ⟨a, len, cap, m, n, D, Pl, hcs, _, hl, hm, hmm, hx, hel⟩
  · simp [Value.cells] at hcs
    obtain ⟨rfl, rfl, rfl⟩ := hcs
    exact ⟨[], .inl ⟨⟨_, _, rfl⟩, rfl⟩, (fun i hi => (by cases hi)), .inl rfl⟩
  · simp [Value.cells] at hcs
    obtain ⟨rfl, rfl, rfl⟩ := hcs
    simp at hmm
    subst hmm
    have each : ∀ i, i < m → ∃ q : Fl, W.cell? (a.add (i * 4)) = some (.string (bs q.path)) ∧ W.cell? (a.add (i * 4 + 1)) = some (.string (bs q.text)) ∧ W.cell? (a.add (i * 4 + 2)) = some (.int .i64 q.blob) ∧ W.cell? (a.add (i * 4 + 3)) = some (.int .i64 q.size) ∧ D i = q.datum ∧
        -9223372036854775808 ≤ q.blob ∧ q.blob ≤ 9223372036854775807 ∧ -9223372036854775808 ≤ q.size ∧ q.size ≤ 9223372036854775807 := by
      intro i hi
      obtain ⟨cs', h1, h2⟩ := hel i hi
      rw [cells30] at h1
      obtain ⟨_, hlen, hcell⟩ := World.cells?_some h1
      obtain ⟨xs, k, hk, hxy, _, hxl, hfl⟩ := DataW.trod_struct Tryz.underlying31 h2
      match xs, hxl, cs', hlen with
      | [y0, y1, y2, y3], _, [v0, v1, v2, v3], _ =>
        have g0 := hfl 0 _ rfl
        have g1 := hfl 1 _ rfl
        have g2 := hfl 2 _ rfl
        have g3 := hfl 3 _ rfl
        simp [cells3', cells9] at g0 g1 g2 g3
        obtain ⟨s0, e0, x0, ws0⟩ := DataW.trod_string Tryz.underlying9 g0
        obtain ⟨s1, e1, x1, ws1⟩ := DataW.trod_string Tryz.underlying9 g1
        obtain ⟨z2, e2, x2, wz2⟩ := DataW.trod_int Tryz.underlying3 g2
        obtain ⟨z3, e3, x3, wz3⟩ := DataW.trod_int Tryz.underlying3 g3
        have c0 := hcell 0 (by simp)
        have c1 := hcell 1 (by simp)
        have c2 := hcell 2 (by simp)
        have c3 := hcell 3 (by simp)
        rw [add_add] at c0 c1 c2 c3
        simp at e0 e1 e2 e3
        subst e0 e1 e2 e3 x0 x1 x2 x3
        have b2 := bounds_i64 wz2
        have b3 := bounds_i64 wz3
        simp only [Prod.mk.injEq] at hxy
        have c0' : W.cell? (a.add (i * 4)) = some (.string s0) := by simpa using c0
        have c1' : W.cell? (a.add (i * 4 + 1)) = some (.string s1) := by simpa using c1
        exact ⟨⟨s0.data.toList, s1.data.toList, z2, z3⟩, c0', c1', by simpa using c2, by simpa using c3, by simpa [Fl.datum] using hxy.1, b2.1, b2.2, b3.1, b3.2⟩
    have hinh : Inhabited Fl := ⟨zfO⟩
    obtain ⟨q, hq⟩ := choose_lt (α := Fl) each
    have hD : (List.range len0).map D = (List.range len0).map fun i => (q i).datum := List.map_congr_left (fun i hi => (hq i (by have := List.mem_range.1 hi; omega)).2.2.2.2.1)
    refine ⟨(List.range len0).map q, ?_, ?_, ?_⟩
    · by_cases h0 : len0 = 0
      · subst h0
        exact .inl ⟨⟨_, _, rfl⟩, rfl⟩
      · obtain ⟨b, off, spot⟩ := a
        have hspot : spot = none := by simpa [Addr.add] using World.cell?_spot (hq 0 (by omega)).1
        subst hspot
        refine .inr ⟨b, off, m, by simp, by simpa using hl, World.block_lt_of_cell? W _ (by have := (hq 0 (by omega)).1; rw [add_lit] at this; exact this), fun i u hu => ?_⟩
        have hi : i < len0 * 4 := by
          have := (List.getElem?_eq_some_iff.1 hu).1
          rw [fc_length] at this
          simpa using this
        have hj : i / 4 < ((List.range len0).map q).length := by simp; omega
        obtain ⟨t0, t1, t2, t3⟩ := fc_get ((List.range len0).map q) (i / 4) hj
        obtain ⟨u0, u1, u2, u3, _⟩ := hq (i / 4) (by omega)
        rw [add_lit] at u0 u1 u2 u3
        simp only [List.getElem_map, List.getElem_range] at t0 t1 t2 t3
        have hr : i % 4 = 0 ∨ i % 4 = 1 ∨ i % 4 = 2 ∨ i % 4 = 3 := by omega
        rcases hr with hr | hr | hr | hr
        · rw [show i / 4 * 4 = i from by omega] at t0 u0
          rw [t0] at hu
          rw [u0]
          exact hu
        · rw [show i / 4 * 4 + 1 = i from by omega] at t1 u1
          rw [t1] at hu
          rw [u1]
          exact hu
        · rw [show i / 4 * 4 + 2 = i from by omega] at t2 u2
          rw [t2] at hu
          rw [u2]
          exact hu
        · rw [show i / 4 * 4 + 3 = i from by omega] at t3 u3
          rw [t3] at hu
          rw [u3]
          exact hu
    · intro i hi
      obtain ⟨j, hj, rfl⟩ := List.mem_map.1 hi
      obtain ⟨_, _, _, _, _, r⟩ := hq j (by have := List.mem_range.1 hj; omega)
      exact r
    · have hd : d = .slice ((List.range len0).map D) ((List.range (m - len0)).map fun j => D (len0 + j)) := by simpa using congrArg Prod.fst hx
      exact .inr ⟨_, by rw [hd, hD, List.map_map]; rfl⟩
set_option maxRecDepth 100000 in
theorem bulk_bound {H : Type} {l : List (DataW H)} (hk : Rows.uptoSmall H l = true) : Rows.uptoBulkAll l ≤ 1048576 := of_decide_eq_true hk
set_option maxRecDepth 100000 in
theorem bulk_mem {H : Type} : ∀ {l : List (DataW H)} {d : DataW H}, d ∈ l → Rows.uptoBulk d ≤ Rows.uptoBulkAll l
  | c :: r, d, h => by
    simp only [Rows.uptoBulkAll]
    rcases List.mem_cons.1 h with rfl | h
    · omega
    · have := bulk_mem h; omega
set_option maxRecDepth 100000 in
theorem bulk_len {H : Type} (k : Nat) : ∀ {l : List (DataW H)}, (∀ d ∈ l, k ≤ Rows.uptoBulk d) → k * l.length ≤ Rows.uptoBulkAll l
  | [], _ => by simp
  | c :: r, h => by
    have h1 := bulk_len k (l := r) (fun d hd => h d (by simp [hd]))
    have h2 := h c (by simp)
    simp only [Rows.uptoBulkAll, List.length_cons, Nat.mul_add]; omega
set_option maxRecDepth 100000 in
theorem bulk_fl {H : Type} (f : Fl) : Rows.uptoBulk (Fl.datum (H := H) f) = f.path.length + f.text.length + 5 := by
  simp only [Fl.datum, Rows.uptoBulk, Rows.uptoBulkAll]; omega
set_option maxRecDepth 100000 in
theorem upto_files {H : Type} {enc : TypeId × Value → H} {W : World} {base : Nat} {v : Value} {d : DataW H} {ps : List MemPlace} (hok : Value.okWide Tryz.prog W .any base 22 v)
    (h : DataW.Trod enc Tryz.prog W 0 (fun _ => true) true 22 v d ps) (hd : Rows.uptoBulk d ≤ 1048576) : ∃ l : List Fl, FS W v l ∧ FSm l ∧ l.length ≤ 1048576 ∧ ∀ f ∈ l, f.path.length ≤ 100000000 := by
  obtain ⟨l, h1, h2, h3⟩ := read_files hok h
  rcases h3 with rfl | ⟨sp, rfl⟩
  · exact ⟨[], h1, ⟨by simp, fun f hf => by cases hf⟩, by simp, fun f hf => by cases hf⟩
  · simp only [Rows.uptoBulk] at hd
    have hl := bulk_len (H := H) 1 (l := l.map (Fl.datum (H := H))) (fun d hd => by
      obtain ⟨c, _, rfl⟩ := List.mem_map.1 hd
      rw [bulk_fl]; omega)
    simp only [List.length_map] at hl
    refine ⟨l, h1, ⟨by omega, fun c hc => ?_⟩, by omega, fun c hc => ?_⟩
    · have hb := bulk_mem (H := H) (List.mem_map_of_mem (f := Fl.datum (H := H)) hc)
      rw [bulk_fl] at hb
      obtain ⟨g1, g2, g3, g4⟩ := h2 c hc
      exact ⟨by omega, by omega, g1, g2, g3, g4⟩
    · have hb := bulk_mem (H := H) (List.mem_map_of_mem (f := Fl.datum (H := H)) hc)
      rw [bulk_fl] at hb
      omega
end Go.Proofs.YtlkkmcibjhoneaaGreatDoor

namespace Go.Proofs.YtlkkmcibjhoneaaGreatDoor

theorem okP_nil : okP [] = true := by decide
/-- what lies below, by its bytes -/
theorem abv_bytes (a c : List UInt8) (ha : a ≠ []) : abvV a c = true ↔ a.length < c.length ∧ c.take a.length = a ∧ c[a.length]? = some 47 := by
  rw [abvV_iff]
  have pa : pcs a = sp a := by unfold pcs; rw [if_neg ha]
  constructor
  · rintro ⟨r, hr, hc⟩
    have h1 : c = a ++ 47 :: join r := by
      have h0 := join_cut (pcs a ++ r) (pcs a).length (by rw [pa]; have := sp_ne a; cases h : sp a with | nil => exact absurd h this | cons => simp) (by
        cases r with
        | nil => exact absurd rfl hr
        | cons => simp)
      rw [← join_pcs c, hc, h0]
      simp [join_pcs]
    rw [h1]; simp
  · rintro ⟨h1, h2, h3⟩
    have hc : c = a ++ 47 :: c.drop (a.length + 1) := by
      conv => lhs; rw [← List.take_append_drop a.length c, h2]
      congr 1
      rw [List.drop_eq_getElem_cons h1]
      congr 1
      rw [List.getElem?_eq_getElem h1] at h3; exact Option.some.inj h3
    have hne : c ≠ [] := by rintro rfl; simp at h1
    refine ⟨sp (c.drop (a.length + 1)), sp_ne _, ?_⟩
    rw [pa]
    conv => lhs; rw [hc]
    unfold pcs
    rw [if_neg (by simp), sp_append]
end Go.Proofs.YtlkkmcibjhoneaaGreatDoor

namespace Go.Proofs.YtlkkmcibjhoneaaGreatDoor

theorem fol_iff {a b : List UInt8} : fol a b = true ↔ cf a b < 0 ∧ abvV a b = false := by
  unfold fol cf
  simp only [Bool.and_eq_true, decide_eq_true_eq, Bool.not_eq_true']
theorem fol_tr {a b c : List UInt8} (h : fol a b = true) (k : fol b c = true) : fol a c = true := by
  rw [fol_iff] at h k ⊢
  refine ⟨cf_trans h.1 k.1, ?_⟩
  cases e : abvV a c with
  | false => rfl
  | true =>
    have := abv_between e h.1 k.1
    rw [h.2] at this
    cases this
/-- each follows the one ahead of it -/
def chnP : List (List UInt8) → Bool
  | a :: b :: r => fol a b && chnP (b :: r)
  | _ => true
theorem chnP_pw : ∀ l : List (List UInt8), chnP l = true ↔ l.Pairwise (fun a b => fol a b = true)
  | [] => by simp [chnP]
  | [a] => by simp [chnP]
  | a :: b :: r => by
    have ih := chnP_pw (b :: r)
    rw [List.pairwise_cons]
    simp only [chnP, Bool.and_eq_true]
    rw [ih]
    constructor
    · rintro ⟨h, h1⟩
      refine ⟨fun x hx => ?_, h1⟩
      rcases List.mem_cons.1 hx with rfl | hx
      · exact h
      · exact fol_tr h ((List.pairwise_cons.1 h1).1 x hx)
    · rintro ⟨h, h1⟩
      exact ⟨h b (by simp), h1⟩
theorem okP_dir {p : List UInt8} (h : okP p = true) : okP (dir p) = true := by
  by_cases h1 : 1 < (pcs p).length
  · have e := dir_base p h1
    have hall := okP_all h
    have hl := okP_len h
    have hnd : dir p ≠ [] := fun e0 => by
      rw [e0] at e
      have : [] ∈ pcs p := by
        rw [← e]
        show [] ∈ pcs (47 :: base p)
        unfold pcs
        rw [if_neg (by simp)]
        simp [sp]
      have := List.all_eq_true.1 hall [] this
      revert this
      decide
    have hnb : base p ≠ [] := fun e0 => by
      rw [e0] at e
      have : [] ∈ pcs p := by
        rw [← e]
        have hs : pcs (dir p ++ [47] ++ []) = pcs (dir p) ++ [[]] := by
          rw [List.append_nil]
          unfold pcs
          rw [if_neg (by simp), if_neg hnd]
          exact sp_append _ _
        rw [hs]; simp
      have := List.all_eq_true.1 hall [] this
      revert this
      decide
    have hp : pcs p = pcs (dir p) ++ pcs (base p) := by
      conv => lhs; rw [← e, List.append_assoc]
      exact pcs_append _ _ hnd hnb
    unfold okP
    simp only [Bool.and_eq_true, decide_eq_true_eq]
    refine ⟨⟨?_, ?_⟩, ?_⟩
    · have := congrArg List.length e
      simp only [List.length_append] at this
      omega
    · have h2 := hl.2
      rw [← dep_eq] at h2 ⊢
      rw [hp, List.length_append] at h2
      omega
    · rw [hp, List.all_append, Bool.and_eq_true] at hall
      exact hall.1
  · rw [(dir_base0 p h1).1]
    exact okP_nil
theorem fol_lt {a b : List UInt8} (h : fol a b = true) : cf a b < 0 := (fol_iff.1 h).1
theorem cf_tri (a b : List UInt8) : cf a b < 0 ∨ a = b ∨ cf b a < 0 := by
  rcases cf_range a b with h | h | h
  · exact .inl (by omega)
  · exact .inr (.inl (cf_zero.1 h))
  · exact .inr (.inr (by rw [cf_neg]; omega))
end Go.Proofs.YtlkkmcibjhoneaaGreatDoor

namespace Go.Proofs.YtlkkmcibjhoneaaGreatDoor

theorem abv_dir {c : List UInt8} (h : okP c = true) (hn : c ≠ []) : abvV (dir c) c = true := by
  by_cases h1 : 1 < (pcs c).length
  · have e := dir_base c h1
    have hall := okP_all h
    have hnd : dir c ≠ [] := fun e0 => by
      rw [e0] at e
      have : [] ∈ pcs c := by
        rw [← e]
        show [] ∈ pcs (47 :: base c)
        unfold pcs
        rw [if_neg (by simp)]
        simp [sp]
      have := List.all_eq_true.1 hall [] this
      revert this
      decide
    have hp : pcs c = pcs (dir c) ++ sp (base c) := by
      conv => lhs; rw [← e, List.append_assoc]
      unfold pcs
      rw [if_neg (by simp), if_neg hnd]
      exact sp_append _ _
    exact (abvV_iff _ _).2 ⟨_, sp_ne _, hp⟩
  · rw [(dir_base0 c h1).1]
    exact (abvV_iff _ _).2 ⟨pcs c, fun e => hn ((pcs_eq_nil c).1 e), rfl⟩
theorem abv_irr (a : List UInt8) : abvV a a = false := by
  cases e : abvV a a with
  | false => rfl
  | true =>
    have := abv_cf e
    rw [cf_self] at this
    omega
theorem abv_asym {a b : List UInt8} (h : cf b a < 0) : abvV a b = false := by
  cases e : abvV a b with
  | false => rfl
  | true =>
    have h1 := cf_trans (abv_cf e) h
    rw [cf_self] at h1
    omega
theorem pw_anti : ∀ {k : List (List UInt8)}, k.Pairwise (fun a b => fol a b = true) → ∀ a ∈ k, ∀ b ∈ k, abvV a b = false
  | [], _, a, ha, _, _ => by cases ha
  | x :: r, h, a, ha, b, hb => by
    obtain ⟨h1, h2⟩ := List.pairwise_cons.1 h
    rcases List.mem_cons.1 ha with rfl | ha'
    · rcases List.mem_cons.1 hb with rfl | hb'
      · exact abv_irr _
      · exact (fol_iff.1 (h1 b hb')).2
    · rcases List.mem_cons.1 hb with rfl | hb'
      · exact abv_asym (fol_lt (h1 a ha'))
      · exact pw_anti h2 a ha' b hb'
theorem abv_nil (a : List UInt8) : abvV a [] = false := by
  cases e : abvV a [] with
  | false => rfl
  | true =>
    obtain ⟨r, hr, e1⟩ := (abvV_iff a []).1 e
    rw [pcs_nil] at e1
    have := List.append_eq_nil_iff.1 e1.symm
    exact absurd this.2 hr
end Go.Proofs.YtlkkmcibjhoneaaGreatDoor
