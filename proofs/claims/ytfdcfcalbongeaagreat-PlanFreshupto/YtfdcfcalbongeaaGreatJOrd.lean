/-
  The order of paths, and what is above: plain lists.
-/
import Derived.Test.YtfdcfcalbongeaaGreatLeaf
import Derived.Deep.LoopGhost
import Derived.Sort.Grow
import Derived.Test.YtfdcfcalbongeaaGreatPure
namespace Go.Proofs.YtfdcfcalbongeaaGreat
open Go.RowKit

/-- What was there has not turned, but for the blocks of S. -/
structure Only (S : List Nat) (w w' : World) : Prop where
  os : w'.os = w.os
  tape : w'.tape = w.tape
  output : w'.output = w.output
  size : w.heap.size ≤ w'.heap.size
  block : ∀ k, k < w.heap.size → k ∉ S → w'.heap[k]? = w.heap[k]?

/-- What was there has not turned; it may have drawn. -/
structure Laid (w w' : World) : Prop where
  below : Below w.heap.size w w'
  drawn : w.drawn ≤ w'.drawn

theorem Only.refl (S : List Nat) (w : World) : Only S w w := ⟨rfl, rfl, rfl, Nat.le_refl _, fun _ _ _ => rfl⟩
theorem Only.trans {S : List Nat} {a b c : World} (h : Only S a b) (k : Only S b c) : Only S a c :=
  ⟨k.os.trans h.os, k.tape.trans h.tape, k.output.trans h.output, Nat.le_trans h.size k.size, fun i hi hn => (k.block i (Nat.lt_of_lt_of_le hi h.size) hn).trans (h.block i hi hn)⟩
theorem Only.mono {S T : List Nat} {a b : World} (h : Only S a b) (hs : ∀ k, k ∈ S → k ∈ T) : Only T a b :=
  ⟨h.os, h.tape, h.output, h.size, fun i hi hn => h.block i hi (fun e => hn (hs i e))⟩
theorem Only.of_below {a b : World} (h : Below a.heap.size a b) (S : List Nat) : Only S a b :=
  ⟨h.os, h.tape, h.output, h.size, fun i hi _ => h.block i hi⟩
theorem Only.below {S : List Nat} {a b : World} {B : Nat} (h : Only S a b) (hB : B ≤ a.heap.size) (hS : ∀ k, k ∈ S → B ≤ k) : Below B a b :=
  ⟨h.os, h.tape, h.output, h.size, fun i hi => h.block i (by omega) (fun e => by have := hS i e; omega)⟩
theorem Only.set (w : World) (g o : Nat) (v : Value) : Only [g] w (w.setCell ⟨g, o, none⟩ v) :=
  ⟨rfl, rfl, rfl, by simp [World.setCell], fun k _ hn => Below.heap_setCell _ _ _ _ (fun e => hn (by simp [e]))⟩
theorem Only.drew (S : List Nat) (w : World) (n : Nat) : Only S w (w.drewN n) := ⟨rfl, rfl, rfl, Nat.le_refl _, fun _ _ _ => rfl⟩
theorem balloc (w : World) (o : Obj) : Below w.heap.size w (w.alloc o) := (Below.refl _ _).alloc (Nat.le_refl _) o
theorem below_trans {B : Nat} {a b c : World} (h : Below B a b) (k : Below B b c) : Below B a c :=
  ⟨k.os.trans h.os, k.tape.trans h.tape, k.output.trans h.output, Nat.le_trans h.size k.size, fun i hi => (k.block i hi).trans (h.block i hi)⟩
theorem below_mono {B C : Nat} {a b : World} (h : Below C a b) (hBC : B ≤ C) : Below B a b :=
  ⟨h.os, h.tape, h.output, h.size, fun i hi => h.block i (by omega)⟩

/-- A walk in block g: the text that is left, and whether there is more. -/
structure WK (w : World) (g : Nat) (t : List UInt8) (m : Bool) : Prop where
  text : w.cell? ⟨g, 0, none⟩ = some (.string (bs t))
  more : w.cell? ⟨g, 1, none⟩ = some (.bool m)
  f0 : w.frozen? ⟨g, 0, none⟩ = false
  f1 : w.frozen? ⟨g, 1, none⟩ = false
  lt : g < w.heap.size

theorem WK.only {S : List Nat} {w w' : World} {g : Nat} {t : List UInt8} {m : Bool} (h : WK w g t m) (ho : Only S w w') (hg : g ∉ S) : WK w' g t m := by
  have hb := ho.block g h.lt hg
  exact ⟨by rw [World.cell?_of_block (w := w) hb]; exact h.text, by rw [World.cell?_of_block (w := w) hb]; exact h.more,
    by rw [World.frozen?_of_block (w := w) hb]; exact h.f0, by rw [World.frozen?_of_block (w := w) hb]; exact h.f1, Nat.lt_of_lt_of_le h.lt ho.size⟩
theorem WK.later {w w' : World} {g : Nat} {t : List UInt8} {m : Bool} (h : WK w g t m) (hb : Below w.heap.size w w') : WK w' g t m := h.only (Only.of_below hb []) (by simp)
theorem WK.new (w : World) (t : List UInt8) (m : Bool) (k : TypeId) : WK (w.alloc (.cells #[.string (bs t), .bool m] k)) w.heap.size t m :=
  ⟨by simp, by simp, by simp, by simp, by simp⟩
theorem WK.set {w : World} {g : Nat} {t : List UInt8} {m : Bool} (h : WK w g t m) (t' : List UInt8) (m' : Bool) :
    WK ((w.setCell ⟨g, 0, none⟩ (.string (bs t'))).setCell ⟨g, 1, none⟩ (.bool m')) g t' m' := by
  refine ⟨?_, ?_, by simpa using h.f0, by simpa using h.f1, by simpa using h.lt⟩
  · rw [World.cell?_setCell_other _ _ _ _ (by simp)]; exact World.cell?_setCell_same _ _ _ h.text
  · refine World.cell?_setCell_same _ _ _ (u := .bool m) ?_
    rw [World.cell?_setCell_other _ _ _ _ (by simp)]; exact h.more

theorem isE (l : List UInt8) : (bs l).toList.isEmpty = l.isEmpty := by rw [bs_toList]

set_option maxRecDepth 100000 in
set_option maxHeartbeats 1000000 in
theorem begin_any (l : List UInt8) (w : World) :
    Calls Tryz.prog 69 #[.string (bs l)] w fun e w' => e = .returned (.agg #[.string (bs l), .bool (!l.isEmpty)]) ∧ Laid w w' := by
  have he := isE l
  go_enter Tryz.func69, Tryz.ntmps69
  go_wp2_with fail
  refine bodyPost_ret (results_cell_row rfl _ _ w.heap.size 93 #[.string (bs l), .bool (!l.isEmpty)] (0, 0) _ rfl (heap_alloc_new _ _) Tryz.underlying93 rfl (by kernel_rfl)) rfl ?_
  exact ⟨rfl, balloc _ _, Nat.le_refl _⟩

theorem left_start (l : List UInt8) : left l (!l.isEmpty) = pcs l := by
  cases l <;> simp [left, pcs]

set_option maxRecDepth 100000 in
set_option maxHeartbeats 1000000 in
theorem next_any {w : World} {g : Nat} {t : List UInt8} {m : Bool} (h : WK w g t m) (hm : t.length ≤ 9223372036854775807) :
    Calls Tryz.prog 70 #[.pointer (some ⟨g, 0, none⟩)] w fun e w' => e = .returned (.string (bs (hd t))) ∧ WK w' g (tl t) (sl t) ∧ Only [g] w w' ∧ w.drawn ≤ w'.drawn := by
  have H : Hid (WK w g t m) := h
  obtain ⟨h0, h1, h2, h3, h4⟩ := h
  have HM : Hid (t.length ≤ 9223372036854775807) := hm
  clear hm
  go_enter Tryz.func70, Tryz.ntmps70
  go_wp2_with fail
  refine (cut_any _ _ HM.out).mono ?_
  rintro e w1 ⟨rfl, n, rfl⟩
  go_wp2_with fail
  go_ret
  exact ⟨rfl, (H.out.only (Only.drew [] w n) (by simp)).set _ _, ((Only.drew [g] w n).trans (Only.set _ _ _ _)).trans (Only.set _ _ _ _), Nat.le_add_right _ _⟩

set_option maxHeartbeats 1000000 in
set_option maxRecDepth 100000 in
theorem meet_any (a b : List UInt8) (w : World) (ha : a.length ≤ 9223372036854775807) (hb : b.length ≤ 9223372036854775807) :
    Calls Tryz.prog 48 #[.string (bs a), .string (bs b)] w fun e w' => e = .returned (.tuple #[.int .i64 ((cmn a b).length : Nat), .int .i64 (cmpP (pcs a) (pcs b))]) ∧ Laid w w' := by
  rw [← mt_cmn]
  obtain ⟨S, hS⟩ : ∃ S, mt 0 0 (pcs a) (pcs b) = S := ⟨_, rfl⟩
  obtain ⟨O, hO⟩ : ∃ O, cmpP (pcs a) (pcs b) = O := ⟨_, rfl⟩
  rw [hS, hO]
  have HS : Hid (mt 0 0 (left a (!a.isEmpty)) (left b (!b.isEmpty)) = S) := by rw [left_start, left_start]; exact hS
  have HO : Hid (cmpP (left a (!a.isEmpty)) (left b (!b.isEmpty)) = O) := by rw [left_start, left_start]; exact hO
  obtain ⟨ma, hma⟩ : ∃ m, (!a.isEmpty) = m := ⟨_, rfl⟩
  obtain ⟨mb, hmb⟩ : ∃ m, (!b.isEmpty) = m := ⟨_, rfl⟩
  rw [hma, hmb] at HS HO
  clear hS hO
  go_enter Tryz.func48, Tryz.ntmps48
  go_wp2_with fail
  go_step3
  go_wp2_with fail
  refine (begin_any _ _).mono ?_
  rintro e w1 ⟨rfl, hb1, hd1⟩
  have D1 : Hid (w.drawn ≤ w1.drawn) := hd1
  clear hd1
  rw [hma]
  have hz1 := hb1.size
  have B1 : Hid (Below w.heap.size w w1) := hb1
  clear hb1
  go_wp2_with fail
  refine (begin_any _ _).mono ?_
  rintro e w2 ⟨rfl, hb2, hd2⟩
  have D2 : Hid (w1.drawn ≤ w2.drawn) := hd2
  clear hd2
  rw [hmb]
  have hz2 := hb2.size
  have B2 : Hid (Below w1.heap.size w1 w2) := hb2
  clear hb2
  go_wp2_with fail
  go_step3
  go_wp2_with fail
  obtain ⟨gx, hgx⟩ : ∃ gx, w2.heap.size = gx := ⟨_, rfl⟩
  have K0 : Hid (WK ((w2.alloc (.cells #[.string (bs a), .bool ma] 93)).alloc (.cells #[.string (bs b), .bool mb] 93)) gx a ma ∧ WK ((w2.alloc (.cells #[.string (bs a), .bool ma] 93)).alloc (.cells #[.string (bs b), .bool mb] 93)) (gx + 1) b mb ∧ Below w.heap.size w ((w2.alloc (.cells #[.string (bs a), .bool ma] 93)).alloc (.cells #[.string (bs b), .bool mb] 93))) := by
    have h1 := WK.new w2 a ma 93
    have h2 := WK.new (w2.alloc (.cells #[.string (bs a), .bool ma] 93)) b mb 93
    rw [hgx] at h1
    have e2 : (w2.alloc (.cells #[.string (bs a), .bool ma] 93)).heap.size = gx + 1 := by simp [hgx]
    rw [e2] at h2
    exact ⟨h1.later (balloc _ _), h2, ((below_trans B1.out (below_mono B2.out hz1)).alloc (by omega) _).alloc (by simp; omega) _⟩
  rw [hgx]
  go_loopg [4, 5, 8] (left a ma).length (fun g sm od st wr => ∃ (t1 t2 : List UInt8) (m1 m2 : Bool) (s r : Nat) (z : Int), sm = .int .i64 s ∧ od = .int .i64 0 ∧ st = .int .i64 z ∧ WK wr gx t1 m1 ∧ WK wr (gx + 1) t2 m2 ∧ Below w.heap.size w wr ∧ w.drawn ≤ wr.drawn ∧ mt r s (left t1 m1) (left t2 m2) = S ∧ cmpP (left t1 m1) (left t2 m2) = O ∧ (m1 = true → z = r ∧ r + t1.length ≤ 9223372036854775807) ∧ t1.length ≤ 9223372036854775807 ∧ t2.length ≤ 9223372036854775807 ∧ (left t1 m1).length ≤ g)
  case atStart => exact ⟨a, b, ma, mb, 0, 0, 0, rfl, rfl, rfl, K0.out.1, K0.out.2.1, K0.out.2.2, Nat.le_trans D1.out D2.out, HS.out, HO.out, fun _ => ⟨rfl, by omega⟩, ha, hb, Nat.le_refl _⟩
  case round =>
    obtain ⟨t1, t2, m1, m2, s, r, z, rfl, rfl, rfl, k1, k2, hbw, hdw, hmt, hcm, hzr, hl1, hl2, hg⟩ := hrel
    have HX : Hid (WK wr gx t1 m1) := k1
    have HY : Hid (WK wr (gx + 1) t2 m2) := k2
    have HB : Hid (Below w.heap.size w wr) := hbw
    have HW : Hid (w.drawn ≤ wr.drawn) := hdw
    clear hdw
    have HT : Hid (mt r s (left t1 m1) (left t2 m2) = S) := hmt
    have HC : Hid (cmpP (left t1 m1) (left t2 m2) = O) := hcm
    have HG : Hid ((left t1 m1).length ≤ gk) := hg
    have HL1 : Hid (t1.length ≤ 9223372036854775807) := hl1
    have HL2 : Hid (t2.length ≤ 9223372036854775807) := hl2
    obtain ⟨_, x1, _, _, xlt⟩ := k1
    obtain ⟨_, y1, _, _, ylt⟩ := k2
    clear hbw hmt hcm hg hl1 hl2
    cases m1
    · clear hzr
      cases m2
      · go_wp2_with fail
        rw [Exit.noGoto_ret]
        go_ret2
        refine ⟨?_, HB.out, HW.out⟩
        rw [← HT.out, ← HC.out]; rfl
      · go_wp2_with fail
        rw [Exit.noGoto_ret]
        go_ret2
        refine ⟨?_, HB.out, HW.out⟩
        rw [← HT.out, ← HC.out]
        simp only [left_false, left_next]; rfl
    · obtain ⟨rfl, hr⟩ := hzr rfl
      clear hzr
      cases m2
      · go_wp2_with fail
        rw [Exit.noGoto_ret]
        go_ret2
        refine ⟨?_, HB.out, HW.out⟩
        rw [← HT.out, ← HC.out]
        simp only [left_false, left_next]; rfl
      · go_wp2_with fail
        refine (next_any HX.out HL1.out).mono ?_
        rintro e w3 ⟨rfl, k3, o3, d3⟩
        have D3 : Hid (wr.drawn ≤ w3.drawn) := d3
        clear d3
        have HX3 : Hid (WK w3 gx (tl t1) (sl t1)) := k3
        have O3 : Hid (Only [gx] wr w3) := o3
        have HY3 : Hid (WK w3 (gx + 1) t2 true) := HY.out.only o3 (by simp)
        clear k3 o3
        go_wp2_with fail
        refine (next_any HY3.out HL2.out).mono ?_
        rintro e w4 ⟨rfl, k4, o4, d4⟩
        have HW4 : Hid (w.drawn ≤ w4.drawn) := Nat.le_trans HW.out (Nat.le_trans D3.out d4)
        clear d4
        have HY4 : Hid (WK w4 (gx + 1) (tl t2) (sl t2)) := k4
        have O4 : Hid (Only [gx + 1] w3 w4) := o4
        have HX4 : Hid (WK w4 gx (tl t1) (sl t1)) := HX3.out.only o4 (by simp)
        have HB4 : Hid (Below w.heap.size w w4) := below_trans HB.out (below_trans (O3.out.below (by have := HB.out.size; omega) (by simp; omega)) (O4.out.below (by have := HB.out.size; have := O3.out.size; omega) (by simp; omega)))
        clear k4 o4
        go_wp2_with fail
        refine (compare_any _ _ _).mono ?_
        rintro e w5 ⟨rfl, rfl⟩
        have hmt := HT.out
        have hcm := HC.out
        have hg := HG.out
        rw [left_next, left_next] at hmt hcm
        rw [left_next] at hg
        simp only [mt, cmpP] at hmt hcm
        by_cases h0 : Lib.compareBytes (hd t1) (hd t2) = 0
        · rw [if_pos h0] at hmt hcm
          have HT5 : Hid (mt (r + (hd t1).length + 1) (r + (hd t1).length) (left (tl t1) (sl t1)) (left (tl t2) (sl t2)) = S) := hmt
          have HC5 : Hid (cmpP (left (tl t1) (sl t1)) (left (tl t2) (sl t2)) = O) := hcm
          have HG5 : Hid ((left (tl t1) (sl t1)).length < gk) := by simp at hg; exact hg
          clear hmt hcm hg
          rw [h0]
          have hz : (bs (hd t1)).size = (hd t1).length := rfl
          have hle := hd_le t1
          have hle2 := tl_le t2
          have hle3 := tl_le t1
          cases hs : sl t1
          · by_cases hw : r + (hd t1).length + 1 ≤ 9223372036854775807
            · go_wp2_with fail
              go_roundg (left (tl t1) (sl t1)).length
              case measure => exact HG5.out
              case rel =>
                refine ⟨tl t1, tl t2, sl t1, sl t2, r + (hd t1).length, r + (hd t1).length + 1, _, by go_num, rfl, rfl, HX4.out, HY4.out, HB4.out, HW4.out, HT5.out, HC5.out, (fun h => absurd h (by rw [hs]; simp)), by have := HL1.out; omega, by have := HL2.out; omega, Nat.le_refl _⟩
            · go_wp2_with fail
              go_roundg (left (tl t1) (sl t1)).length
              case measure => exact HG5.out
              case rel =>
                refine ⟨tl t1, tl t2, sl t1, sl t2, r + (hd t1).length, r + (hd t1).length + 1, _, by go_num, rfl, rfl, HX4.out, HY4.out, HB4.out, HW4.out, HT5.out, HC5.out, (fun h => absurd h (by rw [hs]; simp)), by have := HL1.out; omega, by have := HL2.out; omega, Nat.le_refl _⟩
          · have hlen := hd_len t1 hs
            go_wp2_with fail
            go_roundg (left (tl t1) (sl t1)).length
            case measure => exact HG5.out
            case rel =>
              refine ⟨tl t1, tl t2, sl t1, sl t2, r + (hd t1).length, r + (hd t1).length + 1, _, by go_num, rfl, rfl, HX4.out, HY4.out, HB4.out, HW4.out, HT5.out, HC5.out, fun _ => ⟨by go_num, by omega⟩, by have := HL1.out; omega, by have := HL2.out; omega, Nat.le_refl _⟩
        · rw [if_neg h0] at hmt hcm
          have hne : (Lib.compareBytes (hd t1) (hd t2) != 0) = true := by simpa using h0
          have HT5 : Hid (s = S) := hmt
          have HC5 : Hid (Lib.compareBytes (hd t1) (hd t2) = O) := hcm
          clear hmt hcm hg
          go_wp2_with fail
          rw [Exit.noGoto_ret]
          go_ret2
          refine ⟨?_, HB4.out, HW4.out⟩
          rw [← HT5.out, ← HC5.out]; rfl
end Go.Proofs.YtfdcfcalbongeaaGreat

namespace Go.Proofs.YtfdcfcalbongeaaGreat

theorem join_snoc_ne (p : List UInt8) (r : List (List UInt8)) (h : r ≠ []) : join (p :: r) = p ++ 47 :: join r := join_cons p r h
theorem join_cut : ∀ (L : List (List UInt8)) (k : Nat), 0 < k → k < L.length → join L = join (L.take k) ++ 47 :: join (L.drop k)
  | [], _, _, h => by simp at h
  | p :: r, 1, _, h => by
    have hr : r ≠ [] := by rintro rfl; simp at h
    rw [join_cons p r hr]; rfl
  | p :: r, k + 2, _, h => by
    have hl : k + 1 < r.length := by simp at h; omega
    have hr : r ≠ [] := by rintro rfl; simp at hl
    have ih := join_cut r (k + 1) (by omega) hl
    have ht : r.take (k + 1) ≠ [] := by
      intro e
      have := congrArg List.length e
      rw [List.length_take, List.length_nil] at this
      omega
    rw [join_cons p r hr, List.take_succ_cons, List.drop_succ_cons, join_cons p _ ht, ih]; simp
theorem cmn_len_iff (a b : List UInt8) : (cmn a b).length = a.length ↔ com (pcs a) (pcs b) = (pcs a).length := by
  constructor
  · intro h
    have hle := (com_le (pcs a) (pcs b)).1
    by_cases he : com (pcs a) (pcs b) = (pcs a).length
    · exact he
    · have hlt : com (pcs a) (pcs b) < (pcs a).length := by omega
      by_cases h0 : com (pcs a) (pcs b) = 0
      · unfold cmn at h
        rw [h0] at h
        have : a = [] := List.eq_nil_of_length_eq_zero (by simpa [join] using h.symm)
        subst this
        simp [pcs] at hlt
      · have hc := join_cut (pcs a) _ (by omega) hlt
        rw [join_pcs] at hc
        have := congrArg List.length hc
        unfold cmn at h
        rw [List.length_append, h] at this
        simp at this
  · intro h
    unfold cmn
    rw [h, List.take_length, join_pcs]
theorem com_pre : ∀ (A B : List (List UInt8)), com A B = A.length ↔ ∃ r, B = A ++ r
  | [], B => by simp [com]
  | p :: ps, [] => by simp [com]
  | p :: ps, q :: qs => by
    unfold com
    by_cases h : p = q
    · subst h
      rw [if_pos rfl, List.length_cons, Nat.add_right_cancel_iff, com_pre ps qs]
      simp
    · rw [if_neg h]
      constructor
      · intro e; simp at e
      · rintro ⟨r, e⟩; simp at e; exact absurd e.1.symm h
theorem cmpP_app : ∀ (A r : List (List UInt8)), r ≠ [] → cmpP A (A ++ r) = -1
  | [], r, h => by
    cases r with
    | nil => exact absurd rfl h
    | cons => rfl
  | p :: ps, r, h => by
    rw [List.cons_append]; unfold cmpP; rw [if_pos (cb_refl p), cmpP_app ps r h]
theorem cmpP_between : ∀ (A B r : List (List UInt8)), cmpP A B = -1 → cmpP B (A ++ r) ≤ 0 → ∃ s, s ≠ [] ∧ B = A ++ s
  | [], [], _, h, _ => by simp [cmpP] at h
  | [], q :: qs, _, _, _ => ⟨q :: qs, by simp, rfl⟩
  | _ :: _, [], _, h, _ => by simp [cmpP] at h
  | p :: ps, q :: qs, r, h, h' => by
    rw [List.cons_append] at h'
    unfold cmpP at h h'
    by_cases h0 : Lib.compareBytes p q = 0
    · have := cb_zero h0; subst this
      rw [if_pos h0] at h
      rw [if_pos h0] at h'
      obtain ⟨s, hs, e⟩ := cmpP_between ps qs r h h'
      exact ⟨s, hs, by rw [e]; rfl⟩
    · rw [if_neg h0] at h
      have hn := cb_neg p q
      rw [h] at hn
      rw [if_neg (by omega)] at h'
      omega
/-- as the program says it -/
def abvV (a b : List UInt8) : Bool := decide ((cmn a b).length = a.length) && decide (cmpP (pcs a) (pcs b) < 0)
theorem abvV_iff (a b : List UInt8) : abvV a b = true ↔ ∃ r, r ≠ [] ∧ pcs b = pcs a ++ r := by
  unfold abvV
  rw [Bool.and_eq_true, decide_eq_true_eq, decide_eq_true_eq, cmn_len_iff, com_pre]
  constructor
  · rintro ⟨⟨r, hr⟩, h⟩
    refine ⟨r, ?_, hr⟩
    rintro rfl
    rw [hr, List.append_nil, cmpP_refl] at h
    omega
  · rintro ⟨r, hne, hr⟩
    exact ⟨⟨r, hr⟩, by rw [hr, cmpP_app _ _ hne]; omega⟩
theorem abvV_eq (a b : List UInt8) : abvV a b = abv (pcs a) (pcs b) := by
  rw [Bool.eq_iff_iff, abvV_iff]
  unfold abv
  rw [Bool.and_eq_true, decide_eq_true_eq, decide_eq_true_eq, com_pre]
  constructor
  · rintro ⟨r, hne, hr⟩
    refine ⟨?_, r, hr⟩
    have := List.length_pos_iff.2 hne
    rw [hr, List.length_append]; omega
  · rintro ⟨hl, r, hr⟩
    refine ⟨r, ?_, hr⟩
    rintro rfl
    rw [hr] at hl; simp at hl

/-- all that PathOrder asks -/
structure OrdFacts (a b c : List UInt8) (x y z : Int) (AC AB BA BC AA NA : Bool) : Prop where
  anti : cmpP (pcs b) (pcs a) = -x
  zero : x = 0 ↔ a = b
  lo : -1 ≤ x
  hi : x ≤ 1
  yhi : y ≤ 1
  trans : x ≤ 0 → y ≤ 0 → z ≤ 0
  ac : AC = true → z = -1
  btw : AC = true → x = -1 → y ≤ 0 → AB = true
  abx : AB = true → x = -1
  bcy : BC = true → y = -1
  asym : AB = true → BA = false
  tr : AB = true → BC = true → AC = true
  irr : AA = false
  root : NA = !a.isEmpty
theorem le_trans_cmp (A B C : List (List UInt8)) (h : cmpP A B ≤ 0) (k : cmpP B C ≤ 0) : cmpP A C ≤ 0 := by
  rcases cmpP_range A B with h1 | h1 | h1
  · rcases cmpP_range B C with k1 | k1 | k1
    · rw [cmpP_trans A B C h1 k1]; omega
    · rw [← cmpP_zero k1]; omega
    · omega
  · rw [cmpP_zero h1]; exact k
  · omega
theorem ord_facts (a b c : List UInt8) : OrdFacts a b c (cmpP (pcs a) (pcs b)) (cmpP (pcs b) (pcs c)) (cmpP (pcs a) (pcs c)) (abvV a c) (abvV a b) (abvV b a) (abvV b c) (abvV a a) (abvV [] a) := by
  have hx := cmpP_range (pcs a) (pcs b)
  have hy := cmpP_range (pcs b) (pcs c)
  refine ⟨cmpP_neg _ _, ⟨fun h => pcs_inj (cmpP_zero h), fun h => by rw [h, cmpP_refl]⟩, by omega, by omega, by omega, le_trans_cmp _ _ _, ?_, ?_, ?_, ?_, ?_, ?_, ?_, ?_⟩
  · intro h; obtain ⟨r, hr, e⟩ := (abvV_iff a c).1 h; rw [e, cmpP_app _ _ hr]
  · intro h h1 h2
    obtain ⟨r, hr, e⟩ := (abvV_iff a c).1 h
    rw [e] at h2
    obtain ⟨s, hs, e2⟩ := cmpP_between _ _ r h1 h2
    exact (abvV_iff a b).2 ⟨s, hs, e2⟩
  · intro h; obtain ⟨r, hr, e⟩ := (abvV_iff a b).1 h; rw [e, cmpP_app _ _ hr]
  · intro h; obtain ⟨r, hr, e⟩ := (abvV_iff b c).1 h; rw [e, cmpP_app _ _ hr]
  · intro h
    obtain ⟨r, hr, e⟩ := (abvV_iff a b).1 h
    cases hb : abvV b a
    · rfl
    · obtain ⟨s, hs, e2⟩ := (abvV_iff b a).1 hb
      have h1 := congrArg List.length e
      have h2 := congrArg List.length e2
      have := List.length_pos_iff.2 hr
      rw [List.length_append] at h1 h2
      omega
  · intro h k
    obtain ⟨r, hr, e⟩ := (abvV_iff a b).1 h
    obtain ⟨s, hs, e2⟩ := (abvV_iff b c).1 k
    exact (abvV_iff a c).2 ⟨r ++ s, by simp [hr], by rw [e2, e]; simp⟩
  · cases h : abvV a a
    · rfl
    · obtain ⟨r, hr, e⟩ := (abvV_iff a a).1 h
      have h1 := congrArg List.length e
      have := List.length_pos_iff.2 hr
      rw [List.length_append] at h1
      omega
  · cases a with
    | nil => decide
    | cons x l =>
      have : abvV [] (x :: l) = true := (abvV_iff _ _).2 ⟨pcs (x :: l), by rw [Ne, pcs_eq_nil]; simp, rfl⟩
      rw [this]; rfl
end Go.Proofs.YtfdcfcalbongeaaGreat
