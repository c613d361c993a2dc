/-
  named, matched, Expand.
-/
import Derived.Test.YtebidnepanogcaaDoorFd
namespace Go.Proofs.YtebidnepanogcaaDoor
open Go.RowKit

theorem src_own {w : World} (B : Nat) (hB : B ≤ w.heap.size) (f : Fl) : OwnF B (w.alloc (.cells #[.string (bs f.path), .string (bs f.text), .int .i64 f.blob, .int .i64 f.size] 29)) (.slice (some ⟨w.heap.size, 0, none⟩) 1 1) [f] := by
  have := World.ownsRow_lit (size := 4) (e := 29) w #[.string (bs f.path), .string (bs f.text), .int .i64 f.blob, .int .i64 f.size] 1 hB (by simp [maxLen]) rfl
  exact this

set_option maxHeartbeats 2000000 in
theorem named_any {w : World} {v : Value} {l : List Fl} (q : List UInt8) (h : FS w v l) (sm : FQ l) :
    Calls Tryd.prog 23 #[v, .string (bs q)] w fun e w' => ∃ u, e = .returned (.tuple #[u, .bool (fnd l q).isSome]) ∧ OwnF w.heap.size w' u (fnd l q).toList ∧ Below w.heap.size w w' := by
  have HF : Hid (Calls Tryd.prog 40 #[v, .string (bs q)] w fun e w' => e = .returned (.tuple #[(fopt (fnd l q)).val, .bool (fnd l q).isSome]) ∧ Below w.heap.size w w') := find_any q h sm
  obtain ⟨r, hr⟩ : ∃ r, fnd l q = r := ⟨_, rfl⟩
  rw [hr] at HF ⊢
  clear hr
  cases r with
  | none =>
    have HF' : Hid (Calls Tryd.prog 40 #[v, .string (bs q)] w fun e w' => e = .returned (.tuple #[.agg #[.string (bs []), .string (bs []), .int .i64 0, .int .i64 0], .bool false]) ∧ Below w.heap.size w w') := HF.out
    clear HF
    go_enter Tryd.func23, Tryd.ntmps23
    go_wp2_with fail
    refine HF'.out.mono ?_
    rintro e w1 ⟨rfl, hb⟩
    have HB : Hid (Below w.heap.size w w1) := hb
    clear hb
    go_wp2_with fail
    go_ret2
    exact ⟨_, rfl, OwnF.nil _ _, bstep HB.out (balloc _ _)⟩
  | some f =>
    obtain ⟨p, t, b, s⟩ := f
    have HF' : Hid (Calls Tryd.prog 40 #[v, .string (bs q)] w fun e w' => e = .returned (.tuple #[.agg #[.string (bs p), .string (bs t), .int .i64 b, .int .i64 s], .bool true]) ∧ Below w.heap.size w w') := HF.out
    clear HF
    go_enter Tryd.func23, Tryd.ntmps23
    go_wp2_with fail
    refine HF'.out.mono ?_
    rintro e w1 ⟨rfl, hb⟩
    have HB : Hid (Below w.heap.size w w1) := hb
    clear hb
    go_wp2_with fail
    go_ret2
    have z : (w1.alloc (.cells #[.string (bs p), .string (bs t), .int .i64 b, .int .i64 s] 29)).heap.size = w1.heap.size + 1 := by simp
    have := src_own (w := w1.alloc (.cells #[.string (bs p), .string (bs t), .int .i64 b, .int .i64 s] 29)) w.heap.size (by have := HB.out.size; omega) ⟨p, t, b, s⟩
    rw [z] at this
    exact ⟨_, rfl, this, bstep (bstep HB.out (balloc _ _)) (balloc _ _)⟩
/-- the files of a directory that fit -/
def selD (D x y : List UInt8) (f : Fl) : Bool := decide (dir f.path = D) && !decide (base f.path = wName) && fts x y (base f.path)
theorem filter_step {α : Type} (l : List α) (P : α → Bool) (k : Nat) (h : k < l.length) : (l.take (k + 1)).filter P = (l.take k).filter P ++ (if P (l[k]'h) = true then [l[k]'h] else []) := by
  rw [List.take_succ_eq_append_getElem h, List.filter_append]
  congr 1
  by_cases hp : P (l[k]'h) = true
  · simp [hp]
  · simp [hp]

set_option maxRecDepth 100000 in
set_option maxHeartbeats 8000000 in
theorem matched_any {w : World} {v u : Value} {l : List Fl} {x y : List UInt8} (D : List UInt8) (h : FS w v l) (sm : FQ l) (hp : PC w u x y) (hx : x.length ≤ 1000000000) (hy : y.length ≤ 1000000000) :
    Calls Tryd.prog 24 #[v, .string (bs D), u] w fun e w' => ∃ r, e = .returned r ∧ OwnF w.heap.size w' r (l.filter (selD D x y)) ∧ Below w.heap.size w w' := by
  have HPC : Hid (PC w u x y) := hp
  obtain ⟨ua, ub, rfl, hua, hub⟩ := hp
  obtain ⟨p1, c1, rfl, _⟩ := id hua
  obtain ⟨p2, c2, rfl, _⟩ := id hub
  clear hua hub
  rename_i hq1 hq2
  clear hq1 hq2
  have SM : Hid (FQ l) := sm
  obtain ⟨a, c, rfl, _⟩ := h.form
  have H' : Hid (FS w (.slice a l.length c) l) := h
  obtain ⟨n, hn⟩ : ∃ n, l.length = n := ⟨_, rfl⟩
  have hlen : n ≤ 4000000 := hn ▸ sm.len
  rw [hn]
  have HN : Hid (l.length = n) := hn
  clear hn h sm
  rename_i hform
  clear hform
  have HXY : Hid (x.length ≤ 1000000000 ∧ y.length ≤ 1000000000) := ⟨hx, hy⟩
  clear hx hy
  have e3 := c_name
  have eD := bs_toList D
  go_enter Tryd.func24, Tryd.ntmps24
  go_wp2_with fail
  go_loopw [7, 13] (fun r i wr => ∃ k : Nat, k ≤ n ∧ i = .int .i64 k ∧ OwnF (w.heap.size + 1) wr r ((l.take k).filter (selD D x y)) ∧ Below w.heap.size w wr ∧ wr.cell? ⟨w.heap.size, 0, none⟩ = some (.slice p1 x.length c1) ∧ wr.cell? ⟨w.heap.size, 1, none⟩ = some (.slice p2 y.length c2) ∧ w.heap.size < wr.heap.size) (fun _ i _ => n - (intOf i).toNat)
  case atStart => exact ⟨0, by omega, rfl, OwnF.nil _ _, balloc _ _, by simp, by simp, by simp⟩
  case round =>
    obtain ⟨k, hk, rfl, ho, hb, hc0, hc1, hz⟩ := hrel
    have HB : Hid (Below w.heap.size w wr) := hb
    have HC : Hid (wr.cell? ⟨w.heap.size, 0, none⟩ = some (.slice p1 x.length c1) ∧ wr.cell? ⟨w.heap.size, 1, none⟩ = some (.slice p2 y.length c2)) := ⟨hc0, hc1⟩
    have HO : Hid (OwnF (w.heap.size + 1) wr _ ((l.take k).filter (selD D x y))) := ho
    have hkl0 : ((l.take k).filter (selD D x y)).length ≤ 4000000 := by
      have h1 := List.length_filter_le (selD D x y) (l.take k)
      have h2 : (l.take k).length ≤ l.length := by simp; omega
      have := HN.out
      omega
    obtain ⟨ao, co, eo⟩ := ho.form
    subst eo
    obtain ⟨no, hno⟩ : ∃ no, ((l.take k).filter (selD D x y)).length = no := ⟨_, rfl⟩
    rw [hno] at HO hkl0 ⊢
    clear ho hb hc0 hc1
    by_cases hlt : k < n
    · have hkl : k < l.length := by have := HN.out; omega
      obtain ⟨b, off, ea, hbw, d0, d1, d2, d3⟩ := FS.at H'.out HB.out hkl
      subst ea
      have F : Hid (l[k].path.length ≤ 100000000) := SM.out.pat hkl
      have HK : Hid ((l.take (k + 1)).filter (selD D x y) = (l.take k).filter (selD D x y) ++ if selD D x y (l[k]'hkl) = true then [l[k]'hkl] else []) := filter_step l _ k hkl
      obtain ⟨f, hf⟩ : ∃ f, l[k] = f := ⟨_, rfl⟩
      rw [hf] at d0 d1 d2 d3 F HK
      clear hf
      obtain ⟨p, t, bl, s⟩ := f
      simp only at d0 d1 d2 d3
      have k1 : (0 : Int) ≤ (k : Int) := by omega
      have k2 : (k : Int) < (n : Int) := by omega
      go_wp2_with fail
      obtain ⟨w2, hw2⟩ : ∃ w2, wr.alloc (.cells #[.string (bs p), .string (bs t), .int .i64 bl, .int .i64 s] 29) = w2 := ⟨_, rfl⟩
      have FB2 : Hid (FB w2 wr.heap.size ⟨p, t, bl, s⟩) := by rw [← hw2]; exact FB.new wr ⟨p, t, bl, s⟩ 29
      have HB2 : Hid (Below wr.heap.size wr w2) := by rw [← hw2]; exact balloc _ _
      rw [hw2]
      clear hw2 d0 d1 d2 d3
      have hz2 := HB2.out.size
      refine (base_any p _ (by have : p.length ≤ 100000000 := F.out; omega)).mono ?_
      rintro e w3 ⟨rfl, hw3⟩
      obtain rfl : w2 = w3 := hw3.symm
      obtain ⟨g0, g1, g2, g3, hlt3⟩ := FB2.out
      simp only at g0 g1 g2 g3
      have O3 : Hid (OwnF (w.heap.size + 1) w2 (.slice ao no co) ((l.take k).filter (selD D x y))) := HO.out.later HB2.out
      have b0 : w2.cell? ⟨w.heap.size, 0, none⟩ = some (.slice p1 x.length c1) := (HB2.out.cell (p := ⟨w.heap.size, 0, none⟩) hz).trans HC.out.1
      have b1 : w2.cell? ⟨w.heap.size, 1, none⟩ = some (.slice p2 y.length c2) := (HB2.out.cell (p := ⟨w.heap.size, 1, none⟩) hz).trans HC.out.2
      have HW2 : Hid (Below w.heap.size w w2) := bstep HB.out HB2.out
      go_wp2_with fail
      refine (dir_any p _ (by have : p.length ≤ 100000000 := F.out; omega)).mono ?_
      rintro e w3 ⟨rfl, hw3⟩
      obtain rfl : w2 = w3 := hw3.symm
      have HSel : Hid (selD D x y ⟨p, t, bl, s⟩ = (decide (dir p = D) && !decide (base p = wName) && fts x y (base p))) := rfl
      have hbl : Hid ((base p).length ≤ 1000000000) := by
        have h1 := base_len p
        have h2 : p.length ≤ 100000000 := F.out
        exact (by omega : (base p).length ≤ 1000000000)
      have ed := bs_toList (dir p)
      have eb := bs_toList (base p)
      generalize dir p = dp at *
      generalize base p = bp at *
      by_cases hd : dp = D
      rotate_left
      · have hd' : (dp == D) = false := by simpa using hd
        have HS : Hid (selD D x y ⟨p, t, bl, s⟩ = false) := by
          show _ = _
          rw [HSel.out, decide_eq_false hd]; rfl
        clear hd HSel
        go_wp2_with fail
        go_roundw
        case rel =>
          refine ⟨k + 1, by omega, by go_num, ?_, HW2.out, b0, b1, by omega⟩
          rw [HK.out, if_neg (by rw [HS.out]; simp), List.append_nil]; exact O3.out
        case measure => simp [intOf]; omega
      have hd' : (dp == D) = true := by simpa using hd
      have HD : Hid (decide (dp = D) = true) := decide_eq_true hd
      clear hd
      by_cases hn0 : bp = wName
      · have hn' : (bp == wName) = true := by simpa using hn0
        have HS : Hid (selD D x y ⟨p, t, bl, s⟩ = false) := by
          show _ = _
          rw [HSel.out, decide_eq_true hn0]; simp
        clear hn0 HSel
        go_wp2_with fail
        go_roundw
        case rel =>
          refine ⟨k + 1, by omega, by go_num, ?_, HW2.out, b0, b1, by omega⟩
          rw [HK.out, if_neg (by rw [HS.out]; simp), List.append_nil]; exact O3.out
        case measure => simp [intOf]; omega
      have hn' : (bp == wName) = false := by simpa using hn0
      have HS1 : Hid (selD D x y ⟨p, t, bl, s⟩ = fts x y bp) := by
        show _ = _
        rw [HSel.out, HD.out, decide_eq_false hn0]; simp
      clear hn0 HSel HD
      go_wp2_with fail
      refine (fits_any (HPC.out.later HW2.out) bp HXY.out.1 HXY.out.2 hbl.out).mono ?_
      rintro e w4 ⟨rfl, hb4⟩
      rw [← HS1.out]
      have HB4 : Hid (Below w2.heap.size w2 w4) := hb4
      have O4 : Hid (OwnF (w.heap.size + 1) w4 (.slice ao no co) ((l.take k).filter (selD D x y))) := O3.out.later hb4
      obtain ⟨q0, q1, q2, q3, hlt4⟩ := FB2.out.later hb4
      simp only at q0 q1 q2 q3
      have hz4 := hb4.size
      have B0 : Hid (w4.cell? ⟨w.heap.size, 0, none⟩ = some (.slice p1 x.length c1) ∧ w4.cell? ⟨w.heap.size, 1, none⟩ = some (.slice p2 y.length c2)) := ⟨(hb4.cell (p := ⟨w.heap.size, 0, none⟩) (by show w.heap.size < _; omega)).trans b0, (hb4.cell (p := ⟨w.heap.size, 1, none⟩) (by show w.heap.size < _; omega)).trans b1⟩
      have HW4 : Hid (Below w.heap.size w w4) := bstep HW2.out hb4
      clear hb4 b0 b1 g0 g1 g2 g3 HS1
      generalize hs : selD D x y ⟨p, t, bl, s⟩ = r at *
      cases r
      · go_wp2_with fail
        go_roundw
        case rel =>
          refine ⟨k + 1, by omega, by go_num, ?_, HW4.out, B0.out.1, B0.out.2, by omega⟩
          rw [HK.out, if_neg (by simp), List.append_nil]; exact O4.out
        case measure => simp [intOf]; omega
      · go_wp2_with (at_builtin; refine app_files (base := w.heap.size + 1) (l := (l.take k).filter (selD D x y)) (k := [⟨p, t, bl, s⟩]) (O4.out.later (balloc _ _)) (src_file _ ⟨p, t, bl, s⟩) (by simp only [List.length_cons, List.length_nil, hno]; omega) (by simp; omega) rfl _ _ rfl rfl rfl ?_; intro v5 w5 ho5 hg5 _)
        go_roundw
        case rel =>
          have HB5 : Below (w.heap.size + 1) w4 w5 := (below_mono (balloc w4 _) (by omega)).grown hg5 (by simp; omega) (fun j hj => (O4.out.lt hj).1)
          refine ⟨k + 1, by omega, by go_num, ?_, below_trans HW4.out (below_mono HB5 (by omega)), (HB5.cell (p := ⟨w.heap.size, 0, none⟩) (by show w.heap.size < _; omega)).trans B0.out.1, (HB5.cell (p := ⟨w.heap.size, 1, none⟩) (by show w.heap.size < _; omega)).trans B0.out.2, by have := HB5.size; omega⟩
          rw [HK.out, if_pos trivial]; exact ho5
        case measure => simp [intOf]; omega
    · obtain rfl : k = n := by omega
      go_wp2_with fail
      go_ret
      refine ⟨_, rfl, ?_, HB.out⟩
      have e : l.take k = l := List.take_of_length_le (by have := HN.out; omega)
      have := HO.out
      rw [e] at this
      exact this.mono (by omega)
end Go.Proofs.YtebidnepanogcaaDoor
