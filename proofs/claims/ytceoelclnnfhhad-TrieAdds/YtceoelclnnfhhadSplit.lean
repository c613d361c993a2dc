/-
  Pieces, the directory, and paths joined.
-/
import Derived.Test.YtceoelclnnfhhadRows2
namespace Go.Proofs.Ytceoelclnnfhhad
open Go.RowKit

set_option maxHeartbeats 1000000 in
theorem dir_any (l : List UInt8) (w : World) (hl : l.length ≤ 9223372036854775807) :
    Calls Try.prog 31 #[.string (bs l)] w fun e w' => e = .returned (.string (bs (dir l))) ∧ w' = w := by
  have HL : Hid (l.length ≤ 9223372036854775807) := hl
  clear hl
  have hz : (bs l).size = l.length := rfl
  have h2 := lst_lt l
  by_cases h : lst l < 0
  · have hd0 : dir l = [] := by simp [dir, h]
    rw [hd0]
    go_enter Try.func31, Try.ntmps31
    go_wp2_with fail
    refine (last_any _ _ HL.out).mono ?_
    rintro e w1 ⟨rfl, rfl⟩
    go_wp2_with fail
    go_ret
    exact ⟨rfl, rfl⟩
  · obtain ⟨n, hn⟩ : ∃ n : Nat, lst l = n := ⟨(lst l).toNat, by omega⟩
    have hd0 : dir l = l.take n := by unfold dir; rw [if_neg h, hn]; rfl
    rw [hd0]
    have HE : Hid ((bs l).extract 0 n = bs (l.take n)) := extract_to l n
    rw [hn] at h h2
    go_enter Try.func31, Try.ntmps31
    go_wp2_with fail
    refine (last_any _ _ HL.out).mono ?_
    rintro e w1 ⟨rfl, rfl⟩
    rw [hn]
    have h3 : n < l.length := by omega
    go_wp2_with fail
    go_ret
    exact ⟨by rw [← HE.out]; rfl, rfl⟩
theorem bs_add (a b : List UInt8) : bs a ++ bs b = bs (a ++ b) := by
  apply ByteArray.ext; simp [bs]
set_option maxHeartbeats 1000000 in
set_option maxRecDepth 100000 in
theorem join_any (a b : List UInt8) (w : World) (ha : a.length < 9223372036854775807) (hb : b.length < 9223372036854775807) :
    Calls Try.prog 47 #[.string (bs a), .string (bs b)] w fun e w' => e = .returned (.tuple #[.string (bs (jn a b).1), .int .i64 (jn a b).2]) ∧ Below w.heap.size w w' := by
  have e0 : (bs a).toList.isEmpty = a.isEmpty := isE a
  have e1 : (bs b).toList.isEmpty = b.isEmpty := isE b
  obtain ⟨j, hj⟩ : ∃ j, jn a b = j := ⟨_, rfl⟩
  rw [hj]
  have HJ : Hid (jn a b = j) := hj
  clear hj
  have HL : Hid (a.length < 9223372036854775807 ∧ b.length < 9223372036854775807) := ⟨ha, hb⟩
  clear ha hb
  go_enter Try.func47, Try.ntmps47
  go_wp2_with fail
  refine (valid_any _ _ HL.out.1).mono ?_
  rintro e w1 ⟨rfl, hb1⟩
  have B1 : Hid (Below w.heap.size w w1) := hb1
  have hz1 := hb1.size
  clear hb1
  cases h1 : okP a
  · have hj := HJ.out
    have hj : ([], 7) = j := by rw [← hj]; simp [jn, h1]
    subst hj
    go_wp2_with fail
    go_ret2
    exact ⟨rfl, B1.out⟩
  go_wp2_with fail
  refine (valid_any _ _ HL.out.2).mono ?_
  rintro e w2 ⟨rfl, hb2⟩
  have B2 : Hid (Below w.heap.size w w2) := below_trans B1.out (below_mono hb2 hz1)
  have hz2 := B2.out.size
  clear hb2
  cases h2 : okP b
  · have hj := HJ.out
    have hj : ([], 7) = j := by rw [← hj]; simp [jn, h2]
    subst hj
    go_wp2_with fail
    go_ret2
    exact ⟨rfl, B2.out⟩
  have hj := HJ.out
  have hj : (if a = [] then (b, (0 : Int)) else if b = [] then (a, 0) else if okP (a ++ 47 :: b) = true then (a ++ 47 :: b, 0) else ([], 7)) = j := by rw [← hj]; simp [jn, h1, h2]
  have la : a.length ≤ 120 := by unfold okP at h1; simp only [Bool.and_eq_true, decide_eq_true_eq] at h1; exact h1.1.1
  have lb : b.length ≤ 120 := by unfold okP at h2; simp only [Bool.and_eq_true, decide_eq_true_eq] at h2; exact h2.1.1
  by_cases h3 : a = []
  · rw [if_pos h3] at hj
    subst hj
    subst h3
    go_wp2_with fail
    go_ret2
    exact ⟨rfl, B2.out⟩
  rw [if_neg h3] at hj
  have i0 : a.isEmpty = false := by cases a; exact absurd rfl h3; rfl
  rw [i0] at e0
  by_cases h4 : b = []
  · rw [if_pos h4] at hj
    subst hj
    subst h4
    go_wp2_with fail
    go_ret2
    exact ⟨rfl, B2.out⟩
  rw [if_neg h4] at hj
  have i1 : b.isEmpty = false := by cases b; exact absurd rfl h4; rfl
  rw [i1] at e1
  have z1 : (bs a).size = a.length := rfl
  have z2 : (bs b).size = b.length := rfl
  have hcat : bs a ++ (ByteArray.mk #[47]) ++ bs b = bs (a ++ 47 :: b) := by
    have : (ByteArray.mk #[47]) = bs [47] := rfl
    rw [this, bs_add, bs_add]; simp
  have HC : Hid (bs a ++ (ByteArray.mk #[47]) ++ bs b = bs (a ++ 47 :: b)) := hcat
  clear hcat
  go_wp2_with fail
  rw [HC.out]
  refine (valid_any _ _ (by simp; omega)).mono ?_
  rintro e w3 ⟨rfl, hb3⟩
  have B3 : Hid (Below w.heap.size w w3) := below_trans B2.out (below_mono hb3 hz2)
  clear hb3
  cases h5 : okP (a ++ 47 :: b)
  · rw [h5] at hj
    have hj : ([], (7 : Int)) = j := by rw [← hj]; rfl
    subst hj
    go_wp2_with fail
    go_ret2
    exact ⟨rfl, B3.out⟩
  · rw [h5] at hj
    have hj : (a ++ 47 :: b, (0 : Int)) = j := by rw [← hj]; rfl
    subst hj
    go_wp2_with fail
    go_ret2
    exact ⟨rfl, B3.out⟩
theorem WK.grown {w w' : World} {g : Nat} {t : List UInt8} {m : Bool} {row : Option Nat} (h : WK w g t m) (hg : w.grownBy w' row) (hn : row ≠ some g) : WK w' g t m :=
  h.only (S := match row with | some k => [k] | none => []) ⟨hg.os, hg.tape, hg.output, hg.size, fun k hk hs => hg.block k hk (by
    cases row with
    | none => simp
    | some r => simp at hs; simpa using fun e => hs e)⟩ (by
    cases row with
    | none => simp
    | some r => simp at hn ⊢; exact fun e => hn e.symm)
set_option maxHeartbeats 1000000 in
set_option maxRecDepth 100000 in
theorem split_any (l : List UInt8) (w : World) (hm : l.length ≤ 1000000000) :
    Calls Try.prog 23 #[.string (bs l)] w fun e w' => ∃ v, e = .returned v ∧ Own w.heap.size w' v (pcs l) ∧ Below w.heap.size w w' := by
  obtain ⟨i0, hi, hz0, hz1, hz2⟩ := info_parts info9
  have hdl := dep_le l
  obtain ⟨d, hd0⟩ : ∃ d, dep l = d := ⟨_, rfl⟩
  rw [hd0] at hdl
  obtain ⟨w1, hmk, hown0, hg0⟩ := run_make_own (P := Try.prog) (w := w) w.heap.size 35 9 i0 (.string ByteArray.empty) 1 und35 hi hz0 hz1 .i64 .i64 d (by rw [hz2]; omega) (by unfold maxLen; omega) (Nat.le_refl _)
  have HO : Hid (Own w.heap.size w1 (.slice (some ⟨w.heap.size, 0, none⟩) 0 d) []) := hown0
  have HB1 : Hid (Below w.heap.size w w1) := (Below.refl _ _).grown hg0 (Nat.le_refl _) (by simp)
  have hz3 : w.heap.size < w1.heap.size := (HO.out.lt (k := w.heap.size) rfl).2
  clear hown0 hg0 hi hz0 hz1 hz2
  obtain ⟨L, hL⟩ : ∃ L, pcs l = L := ⟨_, rfl⟩
  rw [hL]
  have HL : Hid ([] ++ left l (!l.isEmpty) = L) := by rw [left_start]; exact hL
  have HD : Hid (L.length ≤ 1000000001) := by rw [← hL, dep_eq, hd0]; show d ≤ 1000000001; omega
  clear hL
  obtain ⟨ma, hma⟩ : ∃ m, (!l.isEmpty) = m := ⟨_, rfl⟩
  rw [hma] at HL
  have HM : Hid (l.length ≤ 1000000000) := hm
  go_enter Try.func23, Try.ntmps23
  go_wp2_with fail
  refine (depth_any _ _ (by omega)).mono ?_
  rintro e w2 ⟨rfl, rfl⟩
  rw [hd0]
  go_wp2_with fail
  refine (begin_any _ _).mono ?_
  rintro e w3 ⟨rfl, hb3⟩
  replace hb3 := hb3.below
  rw [hma]
  have hz4 := hb3.size
  have HO3 : Hid (Own w2.heap.size w3 (.slice (some ⟨w2.heap.size, 0, none⟩) 0 d) []) := HO.out.later hb3
  have HB3 : Hid (Below w2.heap.size w2 w3) := below_trans HB1.out (below_mono hb3 (by omega))
  clear hb3 hmk
  go_wp2_with fail
  have hz5 : w2.heap.size ≤ w3.heap.size := by omega
  have hz6 : w2.heap.size < w3.heap.size := by omega
  have K0 : Hid (WK (w3.alloc (.cells #[.string (bs l), .bool ma] 71)) w3.heap.size l ma ∧ Below w2.heap.size w2 (w3.alloc (.cells #[.string (bs l), .bool ma] 71)) ∧ Own w2.heap.size (w3.alloc (.cells #[.string (bs l), .bool ma] 71)) (.slice (some ⟨w2.heap.size, 0, none⟩) 0 d) []) := ⟨WK.new _ _ _ _, HB3.out.alloc hz5 _, HO3.out.later (balloc _ _)⟩
  go_loopg [3, 4] (left l ma).length (fun g v p wr => ∃ (gp : Nat) (t : List UInt8) (m : Bool) (D : List (List UInt8)), p = .pointer (some ⟨gp, 0, none⟩) ∧ w2.heap.size ≤ gp ∧ WK wr gp t m ∧ Below w2.heap.size w2 wr ∧ Own w2.heap.size wr v D ∧ v.ownBlock ≠ some gp ∧ D ++ left t m = L ∧ t.length ≤ l.length ∧ (left t m).length ≤ g)
  case atStart => exact ⟨_, l, ma, [], rfl, hz5, K0.out.1, K0.out.2.1, K0.out.2.2, by simp [Value.ownBlock]; omega, HL.out, Nat.le_refl _, Nat.le_refl _⟩
  case round =>
    obtain ⟨gp, t, m, D, rfl, hgp, k, hbw, hown, hne, hall, htl, hg⟩ := hrel
    have HX : Hid (WK wr gp t m) := k
    have HB : Hid (Below w2.heap.size w2 wr) := hbw
    have HA : Hid (D ++ left t m = L) := hall
    have HG : Hid ((left t m).length ≤ gk) := hg
    have HT : Hid (t.length ≤ l.length) := htl
    have HW : Hid (Own w2.heap.size wr u3 D) := hown
    have HN : Hid (u3.ownBlock ≠ some gp) := hne
    obtain ⟨_, x1, _, _, xlt⟩ := k
    clear hbw hall hg htl hown hne
    cases m
    · have ha := HA.out
      rw [left_false, List.append_nil] at ha
      have HD2 : Hid (D = L) := ha
      clear ha
      go_wp2_with fail
      go_ret
      exact ⟨_, rfl, by rw [← HD2.out]; exact HW.out, HB.out⟩
    · go_wp2_with fail
      refine (next_any HX.out (by have := HT.out; have := HM.out; omega)).mono ?_
      rintro e w4 ⟨rfl, k4, o4, _⟩
      have HX4 : Hid (WK w4 gp (tl t) (sl t)) := k4
      have HB4 : Hid (Below w2.heap.size w2 w4) := below_trans HB.out (o4.below (by have := HB.out.size; omega) (by simp; omega))
      have HW4 : Hid (Own w2.heap.size w4 u3 D) := HW.out.only o4 (by intro k hk; simp; intro e; subst e; exact HN.out hk)
      have hz7 := HB4.out.size
      clear o4 x1 k4
      have ha := HA.out
      rw [left_next] at ha
      have HA4 : Hid ((D ++ [hd t]) ++ left (tl t) (sl t) = L) := by show _ = _; rw [← ha]; simp
      have HG4 : Hid ((left (tl t) (sl t)).length < gk) := by have := HG.out; rw [left_next] at this; simp at this; exact this
      have hDl : D.length + 1 ≤ 8796093022208 := by have h1 := HD.out; have h2 := congrArg List.length ha; simp at h2; omega
      clear ha
      go_wp2_with (at_builtin; refine app_one (base := w2.heap.size) (hd t) HW4.out hDl hz7 rfl (.tmp 12) (.tmp 14) rfl rfl rfl ?_; intro v' w' ho hbw hbs' hgr hat; obtain ⟨y0, y1, _, _, _⟩ := HX4.out.grown hgr HN.out)
      have hz8 : w4.heap.size ≤ w'.heap.size := hgr.size
      have HX5 : Hid (WK w' gp (tl t) (sl t)) := HX4.out.grown hgr HN.out
      have HB5 : Hid (Below w2.heap.size w2 w') := below_trans HB4.out hbw
      have HW5 : Hid (Own w2.heap.size w' v' (D ++ [hd t])) := ho
      have hlt5 := fun k hk => (ho.lt (k := k) hk).2
      have HLT : Hid (∀ k, v'.ownBlock = some k → k < w'.heap.size) := hlt5
      clear ho hbw hgr hat hlt5
      go_roundg (left (tl t) (sl t)).length
      case measure => exact HG4.out
      case rel => exact ⟨_, tl t, sl t, D ++ [hd t], rfl, hbs', WK.new _ _ _ _, HB5.out.alloc hbs' _, HW5.out.later (balloc _ _), (fun e => by have := HLT.out _ e; omega), HA4.out, by have := tl_le t; have := HT.out; omega, Nat.le_refl _⟩
end Go.Proofs.Ytceoelclnnfhhad
