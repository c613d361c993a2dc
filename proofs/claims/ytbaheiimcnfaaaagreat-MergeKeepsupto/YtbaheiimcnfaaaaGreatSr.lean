/-
  Split; lists of texts held against each other; is one of them such and such; where a text would stand.
-/
import Derived.Test.YtbaheiimcnfaaaaGreatJSPkg2
import Derived.Test.YtbaheiimcnfaaaaGreatJKn3
namespace Go.Proofs.YtbaheiimcnfaaaaGreat
open Go.RowKit

theorem WK.grown {w w' : World} {g : Nat} {t : List UInt8} {m : Bool} {row : Option Nat} (h : WK w g t m) (hg : w.grownBy w' row) (hn : row ≠ some g) : WK w' g t m :=
  h.only (S := match row with | some k => [k] | none => []) ⟨hg.os, hg.tape, hg.output, hg.size, fun k hk hs => hg.block k hk (by
    cases row with
    | none => simp
    | some r => simp at hs; simpa using fun e => hs e)⟩ (by
    cases row with
    | none => simp
    | some r => simp at hn ⊢; exact fun e => hn e.symm)

set_option maxHeartbeats 1000000 in
set_option maxRecDepth 100000 in
theorem split_any (l : List UInt8) (w : World) (hm : l.length ≤ 1000000000) :
    Calls Tryz.prog 68 #[.string (bs l)] w fun e w' => ∃ v, e = .returned v ∧ Own w.heap.size w' v (pcs l) ∧ Below w.heap.size w w' := by
  obtain ⟨i0, hi, hz0, hz1, hz2⟩ := info_parts info9
  have hdl := dep_le l
  obtain ⟨d, hd0⟩ : ∃ d, dep l = d := ⟨_, rfl⟩
  rw [hd0] at hdl
  obtain ⟨w1, hmk, hown0, hg0⟩ := run_make_own (P := Tryz.prog) (w := w) w.heap.size 23 9 i0 (.string ByteArray.empty) 1 und70 hi hz0 hz1 .i64 .i64 d (by rw [hz2]; omega) (by unfold maxLen; omega) (Nat.le_refl _)
  have HO : Hid (Own w.heap.size w1 (.slice (some ⟨w.heap.size, 0, none⟩) 0 d) []) := hown0
  have HB1 : Hid (Below w.heap.size w w1) := (Below.refl _ _).grown hg0 (Nat.le_refl _) (by simp)
  have hz3 : w.heap.size < w1.heap.size := (HO.out.lt (k := w.heap.size) rfl).2
  clear hown0 hg0 hi hz0 hz1 hz2
  obtain ⟨L, hL⟩ : ∃ L, pcs l = L := ⟨_, rfl⟩
  rw [hL]
  have HL : Hid ([] ++ left l (!l.isEmpty) = L) := by rw [left_start]; exact hL
  have HD : Hid (L.length ≤ 1000000001) := by rw [← hL, dep_eq, hd0]; show d ≤ 1000000001; omega
  clear hL
  obtain ⟨ma, hma⟩ : ∃ m, (!l.isEmpty) = m := ⟨_, rfl⟩
  rw [hma] at HL
  have HM : Hid (l.length ≤ 1000000000) := hm
  go_enter Tryz.func68, Tryz.ntmps68
  go_wp2_with fail
  refine (depth_any _ _ (by omega)).mono ?_
  rintro e w2 ⟨rfl, rfl⟩
  rw [hd0]
  go_wp2_with fail
  refine (begin_any _ _).mono ?_
  rintro e w3 ⟨rfl, hb3⟩
  replace hb3 := hb3.below
  rw [hma]
  have hz4 := hb3.size
  have HO3 : Hid (Own w2.heap.size w3 (.slice (some ⟨w2.heap.size, 0, none⟩) 0 d) []) := HO.out.later hb3
  have HB3 : Hid (Below w2.heap.size w2 w3) := below_trans HB1.out (below_mono hb3 (by omega))
  clear hb3 hmk
  go_wp2_with fail
  have hz5 : w2.heap.size ≤ w3.heap.size := by omega
  have hz6 : w2.heap.size < w3.heap.size := by omega
  have K0 : Hid (WK (w3.alloc (.cells #[.string (bs l), .bool ma] 104)) w3.heap.size l ma ∧ Below w2.heap.size w2 (w3.alloc (.cells #[.string (bs l), .bool ma] 104)) ∧ Own w2.heap.size (w3.alloc (.cells #[.string (bs l), .bool ma] 104)) (.slice (some ⟨w2.heap.size, 0, none⟩) 0 d) []) := ⟨WK.new _ _ _ _, HB3.out.alloc hz5 _, HO3.out.later (balloc _ _)⟩
  go_loopg [3, 4] (left l ma).length (fun g v p wr => ∃ (gp : Nat) (t : List UInt8) (m : Bool) (D : List (List UInt8)), p = .pointer (some ⟨gp, 0, none⟩) ∧ w2.heap.size ≤ gp ∧ WK wr gp t m ∧ Below w2.heap.size w2 wr ∧ Own w2.heap.size wr v D ∧ v.ownBlock ≠ some gp ∧ D ++ left t m = L ∧ t.length ≤ l.length ∧ (left t m).length ≤ g)
  case atStart => exact ⟨_, l, ma, [], rfl, hz5, K0.out.1, K0.out.2.1, K0.out.2.2, by simp [Value.ownBlock]; omega, HL.out, Nat.le_refl _, Nat.le_refl _⟩
  case round =>
    obtain ⟨gp, t, m, D, rfl, hgp, k, hbw, hown, hne, hall, htl, hg⟩ := hrel
    have HX : Hid (WK wr gp t m) := k
    have HB : Hid (Below w2.heap.size w2 wr) := hbw
    have HA : Hid (D ++ left t m = L) := hall
    have HG : Hid ((left t m).length ≤ gk) := hg
    have HT : Hid (t.length ≤ l.length) := htl
    have HW : Hid (Own w2.heap.size wr u3 D) := hown
    have HN : Hid (u3.ownBlock ≠ some gp) := hne
    obtain ⟨_, x1, _, _, xlt⟩ := k
    clear hbw hall hg htl hown hne
    cases m
    · have ha := HA.out
      rw [left_false, List.append_nil] at ha
      have HD2 : Hid (D = L) := ha
      clear ha
      go_wp2_with fail
      go_ret
      exact ⟨_, rfl, by rw [← HD2.out]; exact HW.out, HB.out⟩
    · go_wp2_with fail
      refine (next_any HX.out (by have := HT.out; have := HM.out; omega)).mono ?_
      rintro e w4 ⟨rfl, k4, o4, _⟩
      have HX4 : Hid (WK w4 gp (tl t) (sl t)) := k4
      have HB4 : Hid (Below w2.heap.size w2 w4) := below_trans HB.out (o4.below (by have := HB.out.size; omega) (by simp; omega))
      have HW4 : Hid (Own w2.heap.size w4 u3 D) := HW.out.only o4 (by intro k hk; simp; intro e; subst e; exact HN.out hk)
      have hz7 := HB4.out.size
      clear o4 x1 k4
      have ha := HA.out
      rw [left_next] at ha
      have HA4 : Hid ((D ++ [hd t]) ++ left (tl t) (sl t) = L) := by show _ = _; rw [← ha]; simp
      have HG4 : Hid ((left (tl t) (sl t)).length < gk) := by have := HG.out; rw [left_next] at this; simp at this; exact this
      have hDl : D.length + 1 ≤ 8796093022208 := by have h1 := HD.out; have h2 := congrArg List.length ha; simp at h2; omega
      clear ha
      go_wp2_with (at_builtin; refine app_one (base := w2.heap.size) (hd t) HW4.out hDl hz7 rfl (.tmp 12) (.tmp 14) rfl rfl rfl ?_; intro v' w' ho hbw hbs' hgr hat; obtain ⟨y0, y1, _, _, _⟩ := HX4.out.grown hgr HN.out)
      have hz8 : w4.heap.size ≤ w'.heap.size := hgr.size
      have HX5 : Hid (WK w' gp (tl t) (sl t)) := HX4.out.grown hgr HN.out
      have HB5 : Hid (Below w2.heap.size w2 w') := below_trans HB4.out hbw
      have HW5 : Hid (Own w2.heap.size w' v' (D ++ [hd t])) := ho
      have hlt5 := fun k hk => (ho.lt (k := k) hk).2
      have HLT : Hid (∀ k, v'.ownBlock = some k → k < w'.heap.size) := hlt5
      clear ho hbw hgr hat hlt5
      go_roundg (left (tl t) (sl t)).length
      case measure => exact HG4.out
      case rel => exact ⟨_, tl t, sl t, D ++ [hd t], rfl, hbs', WK.new _ _ _ _, HB5.out.alloc hbs' _, HW5.out.later (balloc _ _), (fun e => by have := HLT.out _ e; omega), HA4.out, by have := tl_le t; have := HT.out; omega, Nat.le_refl _⟩

set_option maxHeartbeats 1000000 in
set_option maxRecDepth 100000 in
theorem equalS_any {w : World} {va vb : Value} {A B : List (List UInt8)} (h1 : SS w va A) (h2 : SS w vb B) (hA : A.length ≤ 9223372036854775807) :
    Calls Tryz.prog 32 #[va, vb] w fun e w' => e = .returned (.bool (decide (A = B))) ∧ ∃ n, w' = w.drewN n := by
  obtain ⟨a, c, rfl, ca⟩ := h1.form
  obtain ⟨b, c', rfl, cb⟩ := h2.form
  have CA : Hid (∀ k, (hk : k < A.length) → ∃ b off, a = some ⟨b, off, none⟩ ∧ b < w.heap.size ∧ w.cell? ⟨b, off + k, none⟩ = some (.string (bs A[k]))) := ca
  have CB : Hid (∀ k, (hk : k < B.length) → ∃ b' off, b = some ⟨b', off, none⟩ ∧ b' < w.heap.size ∧ w.cell? ⟨b', off + k, none⟩ = some (.string (bs B[k]))) := cb
  clear ca cb h1 h2
  by_cases hl : A.length = B.length
  · have e1 : (((A.length : Int)) != (B.length : Int)) = false := by rw [hl]; simp
    obtain ⟨r, hr⟩ : ∃ r, decide (A = B) = r := ⟨_, rfl⟩
    rw [hr]
    have HR : Hid (decide (A.drop 0 = B.drop 0) = r) := hr
    clear hr
    go_enter Tryz.func32, Tryz.ntmps32
    go_wp2_with fail
    go_loopw [13] (fun i wr => ∃ k n : Nat, k ≤ A.length ∧ i = .int .i64 k ∧ wr = w.drewN n ∧ decide (A.drop k = B.drop k) = r) (fun i _ => A.length - (intOf i).toNat)
    case atStart => exact ⟨0, 0, Nat.zero_le _, rfl, rfl, HR.out⟩
    case round =>
      obtain ⟨k, n, hk, rfl, rfl, hd⟩ := hrel
      have HD : Hid (decide (A.drop k = B.drop k) = r) := hd
      clear hd
      by_cases hlt : k < A.length
      · have hlt2 : k < B.length := by omega
        obtain ⟨g1, o1, rfl, hg1, c1⟩ := CA.out k hlt
        obtain ⟨g2, o2, rfl, hg2, c2⟩ := CB.out k hlt2
        have hd := HD.out
        rw [drop_same hlt hlt2] at hd
        by_cases heq : A[k]'hlt = B[k]'hlt2
        · have t1 : (bs (A[k]'hlt)).toList = A[k]'hlt := bs_toList _
          have t2 : (bs (B[k]'hlt2)).toList = A[k]'hlt := by rw [bs_toList, heq]
          have hd2 : decide (A.drop (k + 1) = B.drop (k + 1)) = r := by rw [← hd]; simp [heq]
          have HD2 : Hid (decide (A.drop (k + 1) = B.drop (k + 1)) = r) := hd2
          clear hd hd2
          go_wp2_with fail
          go_region
          go_wp2_with fail
          go_roundw
          case rel => exact ⟨k + 1, n + 1, by omega, by go_num, rfl, HD2.out⟩
          case measure => simp [intOf]; omega
        · have t1 : (bs (A[k]'hlt)).toList = A[k]'hlt := bs_toList _
          have t2 : (bs (B[k]'hlt2)).toList = B[k]'hlt2 := bs_toList _
          have t3 : ((A[k]'hlt) == (B[k]'hlt2)) = false := by rw [beq_eq_false_iff_ne]; exact heq
          have hd2 : false = r := by rw [← hd]; simp [heq]
          subst hd2
          clear hd
          go_wp2_with fail
          go_region
          go_wp2_with fail
          go_ret
          exact ⟨rfl, n + 1, rfl⟩
      · obtain rfl : k = A.length := by omega
        have hd := HD.out
        have hd2 : true = r := by rw [← hd, List.drop_length, hl, List.drop_length]; simp
        subst hd2
        clear hd
        go_wp2_with fail
        go_ret
        exact ⟨rfl, n, rfl⟩
  · have e1 : (((A.length : Int)) != (B.length : Int)) = true := by rw [bne_iff_ne]; omega
    have e2 : decide (A = B) = false := by rw [decide_eq_false_iff_not]; intro e; exact hl (by rw [e])
    rw [e2]
    go_enter Tryz.func32, Tryz.ntmps32
    go_wp2_with fail
    go_ret
    exact ⟨rfl, 0, rfl⟩
set_option maxHeartbeats 1000000 in
set_option maxRecDepth 100000 in
theorem inLine_any {w : World} {va vb : Value} {A B : List (List UInt8)} (h1 : SS w va A) (h2 : SS w vb B) (hA : A.length ≤ 4611686018427387904) :
    Calls Tryz.prog 70 #[va, vb] w fun e w' => e = .returned (.bool (inL A B)) ∧ Below w.heap.size w w' := by
  obtain ⟨a, c, rfl, ca⟩ := h1.form
  obtain ⟨b, c', rfl, cb⟩ := h2.form
  have CA : Hid (∀ k, (hk : k < A.length) → ∃ b off, a = some ⟨b, off, none⟩ ∧ b < w.heap.size ∧ w.cell? ⟨b, off + k, none⟩ = some (.string (bs A[k]))) := ca
  have CB : Hid (∀ k, (hk : k < B.length) → ∃ b' off, b = some ⟨b', off, none⟩ ∧ b' < w.heap.size ∧ w.cell? ⟨b', off + k, none⟩ = some (.string (bs B[k]))) := cb
  clear ca cb h1 h2
  obtain ⟨r, hr⟩ : ∃ r, inL A B = r := ⟨_, rfl⟩
  rw [hr]
  have HR : Hid (inL (A.drop 0) (B.drop 0) = r) := hr
  clear hr
  obtain ⟨M, hM⟩ : ∃ M, min A.length B.length = M := ⟨_, rfl⟩
  have hM' : min (A.length : Int) (B.length : Int) = (M : Int) := by omega
  have HMa : Hid (min A.length B.length = M) := hM
  have ma : M ≤ A.length := by omega
  have mb : M ≤ B.length := by omega
  clear hM
  go_enter Tryz.func70, Tryz.ntmps70
  go_wp2_with fail
  try rw [hM']
  go_loopw [11] (fun i wr => ∃ k n : Nat, k ≤ M ∧ i = .int .i64 k ∧ wr = w.drewN n ∧ inL (A.drop k) (B.drop k) = r) (fun i _ => M - (intOf i).toNat)
  case atStart => exact ⟨0, 0, Nat.zero_le _, rfl, rfl, HR.out⟩
  case round =>
    obtain ⟨k, n, hk, rfl, rfl, hd⟩ := hrel
    have HD : Hid (inL (A.drop k) (B.drop k) = r) := hd
    clear hd
    by_cases hlt : k < M
    · have hlt1 : k < A.length := by omega
      have hlt2 : k < B.length := by omega
      have i0 : (0 : Int) ≤ (k : Int) := by omega
      have i1 : (k : Int) < (A.length : Int) := by omega
      have i2 : (k : Int) < (B.length : Int) := by omega
      obtain ⟨g1, o1, rfl, hg1, c1⟩ := CA.out k hlt1
      obtain ⟨g2, o2, rfl, hg2, c2⟩ := CB.out k hlt2
      have hd := HD.out
      rw [inL_step A B k hlt1 hlt2] at hd
      by_cases heq : A[k]'hlt1 = B[k]'hlt2
      · have t1 : (bs (A[k]'hlt1)).toList = A[k]'hlt1 := bs_toList _
        have t2 : (bs (B[k]'hlt2)).toList = A[k]'hlt1 := by rw [bs_toList, heq]
        have hd2 : inL (A.drop (k + 1)) (B.drop (k + 1)) = r := by rw [← hd]; simp [heq]
        have HD2 : Hid (inL (A.drop (k + 1)) (B.drop (k + 1)) = r) := hd2
        clear hd hd2
        go_wp2_with fail
        go_region
        go_wp2_with fail
        go_roundw
        case rel => exact ⟨k + 1, n + 1, by omega, by go_num, rfl, HD2.out⟩
        case measure => simp [intOf]; omega
      · have t1 : (bs (A[k]'hlt1)).toList = A[k]'hlt1 := bs_toList _
        have t2 : (bs (B[k]'hlt2)).toList = B[k]'hlt2 := bs_toList _
        have t3 : ((A[k]'hlt1) == (B[k]'hlt2)) = false := by rw [beq_eq_false_iff_ne]; exact heq
        have hd2 : false = r := by rw [← hd]; simp [heq]
        subst hd2
        clear hd
        go_wp2_with fail
        go_region
        go_wp2_with fail
        go_ret
        exact ⟨rfl, ⟨rfl, rfl, rfl, Nat.le_refl _, fun _ _ => rfl⟩⟩
    · have hkM : k = M := by omega
      have hd := HD.out
      have hd2 : true = r := by rw [← hd, inL_end A B k (by have := HMa.out; omega)]
      subst hd2
      clear hd
      go_wp2_with fail
      go_ret
      exact ⟨rfl, ⟨rfl, rfl, rfl, Nat.le_refl _, fun _ _ => rfl⟩⟩

set_option maxHeartbeats 2000000 in
set_option maxRecDepth 100000 in
theorem indexN_any {w : World} {v : Value} {l : List (List UInt8)} (P : List UInt8 → Bool) (h : SS w v l) (hl : l.length ≤ 1000000000)
    (hc : ∀ x ∈ l, ∀ W, Below w.heap.size w W → Calls Tryz.prog 31 #[.string (bs x)] W fun e w' => e = .returned (.bool (P x)) ∧ Below W.heap.size W w') :
    Calls Tryz.prog 62 #[v, .func (.func 31) #[] #[]] w fun e w' => ∃ n : Int, e = .returned (.int .i64 n) ∧ decide (0 ≤ n) = l.any P ∧ Below w.heap.size w w' := by
  obtain ⟨R, hR⟩ : ∃ R, l.any P = R := ⟨_, rfl⟩
  rw [hR]
  have HR : Hid (l.any P = R) := hR
  have HC : Hid (∀ x ∈ l, ∀ W, Below w.heap.size w W → Calls Tryz.prog 31 #[.string (bs x)] W fun e w' => e = .returned (.bool (P x)) ∧ Below W.heap.size W w') := hc
  clear hR hc
  obtain ⟨a, c, rfl, ca⟩ := h.form
  have HA : Hid (∀ k, (hk : k < l.length) → ∃ b off, a = some ⟨b, off, none⟩ ∧ b < w.heap.size ∧ w.cell? ⟨b, off + k, none⟩ = some (.string (bs l[k]))) := ca
  clear ca h
  go_enter Tryz.func62, Tryz.ntmps62
  go_wp2_with fail
  go_loopw [8] (fun i wr => ∃ k : Nat, k ≤ l.length ∧ i = .int .i64 k ∧ (l.drop k).any P = R ∧ Below w.heap.size w wr) (fun i _ => l.length - (intOf i).toNat)
  case atStart => exact ⟨0, Nat.zero_le _, rfl, HR.out, Below.refl _ _⟩
  case round =>
    obtain ⟨k, hk, rfl, hd, hb⟩ := hrel
    have HD : Hid ((l.drop k).any P = R) := hd
    have HB : Hid (Below w.heap.size w wr) := hb
    clear hd hb
    by_cases hlt : k < l.length
    · obtain ⟨b, off, rfl, hbw, hcell⟩ := HA.out k hlt
      have hc2 : wr.cell? ⟨b, off + k, none⟩ = some (.string (bs l[k])) := (HB.out.cell (p := ⟨b, off + k, none⟩) hbw).trans hcell
      have i1 : (0 : Int) ≤ (k : Int) := by omega
      have i2 : (k : Int) < (l.length : Int) := by omega
      have hd := HD.out
      rw [List.drop_eq_getElem_cons hlt, List.any_cons] at hd
      obtain ⟨r, hr⟩ : ∃ r, P l[k] = r := ⟨_, rfl⟩
      have HCk := HC.out l[k] (List.getElem_mem hlt) wr HB.out
      rw [hr] at hd HCk
      have HD2 : Hid ((r || (l.drop (k + 1)).any P) = R) := hd
      have HCk' : Hid (Calls Tryz.prog 31 #[.string (bs l[k])] wr fun e w' => e = .returned (.bool r) ∧ Below wr.heap.size wr w') := HCk
      clear hd hr HCk hcell
      go_wp2_with fail
      refine HCk'.out.mono ?_
      rintro e w1 ⟨rfl, hb1⟩
      have HB1 : Hid (Below w.heap.size w w1) := below_trans HB.out (below_mono hb1 HB.out.size)
      clear hb1
      cases r
      · go_wp2_with fail
        go_roundw
        case rel => exact ⟨k + 1, hlt, by go_num, by have := HD2.out; rwa [Bool.false_or] at this, HB1.out⟩
        case measure => simp [intOf]; omega
      · go_wp2_with fail
        go_ret
        exact ⟨_, rfl, by rw [← HD2.out]; simp, HB1.out⟩
    · obtain rfl : k = l.length := by omega
      go_wp2_with fail
      go_ret
      refine ⟨_, rfl, ?_, HB.out⟩
      rw [← HD.out, List.drop_length]
      rfl
set_option maxRecDepth 100000 in
theorem containsN_any {w : World} {v : Value} {l : List (List UInt8)} (P : List UInt8 → Bool) (h : SS w v l) (hl : l.length ≤ 1000000000)
    (hc : ∀ x ∈ l, ∀ W, Below w.heap.size w W → Calls Tryz.prog 31 #[.string (bs x)] W fun e w' => e = .returned (.bool (P x)) ∧ Below W.heap.size W w') :
    Calls Tryz.prog 30 #[v, .func (.func 31) #[] #[]] w fun e w' => e = .returned (.bool (l.any P)) ∧ Below w.heap.size w w' := by
  have HI : Hid (Calls Tryz.prog 62 #[v, .func (.func 31) #[] #[]] w fun e w' => ∃ n : Int, e = .returned (.int .i64 n) ∧ decide (0 ≤ n) = l.any P ∧ Below w.heap.size w w') := indexN_any P h hl hc
  clear h hc
  generalize l.any P = R at *
  go_enter Tryz.func30, Tryz.ntmps30
  go_wp2_with fail
  refine HI.out.mono ?_
  rintro e w1 ⟨n, rfl, hn, hb⟩
  have HB : Hid (Below w.heap.size w w1) := hb
  subst hn
  clear hb
  go_wp2_with fail
  go_ret
  exact ⟨rfl, HB.out⟩

set_option maxHeartbeats 2000000 in
set_option maxRecDepth 100000 in
theorem indexO_any {pb : Nat} {w : World} {v : Value} {l : List (List UInt8)} (P : List UInt8 → Bool) (h : SS w v l) (hl : l.length ≤ 1000000000)
    (hc : ∀ x ∈ l, ∀ W, Below w.heap.size w W → Calls Tryz.prog 69 #[.string (bs x), .pointer (some ⟨pb, 0, none⟩)] W fun e w' => e = .returned (.bool (P x)) ∧ Below W.heap.size W w') :
    Calls Tryz.prog 62 #[v, .func (.func 69) #[] #[.pointer (some ⟨pb, 0, none⟩)]] w fun e w' => ∃ n : Int, e = .returned (.int .i64 n) ∧ decide (0 ≤ n) = l.any P ∧ Below w.heap.size w w' := by
  obtain ⟨R, hR⟩ : ∃ R, l.any P = R := ⟨_, rfl⟩
  rw [hR]
  have HR : Hid (l.any P = R) := hR
  have HC : Hid (∀ x ∈ l, ∀ W, Below w.heap.size w W → Calls Tryz.prog 69 #[.string (bs x), .pointer (some ⟨pb, 0, none⟩)] W fun e w' => e = .returned (.bool (P x)) ∧ Below W.heap.size W w') := hc
  clear hR hc
  obtain ⟨a, c, rfl, ca⟩ := h.form
  have HA : Hid (∀ k, (hk : k < l.length) → ∃ b off, a = some ⟨b, off, none⟩ ∧ b < w.heap.size ∧ w.cell? ⟨b, off + k, none⟩ = some (.string (bs l[k]))) := ca
  clear ca h
  go_enter Tryz.func62, Tryz.ntmps62
  go_wp2_with fail
  go_loopw [8] (fun i wr => ∃ k : Nat, k ≤ l.length ∧ i = .int .i64 k ∧ (l.drop k).any P = R ∧ Below w.heap.size w wr) (fun i _ => l.length - (intOf i).toNat)
  case atStart => exact ⟨0, Nat.zero_le _, rfl, HR.out, Below.refl _ _⟩
  case round =>
    obtain ⟨k, hk, rfl, hd, hb⟩ := hrel
    have HD : Hid ((l.drop k).any P = R) := hd
    have HB : Hid (Below w.heap.size w wr) := hb
    clear hd hb
    by_cases hlt : k < l.length
    · obtain ⟨b, off, rfl, hbw, hcell⟩ := HA.out k hlt
      have hc2 : wr.cell? ⟨b, off + k, none⟩ = some (.string (bs l[k])) := (HB.out.cell (p := ⟨b, off + k, none⟩) hbw).trans hcell
      have i1 : (0 : Int) ≤ (k : Int) := by omega
      have i2 : (k : Int) < (l.length : Int) := by omega
      have hd := HD.out
      rw [List.drop_eq_getElem_cons hlt, List.any_cons] at hd
      obtain ⟨r, hr⟩ : ∃ r, P l[k] = r := ⟨_, rfl⟩
      have HCk := HC.out l[k] (List.getElem_mem hlt) wr HB.out
      rw [hr] at hd HCk
      have HD2 : Hid ((r || (l.drop (k + 1)).any P) = R) := hd
      have HCk' : Hid (Calls Tryz.prog 69 #[.string (bs l[k]), .pointer (some ⟨pb, 0, none⟩)] wr fun e w' => e = .returned (.bool r) ∧ Below wr.heap.size wr w') := HCk
      clear hd hr HCk hcell
      go_wp2_with fail
      refine HCk'.out.mono ?_
      rintro e w1 ⟨rfl, hb1⟩
      have HB1 : Hid (Below w.heap.size w w1) := below_trans HB.out (below_mono hb1 HB.out.size)
      clear hb1
      cases r
      · go_wp2_with fail
        go_roundw
        case rel => exact ⟨k + 1, hlt, by go_num, by have := HD2.out; rwa [Bool.false_or] at this, HB1.out⟩
        case measure => simp [intOf]; omega
      · go_wp2_with fail
        go_ret
        exact ⟨_, rfl, by rw [← HD2.out]; simp, HB1.out⟩
    · obtain rfl : k = l.length := by omega
      go_wp2_with fail
      go_ret
      refine ⟨_, rfl, ?_, HB.out⟩
      rw [← HD.out, List.drop_length]
      rfl
set_option maxRecDepth 100000 in
theorem containsO_any {pb : Nat} {w : World} {v : Value} {l : List (List UInt8)} (P : List UInt8 → Bool) (h : SS w v l) (hl : l.length ≤ 1000000000)
    (hc : ∀ x ∈ l, ∀ W, Below w.heap.size w W → Calls Tryz.prog 69 #[.string (bs x), .pointer (some ⟨pb, 0, none⟩)] W fun e w' => e = .returned (.bool (P x)) ∧ Below W.heap.size W w') :
    Calls Tryz.prog 30 #[v, .func (.func 69) #[] #[.pointer (some ⟨pb, 0, none⟩)]] w fun e w' => e = .returned (.bool (l.any P)) ∧ Below w.heap.size w w' := by
  have HI : Hid (Calls Tryz.prog 62 #[v, .func (.func 69) #[] #[.pointer (some ⟨pb, 0, none⟩)]] w fun e w' => ∃ n : Int, e = .returned (.int .i64 n) ∧ decide (0 ≤ n) = l.any P ∧ Below w.heap.size w w') := indexO_any (pb := pb) P h hl hc
  clear h hc
  generalize l.any P = R at *
  go_enter Tryz.func30, Tryz.ntmps30
  go_wp2_with fail
  refine HI.out.mono ?_
  rintro e w1 ⟨n, rfl, hn, hb⟩
  have HB : Hid (Below w.heap.size w w1) := hb
  subst hn
  clear hb
  go_wp2_with fail
  go_ret
  exact ⟨rfl, HB.out⟩

/-- where a text would stand -/
def Stands (l : List (List UInt8)) (f : List UInt8) (a : Nat) : Prop := a ≤ l.length ∧ (∀ t (h : t < l.length), t < a → cf (l[t]'h) f < 0) ∧ (∀ t (h : t < l.length), a ≤ t → 0 ≤ cf (l[t]'h) f)
theorem gw_cmp {w : World} {f g : List UInt8} {o : Int} (hf : f.length ≤ 1000000000) (hg : g.length ≤ 1000000000) (ho : cf f g = o) (X : GW w) :
    Calls Tryz.prog 72 #[.string (bs f), .string (bs g)] X.it fun e w' => e = .returned (.int .i64 o) ∧ ∃ Y : GW w, w' = Y.it :=
  gw_of (fun W => by rw [← ho]; exact (cmp_any f g W (by omega) (by omega)).mono fun e w' ⟨h1, h2⟩ => ⟨h1, h2.below⟩) X
set_option maxRecDepth 100000 in
set_option maxHeartbeats 4000000 in
theorem search_any {w : World} {v : Value} {l : List (List UInt8)} (f : List UInt8) (h : SS w v l) (up : Up l) (sm : Sm l) (hf : f.length ≤ 1000000000) :
    Calls Tryz.prog 71 #[v, .string (bs f), .func (.func 72) #[] #[]] w fun e w' => ∃ (a : Nat) (fb : Bool), e = .returned (.tuple #[.int .i64 a, .bool fb]) ∧ Stands l f a ∧ Below w.heap.size w w' := by
  have HU : Hid (Up l ∧ Sm l) := ⟨up, sm⟩
  have HC : Hid (∀ (x : List UInt8) (o : Int), x ∈ l → cf x f = o → ∀ (W : World) (X : GW W), Calls Tryz.prog 72 #[.string (bs x), .string (bs f)] X.it fun e w' => e = .returned (.int .i64 o) ∧ ∃ Y : GW W, w' = Y.it) := fun x o hx ho W X => gw_cmp (sm.each x hx) hf ho X
  have hl := sm.len
  obtain ⟨ad, c, rfl, ca⟩ := h.form
  have HA : Hid (∀ k, (hk : k < l.length) → ∃ b off, ad = some ⟨b, off, none⟩ ∧ b < w.heap.size ∧ w.cell? ⟨b, off + k, none⟩ = some (.string (bs l[k]))) := ca
  clear h ca up sm hf
  obtain ⟨n, hn⟩ : ∃ n, l.length = n := ⟨_, rfl⟩
  rw [hn] at hl ⊢
  have HN : Hid (l.length = n) := hn
  clear hn
  go_enter Tryz.func71, Tryz.ntmps71
  go_wp2_with fail
  go_loopw [9, 10] (fun s9 s10 wr => ∃ (a e : Nat), s9 = .int .i64 a ∧ s10 = .int .i64 e ∧ a ≤ e ∧ e ≤ n ∧ (∀ t (h : t < l.length), t < a → cf (l[t]'h) f < 0) ∧ (∀ t (h : t < l.length), e ≤ t → 0 ≤ cf (l[t]'h) f) ∧ Below w.heap.size w wr) (fun s9 s10 _ => (intOf s10).toNat - (intOf s9).toNat)
  case atStart => exact ⟨0, n, rfl, rfl, by omega, Nat.le_refl _, fun t h h' => by omega, fun t h h' => by have := HN.out; omega, Below.refl _ _⟩
  case round =>
    obtain ⟨a, e, rfl, rfl, hae, hen, h1, h2, hb⟩ := hrel
    have HX : Hid ((∀ t (h : t < l.length), t < a → cf (l[t]'h) f < 0) ∧ (∀ t (h : t < l.length), e ≤ t → 0 ≤ cf (l[t]'h) f)) := ⟨h1, h2⟩
    have HB : Hid (Below w.heap.size w wr) := hb
    clear h1 h2 hb
    by_cases hlt : a < e
    · have k0 : IntKind.i64.wrap ((a : Int) + (e : Int)) = (a : Int) + (e : Int) := by rw [IntKind.wrap_i64]; omega
      obtain ⟨m, hm⟩ : ∃ m : Nat, ((a : Int) + (e : Int)) / 2 = (m : Int) := ⟨(a + e) / 2, by omega⟩
      have hm1 : a ≤ m := by omega
      have hm2 : m < e := by omega
      have k1 : (0 : Int) ≤ (m : Int) := by omega
      have k2 : (m : Int) < (n : Int) := by omega
      have k3 : m < n := by omega
      have hml : m < l.length := by have := HN.out; omega
      obtain ⟨b, off, ea, hbw, d0⟩ := HA.out m hml
      subst ea
      obtain ⟨o, ho⟩ : ∃ o, cf (l[m]'hml) f = o := ⟨_, rfl⟩
      have HO : Hid (cf (l[m]'hml) f = o) := ho
      have HCm : Hid (∀ (W : World) (X : GW W), Calls Tryz.prog 72 #[.string (bs (l[m]'hml)), .string (bs f)] X.it fun e w' => e = .returned (.int .i64 o) ∧ ∃ Y : GW W, w' = Y.it) := HC.out _ o (List.getElem_mem hml) ho
      clear ho
      have d1 : wr.cell? ⟨b, off + m, none⟩ = some (.string (bs l[m])) := (HB.out.cell (p := ⟨b, off + m, none⟩) hbw).trans d0
      generalize l[m] = x at d1 HCm
      clear d0
      go_wp2_with fail
      refine (HCm.out wr ⟨wr, Below.refl _ _⟩).mono ?_
      rintro e w2 ⟨rfl, ⟨w2, bx⟩, rfl⟩
      have HB5 : Hid (Below w.heap.size w w2) := below_trans HB.out (below_mono bx HB.out.size)
      clear bx
      by_cases hoo : o < 0
      · have HOO : Hid (o < 0) := hoo
        go_wp2_with fail
        go_roundw
        case rel =>
          refine ⟨m + 1, e, by go_num, rfl, by omega, hen, fun t h h' => ?_, fun t h h' => by have := HX.out.2 t h h'; omega, HB5.out⟩
          rcases Nat.lt_or_eq_of_le (show t ≤ m by omega) with h3 | rfl
          · have := List.pairwise_iff_getElem.1 HU.out.1 t m h hml h3
            exact cf_trans this (by rw [HO.out]; exact HOO.out)
          · rw [HO.out]; exact HOO.out
        case measure => simp [intOf]; omega
      · have HOO : Hid (0 ≤ o) := by show 0 ≤ o; omega
        go_wp2_with fail
        go_roundw
        case rel =>
          refine ⟨a, m, rfl, rfl, hm1, by omega, HX.out.1, fun t h h' => ?_, HB5.out⟩
          rcases Nat.lt_or_eq_of_le h' with h3 | rfl
          · have := List.pairwise_iff_getElem.1 HU.out.1 m t hml h h3
            rcases Int.lt_or_le (cf l[t] f) 0 with h4 | h4
            · have h5 := cf_trans this h4
              have h6 := HOO.out
              rw [HO.out] at h5
              omega
            · exact h4
          · rw [HO.out]; exact HOO.out
        case measure => simp [intOf]; omega
    · obtain rfl : a = e := by omega
      have HEND : Hid (a ≤ n) := hen
      by_cases han : a < n
      · have k1 : (0 : Int) ≤ (a : Int) := by omega
        have k2 : (a : Int) < (n : Int) := by omega
        have hml : a < l.length := by have := HN.out; omega
        obtain ⟨b, off, ea, hbw, d0⟩ := HA.out a hml
        subst ea
        obtain ⟨o, ho⟩ : ∃ o, cf (l[a]'hml) f = o := ⟨_, rfl⟩
        have HCm : Hid (∀ (W : World) (X : GW W), Calls Tryz.prog 72 #[.string (bs (l[a]'hml)), .string (bs f)] X.it fun e w' => e = .returned (.int .i64 o) ∧ ∃ Y : GW W, w' = Y.it) := HC.out _ o (List.getElem_mem hml) ho
        clear ho
        have d1 : wr.cell? ⟨b, off + a, none⟩ = some (.string (bs l[a])) := (HB.out.cell (p := ⟨b, off + a, none⟩) hbw).trans d0
        generalize l[a] = x at d1 HCm
        clear d0
        go_wp2_with fail
        refine (HCm.out wr ⟨wr, Below.refl _ _⟩).mono ?_
        rintro e w2 ⟨rfl, ⟨w2, bx⟩, rfl⟩
        have HB5 : Hid (Below w.heap.size w w2) := below_trans HB.out (below_mono bx HB.out.size)
        clear bx
        go_wp2_with fail
        go_ret2
        exact ⟨a, _, rfl, ⟨by have := HEND.out; have := HN.out; omega, HX.out.1, HX.out.2⟩, HB5.out⟩
      · obtain rfl : a = n := by omega
        go_wp2_with fail
        go_ret2
        exact ⟨a, _, rfl, ⟨by have := HN.out; omega, HX.out.1, HX.out.2⟩, HB.out⟩
end Go.Proofs.YtbaheiimcnfaaaaGreat
