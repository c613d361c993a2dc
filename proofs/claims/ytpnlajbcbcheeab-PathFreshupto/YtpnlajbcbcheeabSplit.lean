import Derived.Test.YtpnlajbcbcheeabPath
import Derived.Test.YtpnlajbcbcheeabBase
namespace Go.Proofs.Ytpnlajbcbcheeab
open Go.RowKit

theorem Own.only {S : List Nat} {base : Nat} {w w' : World} {v : Value} {l : List (List UInt8)} (h : Own base w v l) (ho : Only S w w') (hn : ∀ k, v.ownBlock = some k → k ∉ S) : Own base w' v l := by
  refine ⟨h.1, ?_⟩
  rcases h.2 with ⟨rfl, h0⟩ | ⟨g, cap, cur, rfl, hb, hg, hr⟩
  · exact .inl ⟨rfl, h0⟩
  · exact .inr ⟨g, cap, cur, rfl, hb, by rw [ho.block g (Array.getElem?_eq_some_iff.1 hg).1 (hn g rfl)]; exact hg, hr⟩
theorem Own.later {base : Nat} {w w' : World} {v : Value} {l : List (List UInt8)} (h : Own base w v l) (hb : Below w.heap.size w w') : Own base w' v l :=
  h.only (Only.of_below hb []) (by simp)
theorem Own.lt {base : Nat} {w : World} {v : Value} {l : List (List UInt8)} (h : Own base w v l) {k : Nat} (hk : v.ownBlock = some k) : base ≤ k ∧ k < w.heap.size := World.ownsRow.lt h k hk

theorem cell_one_str (w : World) (u : Value) (k : TypeId) : ∀ j x, [u][j]? = some x → (w.alloc (.cells #[u] k)).cell? ((⟨w.heap.size, 0, none⟩ : Addr).add j) = some x := by
  intro j x hx
  cases j with
  | zero => simp at hx; subst hx; rw [add_lit]; simp
  | succ j => simp at hx
theorem src_one (w : World) (p : List UInt8) : Src Try.prog 1 26 (.slice (some ⟨w.heap.size, 0, none⟩) 1 1) [p].length (sc [p]) (w.alloc (.cells #[.string (bs p)] 9)) :=
  Src.ofSlice _ und26 ⟨w.heap.size, 0, none⟩ 1 1 (sc [p]) (by simp [sc]) (cell_one_str w _ 9) (sc_one _)

/-- append of one text onto texts of the call's own -/
theorem app_one {w : World} {base : Nat} {v : Value} {l : List (List UInt8)} (p : List UInt8) (hown : Own base w v l) (hb : l.length + 1 ≤ 8796093022208) (hbase : base ≤ w.heap.size)
    {ops : Array Oper} {rest : List Oper} {o : Oper} {a : Act} {Q : Exit → Act → World → Prop} (hgd : o.guard = none) (s y : Operand)
    (ho : o.op = .call { callee := .builtin .append, args := #[s, y], argTypes := #[26, 26] }) (hv : a.eval s = v) (hx : a.eval y = .slice (some ⟨w.heap.size, 0, none⟩) 1 1)
    (h : ∀ v' w', Own base w' v' (l ++ [p]) → Below base w w' → base ≤ w'.heap.size → w.grownBy w' v.ownBlock → (v'.ownBlock = v.ownBlock ∨ v'.ownBlock = some (w.heap.size + 1)) → wpList Try.prog ops Q rest (a.put o.dst v') w') :
    wpList Try.prog ops Q (o :: rest) a (w.alloc (.cells #[.string (bs p)] 9)) := by
  refine app_strs (base := base) (l := l) (k := [p]) (World.ownsRow.alloc hown _) (src_one w p) (by simpa using hb) (by simp; omega) hgd s y ho hv hx ?_
  intro v' w' h1 h2 h3
  have hlt := World.ownsRow.lt hown
  have hB : Below base w w' := ((Below.refl _ _).alloc hbase _).grown h2 (by simp; omega) (fun k hk => (hlt k hk).1)
  refine h v' w' h1 hB (Nat.le_trans hbase hB.size) ((World.grownBy_alloc w _ _).trans h2) (by simpa using h3)

theorem WK.grown {w w' : World} {g : Nat} {t : List UInt8} {m : Bool} {row : Option Nat} (h : WK w g t m) (hg : w.grownBy w' row) (hn : row ≠ some g) : WK w' g t m :=
  h.only (S := match row with | some k => [k] | none => []) ⟨hg.os, hg.tape, hg.output, hg.size, fun k hk hs => hg.block k hk (by
    cases row with
    | none => simp
    | some r => simp at hs; simpa using fun e => hs e)⟩ (by
    cases row with
    | none => simp
    | some r => simp at hn ⊢; exact fun e => hn e.symm)

set_option maxHeartbeats 1000000 in
set_option maxRecDepth 100000 in
theorem split_any (l : List UInt8) (w : World) (hm : l.length ≤ 1000000000) :
    Calls Try.prog 10 #[.string (bs l)] w fun e w' => ∃ v, e = .returned v ∧ Own w.heap.size w' v (pcs l) ∧ Below w.heap.size w w' := by
  obtain ⟨i0, hi, hz0, hz1, hz2⟩ := info_parts info9
  have hdl := dep_le l
  obtain ⟨d, hd0⟩ : ∃ d, dep l = d := ⟨_, rfl⟩
  rw [hd0] at hdl
  obtain ⟨w1, hmk, hown0, hg0⟩ := run_make_own (P := Try.prog) (w := w) w.heap.size 26 9 i0 (.string ByteArray.empty) 1 und26 hi hz0 hz1 .i64 .i64 d (by rw [hz2]; omega) (by unfold maxLen; omega) (Nat.le_refl _)
  have HO : Hid (Own w.heap.size w1 (.slice (some ⟨w.heap.size, 0, none⟩) 0 d) []) := hown0
  have HB1 : Hid (Below w.heap.size w w1) := (Below.refl _ _).grown hg0 (Nat.le_refl _) (by simp)
  have hz3 : w.heap.size < w1.heap.size := (HO.out.lt (k := w.heap.size) rfl).2
  clear hown0 hg0 hi hz0 hz1 hz2
  obtain ⟨L, hL⟩ : ∃ L, pcs l = L := ⟨_, rfl⟩
  rw [hL]
  have HL : Hid ([] ++ left l (!l.isEmpty) = L) := by rw [left_start]; exact hL
  have HD : Hid (L.length ≤ 1000000001) := by rw [← hL, dep_eq, hd0]; show d ≤ 1000000001; omega
  clear hL
  obtain ⟨ma, hma⟩ : ∃ m, (!l.isEmpty) = m := ⟨_, rfl⟩
  rw [hma] at HL
  have HM : Hid (l.length ≤ 1000000000) := hm
  go_enter Try.func10, Try.ntmps10
  go_wp2_with fail
  refine (depth_any _ _ (by omega)).mono ?_
  rintro e w2 ⟨rfl, rfl⟩
  rw [hd0]
  go_wp2_with fail
  refine (begin_any _ _).mono ?_
  rintro e w3 ⟨rfl, hb3⟩
  rw [hma]
  have hz4 := hb3.size
  have HO3 : Hid (Own w2.heap.size w3 (.slice (some ⟨w2.heap.size, 0, none⟩) 0 d) []) := HO.out.later hb3
  have HB3 : Hid (Below w2.heap.size w2 w3) := below_trans HB1.out (below_mono hb3 (by omega))
  clear hb3 hmk
  go_wp2_with fail
  have hz5 : w2.heap.size ≤ w3.heap.size := by omega
  have hz6 : w2.heap.size < w3.heap.size := by omega
  have K0 : Hid (WK (w3.alloc (.cells #[.string (bs l), .bool ma] 43)) w3.heap.size l ma ∧ Below w2.heap.size w2 (w3.alloc (.cells #[.string (bs l), .bool ma] 43)) ∧ Own w2.heap.size (w3.alloc (.cells #[.string (bs l), .bool ma] 43)) (.slice (some ⟨w2.heap.size, 0, none⟩) 0 d) []) := ⟨WK.new _ _ _ _, HB3.out.alloc hz5 _, HO3.out.later (balloc _ _)⟩
  go_loopg [3, 4] (left l ma).length (fun g v p wr => ∃ (gp : Nat) (t : List UInt8) (m : Bool) (D : List (List UInt8)), p = .pointer (some ⟨gp, 0, none⟩) ∧ w2.heap.size ≤ gp ∧ WK wr gp t m ∧ Below w2.heap.size w2 wr ∧ Own w2.heap.size wr v D ∧ v.ownBlock ≠ some gp ∧ D ++ left t m = L ∧ t.length ≤ l.length ∧ (left t m).length ≤ g)
  case atStart => exact ⟨_, l, ma, [], rfl, hz5, K0.out.1, K0.out.2.1, K0.out.2.2, by simp [Value.ownBlock]; omega, HL.out, Nat.le_refl _, Nat.le_refl _⟩
  case round =>
    obtain ⟨gp, t, m, D, rfl, hgp, k, hbw, hown, hne, hall, htl, hg⟩ := hrel
    have HX : Hid (WK wr gp t m) := k
    have HB : Hid (Below w2.heap.size w2 wr) := hbw
    have HA : Hid (D ++ left t m = L) := hall
    have HG : Hid ((left t m).length ≤ gk) := hg
    have HT : Hid (t.length ≤ l.length) := htl
    have HW : Hid (Own w2.heap.size wr u3 D) := hown
    have HN : Hid (u3.ownBlock ≠ some gp) := hne
    obtain ⟨_, x1, _, _, xlt⟩ := k
    clear hbw hall hg htl hown hne
    cases m
    · have ha := HA.out
      rw [left_false, List.append_nil] at ha
      have HD2 : Hid (D = L) := ha
      clear ha
      go_wp2_with fail
      go_ret
      exact ⟨_, rfl, by rw [← HD2.out]; exact HW.out, HB.out⟩
    · go_wp2_with fail
      refine (next_any HX.out (by have := HT.out; have := HM.out; omega)).mono ?_
      rintro e w4 ⟨rfl, k4, o4⟩
      have HX4 : Hid (WK w4 gp (tl t) (sl t)) := k4
      have HB4 : Hid (Below w2.heap.size w2 w4) := below_trans HB.out (o4.below (by have := HB.out.size; omega) (by simp; omega))
      have HW4 : Hid (Own w2.heap.size w4 u3 D) := HW.out.only o4 (by intro k hk; simp; intro e; subst e; exact HN.out hk)
      have hz7 := HB4.out.size
      clear o4 x1 k4
      have ha := HA.out
      rw [left_next] at ha
      have HA4 : Hid ((D ++ [hd t]) ++ left (tl t) (sl t) = L) := by show _ = _; rw [← ha]; simp
      have HG4 : Hid ((left (tl t) (sl t)).length < gk) := by have := HG.out; rw [left_next] at this; simp at this; exact this
      have hDl : D.length + 1 ≤ 8796093022208 := by have h1 := HD.out; have h2 := congrArg List.length ha; simp at h2; omega
      clear ha
      go_wp2_with (at_builtin; refine app_one (base := w2.heap.size) (hd t) HW4.out hDl hz7 rfl (.tmp 12) (.tmp 14) rfl rfl rfl ?_; intro v' w' ho hbw hbs' hgr hat; obtain ⟨y0, y1, _, _, _⟩ := HX4.out.grown hgr HN.out)
      have hz8 : w4.heap.size ≤ w'.heap.size := hgr.size
      have HX5 : Hid (WK w' gp (tl t) (sl t)) := HX4.out.grown hgr HN.out
      have HB5 : Hid (Below w2.heap.size w2 w') := below_trans HB4.out hbw
      have HW5 : Hid (Own w2.heap.size w' v' (D ++ [hd t])) := ho
      have hlt5 := fun k hk => (ho.lt (k := k) hk).2
      have HLT : Hid (∀ k, v'.ownBlock = some k → k < w'.heap.size) := hlt5
      clear ho hbw hgr hat hlt5
      go_roundg (left (tl t) (sl t)).length
      case measure => exact HG4.out
      case rel => exact ⟨_, tl t, sl t, D ++ [hd t], rfl, hbs', WK.new _ _ _ _, HB5.out.alloc hbs' _, HW5.out.later (balloc _ _), (fun e => by have := HLT.out _ e; omega), HA4.out, by have := tl_le t; have := HT.out; omega, Nat.le_refl _⟩

theorem SS.form {w : World} {v : Value} {L : List (List UInt8)} (h : SS w v L) : ∃ a c, v = .slice a L.length c ∧ (∀ k, (hk : k < L.length) → ∃ b off, a = some ⟨b, off, none⟩ ∧ b < w.heap.size ∧ w.cell? ⟨b, off + k, none⟩ = some (.string (bs L[k]))) := by
  rcases h with ⟨⟨a, c, rfl⟩, rfl⟩ | ⟨b, off, cap, rfl, hc, hlt, hcell⟩
  · exact ⟨a, c, rfl, fun k hk => by simp at hk⟩
  · exact ⟨_, _, rfl, fun k hk => ⟨b, off, rfl, hlt, hcell k _ (by simp [sc_get, hk])⟩⟩

theorem drop_same {α : Type} [DecidableEq α] {A B : List α} {k : Nat} (ha : k < A.length) (hb : k < B.length) : decide (A.drop k = B.drop k) = (decide (A[k] = B[k]) && decide (A.drop (k + 1) = B.drop (k + 1))) := by
  have e1 := List.drop_eq_getElem_cons ha
  have e2 := List.drop_eq_getElem_cons hb
  rw [Bool.eq_iff_iff]
  simp only [Bool.and_eq_true, decide_eq_true_eq]
  rw [e1, e2, List.cons.injEq]

set_option maxHeartbeats 1000000 in
set_option maxRecDepth 100000 in
theorem same_any {w : World} {va vb : Value} {A B : List (List UInt8)} (h1 : SS w va A) (h2 : SS w vb B) (hA : A.length ≤ 9223372036854775807) :
    Calls Try.prog 18 #[va, vb] w fun e w' => e = .returned (.bool (decide (A = B))) ∧ ∃ n, w' = w.drewN n := by
  obtain ⟨a, c, rfl, ca⟩ := h1.form
  obtain ⟨b, c', rfl, cb⟩ := h2.form
  have CA : Hid (∀ k, (hk : k < A.length) → ∃ b off, a = some ⟨b, off, none⟩ ∧ b < w.heap.size ∧ w.cell? ⟨b, off + k, none⟩ = some (.string (bs A[k]))) := ca
  have CB : Hid (∀ k, (hk : k < B.length) → ∃ b' off, b = some ⟨b', off, none⟩ ∧ b' < w.heap.size ∧ w.cell? ⟨b', off + k, none⟩ = some (.string (bs B[k]))) := cb
  clear ca cb h1 h2
  by_cases hl : A.length = B.length
  · have e1 : (((A.length : Int)) != (B.length : Int)) = false := by rw [hl]; simp
    obtain ⟨r, hr⟩ : ∃ r, decide (A = B) = r := ⟨_, rfl⟩
    rw [hr]
    have HR : Hid (decide (A.drop 0 = B.drop 0) = r) := hr
    clear hr
    go_enter Try.func18, Try.ntmps18
    go_wp2_with fail
    go_loopw [5] (fun i wr => ∃ k n : Nat, k ≤ A.length ∧ i = .int .i64 k ∧ wr = w.drewN n ∧ decide (A.drop k = B.drop k) = r) (fun i _ => A.length - (intOf i).toNat)
    case atStart => exact ⟨0, 0, Nat.zero_le _, rfl, rfl, HR.out⟩
    case round =>
      obtain ⟨k, n, hk, rfl, rfl, hd⟩ := hrel
      have HD : Hid (decide (A.drop k = B.drop k) = r) := hd
      clear hd
      by_cases hlt : k < A.length
      · have hlt2 : k < B.length := by omega
        obtain ⟨g1, o1, rfl, hg1, c1⟩ := CA.out k hlt
        obtain ⟨g2, o2, rfl, hg2, c2⟩ := CB.out k hlt2
        have hd := HD.out
        rw [drop_same hlt hlt2] at hd
        by_cases heq : A[k]'hlt = B[k]'hlt2
        · have t1 : (bs (A[k]'hlt)).toList = A[k]'hlt := bs_toList _
          have t2 : (bs (B[k]'hlt2)).toList = A[k]'hlt := by rw [bs_toList, heq]
          have hd2 : decide (A.drop (k + 1) = B.drop (k + 1)) = r := by rw [← hd]; simp [heq]
          have HD2 : Hid (decide (A.drop (k + 1) = B.drop (k + 1)) = r) := hd2
          clear hd hd2
          go_wp2_with fail
          go_region
          go_wp2_with fail
          go_roundw
          case rel => exact ⟨k + 1, n + 1, by omega, by go_num, rfl, HD2.out⟩
          case measure => simp [intOf]; omega
        · have t1 : (bs (A[k]'hlt)).toList = A[k]'hlt := bs_toList _
          have t2 : (bs (B[k]'hlt2)).toList = B[k]'hlt2 := bs_toList _
          have t3 : ((A[k]'hlt) == (B[k]'hlt2)) = false := by rw [beq_eq_false_iff_ne]; exact heq
          have hd2 : false = r := by rw [← hd]; simp [heq]
          subst hd2
          clear hd
          go_wp2_with fail
          go_region
          go_wp2_with fail
          go_ret
          exact ⟨rfl, n + 1, rfl⟩
      · obtain rfl : k = A.length := by omega
        have hd := HD.out
        have hd2 : true = r := by rw [← hd, List.drop_length, hl, List.drop_length]; simp
        subst hd2
        clear hd
        go_wp2_with fail
        go_ret
        exact ⟨rfl, n, rfl⟩
  · have e1 : (((A.length : Int)) != (B.length : Int)) = true := by rw [bne_iff_ne]; omega
    have e2 : decide (A = B) = false := by rw [decide_eq_false_iff_not]; intro e; exact hl (by rw [e])
    rw [e2]
    go_enter Try.func18, Try.ntmps18
    go_wp2_with fail
    go_ret
    exact ⟨rfl, 0, rfl⟩
end Go.Proofs.Ytpnlajbcbcheeab
