import Derived.Test.YtfdcfcalbongeaaGreatJFil
namespace Go.Proofs.YtfdcfcalbongeaaGreat
open Go.RowKit

/-- a beginning put ahead of the first piece -/
def glue (cur : List UInt8) : List (List UInt8) → List (List UInt8)
  | [] => [cur]
  | p :: ps => (cur ++ p) :: ps
theorem glue_nil (X : List (List UInt8)) (h : X ≠ []) : glue [] X = X := by
  cases X with
  | nil => exact absurd rfl h
  | cons p ps => rfl
theorem glue_sp_ne (cur : List UInt8) (c : UInt8) (r : List UInt8) (h : c ≠ 47) : glue cur (sp (c :: r)) = glue (cur ++ [c]) (sp r) := by
  rw [sp.eq_2, if_neg h]
  cases hs : sp r with
  | nil => exact absurd hs (sp_ne r)
  | cons p ps => simp [glue]
theorem glue_sp_eq (cur : List UInt8) (r : List UInt8) : glue cur (sp (47 :: r)) = cur :: sp r := by
  simp [sp, glue]
theorem glue_len (cur : List UInt8) (X : List (List UInt8)) : 1 ≤ (glue cur X).length := by
  cases X <;> simp [glue]
theorem drop_take_snoc (l : List UInt8) (f k : Nat) (hf : f ≤ k) (hk : k < l.length) : (l.drop f).take (k + 1 - f) = (l.drop f).take (k - f) ++ [l[k]'hk] := by
  rw [show k + 1 - f = (k - f) + 1 from by omega, List.take_add_one, List.getElem?_drop, show f + (k - f) = k from by omega, List.getElem?_eq_getElem hk]
  rfl
theorem Own.len {base : Nat} {w : World} {v : Value} {l : List (List UInt8)} (h : Own base w v l) : ∃ a c, v = .slice a l.length c := by
  obtain ⟨a, c, e, _⟩ := h.bs.form
  exact ⟨a, c, e⟩

set_option maxHeartbeats 1000000 in
set_option maxRecDepth 100000 in
theorem rsplit_any (l : List UInt8) (w : World) (hm : l.length ≤ 1000000000) :
    Calls Tryz.prog 51 #[.string (bs l)] w fun e w' => ∃ v, e = .returned v ∧ Own w.heap.size w' v (pcs l) ∧ Below w.heap.size w w' := by
  have he := isE l
  by_cases hl : l = []
  · subst hl
    rw [pcs_nil]
    go_enter Tryz.func51, Tryz.ntmps51
    go_wp2_with fail
    go_ret
    exact ⟨_, rfl, Own.nil _ _, Below.refl _ _⟩
  have i0 : l.isEmpty = false := by cases l; exact absurd rfl hl; rfl
  rw [i0] at he
  have hz : (bs l).size = l.length := rfl
  have hP : pcs l = sp l := by simp [pcs, hl]
  rw [hP]
  obtain ⟨L, hL⟩ : ∃ L, sp l = L := ⟨_, rfl⟩
  rw [hL]
  have HL : Hid (sp l = L) := hL
  have HN : Hid (L.length ≤ 1000000001) := by
    show _ ≤ _
    rw [← hL, ← hP, dep_eq]; have := dep_le l; omega
  clear hL hP hl i0
  go_enter Tryz.func51, Tryz.ntmps51
  go_wp2_with fail
  go_loopw [3, 4, 5] (fun o f i wr => ∃ (k m : Nat) (D : List (List UInt8)), i = .int .i64 k ∧ f = .int .i64 m ∧ Own w.heap.size wr o D ∧ Below w.heap.size w wr ∧ ((k ≤ l.length ∧ m ≤ k ∧ D ++ glue ((l.drop m).take (k - m)) (sp (l.drop k)) = L) ∨ (k = l.length + 1 ∧ D = L))) (fun _ _ i _ => l.length + 1 - (intOf i).toNat)
  case atStart => exact ⟨0, 0, [], rfl, rfl, Own.nil _ _, Below.refl _ _, .inl ⟨Nat.zero_le _, Nat.le_refl _, by simpa [glue_nil _ (sp_ne l)] using HL.out⟩⟩
  case round =>
    obtain ⟨k, m, D, rfl, rfl, hown, hbw, hor⟩ := hrel
    have HO : Hid (Own w.heap.size wr u3 D) := hown
    have HB : Hid (Below w.heap.size w wr) := hbw
    have hzw := hbw.size
    clear hown hbw
    rcases hor with ⟨hk, hmk, heq⟩ | ⟨rfl, rfl⟩
    · have hDl : D.length + 1 ≤ 8796093022208 := by
        have h1 := congrArg List.length heq
        have h2 := glue_len ((l.drop m).take (k - m)) (sp (l.drop k))
        have := HN.out
        rw [List.length_append] at h1; omega
      have HE : Hid (D ++ glue ((l.drop m).take (k - m)) (sp (l.drop k)) = L) := heq
      have HX : Hid ((bs l).extract m k = bs ((l.drop m).take (k - m))) := bs_extract l m k
      clear heq
      by_cases hlt : k < l.length
      · have hkz : k < (bs l).size := hlt
        have e0 : ((k : Int) == (l.length : Int)) = false := by rw [beq_eq_false_iff_ne]; omega
        by_cases hc : l[k]'hlt = 47
        · have e1 : (((bs l)[k].toNat : Int) == 47) = true := by rw [bs_get _ _ _ hlt, hc]; rfl
          have h2 := HE.out
          rw [List.drop_eq_getElem_cons hlt, hc, glue_sp_eq] at h2
          have HE2 : Hid ((D ++ [(l.drop m).take (k - m)]) ++ glue ((l.drop (k + 1)).take (k + 1 - (k + 1))) (sp (l.drop (k + 1))) = L) := by
            show _ = _
            rw [← h2, Nat.sub_self, List.take_zero, glue_nil _ (sp_ne _)]; simp
          clear h2
          go_wp2_with (at_builtin; rw [HX.out]; refine app_one (base := w.heap.size) ((l.drop m).take (k - m)) HO.out hDl hzw rfl (.tmp 25) (.tmp 30) rfl rfl rfl ?_; intro v' w' ho hbw hbs' hgr hat)
          go_roundw
          case rel => exact ⟨k + 1, k + 1, _, by go_num, by go_num, ho, below_trans HB.out hbw, .inl ⟨by omega, Nat.le_refl _, HE2.out⟩⟩
          case measure => simp [intOf]; omega
        · have e1 : (((bs l)[k].toNat : Int) == 47) = false := by
            rw [bs_get _ _ _ hlt, beq_eq_false_iff_ne]; intro e; apply hc; apply UInt8.toNat_inj.1; exact Int.ofNat.inj e
          have h2 := HE.out
          rw [List.drop_eq_getElem_cons hlt, glue_sp_ne _ _ _ hc, ← drop_take_snoc l m k hmk hlt] at h2
          have HE2 : Hid (D ++ glue ((l.drop m).take (k + 1 - m)) (sp (l.drop (k + 1))) = L) := h2
          clear h2
          go_wp2_with fail
          go_roundw
          case rel => exact ⟨k + 1, m, D, by go_num, rfl, HO.out, HB.out, .inl ⟨by omega, by omega, HE2.out⟩⟩
          case measure => simp [intOf]; omega
      · obtain rfl : k = l.length := by omega
        have h2 := HE.out
        rw [List.drop_length] at h2
        have HE2 : Hid (D ++ [(l.drop m).take (l.length - m)] = L) := by
          show _ = _
          rw [← h2]; simp [sp, glue]
        clear h2
        go_wp2_with (at_builtin; rw [HX.out]; refine app_one (base := w.heap.size) ((l.drop m).take (l.length - m)) HO.out hDl hzw rfl (.tmp 25) (.tmp 30) rfl rfl rfl ?_; intro v' w' ho hbw hbs' hgr hat)
        go_roundw
        case rel => exact ⟨l.length + 1, l.length + 1, _, by go_num, by go_num, ho, below_trans HB.out hbw, .inr ⟨rfl, HE2.out⟩⟩
        case measure => simp [intOf]
    · have h3 : ¬ l.length + 1 ≤ l.length := by omega
      go_wp2_with fail
      go_ret
      exact ⟨_, rfl, HO.out, HB.out⟩

theorem pcs_mem_le (l : List UInt8) : ∀ p ∈ pcs l, p.length ≤ l.length := by
  have key : ∀ (n : Nat) (t : List UInt8) (m : Bool), t.length ≤ n → ∀ p ∈ left t m, p.length ≤ t.length := by
    intro n
    induction n with
    | zero =>
      intro t m ht p hp
      have : t = [] := List.eq_nil_of_length_eq_zero (by omega)
      subst this
      cases m <;> simp [left, sp] at hp
      subst hp; simp
    | succ n ih =>
      intro t m ht p hp
      cases m
      · simp [left] at hp
      · rw [left_next] at hp
        rcases List.mem_cons.1 hp with rfl | hp
        · exact hd_le t
        · have h1 := tl_le t
          cases hs : sl t
          · rw [hs, left_false] at hp; simp at hp
          · have := tl_lt t hs
            have := ih (tl t) _ (by omega) p hp
            omega
  intro p hp
  rw [← left_start] at hp
  exact key _ _ _ (Nat.le_refl _) p hp

theorem cb_drop (a b : List UInt8) (k : Nat) (ha : k < a.length) (hb : k < b.length) :
    Lib.compareBytes (a.drop k) (b.drop k) = if (a[k]'ha).toNat < (b[k]'hb).toNat then -1 else if (b[k]'hb).toNat < (a[k]'ha).toNat then 1 else Lib.compareBytes (a.drop (k + 1)) (b.drop (k + 1)) := by
  rw [List.drop_eq_getElem_cons ha, List.drop_eq_getElem_cons hb, Lib.compareBytes]
  simp only [UInt8.lt_iff_toNat_lt]
theorem cb_end (a b : List UInt8) (k : Nat) (h : a.length ≤ k ∨ b.length ≤ k) (ha : k ≤ a.length) (hb : k ≤ b.length) :
    Lib.compareBytes (a.drop k) (b.drop k) = if a.length < b.length then -1 else if b.length < a.length then 1 else 0 := by
  rcases Nat.lt_trichotomy a.length b.length with h1 | h1 | h1
  · have : k = a.length := by omega
    rw [if_pos h1, List.drop_eq_nil_of_le (by omega), List.drop_eq_getElem_cons (by omega)]; rfl
  · rw [if_neg (by omega), if_neg (by omega), List.drop_eq_nil_of_le (by omega), List.drop_eq_nil_of_le (by omega)]; rfl
  · have : k = b.length := by omega
    rw [if_neg (by omega), if_pos h1, show b.drop k = [] from List.drop_eq_nil_of_le (by omega), List.drop_eq_getElem_cons (l := a) (by omega)]; rfl

theorem cmpP_drop (A B : List (List UInt8)) (k : Nat) (ha : k < A.length) (hb : k < B.length) :
    cmpP (A.drop k) (B.drop k) = if Lib.compareBytes (A[k]'ha) (B[k]'hb) = 0 then cmpP (A.drop (k + 1)) (B.drop (k + 1)) else Lib.compareBytes (A[k]'ha) (B[k]'hb) := by
  rw [List.drop_eq_getElem_cons ha, List.drop_eq_getElem_cons hb, cmpP]
theorem cmpP_end (A B : List (List UInt8)) (k : Nat) (h : A.length ≤ k ∨ B.length ≤ k) (ha : k ≤ A.length) (hb : k ≤ B.length) :
    cmpP (A.drop k) (B.drop k) = if A.length < B.length then -1 else if B.length < A.length then 1 else 0 := by
  rcases Nat.lt_trichotomy A.length B.length with h1 | h1 | h1
  · have : k = A.length := by omega
    rw [if_pos h1, List.drop_eq_nil_of_le (by omega), List.drop_eq_getElem_cons (by omega)]; rfl
  · rw [if_neg (by omega), if_neg (by omega), List.drop_eq_nil_of_le (by omega), List.drop_eq_nil_of_le (by omega)]; rfl
  · have : k = B.length := by omega
    rw [if_neg (by omega), if_pos h1, show B.drop k = [] from List.drop_eq_nil_of_le (by omega), List.drop_eq_getElem_cons (l := A) (by omega)]; rfl

theorem bdrewN {B : Nat} {w w1 : World} {n : Nat} (h : Below B w w1) : Below B w (w1.drewN n) := ⟨h.os, h.tape, h.output, h.size, h.block⟩
theorem pcs_len (l : List UInt8) (hm : l.length ≤ 1000000000) : (pcs l).length ≤ 1000000001 := by
  rw [dep_eq]; have := dep_le l; omega

theorem com_drop (A B : List (List UInt8)) (k : Nat) (ha : k < A.length) (hb : k < B.length) :
    com (A.drop k) (B.drop k) = if (A[k]'ha) = (B[k]'hb) then com (A.drop (k + 1)) (B.drop (k + 1)) + 1 else 0 := by
  rw [List.drop_eq_getElem_cons ha, List.drop_eq_getElem_cons hb, com]
theorem com_end (A B : List (List UInt8)) (k : Nat) (h : A.length ≤ k ∨ B.length ≤ k) : com (A.drop k) (B.drop k) = 0 := by
  rcases h with h | h
  · rw [List.drop_eq_nil_of_le h]; simp [com]
  · rw [show B.drop k = [] from List.drop_eq_nil_of_le h]
    cases A.drop k <;> simp [com]

theorem SS.cut {w : World} {a : Option Addr} {c n : Nat} {A : List (List UInt8)} (h : SS w (.slice a A.length c) A) (k : Nat) (hk : k ≤ A.length) : n = k → SS w (.slice a n c) (A.take k) := by
  rintro rfl
  rcases h with ⟨⟨a', c', e⟩, h0⟩ | ⟨b, off, cap, e, hc, hlt, hcell⟩
  · subst h0
    have : n = 0 := by simpa using hk
    subst this
    exact .inl ⟨⟨a, c, rfl⟩, rfl⟩
  · injection e with e1 e2 e3
    subst e1 e3
    refine .inr ⟨b, off, c, by rw [List.length_take, Nat.min_eq_left hk], by rw [List.length_take]; omega, hlt, fun i u hu => hcell i u ?_⟩
    rw [sc_get] at hu ⊢
    rw [List.getElem?_take] at hu
    split at hu
    · exact hu
    · simp at hu

theorem Own.cap {base : Nat} {w : World} {v : Value} {l : List (List UInt8)} (h : Own base w v l) : ∃ a c, v = .slice a l.length c ∧ l.length ≤ c := by
  rcases h.2 with ⟨rfl, h0⟩ | ⟨g, cap, cur, rfl, hb, hg, hn, _⟩
  · exact ⟨none, 0, by rw [h0], by omega⟩
  · exact ⟨_, _, rfl, hn⟩

set_option maxRecDepth 100000 in
set_option maxHeartbeats 1000000 in
theorem rbyte_any (c : UInt8) (w : World) :
    Calls Tryz.prog 87 #[.int .u8 c.toNat] w fun e w' => e = .returned (.bool (okB c)) ∧ w' = w := by
  obtain ⟨r, hr⟩ : ∃ r, okB c = r := ⟨_, rfl⟩
  rw [hr]
  have HR : Hid (okB c = r) := hr
  clear hr
  obtain ⟨n, hn⟩ : ∃ n, c.toNat = n := ⟨_, rfl⟩
  rw [hn]
  have HR2 : Hid (((97 ≤ n && n ≤ 122) || (65 ≤ n && n ≤ 90) || (48 ≤ n && n ≤ 57) || n == 46 || n == 95 || n == 45) = r) := by rw [← hn]; exact HR.out
  clear HR hn
  by_cases h1 : 97 ≤ n ∧ n ≤ 122
  · obtain ⟨h1, h2⟩ := h1
    go_enter Tryz.func87, Tryz.ntmps87
    go_wp2_with fail
    go_ret
    exact ⟨by rw [← HR2.out]; simp [h1, h2], rfl⟩
  · by_cases h2 : 65 ≤ n ∧ n ≤ 90
    · obtain ⟨h2, h3⟩ := h2
      have h4 : ¬ 97 ≤ n := by omega
      clear h1
      go_enter Tryz.func87, Tryz.ntmps87
      go_wp2_with fail
      go_ret
      exact ⟨by rw [← HR2.out]; simp [h2, h3], rfl⟩
    · by_cases h3 : 48 ≤ n ∧ n ≤ 57
      · obtain ⟨h3, h4⟩ := h3
        have h5 : ¬ 97 ≤ n := by omega
        have h6 : ¬ 65 ≤ n := by omega
        clear h1 h2
        go_enter Tryz.func87, Tryz.ntmps87
        go_wp2_with fail
        go_ret
        exact ⟨by rw [← HR2.out]; simp [h3, h4], rfl⟩
      · by_cases q1 : n = 46
        · subst q1
          clear h1 h2 h3
          go_enter Tryz.func87, Tryz.ntmps87
          go_wp2_with fail
          go_ret
          exact ⟨by rw [← HR2.out]; rfl, rfl⟩
        by_cases q2 : n = 95
        · subst q2
          clear h1 h2 h3
          go_enter Tryz.func87, Tryz.ntmps87
          go_wp2_with fail
          go_ret
          exact ⟨by rw [← HR2.out]; rfl, rfl⟩
        by_cases q3 : n = 45
        · subst q3
          clear h1 h2 h3
          go_enter Tryz.func87, Tryz.ntmps87
          go_wp2_with fail
          go_ret
          exact ⟨by rw [← HR2.out]; rfl, rfl⟩
        have z : r = false := by
          rw [← HR2.out]
          simp only [Bool.or_eq_false_iff, Bool.and_eq_false_iff, decide_eq_false_iff_not, beq_eq_false_iff_ne]
          omega
        subst z
        have e1 : (((n : Int)) == 46) = false := by rw [beq_eq_false_iff_ne]; omega
        have e2 : (((n : Int)) == 95) = false := by rw [beq_eq_false_iff_ne]; omega
        have e3 : (((n : Int)) == 45) = false := by rw [beq_eq_false_iff_ne]; omega
        by_cases p1 : 97 ≤ n
        · have p2 : ¬ n ≤ 122 := by omega
          have p3 : 65 ≤ n := by omega
          have p4 : ¬ n ≤ 90 := by omega
          have p5 : 48 ≤ n := by omega
          have p6 : ¬ n ≤ 57 := by omega
          clear h1 h2 h3
          go_enter Tryz.func87, Tryz.ntmps87
          go_wp2_with fail
          go_ret
          exact ⟨by simp; omega, rfl⟩
        by_cases p3 : 65 ≤ n
        · have p4 : ¬ n ≤ 90 := by omega
          have p5 : 48 ≤ n := by omega
          have p6 : ¬ n ≤ 57 := by omega
          clear h1 h2 h3
          go_enter Tryz.func87, Tryz.ntmps87
          go_wp2_with fail
          go_ret
          exact ⟨by simp; omega, rfl⟩
        by_cases p5 : 48 ≤ n
        · have p6 : ¬ n ≤ 57 := by omega
          clear h1 h2 h3
          go_enter Tryz.func87, Tryz.ntmps87
          go_wp2_with fail
          go_ret
          exact ⟨by simp; omega, rfl⟩
        · clear h1 h2 h3
          go_enter Tryz.func87, Tryz.ntmps87
          go_wp2_with fail
          go_ret
          exact ⟨rfl, rfl⟩

set_option maxHeartbeats 1000000 in
set_option maxRecDepth 100000 in
theorem rcomponent_any (l : List UInt8) (w : World) (hm : l.length < 9223372036854775807) :
    Calls Tryz.prog 72 #[.string (bs l)] w fun e w' => e = .returned (.bool (okC l)) ∧ w' = w := by
  have hz : (bs l).size = l.length := rfl
  have c1 : (ByteArray.mk #[46]).toList = [46] := ByteArray.toList_mk [46]
  have c2 : (ByteArray.mk #[46, 46]).toList = [46, 46] := ByteArray.toList_mk [46, 46]
  have c3 : (ByteArray.mk #[46, 46, 46]).toList = [46, 46, 46] := ByteArray.toList_mk [46, 46, 46]
  by_cases h0 : l.length < 1
  · have h : okC l = false := by
      have : l = [] := List.eq_nil_of_length_eq_zero (by omega)
      subst this; decide
    rw [h]
    have g1 : ¬ 32 < l.length := by omega
    clear c1 c2 c3
    go_enter Tryz.func72, Tryz.ntmps72
    go_wp2_with fail
    go_ret
    exact ⟨rfl, rfl⟩
  by_cases h4 : 32 < l.length
  · have h : okC l = false := by
      unfold okC; rw [show decide (l.length ≤ 32) = false from by simpa using h4]; simp
    rw [h]
    clear c1 c2 c3
    go_enter Tryz.func72, Tryz.ntmps72
    go_wp2_with fail
    go_ret
    exact ⟨rfl, rfl⟩
  by_cases h1 : l = [46]
  · subst h1
    have h : okC [46] = false := by decide
    rw [h]
    have hz1 : (bs [46]).size = 1 := rfl
    have e1 : ((bs [46]).toList == [46]) = true := by rw [bs_toList]; rfl
    clear h0 h4 hz
    go_enter Tryz.func72, Tryz.ntmps72
    go_wp2_with fail
    go_ret
    exact ⟨rfl, rfl⟩
  have e1 : ((bs l).toList == [46]) = false := by rw [bs_toList, beq_eq_false_iff_ne]; exact h1
  by_cases h2 : l = [46, 46]
  · subst h2
    have h : okC [46, 46] = false := by decide
    rw [h]
    have hz1 : (bs [46, 46]).size = 2 := rfl
    have e2 : ((bs [46, 46]).toList == [46, 46]) = true := by rw [bs_toList]; rfl
    clear h0 h4 hz
    go_enter Tryz.func72, Tryz.ntmps72
    go_wp2_with fail
    go_ret
    exact ⟨rfl, rfl⟩
  have e2 : ((bs l).toList == [46, 46]) = false := by rw [bs_toList, beq_eq_false_iff_ne]; exact h2
  by_cases h3 : l = [46, 46, 46]
  · subst h3
    have h : okC [46, 46, 46] = false := by decide
    rw [h]
    have hz1 : (bs [46, 46, 46]).size = 3 := rfl
    have e3 : ((bs [46, 46, 46]).toList == [46, 46, 46]) = true := by rw [bs_toList]; rfl
    clear h0 h4 hz
    go_enter Tryz.func72, Tryz.ntmps72
    go_wp2_with fail
    go_ret
    exact ⟨rfl, rfl⟩
  have e3 : ((bs l).toList == [46, 46, 46]) = false := by rw [bs_toList, beq_eq_false_iff_ne]; exact h3
  have hok : okC l = l.all okB := by
    unfold okC
    rw [show (l == []) = false from by rw [beq_eq_false_iff_ne]; rintro rfl; simp at h0, show (l == [46]) = false from by rw [beq_eq_false_iff_ne]; exact h1, show (l == [46, 46]) = false from by rw [beq_eq_false_iff_ne]; exact h2, show (l == [46, 46, 46]) = false from by rw [beq_eq_false_iff_ne]; exact h3, show decide (l.length ≤ 32) = true from by simpa using Nat.le_of_not_lt h4]
    simp
  rw [hok]
  obtain ⟨r, hr⟩ : ∃ r, l.all okB = r := ⟨_, rfl⟩
  rw [hr]
  have HR : Hid ((l.drop 0).all okB = r) := hr
  clear hr hok h1 h2 h3
  go_enter Tryz.func72, Tryz.ntmps72
  go_wp2_with fail
  go_loop [3] (fun i => ∃ k : Nat, k ≤ l.length ∧ i = .int .i64 k ∧ (l.drop k).all okB = r) (fun i => l.length - (intOf i).toNat)
  case atStart => exact ⟨0, Nat.zero_le _, rfl, HR.out⟩
  case round =>
    obtain ⟨k, hk, rfl, ha⟩ := hrel
    have HA : Hid ((l.drop k).all okB = r) := ha
    clear ha
    by_cases hlt : k < l.length
    · have HB : Hid ((okB (l[k]'hlt) && (l.drop (k + 1)).all okB) = r) := by have := HA.out; rw [all_take_succ l k hlt] at this; exact this
      have hkz : k < (bs l).size := hlt
      go_wp2_with fail
      refine (rbyte_any (l[k]'hlt) _).mono ?_
      rintro e w1 ⟨rfl, rfl⟩
      have hb := HB.out
      cases ho : okB (l[k]'hlt)
      · rw [ho] at hb
        have hb : false = r := hb
        subst hb
        go_wp2_with fail
        go_ret
        exact ⟨rfl, rfl⟩
      · rw [ho] at hb
        have HB2 : Hid ((l.drop (k + 1)).all okB = r) := hb
        clear hb
        go_wp2_with fail
        go_round
        case rel => exact ⟨k + 1, by omega, by go_num, HB2.out⟩
        case measure => simp [intOf]; omega
    · obtain rfl : k = l.length := by omega
      have hb := HA.out
      rw [List.drop_length] at hb
      have hb : true = r := hb
      subst hb
      go_wp2_with fail
      go_ret
      exact ⟨rfl, rfl⟩

theorem all_drop_succ (L : List (List UInt8)) (k : Nat) (h : k < L.length) : (L.drop k).all okC = (okC (L[k]'h) && (L.drop (k + 1)).all okC) := by
  rw [List.drop_eq_getElem_cons h]; rfl
set_option maxHeartbeats 1000000 in
set_option maxRecDepth 100000 in
theorem rvalid_any (l : List UInt8) (w : World) (hm : l.length ≤ 1000000000) :
    Calls Tryz.prog 49 #[.string (bs l)] w fun e w' => e = .returned (.bool (okP l)) ∧ Below w.heap.size w w' := by
  have hz : (bs l).size = l.length := rfl
  have HM : Hid (∀ p ∈ pcs l, p.length ≤ l.length) := pcs_mem_le l
  have hdl := dep_le l
  have hde := dep_eq l
  obtain ⟨L, hL⟩ : ∃ L, pcs l = L := ⟨_, rfl⟩
  obtain ⟨r, hr⟩ : ∃ r, okP l = r := ⟨_, rfl⟩
  rw [hr]
  have HR : Hid ((decide (l.length ≤ 120) && decide (dep l ≤ 12) && L.all okC) = r) := by rw [← hL]; exact hr
  rw [hL] at HM hde
  rw [← hde] at HR hdl
  clear hr hde
  go_enter Tryz.func49, Tryz.ntmps49
  go_wp2_with fail
  refine (rsplit_any _ _ hm).mono ?_
  rintro e w1 ⟨v, rfl, ho, hb⟩
  rw [hL] at ho
  have B1 : Hid (Below w.heap.size w w1) := hb
  obtain ⟨a, c, rfl, hcell⟩ := ho.bs.form
  have HC : Hid (∀ k, (hk : k < L.length) → ∃ b off, a = some ⟨b, off, none⟩ ∧ b < w1.heap.size ∧ w1.cell? ⟨b, off + k, none⟩ = some (.string (bs L[k]))) := hcell
  clear ho hb hcell hL
  by_cases h1 : 120 < l.length
  · have hr := HR.out
    rw [show decide (l.length ≤ 120) = false from by simpa using h1] at hr
    have hr : false = r := by rw [← hr]; simp
    subst hr
    go_wp2_with fail
    go_ret
    exact ⟨rfl, B1.out⟩
  by_cases h2 : 12 < L.length
  · have hr := HR.out
    rw [show decide (L.length ≤ 12) = false from by simpa using h2] at hr
    have hr : false = r := by rw [← hr]; simp
    subst hr
    go_wp2_with fail
    go_ret
    exact ⟨rfl, B1.out⟩
  have hr := HR.out
  rw [show decide (l.length ≤ 120) = true from by simpa using Nat.le_of_not_lt h1, show decide (L.length ≤ 12) = true from by simpa using Nat.le_of_not_lt h2] at hr
  have HR2 : Hid ((L.drop 0).all okC = r) := hr
  clear hr
  go_wp2_with fail
  go_loop [4] (fun i => ∃ k : Nat, k ≤ L.length ∧ i = .int .i64 k ∧ (L.drop k).all okC = r) (fun i => L.length - (intOf i).toNat)
  case atStart => exact ⟨0, Nat.zero_le _, rfl, HR2.out⟩
  case round =>
    obtain ⟨k, hk, rfl, ha⟩ := hrel
    have HA : Hid ((L.drop k).all okC = r) := ha
    clear ha
    by_cases hlt : k < L.length
    · have HB : Hid ((okC (L[k]'hlt) && (L.drop (k + 1)).all okC) = r) := by have := HA.out; rw [all_drop_succ L k hlt] at this; exact this
      obtain ⟨g, off, rfl, hg, hc⟩ := HC.out k hlt
      have hpl := HM.out (L[k]'hlt) (List.getElem_mem _)
      go_wp2_with fail
      refine (rcomponent_any (L[k]'hlt) _ (by omega)).mono ?_
      rintro e w2 ⟨rfl, rfl⟩
      have hb := HB.out
      cases ho : okC (L[k]'hlt)
      · rw [ho] at hb
        have hb : false = r := hb
        subst hb
        go_wp2_with fail
        go_ret
        exact ⟨rfl, B1.out⟩
      · rw [ho] at hb
        have HB2 : Hid ((L.drop (k + 1)).all okC = r) := hb
        clear hb
        go_wp2_with fail
        go_round
        case rel => exact ⟨k + 1, by omega, by go_num, HB2.out⟩
        case measure => simp [intOf]; omega
    · obtain rfl : k = L.length := by omega
      have hb := HA.out
      rw [List.drop_length] at hb
      have hb : true = r := hb
      subst hb
      go_wp2_with fail
      go_ret
      exact ⟨rfl, B1.out⟩
end Go.Proofs.YtfdcfcalbongeaaGreat
