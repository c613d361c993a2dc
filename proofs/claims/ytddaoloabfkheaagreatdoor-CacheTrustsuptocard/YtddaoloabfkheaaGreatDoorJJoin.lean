/-
  The document's labels: Valid, Print, Cmp.
  The last slash, what lies ahead of it and behind it, two paths joined: the program's and the document's.
-/
import Derived.Test.YtddaoloabfkheaaGreatDoorJCuts
import Derived.Test.YtddaoloabfkheaaGreatDoorPkg
namespace Go.Proofs.YtddaoloabfkheaaGreatDoor
open Go.RowKit

/-- a beginning put ahead of the first piece -/
def glue (cur : List UInt8) : List (List UInt8) → List (List UInt8)
  | [] => [cur]
  | p :: ps => (cur ++ p) :: ps
theorem glue_nil (X : List (List UInt8)) (h : X ≠ []) : glue [] X = X := by
  cases X with
  | nil => exact absurd rfl h
  | cons p ps => rfl
theorem glue_sp_ne (cur : List UInt8) (c : UInt8) (r : List UInt8) (h : c ≠ 47) : glue cur (sp (c :: r)) = glue (cur ++ [c]) (sp r) := by
  rw [sp.eq_2, if_neg h]
  cases hs : sp r with
  | nil => exact absurd hs (sp_ne r)
  | cons p ps => simp [glue]
theorem glue_sp_eq (cur : List UInt8) (r : List UInt8) : glue cur (sp (47 :: r)) = cur :: sp r := by
  simp [sp, glue]
theorem glue_len (cur : List UInt8) (X : List (List UInt8)) : 1 ≤ (glue cur X).length := by
  cases X <;> simp [glue]
theorem drop_take_snoc (l : List UInt8) (f k : Nat) (hf : f ≤ k) (hk : k < l.length) : (l.drop f).take (k + 1 - f) = (l.drop f).take (k - f) ++ [l[k]'hk] := by
  rw [show k + 1 - f = (k - f) + 1 from by omega, List.take_add_one, List.getElem?_drop, show f + (k - f) = k from by omega, List.getElem?_eq_getElem hk]
  rfl
set_option maxHeartbeats 1000000 in
set_option maxRecDepth 100000 in
theorem rsplit_any (l : List UInt8) (w : World) (hm : l.length ≤ 1000000000) :
    Calls Tryz.prog 74 #[.string (bs l)] w fun e w' => ∃ v, e = .returned v ∧ Own w.heap.size w' v (pcs l) ∧ Below w.heap.size w w' := by
  have he := isE l
  by_cases hl : l = []
  · subst hl
    rw [pcs_nil]
    go_enter Tryz.func74, Tryz.ntmps74
    go_wp2_with fail
    go_ret
    exact ⟨_, rfl, Own.nil _ _, Below.refl _ _⟩
  have i0 : l.isEmpty = false := by cases l; exact absurd rfl hl; rfl
  rw [i0] at he
  have hz : (bs l).size = l.length := rfl
  have hP : pcs l = sp l := by simp [pcs, hl]
  rw [hP]
  obtain ⟨L, hL⟩ : ∃ L, sp l = L := ⟨_, rfl⟩
  rw [hL]
  have HL : Hid (sp l = L) := hL
  have HN : Hid (L.length ≤ 1000000001) := by
    show _ ≤ _
    rw [← hL, ← hP, dep_eq]; have := dep_le l; omega
  clear hL hP hl i0
  go_enter Tryz.func74, Tryz.ntmps74
  go_wp2_with fail
  go_loopw [3, 4, 5] (fun o f i wr => ∃ (k m : Nat) (D : List (List UInt8)), i = .int .i64 k ∧ f = .int .i64 m ∧ Own w.heap.size wr o D ∧ Below w.heap.size w wr ∧ ((k ≤ l.length ∧ m ≤ k ∧ D ++ glue ((l.drop m).take (k - m)) (sp (l.drop k)) = L) ∨ (k = l.length + 1 ∧ D = L))) (fun _ _ i _ => l.length + 1 - (intOf i).toNat)
  case atStart => exact ⟨0, 0, [], rfl, rfl, Own.nil _ _, Below.refl _ _, .inl ⟨Nat.zero_le _, Nat.le_refl _, by simpa [glue_nil _ (sp_ne l)] using HL.out⟩⟩
  case round =>
    obtain ⟨k, m, D, rfl, rfl, hown, hbw, hor⟩ := hrel
    have HO : Hid (Own w.heap.size wr u3 D) := hown
    have HB : Hid (Below w.heap.size w wr) := hbw
    have hzw := hbw.size
    clear hown hbw
    rcases hor with ⟨hk, hmk, heq⟩ | ⟨rfl, rfl⟩
    · have hDl : D.length + 1 ≤ 8796093022208 := by
        have h1 := congrArg List.length heq
        have h2 := glue_len ((l.drop m).take (k - m)) (sp (l.drop k))
        have := HN.out
        rw [List.length_append] at h1; omega
      have HE : Hid (D ++ glue ((l.drop m).take (k - m)) (sp (l.drop k)) = L) := heq
      have HX : Hid ((bs l).extract m k = bs ((l.drop m).take (k - m))) := bs_extract l m k
      clear heq
      by_cases hlt : k < l.length
      · have hkz : k < (bs l).size := hlt
        have e0 : ((k : Int) == (l.length : Int)) = false := by rw [beq_eq_false_iff_ne]; omega
        by_cases hc : l[k]'hlt = 47
        · have e1 : (((bs l)[k].toNat : Int) == 47) = true := by rw [bs_get _ _ _ hlt, hc]; rfl
          have h2 := HE.out
          rw [List.drop_eq_getElem_cons hlt, hc, glue_sp_eq] at h2
          have HE2 : Hid ((D ++ [(l.drop m).take (k - m)]) ++ glue ((l.drop (k + 1)).take (k + 1 - (k + 1))) (sp (l.drop (k + 1))) = L) := by
            show _ = _
            rw [← h2, Nat.sub_self, List.take_zero, glue_nil _ (sp_ne _)]; simp
          clear h2
          go_wp2_with (at_builtin; rw [HX.out]; refine app_one (base := w.heap.size) ((l.drop m).take (k - m)) HO.out hDl hzw rfl (.tmp 25) (.tmp 30) rfl rfl rfl ?_; intro v' w' ho hbw hbs' hgr hat)
          go_roundw
          case rel => exact ⟨k + 1, k + 1, _, by go_num, by go_num, ho, below_trans HB.out hbw, .inl ⟨by omega, Nat.le_refl _, HE2.out⟩⟩
          case measure => simp [intOf]; omega
        · have e1 : (((bs l)[k].toNat : Int) == 47) = false := by
            rw [bs_get _ _ _ hlt, beq_eq_false_iff_ne]; intro e; apply hc; apply UInt8.toNat_inj.1; exact Int.ofNat.inj e
          have h2 := HE.out
          rw [List.drop_eq_getElem_cons hlt, glue_sp_ne _ _ _ hc, ← drop_take_snoc l m k hmk hlt] at h2
          have HE2 : Hid (D ++ glue ((l.drop m).take (k + 1 - m)) (sp (l.drop (k + 1))) = L) := h2
          clear h2
          go_wp2_with fail
          go_roundw
          case rel => exact ⟨k + 1, m, D, by go_num, rfl, HO.out, HB.out, .inl ⟨by omega, by omega, HE2.out⟩⟩
          case measure => simp [intOf]; omega
      · obtain rfl : k = l.length := by omega
        have h2 := HE.out
        rw [List.drop_length] at h2
        have HE2 : Hid (D ++ [(l.drop m).take (l.length - m)] = L) := by
          show _ = _
          rw [← h2]; simp [sp, glue]
        clear h2
        go_wp2_with (at_builtin; rw [HX.out]; refine app_one (base := w.heap.size) ((l.drop m).take (l.length - m)) HO.out hDl hzw rfl (.tmp 25) (.tmp 30) rfl rfl rfl ?_; intro v' w' ho hbw hbs' hgr hat)
        go_roundw
        case rel => exact ⟨l.length + 1, l.length + 1, _, by go_num, by go_num, ho, below_trans HB.out hbw, .inr ⟨rfl, HE2.out⟩⟩
        case measure => simp [intOf]
    · have h3 : ¬ l.length + 1 ≤ l.length := by omega
      go_wp2_with fail
      go_ret
      exact ⟨_, rfl, HO.out, HB.out⟩

theorem pcs_mem_le (l : List UInt8) : ∀ p ∈ pcs l, p.length ≤ l.length := by
  have key : ∀ (n : Nat) (t : List UInt8) (m : Bool), t.length ≤ n → ∀ p ∈ left t m, p.length ≤ t.length := by
    intro n
    induction n with
    | zero =>
      intro t m ht p hp
      have : t = [] := List.eq_nil_of_length_eq_zero (by omega)
      subst this
      cases m <;> simp [left, sp] at hp
      subst hp; simp
    | succ n ih =>
      intro t m ht p hp
      cases m
      · simp [left] at hp
      · rw [left_next] at hp
        rcases List.mem_cons.1 hp with rfl | hp
        · exact hd_le t
        · have h1 := tl_le t
          cases hs : sl t
          · rw [hs, left_false] at hp; simp at hp
          · have := tl_lt t hs
            have := ih (tl t) _ (by omega) p hp
            omega
  intro p hp
  rw [← left_start] at hp
  exact key _ _ _ (Nat.le_refl _) p hp

set_option maxRecDepth 100000 in
set_option maxHeartbeats 1000000 in
theorem rbyte_any (c : UInt8) (w : World) :
    Calls Tryz.prog 100 #[.int .u8 c.toNat] w fun e w' => e = .returned (.bool (okB c)) ∧ w' = w := by
  obtain ⟨r, hr⟩ : ∃ r, okB c = r := ⟨_, rfl⟩
  rw [hr]
  have HR : Hid (okB c = r) := hr
  clear hr
  obtain ⟨n, hn⟩ : ∃ n, c.toNat = n := ⟨_, rfl⟩
  rw [hn]
  have HR2 : Hid (((97 ≤ n && n ≤ 122) || (65 ≤ n && n ≤ 90) || (48 ≤ n && n ≤ 57) || n == 46 || n == 95 || n == 45) = r) := by rw [← hn]; exact HR.out
  clear HR hn
  by_cases h1 : 97 ≤ n ∧ n ≤ 122
  · obtain ⟨h1, h2⟩ := h1
    go_enter Tryz.func100, Tryz.ntmps100
    go_wp2_with fail
    go_ret
    exact ⟨by rw [← HR2.out]; simp [h1, h2], rfl⟩
  · by_cases h2 : 65 ≤ n ∧ n ≤ 90
    · obtain ⟨h2, h3⟩ := h2
      have h4 : ¬ 97 ≤ n := by omega
      clear h1
      go_enter Tryz.func100, Tryz.ntmps100
      go_wp2_with fail
      go_ret
      exact ⟨by rw [← HR2.out]; simp [h2, h3], rfl⟩
    · by_cases h3 : 48 ≤ n ∧ n ≤ 57
      · obtain ⟨h3, h4⟩ := h3
        have h5 : ¬ 97 ≤ n := by omega
        have h6 : ¬ 65 ≤ n := by omega
        clear h1 h2
        go_enter Tryz.func100, Tryz.ntmps100
        go_wp2_with fail
        go_ret
        exact ⟨by rw [← HR2.out]; simp [h3, h4], rfl⟩
      · by_cases q1 : n = 46
        · subst q1
          clear h1 h2 h3
          go_enter Tryz.func100, Tryz.ntmps100
          go_wp2_with fail
          go_ret
          exact ⟨by rw [← HR2.out]; rfl, rfl⟩
        by_cases q2 : n = 95
        · subst q2
          clear h1 h2 h3
          go_enter Tryz.func100, Tryz.ntmps100
          go_wp2_with fail
          go_ret
          exact ⟨by rw [← HR2.out]; rfl, rfl⟩
        by_cases q3 : n = 45
        · subst q3
          clear h1 h2 h3
          go_enter Tryz.func100, Tryz.ntmps100
          go_wp2_with fail
          go_ret
          exact ⟨by rw [← HR2.out]; rfl, rfl⟩
        have z : r = false := by
          rw [← HR2.out]
          simp only [Bool.or_eq_false_iff, Bool.and_eq_false_iff, decide_eq_false_iff_not, beq_eq_false_iff_ne]
          omega
        subst z
        have e1 : (((n : Int)) == 46) = false := by rw [beq_eq_false_iff_ne]; omega
        have e2 : (((n : Int)) == 95) = false := by rw [beq_eq_false_iff_ne]; omega
        have e3 : (((n : Int)) == 45) = false := by rw [beq_eq_false_iff_ne]; omega
        by_cases p1 : 97 ≤ n
        · have p2 : ¬ n ≤ 122 := by omega
          have p3 : 65 ≤ n := by omega
          have p4 : ¬ n ≤ 90 := by omega
          have p5 : 48 ≤ n := by omega
          have p6 : ¬ n ≤ 57 := by omega
          clear h1 h2 h3
          go_enter Tryz.func100, Tryz.ntmps100
          go_wp2_with fail
          go_ret
          exact ⟨by simp; omega, rfl⟩
        by_cases p3 : 65 ≤ n
        · have p4 : ¬ n ≤ 90 := by omega
          have p5 : 48 ≤ n := by omega
          have p6 : ¬ n ≤ 57 := by omega
          clear h1 h2 h3
          go_enter Tryz.func100, Tryz.ntmps100
          go_wp2_with fail
          go_ret
          exact ⟨by simp; omega, rfl⟩
        by_cases p5 : 48 ≤ n
        · have p6 : ¬ n ≤ 57 := by omega
          clear h1 h2 h3
          go_enter Tryz.func100, Tryz.ntmps100
          go_wp2_with fail
          go_ret
          exact ⟨by simp; omega, rfl⟩
        · clear h1 h2 h3
          go_enter Tryz.func100, Tryz.ntmps100
          go_wp2_with fail
          go_ret
          exact ⟨rfl, rfl⟩

set_option maxHeartbeats 1000000 in
set_option maxRecDepth 100000 in
theorem rcomponent_any (l : List UInt8) (w : World) (hm : l.length < 9223372036854775807) :
    Calls Tryz.prog 75 #[.string (bs l)] w fun e w' => e = .returned (.bool (okC l)) ∧ w' = w := by
  have hz : (bs l).size = l.length := rfl
  have c1 : (ByteArray.mk #[46]).toList = [46] := ByteArray.toList_mk [46]
  have c2 : (ByteArray.mk #[46, 46]).toList = [46, 46] := ByteArray.toList_mk [46, 46]
  have c3 : (ByteArray.mk #[46, 46, 46]).toList = [46, 46, 46] := ByteArray.toList_mk [46, 46, 46]
  by_cases h0 : l.length < 1
  · have h : okC l = false := by
      have : l = [] := List.eq_nil_of_length_eq_zero (by omega)
      subst this; decide
    rw [h]
    have g1 : ¬ 32 < l.length := by omega
    clear c1 c2 c3
    go_enter Tryz.func75, Tryz.ntmps75
    go_wp2_with fail
    go_ret
    exact ⟨rfl, rfl⟩
  by_cases h4 : 32 < l.length
  · have h : okC l = false := by
      unfold okC; rw [show decide (l.length ≤ 32) = false from by simpa using h4]; simp
    rw [h]
    clear c1 c2 c3
    go_enter Tryz.func75, Tryz.ntmps75
    go_wp2_with fail
    go_ret
    exact ⟨rfl, rfl⟩
  by_cases h1 : l = [46]
  · subst h1
    have h : okC [46] = false := by decide
    rw [h]
    have hz1 : (bs [46]).size = 1 := rfl
    have e1 : ((bs [46]).toList == [46]) = true := by rw [bs_toList]; rfl
    clear h0 h4 hz
    go_enter Tryz.func75, Tryz.ntmps75
    go_wp2_with fail
    go_ret
    exact ⟨rfl, rfl⟩
  have e1 : ((bs l).toList == [46]) = false := by rw [bs_toList, beq_eq_false_iff_ne]; exact h1
  by_cases h2 : l = [46, 46]
  · subst h2
    have h : okC [46, 46] = false := by decide
    rw [h]
    have hz1 : (bs [46, 46]).size = 2 := rfl
    have e2 : ((bs [46, 46]).toList == [46, 46]) = true := by rw [bs_toList]; rfl
    clear h0 h4 hz
    go_enter Tryz.func75, Tryz.ntmps75
    go_wp2_with fail
    go_ret
    exact ⟨rfl, rfl⟩
  have e2 : ((bs l).toList == [46, 46]) = false := by rw [bs_toList, beq_eq_false_iff_ne]; exact h2
  by_cases h3 : l = [46, 46, 46]
  · subst h3
    have h : okC [46, 46, 46] = false := by decide
    rw [h]
    have hz1 : (bs [46, 46, 46]).size = 3 := rfl
    have e3 : ((bs [46, 46, 46]).toList == [46, 46, 46]) = true := by rw [bs_toList]; rfl
    clear h0 h4 hz
    go_enter Tryz.func75, Tryz.ntmps75
    go_wp2_with fail
    go_ret
    exact ⟨rfl, rfl⟩
  have e3 : ((bs l).toList == [46, 46, 46]) = false := by rw [bs_toList, beq_eq_false_iff_ne]; exact h3
  have hok : okC l = l.all okB := by
    unfold okC
    rw [show (l == []) = false from by rw [beq_eq_false_iff_ne]; rintro rfl; simp at h0, show (l == [46]) = false from by rw [beq_eq_false_iff_ne]; exact h1, show (l == [46, 46]) = false from by rw [beq_eq_false_iff_ne]; exact h2, show (l == [46, 46, 46]) = false from by rw [beq_eq_false_iff_ne]; exact h3, show decide (l.length ≤ 32) = true from by simpa using Nat.le_of_not_lt h4]
    simp
  rw [hok]
  obtain ⟨r, hr⟩ : ∃ r, l.all okB = r := ⟨_, rfl⟩
  rw [hr]
  have HR : Hid ((l.drop 0).all okB = r) := hr
  clear hr hok h1 h2 h3
  go_enter Tryz.func75, Tryz.ntmps75
  go_wp2_with fail
  go_loop [3] (fun i => ∃ k : Nat, k ≤ l.length ∧ i = .int .i64 k ∧ (l.drop k).all okB = r) (fun i => l.length - (intOf i).toNat)
  case atStart => exact ⟨0, Nat.zero_le _, rfl, HR.out⟩
  case round =>
    obtain ⟨k, hk, rfl, ha⟩ := hrel
    have HA : Hid ((l.drop k).all okB = r) := ha
    clear ha
    by_cases hlt : k < l.length
    · have HB : Hid ((okB (l[k]'hlt) && (l.drop (k + 1)).all okB) = r) := by have := HA.out; rw [all_take_succ l k hlt] at this; exact this
      have hkz : k < (bs l).size := hlt
      go_wp2_with fail
      refine (rbyte_any (l[k]'hlt) _).mono ?_
      rintro e w1 ⟨rfl, rfl⟩
      have hb := HB.out
      cases ho : okB (l[k]'hlt)
      · rw [ho] at hb
        have hb : false = r := hb
        subst hb
        go_wp2_with fail
        go_ret
        exact ⟨rfl, rfl⟩
      · rw [ho] at hb
        have HB2 : Hid ((l.drop (k + 1)).all okB = r) := hb
        clear hb
        go_wp2_with fail
        go_round
        case rel => exact ⟨k + 1, by omega, by go_num, HB2.out⟩
        case measure => simp [intOf]; omega
    · obtain rfl : k = l.length := by omega
      have hb := HA.out
      rw [List.drop_length] at hb
      have hb : true = r := hb
      subst hb
      go_wp2_with fail
      go_ret
      exact ⟨rfl, rfl⟩

theorem all_drop_succ (L : List (List UInt8)) (k : Nat) (h : k < L.length) : (L.drop k).all okC = (okC (L[k]'h) && (L.drop (k + 1)).all okC) := by
  rw [List.drop_eq_getElem_cons h]; rfl
set_option maxHeartbeats 1000000 in
set_option maxRecDepth 100000 in
theorem rvalid_any (l : List UInt8) (w : World) (hm : l.length ≤ 1000000000) :
    Calls Tryz.prog 39 #[.string (bs l)] w fun e w' => e = .returned (.bool (okP l)) ∧ Below w.heap.size w w' := by
  have hz : (bs l).size = l.length := rfl
  have HM : Hid (∀ p ∈ pcs l, p.length ≤ l.length) := pcs_mem_le l
  have hdl := dep_le l
  have hde := dep_eq l
  obtain ⟨L, hL⟩ : ∃ L, pcs l = L := ⟨_, rfl⟩
  obtain ⟨r, hr⟩ : ∃ r, okP l = r := ⟨_, rfl⟩
  rw [hr]
  have HR : Hid ((decide (l.length ≤ 120) && decide (dep l ≤ 12) && L.all okC) = r) := by rw [← hL]; exact hr
  rw [hL] at HM hde
  rw [← hde] at HR hdl
  clear hr hde
  go_enter Tryz.func39, Tryz.ntmps39
  go_wp2_with fail
  refine (rsplit_any _ _ hm).mono ?_
  rintro e w1 ⟨v, rfl, ho, hb⟩
  rw [hL] at ho
  have B1 : Hid (Below w.heap.size w w1) := hb
  obtain ⟨a, c, rfl, hcell⟩ := ho.bs.form
  have HC : Hid (∀ k, (hk : k < L.length) → ∃ b off, a = some ⟨b, off, none⟩ ∧ b < w1.heap.size ∧ w1.cell? ⟨b, off + k, none⟩ = some (.string (bs L[k]))) := hcell
  clear ho hb hcell hL
  by_cases h1 : 120 < l.length
  · have hr := HR.out
    rw [show decide (l.length ≤ 120) = false from by simpa using h1] at hr
    have hr : false = r := by rw [← hr]; simp
    subst hr
    go_wp2_with fail
    go_ret
    exact ⟨rfl, B1.out⟩
  by_cases h2 : 12 < L.length
  · have hr := HR.out
    rw [show decide (L.length ≤ 12) = false from by simpa using h2] at hr
    have hr : false = r := by rw [← hr]; simp
    subst hr
    go_wp2_with fail
    go_ret
    exact ⟨rfl, B1.out⟩
  have hr := HR.out
  rw [show decide (l.length ≤ 120) = true from by simpa using Nat.le_of_not_lt h1, show decide (L.length ≤ 12) = true from by simpa using Nat.le_of_not_lt h2] at hr
  have HR2 : Hid ((L.drop 0).all okC = r) := hr
  clear hr
  go_wp2_with fail
  go_loop [4] (fun i => ∃ k : Nat, k ≤ L.length ∧ i = .int .i64 k ∧ (L.drop k).all okC = r) (fun i => L.length - (intOf i).toNat)
  case atStart => exact ⟨0, Nat.zero_le _, rfl, HR2.out⟩
  case round =>
    obtain ⟨k, hk, rfl, ha⟩ := hrel
    have HA : Hid ((L.drop k).all okC = r) := ha
    clear ha
    by_cases hlt : k < L.length
    · have HB : Hid ((okC (L[k]'hlt) && (L.drop (k + 1)).all okC) = r) := by have := HA.out; rw [all_drop_succ L k hlt] at this; exact this
      obtain ⟨g, off, rfl, hg, hc⟩ := HC.out k hlt
      have hpl := HM.out (L[k]'hlt) (List.getElem_mem _)
      go_wp2_with fail
      refine (rcomponent_any (L[k]'hlt) _ (by omega)).mono ?_
      rintro e w2 ⟨rfl, rfl⟩
      have hb := HB.out
      cases ho : okC (L[k]'hlt)
      · rw [ho] at hb
        have hb : false = r := hb
        subst hb
        go_wp2_with fail
        go_ret
        exact ⟨rfl, B1.out⟩
      · rw [ho] at hb
        have HB2 : Hid ((L.drop (k + 1)).all okC = r) := hb
        clear hb
        go_wp2_with fail
        go_round
        case rel => exact ⟨k + 1, by omega, by go_num, HB2.out⟩
        case measure => simp [intOf]; omega
    · obtain rfl : k = L.length := by omega
      have hb := HA.out
      rw [List.drop_length] at hb
      have hb : true = r := hb
      subst hb
      go_wp2_with fail
      go_ret
      exact ⟨rfl, B1.out⟩
end Go.Proofs.YtddaoloabfkheaaGreatDoor

namespace Go.Proofs.YtddaoloabfkheaaGreatDoor
open Go.RowKit

/-- texts that are short -/
structure Lu (l : Lb) : Prop where
  pkg : l.pkg.length ≤ 1000000000
  name : l.name.length ≤ 1000000000
set_option maxRecDepth 100000 in
set_option maxHeartbeats 1000000 in
theorem rlvalid_any (l : Lb) (w : World) (hl : Lu l) : Calls Tryz.prog 103 #[l.val] w fun e w' => e = .returned (.bool (okL l)) ∧ Below w.heap.size w w' := by
  obtain ⟨p, n⟩ := l
  have h1 := hl.pkg
  have h2 := hl.name
  simp only at h1 h2
  have HV : Hid (∀ w : World, Calls Tryz.prog 39 #[.string (bs p)] w fun e w' => e = .returned (.bool (okP p)) ∧ Below w.heap.size w w') := fun w => rvalid_any p w (by omega)
  have HC : Hid (∀ w : World, Calls Tryz.prog 75 #[.string (bs n)] w fun e w' => e = .returned (.bool (okC n)) ∧ w' = w) := fun w => rcomponent_any n w (by omega)
  clear h1 h2 hl
  simp only [Lb.val, okL]
  have hR := RB.new w ⟨p, n⟩
  cases hp : okP p
  · rw [hp] at HV
    go_enter Tryz.func103, Tryz.ntmps103
    go_wp2_with fail
    refine (HV.out _).mono ?_
    rintro e w1 ⟨rfl, hb1⟩
    have HB : Hid (Below w.heap.size w w1) := bstep (balloc w _) hb1
    clear hb1
    go_wp2_with fail
    go_ret
    exact ⟨rfl, HB.out⟩
  · rw [hp] at HV
    have HRR : Hid (RB (w.alloc (.cells #[.string (bs p), .string (bs n)] 92)) w.heap.size ⟨p, n⟩) := hR
    clear hR
    go_enter Tryz.func103, Tryz.ntmps103
    go_wp2_with fail
    refine (HV.out _).mono ?_
    rintro e w1 ⟨rfl, hb1⟩
    obtain ⟨c0, c1, _, _⟩ := (HRR.out.later hb1).cells
    simp only at c0 c1
    have HB : Hid (Below w.heap.size w w1) := bstep (balloc w _) hb1
    clear hb1
    go_wp2_with fail
    refine (HC.out _).mono ?_
    rintro e w2 ⟨rfl, rfl⟩
    go_wp2_with fail
    go_ret
    exact ⟨rfl, HB.out⟩

set_option maxRecDepth 100000 in
set_option maxHeartbeats 1000000 in
theorem rlprint_any (l : Lb) (w : World) (hl : Lu l) : Calls Tryz.prog 104 #[l.val] w fun e w' => e = .returned (.string (bs (prt l))) ∧ Below w.heap.size w w' := by
  obtain ⟨p, n⟩ := l
  have h1 := hl.pkg
  have h2 := hl.name
  simp only at h1 h2
  clear hl
  have z1 : (bs p).size = p.length := rfl
  have z2 : (bs n).size = n.length := rfl
  simp only [Lb.val]
  have HE : Hid (bs (prt ⟨p, n⟩) = (ByteArray.mk #[47, 47] ++ bs p) ++ ByteArray.mk #[58] ++ bs n) := by
    show bs (prt ⟨p, n⟩) = (bs [47, 47] ++ bs p) ++ bs [58] ++ bs n
    rw [bs_app, bs_app, bs_app]; simp [prt]
  go_enter Tryz.func104, Tryz.ntmps104
  go_wp2_with fail
  go_ret
  exact ⟨by rw [HE.out]; rfl, balloc _ _⟩


end Go.Proofs.YtddaoloabfkheaaGreatDoor

namespace Go.Proofs.YtddaoloabfkheaaGreatDoor
open Go.RowKit

theorem bs_add (a b : List UInt8) : bs a ++ bs b = bs (a ++ b) := bs_app a b
theorem bs_add1 (a : List UInt8) (x : UInt8) : bs a ++ ⟨#[x]⟩ = bs (a ++ [x]) := bs_app a [x]

set_option maxHeartbeats 1000000 in
set_option maxRecDepth 100000 in
theorem lastB_any (l : List UInt8) (w : World) (hm : l.length ≤ 9223372036854775807) :
    Calls Tryz.prog 91 #[.string (bs l), .int .u8 47] w fun e w' => e = .returned (.int .i64 (lst l)) ∧ w' = w := by
  have hz : (bs l).size = l.length := rfl
  go_enter Tryz.func91, Tryz.ntmps91
  go_wp2_with fail
  go_loop [5] (fun i => ∃ k : Nat, k ≤ l.length ∧ i = .int .i64 ((k : Int) - 1) ∧ ∀ j : Nat, k ≤ j → l[j]? ≠ some 47) (fun i => (intOf i + 1).toNat)
  case atStart => exact ⟨l.length, Nat.le_refl _, rfl, fun j hj => by rw [List.getElem?_eq_none hj]; simp⟩
  case round =>
    obtain ⟨k, hk, rfl, hno⟩ := hrel
    have HN : Hid (∀ j : Nat, k ≤ j → l[j]? ≠ some 47) := hno
    clear hno
    rcases k with _ | k
    · go_wp2_with fail
      go_ret
      exact ⟨by rw [lst_miss l (fun j => HN.out j (Nat.zero_le _))]; rfl, rfl⟩
    · have hkl : k < l.length := by omega
      by_cases hc : l[k]'hkl = 47
      · have hkz : k < (bs l).size := hkl
        have e1 : (((bs l)[k].toNat : Int) == 47) = true := by rw [bs_get _ _ _ hkl, hc]; rfl
        go_wp2_with fail
        go_ret
        exact ⟨by rw [lst_hit l k (by rw [List.getElem?_eq_getElem hkl, hc]) (fun j hj => HN.out j hj)]; rfl, rfl⟩
      · have hkz : k < (bs l).size := hkl
        have e1 : (((bs l)[k].toNat : Int) == 47) = false := by
          rw [bs_get _ _ _ hkl, beq_eq_false_iff_ne]; intro e; apply hc; apply UInt8.toNat_inj.1; exact Int.ofNat.inj e
        go_wp2_with fail
        go_round
        case rel =>
          refine ⟨k, by omega, rfl, fun j hj => ?_⟩
          by_cases hjk : j = k
          · subst hjk; rw [List.getElem?_eq_getElem hkl]; simpa using hc
          · exact HN.out j (by omega)
        case measure => simp only [intOf]; omega


set_option maxHeartbeats 1000000 in
set_option maxRecDepth 100000 in
theorem last_any (l : List UInt8) (w : World) (hm : l.length ≤ 9223372036854775807) :
    Calls Tryz.prog 57 #[.string (bs l), .string (bs [47])] w fun e w' => e = .returned (.int .i64 (lst l)) ∧ w' = w := by
  have hz : (bs [47]).size = 1 := rfl
  have HM : Hid (l.length ≤ 9223372036854775807) := hm
  clear hm
  go_enter Tryz.func57, Tryz.ntmps57
  go_wp2_with fail
  refine (lastB_any _ _ HM.out).mono ?_
  rintro e w1 ⟨rfl, rfl⟩
  go_wp2_with fail
  go_ret
  exact ⟨rfl, rfl⟩


set_option maxRecDepth 100000 in
set_option maxHeartbeats 1000000 in
theorem base_any (l : List UInt8) (w : World) (hl : l.length ≤ 9223372036854775807) :
    Calls Tryz.prog 23 #[.string (bs l)] w fun e w' => e = .returned (.string (bs (base l))) ∧ w' = w := by
  have HL : Hid (l.length ≤ 9223372036854775807) := hl
  have hz : (bs l).size = l.length := rfl
  have h2 := lst_lt l
  have h3 := lst_ge l
  obtain ⟨n, hn⟩ : ∃ n : Nat, lst l = (n : Int) - 1 := ⟨(lst l + 1).toNat, by omega⟩
  have hd0 : base l = l.drop n := by unfold base; congr 1; omega
  rw [hd0]
  have HE : Hid ((bs l).extract n l.length = bs (l.drop n)) := extract_from l n
  have hnl : n ≤ l.length := by omega
  clear h2 h3
  go_enter Tryz.func23, Tryz.ntmps23
  go_wp2_with fail
  refine (last_any _ _ HL.out).mono ?_
  rintro e w1 ⟨rfl, rfl⟩
  rw [hn]
  go_wp2_with fail
  go_ret
  exact ⟨by rw [← HE.out]; rfl, rfl⟩


set_option maxHeartbeats 1000000 in
set_option maxRecDepth 100000 in
theorem join_any (a b : List UInt8) (w : World) (ha : a.length < 9223372036854775807) (hb : b.length < 9223372036854775807) :
    Calls Tryz.prog 164 #[.string (bs a), .string (bs b)] w fun e w' => e = .returned (.tuple #[.string (bs (jn a b).1), .int .i64 (jn a b).2]) ∧ Below w.heap.size w w' := by
  have e0 : (bs a).toList.isEmpty = a.isEmpty := isE a
  have e1 : (bs b).toList.isEmpty = b.isEmpty := isE b
  obtain ⟨j, hj⟩ : ∃ j, jn a b = j := ⟨_, rfl⟩
  rw [hj]
  have HJ : Hid (jn a b = j) := hj
  clear hj
  have HL : Hid (a.length < 9223372036854775807 ∧ b.length < 9223372036854775807) := ⟨ha, hb⟩
  clear ha hb
  go_enter Tryz.func164, Tryz.ntmps164
  go_wp2_with fail
  refine (valid_any _ _ HL.out.1).mono ?_
  rintro e w1 ⟨rfl, hb1⟩
  have B1 : Hid (Below w.heap.size w w1) := hb1
  have hz1 := hb1.size
  clear hb1
  cases h1 : okP a
  · have hj := HJ.out
    have hj : ([], 7) = j := by rw [← hj]; simp [jn, h1]
    subst hj
    go_wp2_with fail
    go_ret2
    exact ⟨rfl, B1.out⟩
  go_wp2_with fail
  refine (valid_any _ _ HL.out.2).mono ?_
  rintro e w2 ⟨rfl, hb2⟩
  have B2 : Hid (Below w.heap.size w w2) := below_trans B1.out (below_mono hb2 hz1)
  have hz2 := B2.out.size
  clear hb2
  cases h2 : okP b
  · have hj := HJ.out
    have hj : ([], 7) = j := by rw [← hj]; simp [jn, h2]
    subst hj
    go_wp2_with fail
    go_ret2
    exact ⟨rfl, B2.out⟩
  have hj := HJ.out
  have hj : (if a = [] then (b, (0 : Int)) else if b = [] then (a, 0) else if okP (a ++ 47 :: b) = true then (a ++ 47 :: b, 0) else ([], 7)) = j := by rw [← hj]; simp [jn, h1, h2]
  have la : a.length ≤ 120 := by unfold okP at h1; simp only [Bool.and_eq_true, decide_eq_true_eq] at h1; exact h1.1.1
  have lb : b.length ≤ 120 := by unfold okP at h2; simp only [Bool.and_eq_true, decide_eq_true_eq] at h2; exact h2.1.1
  by_cases h3 : a = []
  · rw [if_pos h3] at hj
    subst hj
    subst h3
    go_wp2_with fail
    go_ret2
    exact ⟨rfl, B2.out⟩
  rw [if_neg h3] at hj
  have i0 : a.isEmpty = false := by cases a; exact absurd rfl h3; rfl
  rw [i0] at e0
  by_cases h4 : b = []
  · rw [if_pos h4] at hj
    subst hj
    subst h4
    go_wp2_with fail
    go_ret2
    exact ⟨rfl, B2.out⟩
  rw [if_neg h4] at hj
  have i1 : b.isEmpty = false := by cases b; exact absurd rfl h4; rfl
  rw [i1] at e1
  have z1 : (bs a).size = a.length := rfl
  have z2 : (bs b).size = b.length := rfl
  have hcat : bs a ++ (ByteArray.mk #[47]) ++ bs b = bs (a ++ 47 :: b) := by
    have : (ByteArray.mk #[47]) = bs [47] := rfl
    rw [this, bs_add, bs_add]; simp
  have HC : Hid (bs a ++ (ByteArray.mk #[47]) ++ bs b = bs (a ++ 47 :: b)) := hcat
  clear hcat
  go_wp2_with fail
  rw [HC.out]
  refine (valid_any _ _ (by simp; omega)).mono ?_
  rintro e w3 ⟨rfl, hb3⟩
  have B3 : Hid (Below w.heap.size w w3) := below_trans B2.out (below_mono hb3 hz2)
  clear hb3
  cases h5 : okP (a ++ 47 :: b)
  · rw [h5] at hj
    have hj : ([], (7 : Int)) = j := by rw [← hj]; rfl
    subst hj
    go_wp2_with fail
    go_ret2
    exact ⟨rfl, B3.out⟩
  · rw [h5] at hj
    have hj : (a ++ 47 :: b, (0 : Int)) = j := by rw [← hj]; rfl
    subst hj
    go_wp2_with fail
    go_ret2
    exact ⟨rfl, B3.out⟩

set_option maxRecDepth 100000 in
set_option maxHeartbeats 1000000 in
theorem rlast_any (l : List UInt8) (w : World) (hm : l.length < 9223372036854775807) :
    Calls Tryz.prog 84 #[.string (bs l)] w fun e w' => e = .returned (.int .i64 (lst l)) ∧ w' = w := by
  have hz : (bs l).size = l.length := rfl
  go_enter Tryz.func84, Tryz.ntmps84
  go_wp2_with fail
  go_loop [3, 4] (fun a i => ∃ k : Nat, k ≤ l.length ∧ i = .int .i64 k ∧ a = .int .i64 (lst (l.take k))) (fun _ i => l.length - (intOf i).toNat)
  case atStart => exact ⟨0, Nat.zero_le _, rfl, rfl⟩
  case round =>
    obtain ⟨k, hk, rfl, rfl⟩ := hrel
    by_cases hlt : k < l.length
    · have hkz : k < (bs l).size := hlt
      have hs : l.take (k + 1) = l.take k ++ [l[k]'hlt] := by rw [List.take_add_one, List.getElem?_eq_getElem hlt]; rfl
      have hl := lst_snoc (l.take k) (l[k]'hlt)
      rw [← hs, List.length_take, Nat.min_eq_left hk] at hl
      by_cases hc : l[k]'hlt = 47
      · have e1 : (((bs l)[k].toNat : Int) == 47) = true := by rw [bs_get _ _ _ hlt, hc]; rfl
        rw [if_pos hc] at hl
        have HL : Hid (lst (l.take (k + 1)) = k) := hl
        clear hl hs
        go_wp2_with fail
        go_round
        case rel => exact ⟨k + 1, by omega, by go_num, by rw [HL.out]⟩
        case measure => simp [intOf]; omega
      · have e1 : (((bs l)[k].toNat : Int) == 47) = false := by
          rw [bs_get _ _ _ hlt, beq_eq_false_iff_ne]; intro e; apply hc; apply UInt8.toNat_inj.1; exact Int.ofNat.inj e
        rw [if_neg hc] at hl
        have HL : Hid (lst (l.take (k + 1)) = lst (l.take k)) := hl
        clear hl hs
        go_wp2_with fail
        go_round
        case rel => exact ⟨k + 1, by omega, by go_num, by rw [HL.out]⟩
        case measure => simp [intOf]; omega
    · obtain rfl : k = l.length := by omega
      rw [List.take_length]
      go_wp2_with fail
      go_ret
      exact ⟨rfl, rfl⟩


set_option maxRecDepth 100000 in
set_option maxHeartbeats 1000000 in
theorem rdir_any (l : List UInt8) (w : World) (hl : l.length < 9223372036854775807) :
    Calls Tryz.prog 48 #[.string (bs l)] w fun e w' => e = .returned (.string (bs (dir l))) ∧ w' = w := by
  have HL : Hid (l.length < 9223372036854775807) := hl
  clear hl
  have hz : (bs l).size = l.length := rfl
  have h2 := lst_lt l
  by_cases h : lst l < 0
  · have hd0 : dir l = [] := by simp [dir, h]
    rw [hd0]
    go_enter Tryz.func48, Tryz.ntmps48
    go_wp2_with fail
    refine (rlast_any _ _ HL.out).mono ?_
    rintro e w1 ⟨rfl, rfl⟩
    go_wp2_with fail
    go_ret
    exact ⟨rfl, rfl⟩
  · obtain ⟨n, hn⟩ : ∃ n : Nat, lst l = n := ⟨(lst l).toNat, by omega⟩
    have hd0 : dir l = l.take n := by unfold dir; rw [if_neg h, hn]; rfl
    rw [hd0]
    have HE : Hid ((bs l).extract 0 n = bs (l.take n)) := extract_to l n
    rw [hn] at h h2
    go_enter Tryz.func48, Tryz.ntmps48
    go_wp2_with fail
    refine (rlast_any _ _ HL.out).mono ?_
    rintro e w1 ⟨rfl, rfl⟩
    rw [hn]
    have h3 : n < l.length := by omega
    go_wp2_with fail
    go_ret
    exact ⟨by rw [← HE.out]; rfl, rfl⟩


set_option maxRecDepth 100000 in
set_option maxHeartbeats 1000000 in
theorem rbase_any (l : List UInt8) (w : World) (hl : l.length < 9223372036854775807) :
    Calls Tryz.prog 83 #[.string (bs l)] w fun e w' => e = .returned (.string (bs (base l))) ∧ w' = w := by
  have HL : Hid (l.length < 9223372036854775807) := hl
  have hz : (bs l).size = l.length := rfl
  have h2 := lst_lt l
  have h3 := lst_ge l
  obtain ⟨n, hn⟩ : ∃ n : Nat, lst l = (n : Int) - 1 := ⟨(lst l + 1).toNat, by omega⟩
  have hd0 : base l = l.drop n := by unfold base; congr 1; omega
  rw [hd0]
  have HE : Hid ((bs l).extract n l.length = bs (l.drop n)) := extract_from l n
  have hnl : n ≤ l.length := by omega
  clear h2 h3
  go_enter Tryz.func83, Tryz.ntmps83
  go_wp2_with fail
  refine (rlast_any _ _ HL.out).mono ?_
  rintro e w1 ⟨rfl, rfl⟩
  rw [hn]
  go_wp2_with fail
  go_ret
  exact ⟨by rw [← HE.out]; rfl, rfl⟩


set_option maxHeartbeats 1000000 in
set_option maxRecDepth 100000 in
theorem rjoin_any (a b : List UInt8) (w : World) (ha : a.length ≤ 2000000) (hb : b.length ≤ 2000000) :
    Calls Tryz.prog 133 #[.string (bs a), .string (bs b)] w fun e w' => e = .returned (.tuple #[.string (bs (jn a b).1), .int .i64 (jn a b).2]) ∧ Below w.heap.size w w' := by
  have e0 : (bs a).toList.isEmpty = a.isEmpty := isE a
  have e1 : (bs b).toList.isEmpty = b.isEmpty := isE b
  have z1 : (bs a).size = a.length := rfl
  have z2 : (bs b).size = b.length := rfl
  obtain ⟨j, hj⟩ : ∃ j, jn a b = j := ⟨_, rfl⟩
  rw [hj]
  have HJ : Hid (jn a b = j) := hj
  clear hj
  have HC : Hid (bs a ++ (ByteArray.mk #[47]) ++ bs b = bs (a ++ 47 :: b)) := by
    show _ = _
    rw [bs_add1, bs_add]; simp
  have HC2 : Hid (bs a ++ bs b = bs (a ++ b)) := bs_add a b
  go_enter Tryz.func133, Tryz.ntmps133
  go_wp2_with fail
  refine (rvalid_any _ _ (by omega)).mono ?_
  rintro e w1 ⟨rfl, hb1⟩
  have B1 : Hid (Below w.heap.size w w1) := hb1
  have hz1 := hb1.size
  clear hb1
  cases h1 : okP a
  · have hj := HJ.out
    have hj : ([], 7) = j := by rw [← hj]; simp [jn, h1]
    subst hj
    go_wp2_with fail
    go_ret2
    exact ⟨rfl, B1.out⟩
  go_wp2_with fail
  refine (rvalid_any _ _ (by omega)).mono ?_
  rintro e w2 ⟨rfl, hb2⟩
  have B2 : Hid (Below w.heap.size w w2) := below_trans B1.out (below_mono hb2 hz1)
  have hz2 := B2.out.size
  clear hb2
  cases h2 : okP b
  · have hj := HJ.out
    have hj : ([], 7) = j := by rw [← hj]; simp [jn, h2]
    subst hj
    go_wp2_with fail
    go_ret2
    exact ⟨rfl, B2.out⟩
  have hj := HJ.out
  have hj : (if a = [] then (b, (0 : Int)) else if b = [] then (a, 0) else if okP (a ++ 47 :: b) = true then (a ++ 47 :: b, 0) else ([], 7)) = j := by rw [← hj]; simp [jn, h1, h2]
  by_cases h3 : a = []
  · rw [if_pos h3] at hj
    subst hj
    subst h3
    go_wp2_with fail
    rw [show bs [] ++ bs b = bs b from HC2.out]
    refine (rvalid_any _ _ (by omega)).mono ?_
    rintro e w3 ⟨rfl, hb3⟩
    rw [h2]
    have B3 : Hid (Below w.heap.size w w3) := below_trans B2.out (below_mono hb3 hz2)
    clear hb3
    go_wp2_with fail
    go_ret2
    exact ⟨rfl, B3.out⟩
  rw [if_neg h3] at hj
  have i0 : a.isEmpty = false := by cases a; exact absurd rfl h3; rfl
  rw [i0] at e0
  by_cases h4 : b = []
  · rw [if_pos h4] at hj
    subst hj
    subst h4
    go_wp2_with fail
    rw [show bs a ++ bs [] = bs a from HC2.out.trans (by rw [List.append_nil])]
    refine (rvalid_any _ _ (by omega)).mono ?_
    rintro e w3 ⟨rfl, hb3⟩
    rw [h1]
    have B3 : Hid (Below w.heap.size w w3) := below_trans B2.out (below_mono hb3 hz2)
    clear hb3
    go_wp2_with fail
    go_ret2
    exact ⟨rfl, B3.out⟩
  rw [if_neg h4] at hj
  have i1 : b.isEmpty = false := by cases b; exact absurd rfl h4; rfl
  rw [i1] at e1
  go_wp2_with fail
  rw [HC.out]
  refine (rvalid_any _ _ (by simp; omega)).mono ?_
  rintro e w3 ⟨rfl, hb3⟩
  have B3 : Hid (Below w.heap.size w w3) := below_trans B2.out (below_mono hb3 hz2)
  clear hb3
  cases h5 : okP (a ++ 47 :: b)
  · rw [h5] at hj
    have hj : ([], (7 : Int)) = j := by rw [← hj]; rfl
    subst hj
    go_wp2_with fail
    go_ret2
    exact ⟨rfl, B3.out⟩
  · rw [h5] at hj
    have hj : (a ++ 47 :: b, (0 : Int)) = j := by rw [← hj]; rfl
    subst hj
    go_wp2_with fail
    go_ret2
    exact ⟨rfl, B3.out⟩

end Go.Proofs.YtddaoloabfkheaaGreatDoor
