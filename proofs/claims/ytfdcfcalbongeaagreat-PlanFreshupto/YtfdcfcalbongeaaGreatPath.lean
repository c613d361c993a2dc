import Derived.Test.YtfdcfcalbongeaaGreatJOrd
namespace Go.Proofs.YtfdcfcalbongeaaGreat
open Go.RowKit

set_option maxRecDepth 100000 in
set_option maxHeartbeats 1000000 in
theorem cmp_any (a b : List UInt8) (w : World) (ha : a.length ≤ 9223372036854775807) (hb : b.length ≤ 9223372036854775807) :
    Calls Tryz.prog 31 #[.string (bs a), .string (bs b)] w fun e w' => e = .returned (.int .i64 (cmpP (pcs a) (pcs b))) ∧ Laid w w' := by
  have HA : Hid (a.length ≤ 9223372036854775807 ∧ b.length ≤ 9223372036854775807) := ⟨ha, hb⟩
  clear ha hb
  go_enter Tryz.func31, Tryz.ntmps31
  go_wp2_with fail
  refine (meet_any _ _ _ HA.out.1 HA.out.2).mono ?_
  rintro e w1 ⟨rfl, hb1⟩
  have B1 : Hid (Laid w w1) := hb1
  clear hb1
  go_wp2_with fail
  go_ret
  exact ⟨rfl, B1.out⟩

set_option maxRecDepth 100000 in
set_option maxHeartbeats 1000000 in
theorem above_any (a b : List UInt8) (w : World) (ha : a.length ≤ 9223372036854775807) (hb : b.length ≤ 9223372036854775807) :
    Calls Tryz.prog 44 #[.string (bs a), .string (bs b)] w fun e w' => e = .returned (.bool (abvV a b)) ∧ Laid w w' := by
  have HA : Hid (a.length ≤ 9223372036854775807 ∧ b.length ≤ 9223372036854775807) := ⟨ha, hb⟩
  clear ha hb
  have hz : (bs a).size = a.length := rfl
  obtain ⟨r, hr⟩ : ∃ r, abvV a b = r := ⟨_, rfl⟩
  rw [hr]
  have HR : Hid (abvV a b = r) := hr
  clear hr
  go_enter Tryz.func44, Tryz.ntmps44
  go_wp2_with fail
  refine (meet_any _ _ _ HA.out.1 HA.out.2).mono ?_
  rintro e w1 ⟨rfl, hb1⟩
  have B1 : Hid (Laid w w1) := hb1
  clear hb1
  by_cases h1 : (cmn a b).length = a.length
  · have e1 : (((cmn a b).length : Int) == (a.length : Int)) = true := by rw [h1]; simp
    by_cases h2 : cmpP (pcs a) (pcs b) < 0
    · go_wp2_with fail
      go_ret
      exact ⟨by rw [← HR.out]; simp [abvV, h1, h2], B1.out⟩
    · go_wp2_with fail
      go_ret
      exact ⟨by rw [← HR.out]; simp [abvV, h1], B1.out⟩
  · have e1 : (((cmn a b).length : Int) == (a.length : Int)) = false := by rw [beq_eq_false_iff_ne]; omega
    go_wp2_with fail
    go_ret
    exact ⟨by rw [← HR.out]; simp [abvV, h1], B1.out⟩

theorem extract_to (l : List UInt8) (n : Nat) : (bs l).extract 0 n = bs (l.take n) := by rw [bs_extract]; simp
theorem extract_from (l : List UInt8) (n : Nat) : (bs l).extract n l.length = bs (l.drop n) := by
  rw [bs_extract]; congr 1; exact List.take_of_length_le (by simp)

set_option maxRecDepth 100000 in
set_option maxHeartbeats 1000000 in
theorem base_any (l : List UInt8) (w : World) (hl : l.length ≤ 9223372036854775807) :
    Calls Tryz.prog 90 #[.string (bs l)] w fun e w' => e = .returned (.string (bs (base l))) ∧ w' = w := by
  have HL : Hid (l.length ≤ 9223372036854775807) := hl
  have hz : (bs l).size = l.length := rfl
  have h2 := lst_lt l
  have h3 := lst_ge l
  obtain ⟨n, hn⟩ : ∃ n : Nat, lst l = (n : Int) - 1 := ⟨(lst l + 1).toNat, by omega⟩
  have hd0 : base l = l.drop n := by unfold base; congr 1; omega
  rw [hd0]
  have HE : Hid ((bs l).extract n l.length = bs (l.drop n)) := extract_from l n
  have hnl : n ≤ l.length := by omega
  clear h2 h3
  go_enter Tryz.func90, Tryz.ntmps90
  go_wp2_with fail
  refine (last_any _ _ HL.out).mono ?_
  rintro e w1 ⟨rfl, rfl⟩
  rw [hn]
  go_wp2_with fail
  go_ret
  exact ⟨by rw [← HE.out]; rfl, rfl⟩

set_option maxRecDepth 100000 in
set_option maxHeartbeats 1000000 in
theorem depth_any (l : List UInt8) (w : World) (hl : l.length < 9223372036854775807) :
    Calls Tryz.prog 73 #[.string (bs l)] w fun e w' => e = .returned (.int .i64 (dep l : Nat)) ∧ w' = w := by
  have he := isE l
  by_cases h : l = []
  · subst h
    have hd0 : dep [] = 0 := rfl
    rw [hd0]
    go_enter Tryz.func73, Tryz.ntmps73
    go_wp2_with fail
    go_ret
    exact ⟨rfl, rfl⟩
  · have hd0 : dep l = l.count 47 + 1 := by simp [dep, h]
    have hle := dep_le l
    rw [hd0] at hle
    have hi : l.isEmpty = false := by cases l; exact absurd rfl h; rfl
    rw [hi] at he
    obtain ⟨n, hn⟩ : ∃ n, l.count 47 = n := ⟨_, rfl⟩
    rw [hd0]
    rw [hn] at hle ⊢
    go_enter Tryz.func73, Tryz.ntmps73
    go_wp2_with fail
    refine (count_any _ _).mono ?_
    rintro e w1 ⟨rfl, rfl⟩
    rw [hn]
    go_wp2_with fail
    go_ret
    exact ⟨rfl, rfl⟩

set_option maxRecDepth 100000 in
set_option maxHeartbeats 1000000 in
theorem allowed_any (c : UInt8) (w : World) :
    Calls Tryz.prog 89 #[.int .u8 c.toNat] w fun e w' => e = .returned (.bool (okB c)) ∧ w' = w := by
  obtain ⟨r, hr⟩ : ∃ r, okB c = r := ⟨_, rfl⟩
  rw [hr]
  have HR : Hid (okB c = r) := hr
  clear hr
  obtain ⟨n, hn⟩ : ∃ n, c.toNat = n := ⟨_, rfl⟩
  rw [hn]
  have HR2 : Hid (((97 ≤ n && n ≤ 122) || (65 ≤ n && n ≤ 90) || (48 ≤ n && n ≤ 57) || n == 46 || n == 95 || n == 45) = r) := by rw [← hn]; exact HR.out
  clear HR hn
  by_cases h1 : 97 ≤ n ∧ n ≤ 122
  · obtain ⟨h1, h2⟩ := h1
    go_enter Tryz.func89, Tryz.ntmps89
    go_wp2_with fail
    go_ret
    exact ⟨by rw [← HR2.out]; simp [h1, h2], rfl⟩
  · by_cases h2 : 65 ≤ n ∧ n ≤ 90
    · obtain ⟨h2, h3⟩ := h2
      have h4 : ¬ 97 ≤ n := by omega
      clear h1
      go_enter Tryz.func89, Tryz.ntmps89
      go_wp2_with fail
      go_ret
      exact ⟨by rw [← HR2.out]; simp [h2, h3], rfl⟩
    · by_cases h3 : 48 ≤ n ∧ n ≤ 57
      · obtain ⟨h3, h4⟩ := h3
        have h5 : ¬ 97 ≤ n := by omega
        have h6 : ¬ 65 ≤ n := by omega
        clear h1 h2
        go_enter Tryz.func89, Tryz.ntmps89
        go_wp2_with fail
        go_ret
        exact ⟨by rw [← HR2.out]; simp [h3, h4], rfl⟩
      · by_cases q1 : n = 46
        · subst q1
          clear h1 h2 h3
          go_enter Tryz.func89, Tryz.ntmps89
          go_wp2_with fail
          go_ret
          exact ⟨by rw [← HR2.out]; rfl, rfl⟩
        by_cases q2 : n = 95
        · subst q2
          clear h1 h2 h3
          go_enter Tryz.func89, Tryz.ntmps89
          go_wp2_with fail
          go_ret
          exact ⟨by rw [← HR2.out]; rfl, rfl⟩
        by_cases q3 : n = 45
        · subst q3
          clear h1 h2 h3
          go_enter Tryz.func89, Tryz.ntmps89
          go_wp2_with fail
          go_ret
          exact ⟨by rw [← HR2.out]; rfl, rfl⟩
        have z : r = false := by
          rw [← HR2.out]
          simp only [Bool.or_eq_false_iff, Bool.and_eq_false_iff, decide_eq_false_iff_not, beq_eq_false_iff_ne]
          omega
        subst z
        have e1 : (((n : Int)) == 46) = false := by rw [beq_eq_false_iff_ne]; omega
        have e2 : (((n : Int)) == 95) = false := by rw [beq_eq_false_iff_ne]; omega
        have e3 : (((n : Int)) == 45) = false := by rw [beq_eq_false_iff_ne]; omega
        by_cases p1 : 97 ≤ n
        · have p2 : ¬ n ≤ 122 := by omega
          have p3 : 65 ≤ n := by omega
          have p4 : ¬ n ≤ 90 := by omega
          have p5 : 48 ≤ n := by omega
          have p6 : ¬ n ≤ 57 := by omega
          clear h1 h2 h3
          go_enter Tryz.func89, Tryz.ntmps89
          go_wp2_with fail
          go_ret
          exact ⟨rfl, rfl⟩
        by_cases p3 : 65 ≤ n
        · have p4 : ¬ n ≤ 90 := by omega
          have p5 : 48 ≤ n := by omega
          have p6 : ¬ n ≤ 57 := by omega
          clear h1 h2 h3
          go_enter Tryz.func89, Tryz.ntmps89
          go_wp2_with fail
          go_ret
          exact ⟨rfl, rfl⟩
        by_cases p5 : 48 ≤ n
        · have p6 : ¬ n ≤ 57 := by omega
          clear h1 h2 h3
          go_enter Tryz.func89, Tryz.ntmps89
          go_wp2_with fail
          go_ret
          exact ⟨rfl, rfl⟩
        · clear h1 h2 h3
          go_enter Tryz.func89, Tryz.ntmps89
          go_wp2_with fail
          go_ret
          exact ⟨rfl, rfl⟩

theorem all_take_succ (l : List UInt8) (k : Nat) (h : k < l.length) : (l.drop k).all okB = (okB (l[k]'h) && (l.drop (k + 1)).all okB) := by
  rw [List.drop_eq_getElem_cons h]; rfl

set_option maxHeartbeats 1000000 in
set_option maxRecDepth 100000 in
theorem component_any (l : List UInt8) (w : World) (hm : l.length ≤ 9223372036854775807) :
    Calls Tryz.prog 74 #[.string (bs l)] w fun e w' => e = .returned (.bool (okC l)) ∧ w' = w := by
  have hz : (bs l).size = l.length := rfl
  have e0 : (bs l).toList.isEmpty = l.isEmpty := isE l
  have c1 : (ByteArray.mk #[46]).toList = [46] := ByteArray.toList_mk [46]
  have c2 : (ByteArray.mk #[46, 46]).toList = [46, 46] := ByteArray.toList_mk [46, 46]
  have c3 : (ByteArray.mk #[46, 46, 46]).toList = [46, 46, 46] := ByteArray.toList_mk [46, 46, 46]
  by_cases h0 : l = []
  · subst h0
    have h : okC [] = false := by decide
    rw [h]
    clear c1 c2 c3
    go_enter Tryz.func74, Tryz.ntmps74
    go_wp2_with fail
    go_ret
    exact ⟨rfl, rfl⟩
  have i0 : l.isEmpty = false := by cases l; exact absurd rfl h0; rfl
  rw [i0] at e0
  by_cases h1 : l = [46]
  · subst h1
    have h : okC [46] = false := by decide
    rw [h]
    have e1 : ((bs [46]).toList == [46]) = true := by rw [bs_toList]; rfl
    go_enter Tryz.func74, Tryz.ntmps74
    go_wp2_with fail
    go_ret
    exact ⟨rfl, rfl⟩
  have e1 : ((bs l).toList == [46]) = false := by rw [bs_toList, beq_eq_false_iff_ne]; exact h1
  by_cases h2 : l = [46, 46]
  · subst h2
    have h : okC [46, 46] = false := by decide
    rw [h]
    have e2 : ((bs [46, 46]).toList == [46, 46]) = true := by rw [bs_toList]; rfl
    go_enter Tryz.func74, Tryz.ntmps74
    go_wp2_with fail
    go_ret
    exact ⟨rfl, rfl⟩
  have e2 : ((bs l).toList == [46, 46]) = false := by rw [bs_toList, beq_eq_false_iff_ne]; exact h2
  by_cases h3 : l = [46, 46, 46]
  · subst h3
    have h : okC [46, 46, 46] = false := by decide
    rw [h]
    have e3 : ((bs [46, 46, 46]).toList == [46, 46, 46]) = true := by rw [bs_toList]; rfl
    go_enter Tryz.func74, Tryz.ntmps74
    go_wp2_with fail
    go_ret
    exact ⟨rfl, rfl⟩
  have e3 : ((bs l).toList == [46, 46, 46]) = false := by rw [bs_toList, beq_eq_false_iff_ne]; exact h3
  have hok : okC l = (decide (l.length ≤ 32) && l.all okB) := by
    unfold okC
    rw [show (l == []) = false from by rw [beq_eq_false_iff_ne]; exact h0, show (l == [46]) = false from by rw [beq_eq_false_iff_ne]; exact h1, show (l == [46, 46]) = false from by rw [beq_eq_false_iff_ne]; exact h2, show (l == [46, 46, 46]) = false from by rw [beq_eq_false_iff_ne]; exact h3]
    simp
  rw [hok]
  clear hok h0 h1 h2 h3 i0
  by_cases h4 : 32 < l.length
  · have : decide (l.length ≤ 32) = false := by simpa using h4
    rw [this]
    go_enter Tryz.func74, Tryz.ntmps74
    go_wp2_with fail
    go_ret
    exact ⟨rfl, rfl⟩
  have : decide (l.length ≤ 32) = true := by simpa using Nat.le_of_not_lt h4
  rw [this, Bool.true_and]
  obtain ⟨r, hr⟩ : ∃ r, l.all okB = r := ⟨_, rfl⟩
  rw [hr]
  have HR : Hid ((l.drop 0).all okB = r) := hr
  clear hr this
  go_enter Tryz.func74, Tryz.ntmps74
  go_wp2_with fail
  go_loop [15] (fun i => ∃ k : Nat, k ≤ l.length ∧ i = .int .i64 k ∧ (l.drop k).all okB = r) (fun i => l.length - (intOf i).toNat)
  case atStart => exact ⟨0, Nat.zero_le _, rfl, HR.out⟩
  case round =>
    obtain ⟨k, hk, rfl, ha⟩ := hrel
    have HA : Hid ((l.drop k).all okB = r) := ha
    clear ha
    by_cases hlt : k < l.length
    · have HB : Hid ((okB (l[k]'hlt) && (l.drop (k + 1)).all okB) = r) := by have := HA.out; rw [all_take_succ l k hlt] at this; exact this
      have hkz : k < (bs l).size := hlt
      go_wp2_with fail
      refine (allowed_any (l[k]'hlt) _).mono ?_
      rintro e w1 ⟨rfl, rfl⟩
      have hb := HB.out
      cases ho : okB (l[k]'hlt)
      · rw [ho] at hb
        have hb : false = r := hb
        subst hb
        go_wp2_with fail
        go_ret
        exact ⟨rfl, rfl⟩
      · rw [ho] at hb
        have HB2 : Hid ((l.drop (k + 1)).all okB = r) := hb
        clear hb
        go_wp2_with fail
        go_round
        case rel => exact ⟨k + 1, by omega, by go_num, HB2.out⟩
        case measure => simp [intOf]; omega
    · obtain rfl : k = l.length := by omega
      have hb := HA.out
      rw [List.drop_length] at hb
      have hb : true = r := hb
      subst hb
      go_wp2_with fail
      go_ret
      exact ⟨rfl, rfl⟩

theorem okC_le {l : List UInt8} (h : okC l = true) : l.length ≤ 32 := by
  unfold okC at h
  simp only [Bool.and_eq_true, decide_eq_true_eq] at h
  exact h.1.2

set_option maxHeartbeats 1000000 in
set_option maxRecDepth 100000 in
theorem valid_any (l : List UInt8) (w : World) (hm : l.length < 9223372036854775807) :
    Calls Tryz.prog 55 #[.string (bs l)] w fun e w' => e = .returned (.bool (okP l)) ∧ Below w.heap.size w w' := by
  have hz : (bs l).size = l.length := rfl
  by_cases h1 : 120 < l.length
  · have : okP l = false := by
      unfold okP; rw [show decide (l.length ≤ 120) = false from by simpa using h1]; rfl
    rw [this]
    go_enter Tryz.func55, Tryz.ntmps55
    go_wp2_with fail
    go_ret
    exact ⟨rfl, Below.refl _ _⟩
  have g1 : decide (l.length ≤ 120) = true := by simpa using Nat.le_of_not_lt h1
  by_cases h2 : 12 < dep l
  · have : okP l = false := by
      unfold okP; rw [show decide (dep l ≤ 12) = false from by simpa using h2, g1]; rfl
    rw [this]
    clear g1
    go_enter Tryz.func55, Tryz.ntmps55
    go_wp2_with fail
    refine (depth_any _ _ hm).mono ?_
    rintro e w1 ⟨rfl, rfl⟩
    go_wp2_with fail
    go_ret
    exact ⟨rfl, Below.refl _ _⟩
  have hok : okP l = (left l (!l.isEmpty)).all okC := by
    unfold okP; rw [g1, show decide (dep l ≤ 12) = true from by simpa using Nat.le_of_not_lt h2, left_start]; rfl
  rw [hok]
  obtain ⟨r, hr⟩ : ∃ r, (left l (!l.isEmpty)).all okC = r := ⟨_, rfl⟩
  rw [hr]
  have HR : Hid ((left l (!l.isEmpty)).all okC = r) := hr
  obtain ⟨ma, hma⟩ : ∃ m, (!l.isEmpty) = m := ⟨_, rfl⟩
  rw [hma] at HR
  have HM : Hid (l.length < 9223372036854775807) := hm
  clear hr hok g1
  go_enter Tryz.func55, Tryz.ntmps55
  go_wp2_with fail
  refine (depth_any _ _ HM.out).mono ?_
  rintro e w1 ⟨rfl, rfl⟩
  go_wp2_with fail
  refine (begin_any _ _).mono ?_
  rintro e w2 ⟨rfl, hb2⟩
  rw [hma]
  replace hb2 := hb2.below
  have hz2 := hb2.size
  have B2 : Hid (Below w1.heap.size w1 w2) := hb2
  clear hb2
  go_wp2_with fail
  have K0 : Hid (WK (w2.alloc (.cells #[.string (bs l), .bool ma] 93)) w2.heap.size l ma ∧ Below w1.heap.size w1 (w2.alloc (.cells #[.string (bs l), .bool ma] 93))) := ⟨WK.new _ _ _ _, B2.out.alloc hz2 _⟩
  go_loopg [3] (left l ma).length (fun g p wr => ∃ (gp : Nat) (t : List UInt8) (m : Bool), p = .pointer (some ⟨gp, 0, none⟩) ∧ w1.heap.size ≤ gp ∧ WK wr gp t m ∧ Below w1.heap.size w1 wr ∧ (left t m).all okC = r ∧ t.length ≤ l.length ∧ (left t m).length ≤ g)
  case atStart => exact ⟨_, l, ma, rfl, hz2, K0.out.1, K0.out.2, HR.out, Nat.le_refl _, Nat.le_refl _⟩
  case round =>
    obtain ⟨gp, t, m, rfl, hgp, k, hbw, hall, htl, hg⟩ := hrel
    have HX : Hid (WK wr gp t m) := k
    have HB : Hid (Below w1.heap.size w1 wr) := hbw
    have HA : Hid ((left t m).all okC = r) := hall
    have HG : Hid ((left t m).length ≤ gk) := hg
    have HT : Hid (t.length ≤ l.length) := htl
    obtain ⟨_, x1, _, _, xlt⟩ := k
    clear hbw hall hg htl
    cases m
    · have ha := HA.out
      have ha : true = r := ha
      subst ha
      go_wp2_with fail
      go_ret
      exact ⟨rfl, HB.out⟩
    · go_wp2_with fail
      refine (next_any HX.out (by have := HT.out; have := HM.out; omega)).mono ?_
      rintro e w3 ⟨rfl, k3, o3⟩
      have HX3 : Hid (WK w3 gp (tl t) (sl t)) := k3
      have HB3 : Hid (Below w1.heap.size w1 w3) := below_trans HB.out (o3.1.below (by have := HB.out.size; omega) (by simp; omega))
      have hz3 := HB3.out.size
      obtain ⟨y0, y1, _, _, _⟩ := k3
      clear o3 x1
      go_wp2_with fail
      refine (component_any _ _ (by have := hd_le t; have := HT.out; have := HM.out; omega)).mono ?_
      rintro e w4 ⟨rfl, rfl⟩
      have ha := HA.out
      rw [left_next, List.all_cons] at ha
      have hg := HG.out
      rw [left_next] at hg
      cases hc : okC (hd t)
      · rw [hc] at ha
        have ha : false = r := ha
        subst ha
        go_wp2_with fail
        go_ret
        exact ⟨rfl, HB3.out⟩
      · rw [hc] at ha
        have HA4 : Hid ((left (tl t) (sl t)).all okC = r) := ha
        have HG4 : Hid ((left (tl t) (sl t)).length < gk) := by simp at hg; exact hg
        clear ha hg
        go_wp2_with fail
        go_roundg (left (tl t) (sl t)).length
        case measure => exact HG4.out
        case rel => exact ⟨_, tl t, sl t, rfl, hz3, WK.new _ _ _ _, HB3.out.alloc hz3 _, HA4.out, by have := tl_le t; have := HT.out; omega, Nat.le_refl _⟩

end Go.Proofs.YtfdcfcalbongeaaGreat
