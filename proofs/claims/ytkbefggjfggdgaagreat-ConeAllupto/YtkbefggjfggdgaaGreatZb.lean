/-
  The document's components of layer 13.
-/
import Derived.Test.YtkbefggjfggdgaaGreatZa
namespace Go.Proofs.YtkbefggjfggdgaaGreat
open Go.RowKit

set_option maxHeartbeats 4000000 in
set_option maxRecDepth 100000 in
theorem rcomp13_any (l : List UInt8) (w : World) (hm : l.length < 9223372036854775807) :
    Calls Tryz.prog 74 #[.string (bs l)] w fun e w' => e = .returned (.bool (okC l)) ∧ w' = w := by
  have hz : (bs l).size = l.length := rfl
  have c1 : (ByteArray.mk #[46]).toList = [46] := ByteArray.toList_mk [46]
  have c2 : (ByteArray.mk #[46, 46]).toList = [46, 46] := ByteArray.toList_mk [46, 46]
  have c3 : (ByteArray.mk #[46, 46, 46]).toList = [46, 46, 46] := ByteArray.toList_mk [46, 46, 46]
  by_cases h0 : l.length < 1
  · have h : okC l = false := by
      have : l = [] := List.eq_nil_of_length_eq_zero (by omega)
      subst this; decide
    rw [h]
    have g1 : ¬ 32 < l.length := by omega
    clear c1 c2 c3
    go_enter Tryz.func74, Tryz.ntmps74
    go_wp2_with fail
    go_ret
    exact ⟨rfl, rfl⟩
  by_cases h4 : 32 < l.length
  · have h : okC l = false := by
      unfold okC; rw [show decide (l.length ≤ 32) = false from by simpa using h4]; simp
    rw [h]
    clear c1 c2 c3
    go_enter Tryz.func74, Tryz.ntmps74
    go_wp2_with fail
    go_ret
    exact ⟨rfl, rfl⟩
  by_cases h1 : l = [46]
  · subst h1
    have h : okC [46] = false := by decide
    rw [h]
    have hz1 : (bs [46]).size = 1 := rfl
    have e1 : ((bs [46]).toList == [46]) = true := by rw [bs_toList]; rfl
    clear h0 h4 hz
    go_enter Tryz.func74, Tryz.ntmps74
    go_wp2_with fail
    go_ret
    exact ⟨rfl, rfl⟩
  have e1 : ((bs l).toList == [46]) = false := by rw [bs_toList, beq_eq_false_iff_ne]; exact h1
  by_cases h2 : l = [46, 46]
  · subst h2
    have h : okC [46, 46] = false := by decide
    rw [h]
    have hz1 : (bs [46, 46]).size = 2 := rfl
    have e2 : ((bs [46, 46]).toList == [46, 46]) = true := by rw [bs_toList]; rfl
    clear h0 h4 hz
    go_enter Tryz.func74, Tryz.ntmps74
    go_wp2_with fail
    go_ret
    exact ⟨rfl, rfl⟩
  have e2 : ((bs l).toList == [46, 46]) = false := by rw [bs_toList, beq_eq_false_iff_ne]; exact h2
  by_cases h3 : l = [46, 46, 46]
  · subst h3
    have h : okC [46, 46, 46] = false := by decide
    rw [h]
    have hz1 : (bs [46, 46, 46]).size = 3 := rfl
    have e3 : ((bs [46, 46, 46]).toList == [46, 46, 46]) = true := by rw [bs_toList]; rfl
    clear h0 h4 hz
    go_enter Tryz.func74, Tryz.ntmps74
    go_wp2_with fail
    go_ret
    exact ⟨rfl, rfl⟩
  have e3 : ((bs l).toList == [46, 46, 46]) = false := by rw [bs_toList, beq_eq_false_iff_ne]; exact h3
  have hok : okC l = l.all okB := by
    unfold okC
    rw [show (l == []) = false from by rw [beq_eq_false_iff_ne]; rintro rfl; simp at h0, show (l == [46]) = false from by rw [beq_eq_false_iff_ne]; exact h1, show (l == [46, 46]) = false from by rw [beq_eq_false_iff_ne]; exact h2, show (l == [46, 46, 46]) = false from by rw [beq_eq_false_iff_ne]; exact h3, show decide (l.length ≤ 32) = true from by simpa using Nat.le_of_not_lt h4]
    simp
  rw [hok]
  obtain ⟨r, hr⟩ : ∃ r, l.all okB = r := ⟨_, rfl⟩
  rw [hr]
  have HR : Hid ((l.drop 0).all okB = r) := hr
  clear hr hok h1 h2 h3
  go_enter Tryz.func74, Tryz.ntmps74
  go_wp2_with fail
  go_loopw [3] (fun i wr => ∃ k : Nat, k ≤ l.length ∧ i = .int .i64 k ∧ (l.drop k).all okB = r ∧ w = wr) (fun i _ => l.length - (intOf i).toNat)
  case atStart => exact ⟨0, Nat.zero_le _, rfl, HR.out, rfl⟩
  case round =>
    obtain ⟨k, hk, rfl, ha, rfl⟩ := hrel
    have HA : Hid ((l.drop k).all okB = r) := ha
    clear ha
    by_cases hlt : k < l.length
    · have HB : Hid ((okB (l[k]'hlt) && (l.drop (k + 1)).all okB) = r) := by have := HA.out; rw [all_take_succ l k hlt] at this; exact this
      have hkz : k < (bs l).size := hlt
      have hgk : (bs l)[k].toNat = (l[k]'hlt).toNat := by rw [bs_get _ _ _ hlt]
      obtain ⟨ch, hch⟩ : ∃ ch, l[k]'hlt = ch := ⟨_, rfl⟩
      rw [hch] at HB hgk
      go_upto_region 7 with fail
      try rw [hgk]
      obtain ⟨rb, hrb⟩ : ∃ rb, okB ch = rb := ⟨_, rfl⟩
      rw [hrb] at HB
      obtain ⟨n, hn⟩ : ∃ n, ch.toNat = n := ⟨_, rfl⟩
      have HR2 : Hid (((97 ≤ n && n ≤ 122) || (65 ≤ n && n ≤ 90) || (48 ≤ n && n ≤ 57) || n == 46 || n == 95 || n == 45) = rb) := by rw [← hn]; exact hrb
      rw [hn]
      clear hgk hn hrb hch
      go_cut [5] (fun c wx => c = .bool rb ∧ w = wx)
      case first =>
        by_cases h1 : 97 ≤ n ∧ n ≤ 122
        · obtain ⟨h1, h2⟩ := h1
          go_wp2_with fail
          go_meet
          exact ⟨by rw [← HR2.out]; simp [h1, h2], rfl⟩
        · by_cases h2 : 65 ≤ n ∧ n ≤ 90
          · obtain ⟨h2, h3⟩ := h2
            have h4 : ¬ 97 ≤ n := by omega
            clear h1
            go_wp2_with fail
            go_meet
            exact ⟨by rw [← HR2.out]; simp [h2, h3], rfl⟩
          · by_cases h3 : 48 ≤ n ∧ n ≤ 57
            · obtain ⟨h3, h4⟩ := h3
              have h5 : ¬ 97 ≤ n := by omega
              have h6 : ¬ 65 ≤ n := by omega
              clear h1 h2
              go_wp2_with fail
              go_meet
              exact ⟨by rw [← HR2.out]; simp [h3, h4], rfl⟩
            · by_cases q1 : n = 46
              · subst q1
                clear h1 h2 h3
                go_wp2_with fail
                go_meet
                exact ⟨by rw [← HR2.out]; rfl, rfl⟩
              by_cases q2 : n = 95
              · subst q2
                clear h1 h2 h3
                go_wp2_with fail
                go_meet
                exact ⟨by rw [← HR2.out]; rfl, rfl⟩
              by_cases q3 : n = 45
              · subst q3
                clear h1 h2 h3
                go_wp2_with fail
                go_meet
                exact ⟨by rw [← HR2.out]; rfl, rfl⟩
              have z : rb = false := by
                rw [← HR2.out]
                simp only [Bool.or_eq_false_iff, Bool.and_eq_false_iff, decide_eq_false_iff_not, beq_eq_false_iff_ne]
                omega
              subst z
              have e1 : (((n : Int)) == 46) = false := by rw [beq_eq_false_iff_ne]; omega
              have e2 : (((n : Int)) == 95) = false := by rw [beq_eq_false_iff_ne]; omega
              have e3 : (((n : Int)) == 45) = false := by rw [beq_eq_false_iff_ne]; omega
              by_cases p1 : 97 ≤ n
              · have p2 : ¬ n ≤ 122 := by omega
                have p3 : 65 ≤ n := by omega
                have p4 : ¬ n ≤ 90 := by omega
                have p5 : 48 ≤ n := by omega
                have p6 : ¬ n ≤ 57 := by omega
                clear h1 h2 h3
                go_wp2_with fail
                go_meet
                exact ⟨by simp; omega, rfl⟩
              by_cases p3 : 65 ≤ n
              · have p4 : ¬ n ≤ 90 := by omega
                have p5 : 48 ≤ n := by omega
                have p6 : ¬ n ≤ 57 := by omega
                clear h1 h2 h3
                go_wp2_with fail
                go_meet
                exact ⟨by simp; omega, rfl⟩
              by_cases p5 : 48 ≤ n
              · have p6 : ¬ n ≤ 57 := by omega
                clear h1 h2 h3
                go_wp2_with fail
                go_meet
                exact ⟨by simp; omega, rfl⟩
              · clear h1 h2 h3
                go_wp2_with fail
                go_meet
                exact ⟨rfl, rfl⟩
      case rest =>
        obtain ⟨rfl, rfl⟩ := hcut
        cases rb with
        | false =>
          have hb : false = r := HB.out
          subst hb
          go_wp2_with fail
          go_ret
          exact ⟨rfl, rfl⟩
        | true =>
          have HB2 : Hid ((l.drop (k + 1)).all okB = r) := HB.out
          go_wp2_with fail
          go_roundw
          case rel => exact ⟨k + 1, by omega, by go_num, HB2.out, trivial⟩
          case measure => simp [intOf]; omega
    · obtain rfl : k = l.length := by omega
      have hb := HA.out
      rw [List.drop_length] at hb
      have hb : true = r := hb
      subst hb
      go_wp2_with fail
      go_ret
      exact ⟨rfl, rfl⟩
set_option maxHeartbeats 1000000 in
set_option maxRecDepth 100000 in
theorem rispath_any (l : List UInt8) (w : World) (hm : l.length ≤ 1000000000) :
    Calls Tryz.prog 49 #[.string (bs l)] w fun e w' => e = .returned (.bool (okP l)) ∧ Below w.heap.size w w' := by
  have hz : (bs l).size = l.length := rfl
  have HM : Hid (∀ p ∈ pcs l, p.length ≤ l.length) := pcs_mem_le l
  have hdl := dep_le l
  have hde := dep_eq l
  obtain ⟨L, hL⟩ : ∃ L, pcs l = L := ⟨_, rfl⟩
  obtain ⟨r, hr⟩ : ∃ r, okP l = r := ⟨_, rfl⟩
  rw [hr]
  have HR : Hid ((decide (l.length ≤ 120) && decide (dep l ≤ 12) && L.all okC) = r) := by rw [← hL]; exact hr
  rw [hL] at HM hde
  rw [← hde] at HR hdl
  clear hr hde
  go_enter Tryz.func49, Tryz.ntmps49
  go_wp2_with fail
  refine (rpieces_any _ _ hm).mono ?_
  rintro e w1 ⟨v, rfl, ho, hb⟩
  rw [hL] at ho
  have B1 : Hid (Below w.heap.size w w1) := hb
  obtain ⟨a, c, rfl, hcell⟩ := ho.bs.form
  have HC : Hid (∀ k, (hk : k < L.length) → ∃ b off, a = some ⟨b, off, none⟩ ∧ b < w1.heap.size ∧ w1.cell? ⟨b, off + k, none⟩ = some (.string (bs L[k]))) := hcell
  clear ho hb hcell hL
  by_cases h2 : 12 < L.length
  · have hr := HR.out
    rw [show decide (L.length ≤ 12) = false from by simpa using h2] at hr
    have hr : false = r := by rw [← hr]; simp
    subst hr
    go_wp2_with fail
    go_ret
    exact ⟨rfl, B1.out⟩
  by_cases h1 : 120 < l.length
  · have hr := HR.out
    rw [show decide (l.length ≤ 120) = false from by simpa using h1] at hr
    have hr : false = r := by rw [← hr]; simp
    subst hr
    go_wp2_with fail
    go_ret
    exact ⟨rfl, B1.out⟩
  have hr := HR.out
  rw [show decide (l.length ≤ 120) = true from by simpa using Nat.le_of_not_lt h1, show decide (L.length ≤ 12) = true from by simpa using Nat.le_of_not_lt h2] at hr
  have HR2 : Hid ((L.drop 0).all okC = r) := hr
  clear hr
  go_wp2_with fail
  go_loop [4] (fun i => ∃ k : Nat, k ≤ L.length ∧ i = .int .i64 k ∧ (L.drop k).all okC = r) (fun i => L.length - (intOf i).toNat)
  case atStart => exact ⟨0, Nat.zero_le _, rfl, HR2.out⟩
  case round =>
    obtain ⟨k, hk, rfl, ha⟩ := hrel
    have HA : Hid ((L.drop k).all okC = r) := ha
    clear ha
    by_cases hlt : k < L.length
    · have HB : Hid ((okC (L[k]'hlt) && (L.drop (k + 1)).all okC) = r) := by have := HA.out; rw [all_drop_succ L k hlt] at this; exact this
      obtain ⟨g, off, rfl, hg, hc⟩ := HC.out k hlt
      have hpl := HM.out (L[k]'hlt) (List.getElem_mem _)
      go_wp2_with fail
      refine (rcomp13_any (L[k]'hlt) _ (by omega)).mono ?_
      rintro e w2 ⟨rfl, rfl⟩
      have hb := HB.out
      cases ho : okC (L[k]'hlt)
      · rw [ho] at hb
        have hb : false = r := hb
        subst hb
        go_wp2_with fail
        go_ret
        exact ⟨rfl, B1.out⟩
      · rw [ho] at hb
        have HB2 : Hid ((L.drop (k + 1)).all okC = r) := hb
        clear hb
        go_wp2_with fail
        go_round
        case rel => exact ⟨k + 1, by omega, by go_num, HB2.out⟩
        case measure => simp [intOf]; omega
    · obtain rfl : k = L.length := by omega
      have hb := HA.out
      rw [List.drop_length] at hb
      have hb : true = r := hb
      subst hb
      go_wp2_with fail
      go_ret
      exact ⟨rfl, B1.out⟩
end Go.Proofs.YtkbefggjfggdgaaGreat
