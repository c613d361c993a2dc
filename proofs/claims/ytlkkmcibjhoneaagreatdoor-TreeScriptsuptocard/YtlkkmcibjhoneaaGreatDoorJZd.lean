/-
  The document's components of layer 13.
  The document's order of paths of layer 13.
  The document's last component, and what is above, of layer 13.
-/
import Derived.Test.YtlkkmcibjhoneaaGreatDoorJZa
import Derived.Test.YtlkkmcibjhoneaaGreatDoorJFq
import Derived.Test.YtlkkmcibjhoneaaGreatDoorJFil
import Derived.Deep.RegionHeld3
import Derived.BigQuiet
namespace Go.Proofs.YtlkkmcibjhoneaaGreatDoor
open Go.RowKit

set_option maxHeartbeats 4000000 in
set_option maxRecDepth 100000 in
theorem rcomp13_any (l : List UInt8) (w : World) (hm : l.length < 9223372036854775807) :
    Calls Tryz.prog 118 #[.string (bs l)] w fun e w' => e = .returned (.bool (okC l)) ∧ w' = w := by
  have hz : (bs l).size = l.length := rfl
  have c1 : (ByteArray.mk #[46]).toList = [46] := ByteArray.toList_mk [46]
  have c2 : (ByteArray.mk #[46, 46]).toList = [46, 46] := ByteArray.toList_mk [46, 46]
  have c3 : (ByteArray.mk #[46, 46, 46]).toList = [46, 46, 46] := ByteArray.toList_mk [46, 46, 46]
  by_cases h0 : l.length < 1
  · have h : okC l = false := by
      have : l = [] := List.eq_nil_of_length_eq_zero (by omega)
      subst this; decide
    rw [h]
    have g1 : ¬ 32 < l.length := by omega
    clear c1 c2 c3
    go_enter Tryz.func118, Tryz.ntmps118
    go_wp2_with fail
    go_ret
    exact ⟨rfl, rfl⟩
  by_cases h4 : 32 < l.length
  · have h : okC l = false := by
      unfold okC; rw [show decide (l.length ≤ 32) = false from by simpa using h4]; simp
    rw [h]
    clear c1 c2 c3
    go_enter Tryz.func118, Tryz.ntmps118
    go_wp2_with fail
    go_ret
    exact ⟨rfl, rfl⟩
  by_cases h1 : l = [46]
  · subst h1
    have h : okC [46] = false := by decide
    rw [h]
    have hz1 : (bs [46]).size = 1 := rfl
    have e1 : ((bs [46]).toList == [46]) = true := by rw [bs_toList]; rfl
    clear h0 h4 hz
    go_enter Tryz.func118, Tryz.ntmps118
    go_wp2_with fail
    go_ret
    exact ⟨rfl, rfl⟩
  have e1 : ((bs l).toList == [46]) = false := by rw [bs_toList, beq_eq_false_iff_ne]; exact h1
  by_cases h2 : l = [46, 46]
  · subst h2
    have h : okC [46, 46] = false := by decide
    rw [h]
    have hz1 : (bs [46, 46]).size = 2 := rfl
    have e2 : ((bs [46, 46]).toList == [46, 46]) = true := by rw [bs_toList]; rfl
    clear h0 h4 hz
    go_enter Tryz.func118, Tryz.ntmps118
    go_wp2_with fail
    go_ret
    exact ⟨rfl, rfl⟩
  have e2 : ((bs l).toList == [46, 46]) = false := by rw [bs_toList, beq_eq_false_iff_ne]; exact h2
  by_cases h3 : l = [46, 46, 46]
  · subst h3
    have h : okC [46, 46, 46] = false := by decide
    rw [h]
    have hz1 : (bs [46, 46, 46]).size = 3 := rfl
    have e3 : ((bs [46, 46, 46]).toList == [46, 46, 46]) = true := by rw [bs_toList]; rfl
    clear h0 h4 hz
    go_enter Tryz.func118, Tryz.ntmps118
    go_wp2_with fail
    go_ret
    exact ⟨rfl, rfl⟩
  have e3 : ((bs l).toList == [46, 46, 46]) = false := by rw [bs_toList, beq_eq_false_iff_ne]; exact h3
  have hok : okC l = l.all okB := by
    unfold okC
    rw [show (l == []) = false from by rw [beq_eq_false_iff_ne]; rintro rfl; simp at h0, show (l == [46]) = false from by rw [beq_eq_false_iff_ne]; exact h1, show (l == [46, 46]) = false from by rw [beq_eq_false_iff_ne]; exact h2, show (l == [46, 46, 46]) = false from by rw [beq_eq_false_iff_ne]; exact h3, show decide (l.length ≤ 32) = true from by simpa using Nat.le_of_not_lt h4]
    simp
  rw [hok]
  obtain ⟨r, hr⟩ : ∃ r, l.all okB = r := ⟨_, rfl⟩
  rw [hr]
  have HR : Hid ((l.drop 0).all okB = r) := hr
  clear hr hok h1 h2 h3
  go_enter Tryz.func118, Tryz.ntmps118
  go_wp2_with fail
  go_loopw [3] (fun i wr => ∃ k : Nat, k ≤ l.length ∧ i = .int .i64 k ∧ (l.drop k).all okB = r ∧ w = wr) (fun i _ => l.length - (intOf i).toNat)
  case atStart => exact ⟨0, Nat.zero_le _, rfl, HR.out, rfl⟩
  case round =>
    obtain ⟨k, hk, rfl, ha, rfl⟩ := hrel
    have HA : Hid ((l.drop k).all okB = r) := ha
    clear ha
    by_cases hlt : k < l.length
    · have HB : Hid ((okB (l[k]'hlt) && (l.drop (k + 1)).all okB) = r) := by have := HA.out; rw [all_take_succ l k hlt] at this; exact this
      have hkz : k < (bs l).size := hlt
      have hgk : (bs l)[k].toNat = (l[k]'hlt).toNat := by rw [bs_get _ _ _ hlt]
      obtain ⟨ch, hch⟩ : ∃ ch, l[k]'hlt = ch := ⟨_, rfl⟩
      rw [hch] at HB hgk
      go_upto_region 7 with fail
      try rw [hgk]
      obtain ⟨rb, hrb⟩ : ∃ rb, okB ch = rb := ⟨_, rfl⟩
      rw [hrb] at HB
      obtain ⟨n, hn⟩ : ∃ n, ch.toNat = n := ⟨_, rfl⟩
      have HR2 : Hid (((97 ≤ n && n ≤ 122) || (65 ≤ n && n ≤ 90) || (48 ≤ n && n ≤ 57) || n == 46 || n == 95 || n == 45) = rb) := by rw [← hn]; exact hrb
      rw [hn]
      clear hgk hn hrb hch
      go_cut [5] (fun c wx => c = .bool rb ∧ w = wx)
      case first =>
        by_cases h1 : 97 ≤ n ∧ n ≤ 122
        · obtain ⟨h1, h2⟩ := h1
          go_wp2_with fail
          go_meet
          exact ⟨by rw [← HR2.out]; simp [h1, h2], rfl⟩
        · by_cases h2 : 65 ≤ n ∧ n ≤ 90
          · obtain ⟨h2, h3⟩ := h2
            have h4 : ¬ 97 ≤ n := by omega
            clear h1
            go_wp2_with fail
            go_meet
            exact ⟨by rw [← HR2.out]; simp [h2, h3], rfl⟩
          · by_cases h3 : 48 ≤ n ∧ n ≤ 57
            · obtain ⟨h3, h4⟩ := h3
              have h5 : ¬ 97 ≤ n := by omega
              have h6 : ¬ 65 ≤ n := by omega
              clear h1 h2
              go_wp2_with fail
              go_meet
              exact ⟨by rw [← HR2.out]; simp [h3, h4], rfl⟩
            · by_cases q1 : n = 46
              · subst q1
                clear h1 h2 h3
                go_wp2_with fail
                go_meet
                exact ⟨by rw [← HR2.out]; rfl, rfl⟩
              by_cases q2 : n = 95
              · subst q2
                clear h1 h2 h3
                go_wp2_with fail
                go_meet
                exact ⟨by rw [← HR2.out]; rfl, rfl⟩
              by_cases q3 : n = 45
              · subst q3
                clear h1 h2 h3
                go_wp2_with fail
                go_meet
                exact ⟨by rw [← HR2.out]; rfl, rfl⟩
              have z : rb = false := by
                rw [← HR2.out]
                simp only [Bool.or_eq_false_iff, Bool.and_eq_false_iff, decide_eq_false_iff_not, beq_eq_false_iff_ne]
                omega
              subst z
              have e1 : (((n : Int)) == 46) = false := by rw [beq_eq_false_iff_ne]; omega
              have e2 : (((n : Int)) == 95) = false := by rw [beq_eq_false_iff_ne]; omega
              have e3 : (((n : Int)) == 45) = false := by rw [beq_eq_false_iff_ne]; omega
              by_cases p1 : 97 ≤ n
              · have p2 : ¬ n ≤ 122 := by omega
                have p3 : 65 ≤ n := by omega
                have p4 : ¬ n ≤ 90 := by omega
                have p5 : 48 ≤ n := by omega
                have p6 : ¬ n ≤ 57 := by omega
                clear h1 h2 h3
                go_wp2_with fail
                go_meet
                exact ⟨by simp; omega, rfl⟩
              by_cases p3 : 65 ≤ n
              · have p4 : ¬ n ≤ 90 := by omega
                have p5 : 48 ≤ n := by omega
                have p6 : ¬ n ≤ 57 := by omega
                clear h1 h2 h3
                go_wp2_with fail
                go_meet
                exact ⟨by simp; omega, rfl⟩
              by_cases p5 : 48 ≤ n
              · have p6 : ¬ n ≤ 57 := by omega
                clear h1 h2 h3
                go_wp2_with fail
                go_meet
                exact ⟨by simp; omega, rfl⟩
              · clear h1 h2 h3
                go_wp2_with fail
                go_meet
                exact ⟨rfl, rfl⟩
      case rest =>
        obtain ⟨rfl, rfl⟩ := hcut
        cases rb with
        | false =>
          have hb : false = r := HB.out
          subst hb
          go_wp2_with fail
          go_ret
          exact ⟨rfl, rfl⟩
        | true =>
          have HB2 : Hid ((l.drop (k + 1)).all okB = r) := HB.out
          go_wp2_with fail
          go_roundw
          case rel => exact ⟨k + 1, by omega, by go_num, HB2.out, trivial⟩
          case measure => simp [intOf]; omega
    · obtain rfl : k = l.length := by omega
      have hb := HA.out
      rw [List.drop_length] at hb
      have hb : true = r := hb
      subst hb
      go_wp2_with fail
      go_ret
      exact ⟨rfl, rfl⟩
set_option maxHeartbeats 1000000 in
set_option maxRecDepth 100000 in
theorem rispath_any (l : List UInt8) (w : World) (hm : l.length ≤ 1000000000) :
    Calls Tryz.prog 90 #[.string (bs l)] w fun e w' => e = .returned (.bool (okP l)) ∧ Below w.heap.size w w' := by
  have hz : (bs l).size = l.length := rfl
  have HM : Hid (∀ p ∈ pcs l, p.length ≤ l.length) := pcs_mem_le l
  have hdl := dep_le l
  have hde := dep_eq l
  obtain ⟨L, hL⟩ : ∃ L, pcs l = L := ⟨_, rfl⟩
  obtain ⟨r, hr⟩ : ∃ r, okP l = r := ⟨_, rfl⟩
  rw [hr]
  have HR : Hid ((decide (l.length ≤ 120) && decide (dep l ≤ 12) && L.all okC) = r) := by rw [← hL]; exact hr
  rw [hL] at HM hde
  rw [← hde] at HR hdl
  clear hr hde
  go_enter Tryz.func90, Tryz.ntmps90
  go_wp2_with fail
  refine (rpieces_any _ _ hm).mono ?_
  rintro e w1 ⟨v, rfl, ho, hb⟩
  rw [hL] at ho
  have B1 : Hid (Below w.heap.size w w1) := hb
  obtain ⟨a, c, rfl, hcell⟩ := ho.bs.form
  have HC : Hid (∀ k, (hk : k < L.length) → ∃ b off, a = some ⟨b, off, none⟩ ∧ b < w1.heap.size ∧ w1.cell? ⟨b, off + k, none⟩ = some (.string (bs L[k]))) := hcell
  clear ho hb hcell hL
  by_cases h2 : 12 < L.length
  · have hr := HR.out
    rw [show decide (L.length ≤ 12) = false from by simpa using h2] at hr
    have hr : false = r := by rw [← hr]; simp
    subst hr
    go_wp2_with fail
    go_ret
    exact ⟨rfl, B1.out⟩
  by_cases h1 : 120 < l.length
  · have hr := HR.out
    rw [show decide (l.length ≤ 120) = false from by simpa using h1] at hr
    have hr : false = r := by rw [← hr]; simp
    subst hr
    go_wp2_with fail
    go_ret
    exact ⟨rfl, B1.out⟩
  have hr := HR.out
  rw [show decide (l.length ≤ 120) = true from by simpa using Nat.le_of_not_lt h1, show decide (L.length ≤ 12) = true from by simpa using Nat.le_of_not_lt h2] at hr
  have HR2 : Hid ((L.drop 0).all okC = r) := hr
  clear hr
  go_wp2_with fail
  go_loop [4] (fun i => ∃ k : Nat, k ≤ L.length ∧ i = .int .i64 k ∧ (L.drop k).all okC = r) (fun i => L.length - (intOf i).toNat)
  case atStart => exact ⟨0, Nat.zero_le _, rfl, HR2.out⟩
  case round =>
    obtain ⟨k, hk, rfl, ha⟩ := hrel
    have HA : Hid ((L.drop k).all okC = r) := ha
    clear ha
    by_cases hlt : k < L.length
    · have HB : Hid ((okC (L[k]'hlt) && (L.drop (k + 1)).all okC) = r) := by have := HA.out; rw [all_drop_succ L k hlt] at this; exact this
      obtain ⟨g, off, rfl, hg, hc⟩ := HC.out k hlt
      have hpl := HM.out (L[k]'hlt) (List.getElem_mem _)
      go_wp2_with fail
      refine (rcomp13_any (L[k]'hlt) _ (by omega)).mono ?_
      rintro e w2 ⟨rfl, rfl⟩
      have hb := HB.out
      cases ho : okC (L[k]'hlt)
      · rw [ho] at hb
        have hb : false = r := hb
        subst hb
        go_wp2_with fail
        go_ret
        exact ⟨rfl, B1.out⟩
      · rw [ho] at hb
        have HB2 : Hid ((L.drop (k + 1)).all okC = r) := hb
        clear hb
        go_wp2_with fail
        go_round
        case rel => exact ⟨k + 1, by omega, by go_num, HB2.out⟩
        case measure => simp [intOf]; omega
    · obtain rfl : k = L.length := by omega
      have hb := HA.out
      rw [List.drop_length] at hb
      have hb : true = r := hb
      subst hb
      go_wp2_with fail
      go_ret
      exact ⟨rfl, B1.out⟩
end Go.Proofs.YtlkkmcibjhoneaaGreatDoor

namespace Go.Proofs.YtlkkmcibjhoneaaGreatDoor
open Go.RowKit
theorem hid_of {p : Prop} (h : p) : Hid p := h

theorem bl_eq : ∀ (a b : List UInt8), Op.bytesLess a b = decide (Lib.compareBytes a b < 0)
  | [], [] => by simp [Op.bytesLess, Lib.compareBytes]
  | [], _ :: _ => by simp [Op.bytesLess, Lib.compareBytes]
  | _ :: _, [] => by simp [Op.bytesLess, Lib.compareBytes]
  | a :: x, b :: y => by
    have ih := bl_eq x y
    unfold Op.bytesLess Lib.compareBytes
    by_cases h1 : a < b
    · simp [h1]
    · by_cases h2 : b < a
      · have h3 : ¬ a = b := by rintro rfl; exact h1 h2
        simp [h1, h2, h3]
      · have h3 : a = b := by
          apply UInt8.toNat_inj.1
          rw [UInt8.lt_iff_toNat_lt] at h1 h2
          omega
        subst h3
        simp [ih]
set_option maxHeartbeats 4000000 in
set_option maxRecDepth 100000 in
theorem rpath13_any (a b : List UInt8) (w : World) (ha : a.length ≤ 1000000000) (hb : b.length ≤ 1000000000) :
    Calls Tryz.prog 92 #[.string (bs a), .string (bs b)] w fun e w' => e = .returned (.int .i64 (cmpP (pcs a) (pcs b))) ∧ Below w.heap.size w w' := by
  have HP1 := hid_of (fun W => rpieces_any a W ha)
  have HP2 := hid_of (fun W => rpieces_any b W hb)
  have hla : (pcs a).length ≤ 1000000001 := by rw [dep_eq]; have := dep_le a; omega
  have hlb : (pcs b).length ≤ 1000000001 := by rw [dep_eq]; have := dep_le b; omega
  obtain ⟨A, hA⟩ : ∃ A, pcs a = A := ⟨_, rfl⟩
  obtain ⟨B, hB⟩ : ∃ B, pcs b = B := ⟨_, rfl⟩
  rw [hA] at HP1 hla ⊢
  rw [hB] at HP2 hlb ⊢
  clear hA hB ha hb
  obtain ⟨r, hr⟩ : ∃ r, cmpP A B = r := ⟨_, rfl⟩
  have HR : Hid (cmpP (A.drop 0) (B.drop 0) = r) := hr
  rw [hr]
  clear hr
  go_enter Tryz.func92, Tryz.ntmps92
  go_wp2_with fail
  refine (HP1.out _).mono ?_
  rintro e w1 ⟨v1, rfl, ho1, hb1⟩
  obtain ⟨xa, xc, hv1⟩ := ho1.len
  obtain ⟨an, han⟩ : ∃ an, A.length = an := ⟨_, rfl⟩
  rw [han] at hv1
  subst hv1
  have H1 : Hid (Own w.heap.size w1 (.slice xa an xc) A ∧ Below w.heap.size w w1) := ⟨ho1, hb1⟩
  clear ho1 hb1
  go_wp2_with fail
  refine (HP2.out _).mono ?_
  rintro e w2 ⟨v2, rfl, ho2, hb2⟩
  obtain ⟨ya, yc, hv2⟩ := ho2.len
  obtain ⟨bn, hbn⟩ : ∃ bn, B.length = bn := ⟨_, rfl⟩
  rw [hbn] at hv2
  subst hv2
  have H2 : Hid (SS w2 (.slice xa an xc) A ∧ SS w2 (.slice ya bn yc) B ∧ Below w.heap.size w w2) := ⟨(H1.out.1.later hb2).bs, ho2.bs, bstep H1.out.2 hb2⟩
  clear ho2 hb2 H1
  have HAN : Hid (A.length = an ∧ B.length = bn) := ⟨han, hbn⟩
  rw [han] at hla
  rw [hbn] at hlb
  clear han hbn HP1 HP2
  go_wp2_with fail
  go_loopw [7] (fun iv wr => ∃ i : Nat, i ≤ an ∧ i ≤ bn ∧ iv = .int .i64 i ∧ cmpP (A.drop i) (B.drop i) = r ∧ Below w2.heap.size w2 wr) (fun iv _ => an - (intOf iv).toNat)
  case atStart => exact ⟨0, by omega, by omega, rfl, HR.out, Below.refl _ _⟩
  case round =>
    obtain ⟨i, hia, hib, rfl, hc, hb⟩ := hrel
    have X5 : Hid (cmpP (A.drop i) (B.drop i) = r ∧ Below w2.heap.size w2 wr) := ⟨hc, hb⟩
    clear hc hb
    by_cases h1 : i < an
    · by_cases h2 : i < bn
      · have i1 : (i : Int) < (an : Int) := by omega
        have i2 : (i : Int) < (bn : Int) := by omega
        have i3 : (0 : Int) ≤ (i : Int) := by omega
        have hiA : i < A.length := by rw [HAN.out.1]; exact h1
        have hiB : i < B.length := by rw [HAN.out.2]; exact h2
        obtain ⟨a', c', e, hf⟩ := (H2.out.1.later X5.out.2).form
        injection e with e1 e2 e3
        obtain ⟨b1, o1, ea, hbl, c0⟩ := hf i hiA
        rw [ea] at e1
        subst e1
        clear e2 e3 hf ea
        obtain ⟨a'', c'', e, hf⟩ := (H2.out.2.1.later X5.out.2).form
        injection e with e1 e2 e3
        obtain ⟨b2, o2, ea, hbl2, d0⟩ := hf i hiB
        rw [ea] at e1
        subst e1
        clear e2 e3 hf ea
        have HC : Hid ((if Lib.compareBytes (A[i]'hiA) (B[i]'hiB) = 0 then cmpP (A.drop (i + 1)) (B.drop (i + 1)) else Lib.compareBytes (A[i]'hiA) (B[i]'hiB)) = r) := by
          show _ = r
          rw [← cmpP_drop A B i hiA hiB]; exact X5.out.1
        obtain ⟨x, hx⟩ : ∃ x, A[i]'hiA = x := ⟨_, rfl⟩
        obtain ⟨y, hy⟩ : ∃ y, B[i]'hiB = y := ⟨_, rfl⟩
        rw [hx] at c0 HC
        rw [hy] at d0 HC
        clear hx hy
        have q1 : Op.bytesLess (bs x).toList (bs y).toList = decide (Lib.compareBytes x y < 0) := by rw [bs_toList, bs_toList, bl_eq]
        have q2 : ((bs x).toList == (bs y).toList) = decide (Lib.compareBytes x y = 0) := by
          rw [bs_toList, bs_toList, Bool.eq_iff_iff, beq_iff_eq, decide_eq_true_eq]
          exact ⟨fun e => by rw [e]; exact cb_refl y, cb_zero⟩
        obtain ⟨cb, hcb⟩ : ∃ cb, Lib.compareBytes x y = cb := ⟨_, rfl⟩
        have hcr := cb_range x y
        rw [hcb] at HC q1 q2 hcr
        clear hcb
        rcases hcr with rfl | rfl | rfl
        · simp only [show decide ((-1 : Int) < 0) = true from rfl] at q1
          clear q2
          have hr9 : r = -1 := by have := HC.out; simpa using this.symm
          subst hr9
          go_wp2_with fail
          go_quiet (fail)
          go_wp2_with fail
          go_ret
          exact ⟨rfl, bstep H2.out.2.2 (bstep X5.out.2 (bd _ _))⟩
        · simp only [show decide ((0 : Int) < 0) = false from rfl] at q1
          simp only [decide_true] at q2
          have HC2 : Hid (cmpP (A.drop (i + 1)) (B.drop (i + 1)) = r) := by
            show cmpP (A.drop (i + 1)) (B.drop (i + 1)) = r
            have := HC.out; simpa using this
          go_wp2_with fail
          go_quiet (fail)
          go_wp2_with fail
          go_quiet (fail)
          go_wp2_with fail
          exact ⟨⟨i + 1, by omega, by omega, by simp, HC2.out, bstep X5.out.2 (bd _ _)⟩, by simp only [intOf]; omega⟩
        · simp only [show decide ((1 : Int) < 0) = false from rfl] at q1
          simp only [show decide ((1 : Int) = 0) = false from rfl] at q2
          have hr9 : r = 1 := by have := HC.out; simpa using this.symm
          subst hr9
          go_wp2_with fail
          go_quiet (fail)
          go_wp2_with fail
          go_quiet (fail)
          go_wp2_with fail
          go_ret
          exact ⟨rfl, bstep H2.out.2.2 (bstep X5.out.2 (bstep (bd _ _) (bd _ _)))⟩
      · have he := cmpP_end A B i (.inr (by rw [HAN.out.2]; omega)) (by rw [HAN.out.1]; exact hia) (by rw [HAN.out.2]; exact hib)
        rw [X5.out.1, HAN.out.1, HAN.out.2] at he
        obtain rfl : i = bn := by omega
        have n1 : ¬ an < i := by omega
        rw [if_neg n1, if_pos h1] at he
        subst he
        go_wp2_with fail
        go_ret
        exact ⟨rfl, bstep H2.out.2.2 X5.out.2⟩
    · have he := cmpP_end A B i (.inl (by rw [HAN.out.1]; omega)) (by rw [HAN.out.1]; exact hia) (by rw [HAN.out.2]; exact hib)
      rw [X5.out.1, HAN.out.1, HAN.out.2] at he
      obtain rfl : i = an := by omega
      by_cases h3 : i < bn
      · rw [if_pos h3] at he
        subst he
        go_wp2_with fail
        go_ret
        exact ⟨rfl, bstep H2.out.2.2 X5.out.2⟩
      · have n2 : ¬ bn < i := by omega
        rw [if_neg h3, if_neg n2] at he
        subst he
        go_wp2_with fail
        go_ret
        exact ⟨rfl, bstep H2.out.2.2 X5.out.2⟩
end Go.Proofs.YtlkkmcibjhoneaaGreatDoor

namespace Go.Proofs.YtlkkmcibjhoneaaGreatDoor
open Go.RowKit

/-- no slash from m on -/
theorem base_of {l : List UInt8} {m : Nat} (hm : m ≤ l.length) (h : (l.drop m).count 47 = 0) (h2 : m = 0 ∨ ∃ k, m = k + 1 ∧ ∃ hk : k < l.length, l[k] = 47) : base l = l.drop m := by
  rcases h2 with rfl | ⟨k, rfl, hk, e⟩
  · rw [List.drop_zero] at h ⊢
    unfold base
    rw [lst_none l h]
    rfl
  · have e1 : l = l.take k ++ 47 :: l.drop (k + 1) := by
      conv => lhs; rw [← List.take_append_drop k l, List.drop_eq_getElem_cons hk, e]
    conv => lhs; rw [e1]
    rw [base_app]
    unfold base
    rw [lst_none _ h]
    rfl
set_option maxHeartbeats 4000000 in
set_option maxRecDepth 100000 in
theorem rbase13_any (l : List UInt8) (w : World) (hl : l.length ≤ 1000000000) :
    Calls Tryz.prog 91 #[.string (bs l)] w fun e w' => e = .returned (.string (bs (base l))) ∧ w' = w := by
  have hz : (bs l).size = l.length := rfl
  obtain ⟨n, hn⟩ : ∃ n, l.length = n := ⟨_, rfl⟩
  have HN : Hid (l.length = n) := hn
  rw [hn] at hz hl
  clear hn
  go_enter Tryz.func91, Tryz.ntmps91
  go_wp2_with fail
  go_loopw [3] (fun iv wr => ∃ m : Nat, m ≤ n ∧ iv = .int .i64 ((m : Int) - 1) ∧ (l.drop m).count 47 = 0 ∧ w = wr) (fun iv _ => (intOf iv + 1).toNat)
  case atStart => exact ⟨n, Nat.le_refl _, by go_num, by rw [← HN.out, List.drop_length]; rfl, rfl⟩
  case round =>
    obtain ⟨m, hm, rfl, hc, rfl⟩ := hrel
    have HC : Hid ((l.drop m).count 47 = 0) := hc
    clear hc
    cases m with
    | zero =>
      have HB : Hid (base l = l) := by
        have h := base_of (l := l) (m := 0) (Nat.zero_le _) HC.out (.inl rfl)
        rw [List.drop_zero] at h
        exact h
      go_wp2_with fail
      go_ret
      exact ⟨by rw [HB.out]; rfl, rfl⟩
    | succ k =>
      have hki : ((k + 1 : Nat) : Int) - 1 = (k : Int) := by omega
      rw [hki]
      have hkl : k < l.length := by rw [HN.out]; omega
      have hkz : k < (bs l).size := hkl
      have k1 : (0 : Int) ≤ (k : Int) := by omega
      have k2 : (k : Int) < (n : Int) := by omega
      by_cases hc : l[k]'hkl = 47
      · have e1 : (((bs l)[k].toNat : Int) == 47) = true := by rw [bs_get _ _ _ hkl, hc]; rfl
        have HB : Hid (base l = l.drop (k + 1)) := base_of (by omega) HC.out (.inr ⟨k, rfl, hkl, hc⟩)
        have HX : Hid ((bs l).extract (k + 1) n = bs (l.drop (k + 1))) := by
          show _ = _
          have h := bs_extract l (k + 1) n
          rw [h, ← HN.out, List.take_of_length_le (by simp)]
        go_wp2_with fail
        go_ret
        exact ⟨by rw [HB.out, ← HX.out]; rfl, rfl⟩
      · have e1 : (((bs l)[k].toNat : Int) == 47) = false := by
          rw [bs_get _ _ _ hkl, beq_eq_false_iff_ne]; intro e; apply hc; apply UInt8.toNat_inj.1; exact Int.ofNat.inj e
        have HC2 : Hid ((l.drop k).count 47 = 0) := by
          show _ = _
          rw [List.drop_eq_getElem_cons hkl, List.count_cons, HC.out]
          simpa using hc
        go_wp2_with fail
        go_roundw
        case rel => exact ⟨k, by omega, by go_num, HC2.out, trivial⟩
        case measure => simp [intOf]
set_option maxHeartbeats 4000000 in
set_option maxRecDepth 100000 in
theorem rabove13_any (a b : List UInt8) (w : World) (ha : a.length ≤ 1000000000) (_hb : b.length ≤ 1000000000) :
    Calls Tryz.prog 93 #[.string (bs a), .string (bs b)] w fun e w' => e = .returned (.bool (abvV a b)) ∧ w' = w := by
  have z1 : (bs a).size = a.length := rfl
  have z2 : (bs b).size = b.length := rfl
  have e1 := isE a
  by_cases h0 : a = b
  · have q1 : ((bs a).toList == (bs b).toList) = true := by rw [h0]; simp
    have HR : Hid (abvV a b = false) := by
      show abvV a b = false
      rw [h0]
      cases e : abvV b b with
      | false => rfl
      | true =>
        have := abv_cf e
        rw [cf_self] at this
        omega
    clear e1 h0
    go_enter Tryz.func93, Tryz.ntmps93
    go_wp2_with fail
    go_ret
    exact ⟨by rw [HR.out]; rfl, rfl⟩
  have q1 : ((bs a).toList == (bs b).toList) = false := by rw [bs_toList, bs_toList, beq_eq_false_iff_ne]; exact h0
  by_cases h1 : a = []
  · have i0 : a.isEmpty = true := by rw [h1]; rfl
    rw [i0] at e1
    have HR : Hid (abvV a b = true) := by
      show abvV a b = true
      subst h1
      exact (abvV_iff _ _).2 ⟨pcs b, fun e => h0 ((pcs_eq_nil b).1 e).symm, rfl⟩
    clear h0 h1 i0
    go_enter Tryz.func93, Tryz.ntmps93
    go_wp2_with fail
    go_ret
    exact ⟨by rw [HR.out]; rfl, rfl⟩
  have i0 : a.isEmpty = false := by cases a; exact absurd rfl h1; rfl
  rw [i0] at e1
  have HAB := hid_of (abv_bytes a b h1)
  by_cases h2 : a.length < b.length
  · have n1 : (a.length : Int) < (b.length : Int) := by omega
    have n2 : (0 : Int) ≤ (a.length : Int) := by omega
    have n3 : (a.length : Int) ≤ (b.length : Int) := by omega
    have hkz : a.length < (bs b).size := h2
    have HX : Hid ((bs b).extract 0 a.length = bs (b.take a.length)) := by
      show _ = _
      have h := bs_extract b 0 a.length
      rw [h]; simp
    by_cases h3 : b.take a.length = a
    · have q2 : (((bs b).extract 0 a.length).toList == (bs a).toList) = true := by rw [HX.out, h3]; simp
      by_cases h4 : b[a.length]'h2 = 47
      · have q3 : (((bs b)[a.length].toNat : Int) == 47) = true := by rw [bs_get _ _ _ h2, h4]; rfl
        have HR : Hid (abvV a b = true) := HAB.out.2 ⟨h2, h3, by rw [List.getElem?_eq_getElem h2, h4]⟩
        clear h0 h1 h3 h4 i0
        go_enter Tryz.func93, Tryz.ntmps93
        go_wp2_with fail
        go_ret
        exact ⟨by rw [HR.out]; rfl, rfl⟩
      · have q3 : (((bs b)[a.length].toNat : Int) == 47) = false := by
          rw [bs_get _ _ _ h2, beq_eq_false_iff_ne]; intro e; apply h4; apply UInt8.toNat_inj.1; exact Int.ofNat.inj e
        have HR : Hid (abvV a b = false) := by
          show abvV a b = false
          cases e : abvV a b with
          | false => rfl
          | true =>
            obtain ⟨_, _, g3⟩ := HAB.out.1 e
            rw [List.getElem?_eq_getElem h2] at g3
            exact absurd (Option.some.inj g3) h4
        clear h0 h1 h3 h4 i0
        go_enter Tryz.func93, Tryz.ntmps93
        go_wp2_with fail
        go_ret
        exact ⟨by rw [HR.out]; rfl, rfl⟩
    · have q2 : (((bs b).extract 0 a.length).toList == (bs a).toList) = false := by rw [HX.out, bs_toList, bs_toList, beq_eq_false_iff_ne]; exact h3
      have HR : Hid (abvV a b = false) := by
        show abvV a b = false
        cases e : abvV a b with
        | false => rfl
        | true => exact absurd (HAB.out.1 e).2.1 h3
      clear h0 h1 h3 i0
      go_enter Tryz.func93, Tryz.ntmps93
      go_wp2_with fail
      go_ret
      exact ⟨by rw [HR.out]; rfl, rfl⟩
  · have n1 : ¬ (a.length : Int) < (b.length : Int) := by omega
    have HR : Hid (abvV a b = false) := by
      show abvV a b = false
      cases e : abvV a b with
      | false => rfl
      | true => exact absurd (HAB.out.1 e).1 h2
    clear h0 h1 i0
    go_enter Tryz.func93, Tryz.ntmps93
    go_wp2_with fail
    go_ret
    exact ⟨by rw [HR.out]; rfl, rfl⟩
end Go.Proofs.YtlkkmcibjhoneaaGreatDoor
