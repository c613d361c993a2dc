/-
  Is each of these cones one of those, or below one?
  The document's lines; is a text one of a list?
-/
import Derived.Test.YtkopjamednedfaaGreatRows2
import Derived.Test.YtkopjamednedfaaGreatKn2
import Derived.Deep.RegionHeld3
import Derived.OrdersHeld
import Derived.Deep.Cut
import Derived.Test.YtkopjamednedfaaGreatPf1
import Derived.Test.YtkopjamednedfaaGreatRef
namespace Go.Proofs.YtkopjamednedfaaGreat
open Go.RowKit Go.Maps
attribute [local go_sem] Oper.semAt_some

theorem hid_of {p : Prop} (h : p) : Hid p := h
theorem bd1 (w : World) : Below w.heap.size w w.drew := (Below.refl _ _).drew
end Go.Proofs.YtkopjamednedfaaGreat

namespace Go.Proofs.YtkopjamednedfaaGreat
open Go.RowKit Go.Maps
attribute [local go_sem] Oper.semAt_some

theorem spl_none : ∀ (l : List UInt8), 10 ∉ l → spl l = [l]
  | [], _ => rfl
  | c :: r, h => by
    have hc : c ≠ 10 := fun e => h (by simp [e])
    rw [spl, if_neg hc, spl_none r (fun hm => h (by simp [hm]))]
theorem spl_len : ∀ (l : List UInt8), (spl l).length ≤ l.length + 1
  | [] => by simp [spl]
  | c :: r => by
    have ih := spl_len r
    rw [spl]
    split
    · simp; omega
    · split
      · simp
      · rename_i h
        rw [h] at ih
        simp at ih ⊢
        omega
set_option maxRecDepth 100000 in
set_option maxHeartbeats 4000000 in
theorem rlines_any (l : List UInt8) (w : World) (hm : l.length ≤ 1000000000) :
    Calls Tryz.prog 24 #[.string (bs l)] w fun e w' => ∃ v, e = .returned v ∧ Own w.heap.size w' v (spl l) ∧ Below w.heap.size w w' := by
  have hz : (bs l).size = l.length := rfl
  obtain ⟨L, hL⟩ : ∃ L, spl l = L := ⟨_, rfl⟩
  rw [hL]
  have HL : Hid (spl l = L) := hL
  have HN : Hid (L.length ≤ 1000000001) := by
    show _ ≤ _
    rw [← hL]
    have := spl_len l
    omega
  clear hL
  go_enter Tryz.func24, Tryz.ntmps24
  go_wp2_with fail
  go_loopw [3, 4, 5] (fun o f i wr => ∃ (k m : Nat) (D : List (List UInt8)), i = .int .i64 k ∧ f = .int .i64 m ∧ Own w.heap.size wr o D ∧ Below w.heap.size w wr ∧ k ≤ l.length ∧ m ≤ k ∧ 10 ∉ (l.drop m).take (k - m) ∧ D ++ spl (l.drop m) = L) (fun _ _ i _ => l.length - (intOf i).toNat)
  case atStart => exact ⟨0, 0, [], rfl, rfl, Own.nil _ _, Below.refl _ _, Nat.zero_le _, Nat.le_refl _, by simp, by simpa using HL.out⟩
  case round =>
    obtain ⟨k, m, D, rfl, rfl, hown, hbw, hk, hmk, h10, heq⟩ := hrel
    have HO : Hid (Own w.heap.size wr u3 D) := hown
    have HB : Hid (Below w.heap.size w wr) := hbw
    have hzw := hbw.size
    have hDl : D.length + 1 ≤ 8796093022208 := by
      have h1 := congrArg List.length heq
      have := HN.out
      rw [List.length_append] at h1; omega
    have HX : Hid ((bs l).extract m k = bs ((l.drop m).take (k - m))) := bs_extract l m k
    have HE : Hid (D ++ spl (l.drop m) = L ∧ 10 ∉ (l.drop m).take (k - m)) := ⟨heq, h10⟩
    clear hown hbw heq h10
    by_cases hlt : k < l.length
    · have hkz : k < (bs l).size := hlt
      have k1 : (k : Int) < (l.length : Int) := by omega
      have k2 : (0 : Int) ≤ (k : Int) := by omega
      have k3 : (m : Int) ≤ (k : Int) := by omega
      have k4 : (0 : Int) ≤ (m : Int) := by omega
      have hsp : l.drop m = (l.drop m).take (k - m) ++ (l[k]'hlt) :: l.drop (k + 1) := by
        have e1 := (List.take_append_drop (k - m) (l.drop m)).symm
        rw [List.drop_drop, show m + (k - m) = k by omega, List.drop_eq_getElem_cons hlt] at e1
        exact e1
      by_cases hc : l[k]'hlt = 10
      · have e1 : (((bs l)[k].toNat : Int) == 10) = true := by rw [bs_get _ _ _ hlt, hc]; rfl
        have HE2 : Hid ((D ++ [(l.drop m).take (k - m)]) ++ spl (l.drop (k + 1)) = L) := by
          have h2 := HE.out.1
          rw [hsp, hc, spl_line _ _ HE.out.2] at h2
          show _ = _
          rw [← h2]
          simp
        clear hsp
        go_wp2_with (at_builtin; rw [HX.out]; refine app_one (base := w.heap.size) ((l.drop m).take (k - m)) HO.out hDl hzw rfl (.tmp 16) (.tmp 21) rfl rfl rfl ?_; intro v' w' ho hbw hbs' hgr hat)
        go_roundw
        case rel => exact ⟨k + 1, k + 1, _, by go_num, by go_num, ho, below_trans HB.out hbw, by omega, Nat.le_refl _, by simp, HE2.out⟩
        case measure => simp [intOf]; omega
      · have e1 : (((bs l)[k].toNat : Int) == 10) = false := by
          rw [bs_get _ _ _ hlt, beq_eq_false_iff_ne]; intro e; apply hc; apply UInt8.toNat_inj.1; exact Int.ofNat.inj e
        have HE2 : Hid (10 ∉ (l.drop m).take (k + 1 - m)) := by
          show 10 ∉ _
          rw [drop_take_snoc l m k hmk hlt]
          intro hm2
          rcases List.mem_append.1 hm2 with h3 | h3
          · exact HE.out.2 h3
          · exact hc (List.mem_singleton.1 h3).symm
        clear hsp
        go_wp2_with fail
        go_roundw
        case rel => exact ⟨k + 1, m, D, by go_num, rfl, HO.out, HB.out, by omega, by omega, HE2.out, HE.out.1⟩
        case measure => simp [intOf]; omega
    · obtain rfl : k = l.length := by omega
      have HE2 : Hid (D ++ [(l.drop m).take (l.length - m)] = L) := by
        have h2 := HE.out.1
        have h3 : (l.drop m).take (l.length - m) = l.drop m := List.take_of_length_le (by simp)
        have h4 := HE.out.2
        rw [h3] at h4
        rw [spl_none _ h4] at h2
        show _ = _
        rw [h3]; exact h2
      have k1 : ¬ ((l.length : Int) < (l.length : Int)) := by omega
      have k3 : (m : Int) ≤ (l.length : Int) := by omega
      have k4 : (0 : Int) ≤ (m : Int) := by omega
      go_wp2_with (at_builtin; rw [HX.out]; refine app_one (base := w.heap.size) ((l.drop m).take (l.length - m)) HO.out hDl hzw rfl (.tmp 25) (.tmp 29) rfl rfl rfl ?_; intro v' w' ho hbw hbs' hgr hat)
      go_ret
      exact ⟨v', rfl, by rw [← HE2.out]; exact ho, below_trans HB.out hbw⟩
set_option maxRecDepth 100000 in
set_option maxHeartbeats 4000000 in
theorem rhas_any {w : World} {v : Value} {k : List (List UInt8)} (x : List UInt8) (h : SS w v k) (hl : k.length ≤ 1000000000) : Calls Tryz.prog 29 #[v, .string (bs x)] w fun e w' => e = .returned (.bool (decide (x ∈ k))) ∧ Below w.heap.size w w' := by
  obtain ⟨ad, c, hv, ca⟩ := h.form
  have HA := hid_of ca
  obtain ⟨n, hn⟩ : ∃ n, k.length = n := ⟨_, rfl⟩
  rw [hn] at hv hl
  subst hv
  have HN := hid_of hn
  have t2 : (bs x).toList = x := bs_toList _
  clear h hn ca
  go_enter Tryz.func29, Tryz.ntmps29
  go_wp2_with fail
  go_loopw [5] (fun s5 wr => ∃ i : Nat, s5 = .int .i64 i ∧ i ≤ n ∧ x ∉ k.take i ∧ Below w.heap.size w wr) (fun s5 _ => n - (intOf s5).toNat)
  case atStart => exact ⟨0, rfl, Nat.zero_le _, by simp, Below.refl _ _⟩
  case round =>
    obtain ⟨i, rfl, hi, hno, hb⟩ := hrel
    have HR := hid_of (And.intro hno hb)
    clear hno hb
    by_cases hlt : i < n
    · have i1 : (i : Int) < (n : Int) := by omega
      have i2 : (0 : Int) ≤ (i : Int) := by omega
      have hil : i < k.length := by rw [HN.out]; exact hlt
      obtain ⟨b, off, ea, hbl, c0⟩ := HA.out i hil
      subst ea
      have c1 : wr.cell? ⟨b, off + i, none⟩ = some (.string (bs k[i])) := (HR.out.2.cell (p := ⟨b, off + i, none⟩) hbl).trans c0
      have HNX : Hid ((k[i] = x → x ∈ k) ∧ (k[i] ≠ x → x ∉ k.take (i + 1))) := ⟨fun e => e ▸ List.getElem_mem hil, fun hne => by
        rw [List.take_succ_eq_append_getElem hil]
        intro hm
        rcases List.mem_append.1 hm with h1 | h1
        · exact HR.out.1 h1
        · exact hne (List.mem_singleton.1 h1).symm⟩
      generalize k[i] = y at c1 HNX
      have t1 : (bs y).toList = y := bs_toList _
      clear c0
      obtain ⟨q, hq⟩ : ∃ q, (y == x) = q := ⟨_, rfl⟩
      cases q
      · have HQ : Hid (y ≠ x) := fun e => by rw [e] at hq; simp at hq
        go_wp2_with fail
        go_roundw
        case rel => exact ⟨i + 1, by go_num, by omega, HNX.out.2 HQ.out, HR.out.2⟩
        case measure => simp [intOf]; omega
      · have HQ : Hid (x ∈ k) := HNX.out.1 (by simpa using hq)
        go_wp2_with fail
        go_ret
        exact ⟨by rw [decide_eq_true HQ.out]; rfl, HR.out.2⟩
    · obtain rfl : i = n := by omega
      have HQ : Hid (x ∉ k) := by
        have q := HR.out.1
        rw [List.take_of_length_le (by rw [HN.out]; exact Nat.le_refl _)] at q
        exact q
      go_wp2_with fail
      go_ret
      exact ⟨by rw [decide_eq_false HQ.out]; rfl, HR.out.2⟩
end Go.Proofs.YtkopjamednedfaaGreat
