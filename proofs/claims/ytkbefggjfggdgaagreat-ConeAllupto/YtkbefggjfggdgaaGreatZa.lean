/-
  The document's paths of layer 13: pieces, components, orders.
-/
import Derived.Test.YtkbefggjfggdgaaGreatRef
import Derived.Test.YtkbefggjfggdgaaGreatLab
import Derived.Test.YtkbefggjfggdgaaGreatFil
import Derived.Deep.DeepCutAuto
namespace Go.Proofs.YtkbefggjfggdgaaGreat
open Go.RowKit

set_option maxHeartbeats 1000000 in
set_option maxRecDepth 100000 in
theorem rpieces_any (l : List UInt8) (w : World) (hm : l.length ≤ 1000000000) :
    Calls Tryz.prog 73 #[.string (bs l)] w fun e w' => ∃ v, e = .returned v ∧ Own w.heap.size w' v (pcs l) ∧ Below w.heap.size w w' := by
  have he := isE l
  by_cases hl : l = []
  · subst hl
    rw [pcs_nil]
    go_enter Tryz.func73, Tryz.ntmps73
    go_wp2_with fail
    go_ret
    exact ⟨_, rfl, Own.nil _ _, Below.refl _ _⟩
  have i0 : l.isEmpty = false := by cases l; exact absurd rfl hl; rfl
  rw [i0] at he
  have hz : (bs l).size = l.length := rfl
  have hP : pcs l = sp l := by simp [pcs, hl]
  rw [hP]
  obtain ⟨L, hL⟩ : ∃ L, sp l = L := ⟨_, rfl⟩
  rw [hL]
  have HL : Hid (sp l = L) := hL
  have HN : Hid (L.length ≤ 1000000001) := by
    show _ ≤ _
    rw [← hL, ← hP, dep_eq]; have := dep_le l; omega
  clear hL hP hl i0
  go_enter Tryz.func73, Tryz.ntmps73
  go_wp2_with fail
  go_loopw [3, 4, 5] (fun o f i wr => ∃ (k m : Nat) (D : List (List UInt8)), i = .int .i64 k ∧ f = .int .i64 m ∧ Own w.heap.size wr o D ∧ Below w.heap.size w wr ∧ ((k ≤ l.length ∧ m ≤ k ∧ D ++ glue ((l.drop m).take (k - m)) (sp (l.drop k)) = L) ∨ (k = l.length + 1 ∧ D = L))) (fun _ _ i _ => l.length + 1 - (intOf i).toNat)
  case atStart => exact ⟨0, 0, [], rfl, rfl, Own.nil _ _, Below.refl _ _, .inl ⟨Nat.zero_le _, Nat.le_refl _, by simpa [glue_nil _ (sp_ne l)] using HL.out⟩⟩
  case round =>
    obtain ⟨k, m, D, rfl, rfl, hown, hbw, hor⟩ := hrel
    have HO : Hid (Own w.heap.size wr u3 D) := hown
    have HB : Hid (Below w.heap.size w wr) := hbw
    have hzw := hbw.size
    clear hown hbw
    rcases hor with ⟨hk, hmk, heq⟩ | ⟨rfl, rfl⟩
    · have hDl : D.length + 1 ≤ 8796093022208 := by
        have h1 := congrArg List.length heq
        have h2 := glue_len ((l.drop m).take (k - m)) (sp (l.drop k))
        have := HN.out
        rw [List.length_append] at h1; omega
      have HE : Hid (D ++ glue ((l.drop m).take (k - m)) (sp (l.drop k)) = L) := heq
      have HX : Hid ((bs l).extract m k = bs ((l.drop m).take (k - m))) := bs_extract l m k
      clear heq
      by_cases hlt : k < l.length
      · have hkz : k < (bs l).size := hlt
        have e0 : ((k : Int) == (l.length : Int)) = false := by rw [beq_eq_false_iff_ne]; omega
        by_cases hc : l[k]'hlt = 47
        · have e1 : (((bs l)[k].toNat : Int) == 47) = true := by rw [bs_get _ _ _ hlt, hc]; rfl
          have h2 := HE.out
          rw [List.drop_eq_getElem_cons hlt, hc, glue_sp_eq] at h2
          have HE2 : Hid ((D ++ [(l.drop m).take (k - m)]) ++ glue ((l.drop (k + 1)).take (k + 1 - (k + 1))) (sp (l.drop (k + 1))) = L) := by
            show _ = _
            rw [← h2, Nat.sub_self, List.take_zero, glue_nil _ (sp_ne _)]; simp
          clear h2
          go_wp2_with (at_builtin; rw [HX.out]; refine app_one (base := w.heap.size) ((l.drop m).take (k - m)) HO.out hDl hzw rfl (.tmp 24) (.tmp 29) rfl rfl rfl ?_; intro v' w' ho hbw hbs' hgr hat)
          go_roundw
          case rel => exact ⟨k + 1, k + 1, _, by go_num, by go_num, ho, below_trans HB.out hbw, .inl ⟨by omega, Nat.le_refl _, HE2.out⟩⟩
          case measure => simp [intOf]; omega
        · have e1 : (((bs l)[k].toNat : Int) == 47) = false := by
            rw [bs_get _ _ _ hlt, beq_eq_false_iff_ne]; intro e; apply hc; apply UInt8.toNat_inj.1; exact Int.ofNat.inj e
          have h2 := HE.out
          rw [List.drop_eq_getElem_cons hlt, glue_sp_ne _ _ _ hc, ← drop_take_snoc l m k hmk hlt] at h2
          have HE2 : Hid (D ++ glue ((l.drop m).take (k + 1 - m)) (sp (l.drop (k + 1))) = L) := h2
          clear h2
          go_wp2_with fail
          go_roundw
          case rel => exact ⟨k + 1, m, D, by go_num, rfl, HO.out, HB.out, .inl ⟨by omega, by omega, HE2.out⟩⟩
          case measure => simp [intOf]; omega
      · obtain rfl : k = l.length := by omega
        have h2 := HE.out
        rw [List.drop_length] at h2
        have HE2 : Hid (D ++ [(l.drop m).take (l.length - m)] = L) := by
          show _ = _
          rw [← h2]; simp [sp, glue]
        clear h2
        go_wp2_with (at_builtin; rw [HX.out]; refine app_one (base := w.heap.size) ((l.drop m).take (l.length - m)) HO.out hDl hzw rfl (.tmp 24) (.tmp 29) rfl rfl rfl ?_; intro v' w' ho hbw hbs' hgr hat)
        go_roundw
        case rel => exact ⟨l.length + 1, l.length + 1, _, by go_num, by go_num, ho, below_trans HB.out hbw, .inr ⟨rfl, HE2.out⟩⟩
        case measure => simp [intOf]
    · have h3 : ¬ l.length + 1 ≤ l.length := by omega
      go_wp2_with fail
      go_ret
      exact ⟨_, rfl, HO.out, HB.out⟩

end Go.Proofs.YtkbefggjfggdgaaGreat
