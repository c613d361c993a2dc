/-
  heap.Push, heap.Pop.
-/
import Derived.Test.YtjohhmfncemknaaQd
namespace Go.Proofs.Ytjohhmfncemknaa
open Go.RowKit Go.Maps

set_option maxRecDepth 100000 in
set_option maxHeartbeats 4000000 in
theorem hpush_any {G : Nat → Prop} {w : World} {q : Nat} {l : List Lb} (h : QB G w q l) (hbase : NewG G w) (hu : ∀ x ∈ l, Lu x) (hl : l.length + 1 ≤ 1000000) (hH : HO (fA l) l.length) (a : Lb) (ha : Lu a) :
    Calls Try.prog 34 #[.iface 75 (.pointer (some ⟨q, 0, none⟩)), .iface 31 a.val] w fun e w' => e = .returned (.tuple #[]) ∧ ∃ l', QB G w' q l' ∧ l'.Perm (l ++ [a]) ∧ HO (fA l') l'.length ∧ QX q G w w' := by
  have HP : Hid (Calls Try.prog 113 #[.pointer (some ⟨q, 0, none⟩), .iface 31 a.val] w fun e w' => e = .returned (.tuple #[]) ∧ QB G w' q (l ++ [a]) ∧ QX q G w w') := qpush_any h hbase hl a
  have HU : Hid (UpI (fA (l ++ [a])) (l ++ [a]).length l.length) := by
    refine ⟨fun k h0 hk hne => ?_, fun k h0 hk hp h1 => ?_⟩
    · have hkl : k < l.length := by simp at hk; omega
      have hpk : par k < l.length := by unfold par; omega
      have e1 : ∀ j, j < l.length → fA (l ++ [a]) j = fA l j := fun j hj => by
        rw [fA_get (by simp; omega), fA_get hj, List.getElem_append_left hj]
      rw [e1 k hkl, e1 _ hpk]
      exact hH k h0 hkl
    · exfalso
      simp at hk
      unfold par at hp
      omega
  have H : Hid ((∀ x ∈ l ++ [a], Lu x) ∧ NewG G w ∧ l.length + 1 ≤ 1000000) := ⟨fun x hx => by
    rcases List.mem_append.1 hx with hx | hx
    · exact hu x hx
    · have : x = a := by simpa using hx
      rw [this]; exact ha, hbase, hl⟩
  clear h hbase hu hl hH ha
  obtain ⟨p, n⟩ := a
  simp only [Lb.val] at HP ⊢
  have hmp := m_push q
  go_enter Try.func34, Try.ntmps34
  go_wp2_with fail
  refine HP.out.mono ?_
  rintro e w1 ⟨rfl, hQ1, hb1⟩
  obtain ⟨v, hv, ho⟩ := id hQ1
  have hml := m_len q _ w1 hv.cell
  obtain ⟨av, cv, hvv⟩ := ho.1.form
  rw [show (l ++ [(⟨p, n⟩ : Lb)]).length = l.length + 1 by simp] at hvv
  subst hvv
  have HUP : Hid (Calls Try.prog 50 #[.iface 75 (.pointer (some ⟨q, 0, none⟩)), .int .i64 (l.length : Int)] w1 fun e w' => e = .returned (.tuple #[]) ∧ ∃ l', QB G w' q l' ∧ l'.Perm (l ++ [⟨p, n⟩]) ∧ HO (fA l') l'.length ∧ QX q G w1 w') := up_any hQ1 (H.out.2.1.mono hb1.size) H.out.1 (by have := H.out.2.2; simp; omega) l.length (by simp) HU.out
  have HB1 : Hid (QX q G w w1) := hb1
  have HLN : Hid (Calls Try.prog 109 #[.slice av (l.length + 1) cv] w1 fun e w' => e = .returned (.int .i64 ((l.length : Int) + 1)) ∧ w' = w1) := (qlen_any w1 av (l.length + 1) cv).mono fun e w' ⟨h1, h2⟩ => ⟨by rw [h1]; congr 2, h2⟩
  obtain ⟨k, hk⟩ : ∃ k, l.length = k := ⟨_, rfl⟩
  have hkl : k ≤ 1000000 := by have := H.out.2.2; omega
  rw [hk] at HUP HLN hml
  clear hQ1 hb1 hv ho hk hmp
  go_wp2_with fail
  refine HLN.out.mono ?_
  rintro e w2 ⟨rfl, rfl⟩
  go_wp2_with fail
  refine HUP.out.mono ?_
  rintro e w3 ⟨rfl, l', h1, h2, h3, h4⟩
  have HF : Hid (QB G w3 q l' ∧ l'.Perm (l ++ [⟨p, n⟩]) ∧ HO (fA l') l'.length ∧ QX q G w w3) := ⟨h1, h2, h3, QX.trans HB1.out h4⟩
  clear h1 h2 h3 h4
  go_wp2_with fail
  go_end0
  exact ⟨rfl, l', HF.out⟩

set_option maxRecDepth 100000 in
set_option maxHeartbeats 4000000 in
theorem hpop_any {G : Nat → Prop} {w : World} {q : Nat} {l : List Lb} (h : QB G w q l) (hbase : NewG G w) (hu : ∀ x ∈ l, Lu x) (hl : l.length ≤ 1000000) (hne : 0 < l.length) (hH : HO (fA l) l.length) :
    Calls Try.prog 35 #[.iface 75 (.pointer (some ⟨q, 0, none⟩))] w fun e w' => (∃ x, e = .returned x) ∧ ∃ l', QB G w' q l' ∧ (l' ++ [fA l 0]).Perm l ∧ HO (fA l') l'.length ∧ QX q G w w' := by
  obtain ⟨k, hk⟩ : ∃ k, l.length = k + 1 := ⟨l.length - 1, by omega⟩
  obtain ⟨v, hv, ho⟩ := h
  have hml := m_len q _ w hv.cell
  have hms := m_swap q _ w hv.cell
  obtain ⟨av, cv, hvv⟩ := ho.1.form
  rw [hk] at hvv
  subst hvv
  have HS : Hid (Calls Try.prog 111 #[.slice av (k + 1) cv, .int .i64 0, .int .i64 (k : Int)] w fun e w' => e = .returned (.tuple #[]) ∧ OwnL 0 w' (.slice av (k + 1) cv) (swL l 0 k) ∧ Only (bl (.slice av (k + 1) cv)) w w') := qswap_any ho.1 0 k (by omega) (by omega)
  have HLN : Hid (Calls Try.prog 109 #[.slice av (k + 1) cv] w fun e w' => e = .returned (.int .i64 ((k : Int) + 1)) ∧ w' = w) := (qlen_any w av (k + 1) cv).mono fun e w' ⟨h1, h2⟩ => ⟨by rw [h1]; congr 2, h2⟩
  have HX : Hid (Boxed w q 73 (.slice av (k + 1) cv) ∧ OwnQ G w (.slice av (k + 1) cv) l ∧ True ∧ NewG G w ∧ (∀ x ∈ l, Lu x) ∧ l.length = k + 1 ∧ HO (fA l) l.length ∧ l.length ≤ 1000000) := ⟨hv, ho, trivial, hbase, hu, hk, hH, hl⟩
  have hkl : k ≤ 1000000 := by omega
  clear hv ho hbase hu hH hl hne hk
  have hmp := m_pop q
  go_enter Try.func35, Try.ntmps35
  go_wp2_with fail
  refine HLN.out.mono ?_
  rintro e w1 ⟨rfl, rfl⟩
  go_wp2_with fail
  refine HS.out.mono ?_
  rintro e w2 ⟨rfl, ho2, hon2⟩
  have hQ2 : QB G w2 q (swL l 0 k) := QB.only HX.out.1 HX.out.2.1 ho2 hon2
  have hB2 : QX q G w1 w2 := QX.own HX.out.2.1 hon2
  have hperm2 := swL_perm l 0 k (by have := HX.out.2.2.2.2.2.1; omega) (by have := HX.out.2.2.2.2.2.1; omega)
  have hD : DnI (fA (swL l 0 k)) k 0 := by
    have hlk := HX.out.2.2.2.2.2.1
    refine ⟨fun j h0 hj hp => ?_, fun j h0 hj hp h1 => by omega⟩
    have e1 : ∀ j, 0 < j → j < k → fA (swL l 0 k) j = fA l j := fun j h0 hj => by
      rw [fA_sw (by omega) (by omega) j (by omega)]
      unfold swF
      rw [if_neg (by omega), if_neg (by omega)]
    have hpj : par j < j := by unfold par; omega
    rw [e1 j h0 hj, e1 (par j) (by omega) (by omega)]
    exact HX.out.2.2.2.2.2.2.1 j h0 (by omega)
  have HD : Hid (Calls Try.prog 51 #[.iface 75 (.pointer (some ⟨q, 0, none⟩)), .int .i64 0, .int .i64 (k : Int)] w2 fun e w' => (∃ x, e = .returned x) ∧ ∃ l', QB G w' q l' ∧ l'.Perm (swL l 0 k) ∧ l'.length = (swL l 0 k).length ∧ (∀ j, k ≤ j → fA l' j = fA (swL l 0 k) j) ∧ HO (fA l') k ∧ QX q G w2 w') :=
    down_any hQ2 (HX.out.2.2.2.1.mono hB2.size) (fun x hx => HX.out.2.2.2.2.1 x (hperm2.mem_iff.1 hx)) (by rw [swL_len]; exact HX.out.2.2.2.2.2.2.2) k (by rw [swL_len]; have := HX.out.2.2.2.2.2.1; omega) hD
  have HB2 : Hid (QX q G w1 w2 ∧ (swL l 0 k).Perm l) := ⟨hB2, hperm2⟩
  clear ho2 hon2 hQ2 hB2 hperm2 hD hml hms
  go_wp2_with fail
  refine HD.out.mono ?_
  rintro e w3 ⟨⟨x, rfl⟩, l3, h1, h2, h3, h4, h5, h6⟩
  have hl3 : l3.length = k + 1 := by rw [h3, swL_len]; exact HX.out.2.2.2.2.2.1
  have HPO : Hid (Calls Try.prog 112 #[.pointer (some ⟨q, 0, none⟩)] w3 fun e w' => (∃ x, e = .returned x) ∧ QB G w' q (l3.take (l3.length - 1)) ∧ QX q G w3 w') := qpop_any h1 (by have := HX.out.2.2.2.2.2.2.2; have := HX.out.2.2.2.2.2.1; omega) (by omega)
  have HZ : Hid ((l3.take k ++ [fA l 0]).Perm l ∧ HO (fA (l3.take k)) (l3.take k).length ∧ QX q G w1 w3 ∧ l3.length - 1 = k) := by
    have hk3 : k < l3.length := by omega
    refine ⟨?_, ?_, QX.trans HB2.out.1 h6, by omega⟩
    · have e1 : l3 = l3.take k ++ [l3[k]] := by
        conv => lhs; rw [← List.take_append_drop k l3]
        rw [List.drop_eq_getElem_cons hk3, List.drop_eq_nil_of_le (by omega)]
      have e2 : l3[k] = fA l 0 := by
        rw [← fA_get hk3, h4 k (Nat.le_refl _)]
        have hlk := HX.out.2.2.2.2.2.1
        rw [fA_sw (by omega) (by omega) k (by omega)]
        unfold swF
        by_cases hk0 : k = 0
        · rw [if_pos hk0, hk0]
        · rw [if_neg hk0, if_pos rfl]
      rw [← e2, ← e1]
      exact h2.trans HB2.out.2
    · have hlt : (l3.take k).length = k := by simp; omega
      rw [hlt]
      refine h5.congr (fun j hj => ?_)
      rw [fA_get (by omega), fA_get (by rw [hlt]; exact hj), List.getElem_take]
  clear h1 h2 h3 h4 h5 h6 hl3
  go_wp2_with fail
  refine HPO.out.mono ?_
  rintro e w4 ⟨⟨y, rfl⟩, hQ4, hb4⟩
  rw [HZ.out.2.2.2] at hQ4
  have HF : Hid (QB G w4 q (l3.take k) ∧ QX q G w1 w4) := ⟨hQ4, QX.trans HZ.out.2.2.1 hb4⟩
  clear hQ4 hb4
  go_wp2_with fail
  go_ret
  exact ⟨⟨_, rfl⟩, l3.take k, HF.out.1, HZ.out.1, HZ.out.2.1, HF.out.2⟩
end Go.Proofs.Ytjohhmfncemknaa
