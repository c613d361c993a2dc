/-
  The document's tree: Delete.
  The document's paths of layer 13: pieces, components, orders.
-/
import Derived.Test.YtlkkmcibjhoneaaGreatDoorDd
import Derived.Test.YtlkkmcibjhoneaaGreatDoorRef
import Derived.Test.YtlkkmcibjhoneaaGreatDoorJKn2
import Derived.Test.YtlkkmcibjhoneaaGreatDoorJFil
import Derived.Deep.DeepCutAuto
namespace Go.Proofs.YtlkkmcibjhoneaaGreatDoor
open Go.RowKit

theorem FS.take {w : World} {a : Option Addr} {n c : Nat} {l : List Fl} (h : FS w (.slice a n c) l) (k : Nat) (hk : k ≤ l.length) : FS w (.slice a k c) (l.take k) := by
  rcases h with ⟨⟨a', c', e⟩, rfl⟩ | ⟨b, off, cap, e, hc, hlt, hcell⟩
  · have : k = 0 := by simpa using hk
    subst this
    exact .inl ⟨⟨_, _, rfl⟩, rfl⟩
  · injection e with e1 e2 e3
    subst e1
    subst e3
    have hl : (l.take k).length = k := by rw [List.length_take]; omega
    refine .inr ⟨b, off, c, by rw [hl], by omega, hlt, fun i u hu => hcell i u ?_⟩
    have hsp : fc l = fc (l.take k) ++ fc (l.drop k) := by rw [← fc_append, List.take_append_drop]
    rw [hsp, List.getElem?_append_left (List.getElem?_eq_some_iff.1 hu).1]
    exact hu
theorem FS.drop {w : World} {b off n c : Nat} {l : List Fl} (h : FS w (.slice (some ⟨b, off, none⟩) n c) l) (k : Nat) (hk : k ≤ l.length) (hn : n = l.length) : FS w (.slice (some ⟨b, off + k * 4, none⟩) (n - k) (c - k)) (l.drop k) := by
  rcases h with ⟨⟨a', c', e⟩, rfl⟩ | ⟨b', off', cap, e, hc, hlt, hcell⟩
  · have : k = 0 := by simpa using hk
    subst this
    subst hn
    exact .inl ⟨⟨_, _, rfl⟩, rfl⟩
  · injection e with e1 e2 e3
    injection e1 with e1
    injection e1 with e1 e4 _
    subst e1
    subst e3
    subst e4
    refine .inr ⟨b, off + k * 4, c - k, by rw [List.length_drop, hn], by rw [List.length_drop]; omega, hlt, fun i u hu => ?_⟩
    have hsp : fc l = fc (l.take k) ++ fc (l.drop k) := by rw [← fc_append, List.take_append_drop]
    have hlk : (fc (l.take k)).length = k * 4 := by rw [fc_length, List.length_take]; omega
    have := hcell (k * 4 + i) u (by rw [hsp, List.getElem?_append_right (by omega), hlk, Nat.add_sub_cancel_left]; exact hu)
    rwa [Nat.add_assoc]
theorem fs_empty {w : World} {a : Option Addr} {c : Nat} {l : List Fl} (h : l = []) : FS w (.slice a 0 c) l := .inl ⟨⟨_, _, rfl⟩, h⟩
theorem del_at {l : List Fl} (h : l.Pairwise (fun a b => cf a.path b.path < 0)) {k : Nat} (hk : k < l.length) : l.take k ++ l.drop (k + 1) = l.filter (fun f => !(f.path == (l[k]'hk).path)) := by
  have e : l = l.take k ++ (l[k]'hk) :: l.drop (k + 1) := by rw [← List.drop_eq_getElem_cons hk, List.take_append_drop]
  generalize hf : l[k]'hk = f at e ⊢
  rw [e] at h
  obtain ⟨_, h2, h3⟩ := List.pairwise_append.1 h
  obtain ⟨h4, _⟩ := List.pairwise_cons.1 h2
  conv => rhs; rw [e]
  rw [List.filter_append, List.filter_cons]
  simp only [beq_self_eq_true, Bool.not_true, Bool.false_eq_true, if_false]
  congr 1
  · refine (List.filter_eq_self.2 fun x hx => ?_).symm
    have := h3 x hx f (by simp)
    have : x.path ≠ f.path := fun e => by rw [e, cf_zero.2 rfl] at this; omega
    simpa using this
  · refine (List.filter_eq_self.2 fun x hx => ?_).symm
    have := h4 x hx
    have : x.path ≠ f.path := fun e => by rw [e, cf_zero.2 rfl] at this; omega
    simpa using this
set_option maxRecDepth 100000 in
set_option maxHeartbeats 4000000 in
theorem rdelete_any {w : World} {F : Nat → Prop} {c : Nat} {T : TT} (h : RT w F c T) (hz : TSz 3999999 T) (ho : TOk T) (p : List UInt8) :
    Calls Tryz.prog 69 #[.pointer (some ⟨c, 0, none⟩), .string (bs p)] w (RSt w F c (T.dl p)) := by
  have H : Hid (RT w F c T ∧ TSz 3999999 T ∧ TOk T) := ⟨h, hz, ho⟩
  clear h hz ho
  obtain ⟨R, hR⟩ : ∃ R, T.dl p = R := ⟨_, rfl⟩
  rw [hR]
  have HR : Hid (T.dl p = R) := hR
  clear hR
  go_enter Tryz.func69, Tryz.ntmps69
  go_wp2_with fail
  refine (counted_any H.out.1 (H.out.2.1.mono (by omega)) H.out.2.2 (nil_bs w) (nil_no F) (by simp)).mono ?_
  rintro e w1 ⟨rfl, h1, o1⟩
  have H1 : Hid (RT w1 (nwF F w w1) c (T.cnt []).1 ∧ OnlyP F w w1) := ⟨h1, o1⟩
  clear h1 o1
  cases hc : (T.cnt []).2 with
  | false =>
    go_wp2_with fail
    go_ret
    rw [← HR.out, show T.dl p = _ from step_not hc]
    exact ⟨rfl, H1.out⟩
  | true =>
    obtain ⟨T1, hT1⟩ : ∃ T1, (T.cnt []).1 = T1 := ⟨_, rfl⟩
    have hz2 : Hid (TSz 4000000 T1) := hT1 ▸ H.out.2.1.cnt []
    have ok1 : Hid (TOk T1) := hT1 ▸ H.out.2.2.cnt []
    have HT : Hid ((T.cnt []).1 = T1) := hT1
    rw [hT1] at H1
    clear hT1
    go_wp2_with fail
    refine (rfile_any H1.out.1 hz2.out p).mono ?_
    rintro e wq ⟨r, rfl, rfl, hf⟩
    rcases hf with ⟨rfl, hno⟩ | ⟨k, hk, rfl, hkp⟩
    · go_wp2_with fail
      go_ret
      rw [← HR.out, show T.dl p = _ from step_do hc, HT.out]
      unfold dlG
      rw [if_neg (by rw [hno]; decide)]
      exact ⟨rfl, H1.out⟩
    · have YES : Hid (hasF T1.fs p = true ∧ T1.fs.take k ++ T1.fs.drop (k + 1) = T1.fs.filter (fun f => !(f.path == p))) := ⟨hasF_iff.2 ⟨_, List.getElem_mem hk, hkp⟩, by rw [del_at ok1.out.fu hk, hkp]⟩
      obtain ⟨vf, c0, of, kf, f0⟩ := H1.out.1.open0
      have hfs := of.fs
      rcases of.form' with ⟨_, h0⟩ | ⟨g, cap, e, hcap, _, _⟩
      · rw [h0] at hk; simp at hk
      subst e
      obtain ⟨N, hN⟩ : ∃ N, T1.fs.length = N := ⟨_, rfl⟩
      rw [hN] at hfs c0 hcap hk
      have hkl : k ≤ T1.fs.length := by omega
      have FT : Hid (FS wq (.slice (some ⟨g, 0, none⟩) k cap) (T1.fs.take k)) := hfs.take k hkl
      have FDp : Hid (FS wq (.slice (some ⟨g, (k + 1) * 4, none⟩) (N - (k + 1)) (cap - (k + 1))) (T1.fs.drop (k + 1))) := by have := hfs.drop (k + 1) (by omega) hN.symm; rwa [Nat.zero_add] at this
      have FDe : Hid (cap = k + 1 → N = k + 1 ∧ T1.fs.drop (k + 1) = []) := fun e => ⟨by omega, List.drop_eq_nil_iff.2 (by omega)⟩
      have hnf : N ≤ 4000000 := by rw [← hN]; exact hz2.out.nf
      have HC1 : Hid (c < wq.heap.size) := H1.out.1.lt c H1.out.1.mem
      have C0 : Hid (wq.cell? ⟨c, 0, none⟩ = some (.slice (some ⟨g, 0, none⟩) N cap) ∧ wq.frozen? ⟨c, 0, none⟩ = false) := ⟨c0, f0⟩
      have hlt : Hid ((T1.fs.take k).length = k) := show (T1.fs.take k).length = k by rw [List.length_take]; omega
      have hld : Hid ((T1.fs.drop (k + 1)).length = N - (k + 1)) := show (T1.fs.drop (k + 1)).length = N - (k + 1) by rw [List.length_drop, hN]
      have i0 : (0 : Int) ≤ (k : Int) := by omega
      have i1 : (k : Int) ≤ (cap : Int) := by omega
      have i2 : (k : Int) + 1 ≤ (N : Int) := by omega
      clear of kf f0 hfs hkp hkl hN
      by_cases hce : cap = k + 1
      · obtain ⟨hNe, hDe⟩ := FDe.out hce
        have HDE : Hid (T1.fs.drop (k + 1) = []) := hDe
        subst hce
        subst hNe
        have hwr : wrap64 ((k : Int) + 1) = (k : Int) + 1 := IntWalk.wrap64_in _ (by omega)
        clear hDe FDe FDp
        go_wp2_with (at_builtin; apply hold)
        unfold Hid
        refine app_files (base := wq.heap.size) (l := []) (k := T1.fs.take k) (OwnF.nil _ _) FT.out.src (by rw [hlt.out]; simp; omega) (Nat.le_refl _) rfl (.tmp 15) (.tmp 21) rfl rfl rfl ?_
        intro v2 w2 k1 k2 k3
        have K2 : Hid (OwnF wq.heap.size w2 v2 (T1.fs.take k) ∧ Below wq.heap.size wq w2) := ⟨k1, grown_none k2⟩
        clear k1 k2 k3
        have e0 : w2.cell? ⟨c, 0, none⟩ = some (.slice (some ⟨g, 0, none⟩) (k + 1) (k + 1)) := (K2.out.2.cell (p := ⟨c, 0, none⟩) HC1.out).trans C0.out.1
        go_wp2_with (at_builtin; apply hold)
        unfold Hid
        refine app_files (base := wq.heap.size) (l := T1.fs.take k) (k := T1.fs.drop (k + 1)) K2.out.1 ((fs_empty HDE.out : FS w2 (.slice (some ⟨g, 0, none⟩) 0 0) _)).src (by rw [hlt.out, hld.out]; omega) K2.out.2.size rfl (.tmp 24) (.tmp 31) rfl rfl rfl ?_
        intro v3 w3 k1 k2 k3
        rw [YES.out.2] at k1
        obtain ⟨va, vc, rfl⟩ := k1.form
        have K3 : Hid (OwnF wq.heap.size w3 (.slice va (T1.fs.filter (fun f => !(f.path == p))).length vc) (T1.fs.filter (fun f => !(f.path == p))) ∧ Below wq.heap.size wq w3) := ⟨k1, K2.out.2.grown k2 K2.out.2.size (fun k hk => (K2.out.1.lt hk).1)⟩
        generalize (T1.fs.filter (fun f => !(f.path == p))).length = nn at *
        have hbk : w3.heap[c]? = wq.heap[c]? := K3.out.2.block c HC1.out
        have e1 : w3.cell? ⟨c, 0, none⟩ = some (.slice (some ⟨g, 0, none⟩) (k + 1) (k + 1)) := (cell_stay hbk 0).trans C0.out.1
        have g1 : w3.frozen? ⟨c, 0, none⟩ = false := frz_block hbk C0.out.2
        clear k1 k2 k3 hbk
        go_wp2_with fail
        go_ret
        rw [← HR.out, show T.dl p = _ from step_do hc, HT.out]
        unfold dlG
        rw [if_pos YES.out.1]
        exact ⟨rfl, RT.putF H1.out.1 H1.out.2 K3.out.2 K3.out.1⟩
      · have hwr : wrap64 ((k : Int) + 1) = (k : Int) + 1 := IntWalk.wrap64_in _ (by omega)
        go_wp2_with (at_builtin; apply hold)
        unfold Hid
        refine app_files (base := wq.heap.size) (l := []) (k := T1.fs.take k) (OwnF.nil _ _) FT.out.src (by rw [hlt.out]; simp; omega) (Nat.le_refl _) rfl (.tmp 15) (.tmp 21) rfl rfl rfl ?_
        intro v2 w2 k1 k2 k3
        have K2 : Hid (OwnF wq.heap.size w2 v2 (T1.fs.take k) ∧ Below wq.heap.size wq w2) := ⟨k1, grown_none k2⟩
        clear k1 k2 k3
        have e0 : w2.cell? ⟨c, 0, none⟩ = some (.slice (some ⟨g, 0, none⟩) N cap) := (K2.out.2.cell (p := ⟨c, 0, none⟩) HC1.out).trans C0.out.1
        go_wp2_with (at_builtin; apply hold)
        unfold Hid
        refine app_files (base := wq.heap.size) (l := T1.fs.take k) (k := T1.fs.drop (k + 1)) K2.out.1 (FDp.out.later K2.out.2).src (by rw [hlt.out, hld.out]; omega) K2.out.2.size rfl (.tmp 24) (.tmp 31) rfl rfl rfl ?_
        intro v3 w3 k1 k2 k3
        rw [YES.out.2] at k1
        obtain ⟨va, vc, rfl⟩ := k1.form
        have K3 : Hid (OwnF wq.heap.size w3 (.slice va (T1.fs.filter (fun f => !(f.path == p))).length vc) (T1.fs.filter (fun f => !(f.path == p))) ∧ Below wq.heap.size wq w3) := ⟨k1, K2.out.2.grown k2 K2.out.2.size (fun k hk => (K2.out.1.lt hk).1)⟩
        generalize (T1.fs.filter (fun f => !(f.path == p))).length = nn at *
        have hbk : w3.heap[c]? = wq.heap[c]? := K3.out.2.block c HC1.out
        have e1 : w3.cell? ⟨c, 0, none⟩ = some (.slice (some ⟨g, 0, none⟩) N cap) := (cell_stay hbk 0).trans C0.out.1
        have g1 : w3.frozen? ⟨c, 0, none⟩ = false := frz_block hbk C0.out.2
        clear k1 k2 k3 hbk
        go_wp2_with fail
        go_ret
        rw [← HR.out, show T.dl p = _ from step_do hc, HT.out]
        unfold dlG
        rw [if_pos YES.out.1]
        exact ⟨rfl, RT.putF H1.out.1 H1.out.2 K3.out.2 K3.out.1⟩
end Go.Proofs.YtlkkmcibjhoneaaGreatDoor

namespace Go.Proofs.YtlkkmcibjhoneaaGreatDoor
open Go.RowKit

set_option maxHeartbeats 1000000 in
set_option maxRecDepth 100000 in
theorem rpieces_any (l : List UInt8) (w : World) (hm : l.length ≤ 1000000000) :
    Calls Tryz.prog 117 #[.string (bs l)] w fun e w' => ∃ v, e = .returned v ∧ Own w.heap.size w' v (pcs l) ∧ Below w.heap.size w w' := by
  have he := isE l
  by_cases hl : l = []
  · subst hl
    rw [pcs_nil]
    go_enter Tryz.func117, Tryz.ntmps117
    go_wp2_with fail
    go_ret
    exact ⟨_, rfl, Own.nil _ _, Below.refl _ _⟩
  have i0 : l.isEmpty = false := by cases l; exact absurd rfl hl; rfl
  rw [i0] at he
  have hz : (bs l).size = l.length := rfl
  have hP : pcs l = sp l := by simp [pcs, hl]
  rw [hP]
  obtain ⟨L, hL⟩ : ∃ L, sp l = L := ⟨_, rfl⟩
  rw [hL]
  have HL : Hid (sp l = L) := hL
  have HN : Hid (L.length ≤ 1000000001) := by
    show _ ≤ _
    rw [← hL, ← hP, dep_eq]; have := dep_le l; omega
  clear hL hP hl i0
  go_enter Tryz.func117, Tryz.ntmps117
  go_wp2_with fail
  go_loopw [3, 4, 5] (fun o f i wr => ∃ (k m : Nat) (D : List (List UInt8)), i = .int .i64 k ∧ f = .int .i64 m ∧ Own w.heap.size wr o D ∧ Below w.heap.size w wr ∧ ((k ≤ l.length ∧ m ≤ k ∧ D ++ glue ((l.drop m).take (k - m)) (sp (l.drop k)) = L) ∨ (k = l.length + 1 ∧ D = L))) (fun _ _ i _ => l.length + 1 - (intOf i).toNat)
  case atStart => exact ⟨0, 0, [], rfl, rfl, Own.nil _ _, Below.refl _ _, .inl ⟨Nat.zero_le _, Nat.le_refl _, by simpa [glue_nil _ (sp_ne l)] using HL.out⟩⟩
  case round =>
    obtain ⟨k, m, D, rfl, rfl, hown, hbw, hor⟩ := hrel
    have HO : Hid (Own w.heap.size wr u3 D) := hown
    have HB : Hid (Below w.heap.size w wr) := hbw
    have hzw := hbw.size
    clear hown hbw
    rcases hor with ⟨hk, hmk, heq⟩ | ⟨rfl, rfl⟩
    · have hDl : D.length + 1 ≤ 8796093022208 := by
        have h1 := congrArg List.length heq
        have h2 := glue_len ((l.drop m).take (k - m)) (sp (l.drop k))
        have := HN.out
        rw [List.length_append] at h1; omega
      have HE : Hid (D ++ glue ((l.drop m).take (k - m)) (sp (l.drop k)) = L) := heq
      have HX : Hid ((bs l).extract m k = bs ((l.drop m).take (k - m))) := bs_extract l m k
      clear heq
      by_cases hlt : k < l.length
      · have hkz : k < (bs l).size := hlt
        have e0 : ((k : Int) == (l.length : Int)) = false := by rw [beq_eq_false_iff_ne]; omega
        by_cases hc : l[k]'hlt = 47
        · have e1 : (((bs l)[k].toNat : Int) == 47) = true := by rw [bs_get _ _ _ hlt, hc]; rfl
          have h2 := HE.out
          rw [List.drop_eq_getElem_cons hlt, hc, glue_sp_eq] at h2
          have HE2 : Hid ((D ++ [(l.drop m).take (k - m)]) ++ glue ((l.drop (k + 1)).take (k + 1 - (k + 1))) (sp (l.drop (k + 1))) = L) := by
            show _ = _
            rw [← h2, Nat.sub_self, List.take_zero, glue_nil _ (sp_ne _)]; simp
          clear h2
          go_wp2_with (at_builtin; rw [HX.out]; refine app_one (base := w.heap.size) ((l.drop m).take (k - m)) HO.out hDl hzw rfl (.tmp 24) (.tmp 29) rfl rfl rfl ?_; intro v' w' ho hbw hbs' hgr hat)
          go_roundw
          case rel => exact ⟨k + 1, k + 1, _, by go_num, by go_num, ho, below_trans HB.out hbw, .inl ⟨by omega, Nat.le_refl _, HE2.out⟩⟩
          case measure => simp [intOf]; omega
        · have e1 : (((bs l)[k].toNat : Int) == 47) = false := by
            rw [bs_get _ _ _ hlt, beq_eq_false_iff_ne]; intro e; apply hc; apply UInt8.toNat_inj.1; exact Int.ofNat.inj e
          have h2 := HE.out
          rw [List.drop_eq_getElem_cons hlt, glue_sp_ne _ _ _ hc, ← drop_take_snoc l m k hmk hlt] at h2
          have HE2 : Hid (D ++ glue ((l.drop m).take (k + 1 - m)) (sp (l.drop (k + 1))) = L) := h2
          clear h2
          go_wp2_with fail
          go_roundw
          case rel => exact ⟨k + 1, m, D, by go_num, rfl, HO.out, HB.out, .inl ⟨by omega, by omega, HE2.out⟩⟩
          case measure => simp [intOf]; omega
      · obtain rfl : k = l.length := by omega
        have h2 := HE.out
        rw [List.drop_length] at h2
        have HE2 : Hid (D ++ [(l.drop m).take (l.length - m)] = L) := by
          show _ = _
          rw [← h2]; simp [sp, glue]
        clear h2
        go_wp2_with (at_builtin; rw [HX.out]; refine app_one (base := w.heap.size) ((l.drop m).take (l.length - m)) HO.out hDl hzw rfl (.tmp 24) (.tmp 29) rfl rfl rfl ?_; intro v' w' ho hbw hbs' hgr hat)
        go_roundw
        case rel => exact ⟨l.length + 1, l.length + 1, _, by go_num, by go_num, ho, below_trans HB.out hbw, .inr ⟨rfl, HE2.out⟩⟩
        case measure => simp [intOf]
    · have h3 : ¬ l.length + 1 ≤ l.length := by omega
      go_wp2_with fail
      go_ret
      exact ⟨_, rfl, HO.out, HB.out⟩

end Go.Proofs.YtlkkmcibjhoneaaGreatDoor
