import Derived.Test.YtkopjamednedfaaGreatRows2
import Derived.Deep.RegionHeld3
import Derived.Test.YtkopjamednedfaaGreatJSShelf
import Derived.Sort.OwnSorted
namespace Go.Proofs.YtkopjamednedfaaGreat
open Go.RowKit Go.Sort Go.Lib

/-
  A list brought into its order, each text once.
-/

theorem slaid_grow {w w' : World} (h : Laid w w') : ∃ q os, w' = grow (w.drewN q) os := by
  refine ⟨w'.drawn - w.drawn, w'.heap.extract w.heap.size w'.heap.size, ?_⟩
  obtain ⟨hb, hd⟩ := h
  have hh : w'.heap = w.heap ++ w'.heap.extract w.heap.size w'.heap.size := by
    apply Array.ext_getElem?
    intro i
    rw [Array.getElem?_append]
    by_cases hi : i < w.heap.size
    · rw [if_pos hi]; exact hb.block i hi
    · rw [if_neg hi]
      have hs := hb.size
      by_cases hj : i < w'.heap.size
      · rw [Array.getElem?_extract_of_lt (by omega)]
        simp [Array.getElem?_eq_getElem hj, show w.heap.size + (i - w.heap.size) = i by omega]
      · rw [Array.getElem?_eq_none (by omega), Array.getElem?_eq_none (by simp; omega)]
  have e1 := hb.os
  have e2 := hb.tape
  have e3 := hb.output
  cases w' with
  | mk heap tape drawn os output =>
    cases w with
    | mk heap0 tape0 drawn0 os0 output0 =>
      simp only at hh e1 e2 e3 hd
      simp only [grow, World.drewN]
      subst e1 e2 e3
      congr 1
      omega

/-- a text that a machine has -/
abbrev TSs : Type := { l : List UInt8 // l.length ≤ 1000000000 }
def tz : TSs := ⟨[], by simp⟩
def encT (x : TSs) : Value := .string (bs x.1)
def cfT (x y : TSs) : Int := cf x.1 y.1
theorem sltT (x y : TSs) : ltOf cfT x y = decide (cf x.1 y.1 < 0) := rfl
theorem sswoT : SWO (ltOf cfT) where
  irrefl x := by rw [sltT, cf_self]; rfl
  trans x y z h1 h2 := by rw [sltT] at *; simp at *; exact cf_trans h1 h2
  ntrans x y z h1 h2 := by
    rw [sltT] at *
    simp at *
    have := cf_le_trans (a := z.1) (b := y.1) (c := x.1) (by rw [cf_neg]; omega) (by rw [cf_neg]; omega)
    rw [cf_neg] at this; omega
theorem stotT (x y : TSs) (h1 : ltOf cfT x y = false) (h2 : ltOf cfT y x = false) : x = y := by
  rw [sltT] at *
  simp at *
  have h3 : cf x.1 y.1 = 0 := by rw [cf_neg] at h2; omega
  exact Subtype.ext (cf_zero.1 h3)

theorem lift (l : List (List UInt8)) (h : ∀ x ∈ l, x.length ≤ 1000000000) : ∃ d : List TSs, d.map Subtype.val = l := by
  induction l with
  | nil => exact ⟨[], rfl⟩
  | cons x l ih =>
    obtain ⟨d, hd⟩ := ih (fun y hy => h y (by simp [hy]))
    exact ⟨⟨x, h x (by simp)⟩ :: d, by simp [hd]⟩

theorem putRow_val [Inhabited TSs] (w : World) (g : Nat) (d : List TSs) : putRow encT w g 0 d.toArray = putRow encStr w g 0 (d.map Subtype.val).toArray := by
  unfold putRow
  congr 1
  funext c
  unfold putCells
  congr 1
  funext k x
  simp only [List.size_toArray, List.length_map, Nat.sub_zero, Nat.zero_add, Nat.zero_le, true_and]
  by_cases hk : k < d.length
  · rw [if_pos hk, if_pos hk]
    simp [hk]
    rfl
  · rw [if_neg hk, if_neg hk]

theorem sc_enc (l : List (List UInt8)) : l.map encStr = sc l := rfl

set_option maxRecDepth 100000 in
set_option maxHeartbeats 1000000 in
/-- the sort -/
theorem ssort_any {w : World} {base : Nat} {v : Value} {l : List (List UInt8)} (h : Own base w v l) (sm : Sm l) (hbase : base ≤ w.heap.size) :
    Calls Tryz.prog 87 #[v, .func (.func 88) #[] #[]] w fun e w' => e = .returned (.tuple #[]) ∧ ∃ ts, ts.Perm l ∧ ts.Pairwise (fun a b => cf a b ≤ 0) ∧ Own base w' v ts ∧ Below base w w' := by
  have hinh : Inhabited TSs := ⟨tz⟩
  by_cases h0 : l = []
  · subst h0
    obtain ⟨a, c, e, _⟩ := h.bs.form
    have hS := AnyF.slices_SortFunc_none (P := Tryz.prog) (ρ := Tryz.sortS_ren) { Tryz.sortS with } a c (.func (.func 88) #[] #[]) w
    change Calls Tryz.prog 87 _ _ _ at hS
    rw [e]
    refine hS.mono ?_
    rintro e1 w' ⟨rfl, rfl⟩
    exact ⟨rfl, [], .refl _, .nil, by rw [← e]; exact h, Below.refl _ _⟩
  · obtain ⟨d, hd⟩ := lift l sm.each
    have hdl : d.length = l.length := by rw [← hd]; simp
    rcases h.2 with ⟨_, h1⟩ | ⟨g, cap, cur, rfl, hbg, hg, hn, hcm, hcs, htake⟩
    · exact absurd (List.eq_nil_of_length_eq_zero h1) h0
    · have hH0 : Holds encStr w g 0 l.toArray := holds_of_block hg (by rw [sc_enc]; simpa using htake)
      have hH : Holds encT w g 0 d.toArray := by
        intro j hj
        have hj' : j < d.length := by simpa using hj
        have := hH0 j (by simp; omega)
        refine ⟨?_, this.2⟩
        rw [this.1]
        have hjl : j < l.length := by omega
        simp [hj', hjl]
        have : l[j] = (d[j]).1 := by simp [← hd]
        rw [this]; rfl
      have eg : ∀ args w, (callFunc 88 args).run Tryz.prog w = .ok (.enter 88 args) w := enters_of Tryz.func88 (by kernel_rfl) rfl
      have hcmp : CmpLays1 Tryz.prog 88 #[] encT cfT g 0 d.toArray.size w := fun m os dk _ x y =>
        (cmp_any x.1 y.1 _ (by have := x.2; omega) (by have := y.2; omega)).mono fun e w' ⟨he, hl⟩ => ⟨he, slaid_grow hl⟩
      have hS := Any.slices_SortFunc_total Tryz.sortS encT (fun _ => rfl) cfT sswoT 88 #[] g 0 cap d.toArray w eg hcmp hH (Array.getElem?_eq_some_iff.1 hg).1 (by have := sm.len; simp; omega) stotT
      change Calls Tryz.prog 87 _ _ _ at hS
      have e1 : d.toArray.size = l.length := by simp [hdl]
      rw [e1] at hS
      refine hS.mono ?_
      rintro e w' ⟨rfl, n, os, rfl⟩
      refine ⟨rfl, (d.mergeSort fun x y => !ltOf cfT y x).map Subtype.val, ?_, ?_, ?_, ?_⟩
      · rw [← hd]; exact (List.mergeSort_perm _ _).map _
      · rw [List.pairwise_map]
        have := List.pairwise_mergeSort (le := fun x y : TSs => !ltOf cfT y x) (fun x y z h1 h2 => by
          simp only [sltT, Bool.not_eq_true', decide_eq_false_iff_not] at *
          have := cf_le_trans (a := x.1) (b := y.1) (c := z.1) (by rw [cf_neg] at h1; omega) (by rw [cf_neg] at h2; omega)
          rw [cf_neg]; omega) (fun x y => by
          simp only [sltT, Bool.or_eq_true, Bool.not_eq_true', decide_eq_false_iff_not]
          have := cf_neg x.1 y.1; omega) d
        obtain ⟨S, hS⟩ : ∃ S, (d.mergeSort fun x y => !ltOf cfT y x) = S := ⟨_, rfl⟩
        rw [hS] at this ⊢
        refine List.pairwise_iff_getElem.2 fun i j hi hj hij => ?_
        have hab : (!ltOf cfT S[j] S[i]) = true := List.pairwise_iff_getElem.1 this i j hi hj hij
        have hlt : ltOf cfT S[j] S[i] = false := by simpa using hab
        rw [sltT] at hlt
        have hge : ¬ cf S[j].1 S[i].1 < 0 := of_decide_eq_false hlt
        have hng := cf_neg S[i].1 S[j].1
        omega
      · unfold sortWorld
        have e2 : d.toArray.toList = d := by simp
        rw [e2, putRow_val]
        have := ownsRow_sorted (w := w) (base := base) (g := g) (cap := cap) (n := n) (e := 9) (os := os) (ss := l) (ts := (d.mergeSort fun x y => !ltOf cfT y x).map Subtype.val) (by simp [hdl]) hbg hg hn hcm hcs
        unfold Own
        rw [← sc_enc]
        have hl2 : ((d.mergeSort fun x y => !ltOf cfT y x).map Subtype.val).length = l.length := by simp [hdl]
        rw [hl2]
        exact this
      · unfold sortWorld
        have e2 : d.toArray.toList = d := by simp
        rw [e2, putRow_val]
        exact (Below.refl _ _).grown (grownBy_sorted _) hbase (fun k hk => by cases hk; exact hbg)

theorem Own.cut {base : Nat} {w : World} {g n cap : Nat} {l : List (List UInt8)} (h : Own base w (.slice (some ⟨g, 0, none⟩) n cap) l) (k : Nat) (hk : k ≤ l.length) : Own base w (.slice (some ⟨g, 0, none⟩) k cap) (l.take k) := by
  rcases h.2 with ⟨e, _⟩ | ⟨g', cap', cur, e, hbg, hg, hn, hcm, hcs, htake⟩
  · cases e
  · injection e with e1 e2 e3
    injection e1 with e1
    injection e1 with e1 _ _
    subst e1
    subst e3
    have hlk : (l.take k).length = k := by simp; omega
    refine ⟨by rw [sc_length]; simp, .inr ⟨g, cap, cur, by rw [hlk], hbg, hg, by omega, hcm, hcs, ?_⟩⟩
    rw [hlk]
    have h2 : cur.toList.take (l.length * 1) = sc l := htake
    rw [Nat.mul_one] at h2 ⊢
    have h3 : cur.toList.take k = (cur.toList.take l.length).take k := by rw [List.take_take]; congr 1; omega
    rw [h3, h2]
    simp [sc]

set_option maxRecDepth 100000 in
set_option maxHeartbeats 1000000 in
theorem compact_short {v : Value} {a : Option Addr} {n c : Nat} (w : World) (hv : v = .slice a n c) (hn : n < 2) :
    Calls Tryz.prog 89 #[v] w fun e w' => e = .returned v ∧ w' = w := by
  subst hv
  go_enter Tryz.func89, Tryz.ntmps89
  go_wp2_with fail
  go_ret
  exact ⟨rfl, rfl⟩

set_option maxRecDepth 100000 in
set_option maxHeartbeats 1000000 in
/-- each run made one -/
theorem compact_any {w : World} {base : Nat} {v : Value} {l : List (List UInt8)} (h : Own base w v l) (sm : Sm l) (hs : l.Pairwise fun a b => cf a b ≤ 0) (hbase : base ≤ w.heap.size) :
    Calls Tryz.prog 89 #[v] w fun e w' => ∃ v', e = .returned v' ∧ Own base w' v' (norm l) ∧ Below base w w' := by
  by_cases h0 : l.length < 2
  · obtain ⟨a, c, e, _⟩ := h.bs.form
    refine (compact_short w e h0).mono ?_
    rintro e1 w' ⟨rfl, rfl⟩
    refine ⟨v, rfl, ?_, Below.refl _ _⟩
    have : norm l = l := norm_up (by
      match l, h0 with
      | [], _ => exact .nil
      | [x], _ => exact List.pairwise_singleton _ _)
    rw [this]; exact h
  · rcases h.2 with ⟨_, h1⟩ | ⟨g, cap, cur, rfl, hbg, hg, hn, hcm, hcs, htake⟩
    · exact absurd h1 (by omega)
    · have hH : Holds encStr w g 0 l.toArray := holds_of_block hg (by rw [sc_enc]; simpa using htake)
      have hC := AnyG.slices_Compact_string_arr Tryz.compactS g 0 cap l.toArray w hH (by have := sm.len; simp; omega) (by simpa using hn)
      change Calls Tryz.prog 89 _ _ _ at hC
      rw [compact_norm l l (.refl _) hs] at hC
      have e1 : l.toArray.size = l.length := by simp
      rw [e1] at hC
      refine hC.mono ?_
      rintro e w' ⟨rfl, q, rfl⟩
      have hnl := norm_len l
      obtain ⟨R, hR⟩ : ∃ R, norm l ++ List.replicate (l.length - (norm l).length) [] = R := ⟨_, rfl⟩
      rw [hR]
      have hRl : R.length = l.length := by rw [← hR]; simp; omega
      have ho := ownsRow_sorted (w := w) (base := base) (g := g) (cap := cap) (n := q) (e := 9) (os := #[]) (ss := l) (ts := R) hRl hbg hg hn hcm hcs
      have hgr := grownBy_sorted (w := w) (g := g) (n := q) (os := #[]) R.toArray
      rw [grow_empty] at ho hgr
      refine ⟨_, rfl, ?_, (Below.refl _ _).grown hgr hbase (fun k hk => by cases hk; exact hbg)⟩
      have ho2 : Own base (putRow encStr (Sort.ahead w q) g 0 R.toArray) (.slice (some ⟨g, 0, none⟩) l.length cap) R := by
        unfold Own
        rw [hRl]; exact ho
      have := ho2.cut (norm l).length (by omega)
      have e3 : R.take (norm l).length = norm l := by rw [← hR]; simp
      rw [e3] at this
      exact this

set_option maxRecDepth 100000 in
set_option maxHeartbeats 1000000 in
theorem sclone_any {w : World} {v : Value} {l : List (List UInt8)} (h : SS w v l) (sm : Sm l) :
    Calls Tryz.prog 76 #[v] w fun e w' => ∃ v', e = .returned v' ∧ Own w.heap.size w' v' l ∧ Below w.heap.size w w' := by
  rcases h with ⟨⟨a, c, rfl⟩, rfl⟩ | ⟨b, off, cap, rfl, hc, hlt, hcell⟩
  · cases a with
    | none =>
      have hC := AnyG.slices_Clone_string_nil Tryz.cloneS 0 c w
      change Calls Tryz.prog 76 _ _ _ at hC
      refine hC.mono ?_
      rintro e w' ⟨rfl, rfl⟩
      exact ⟨_, rfl, Own.nil _ _, Below.refl _ _⟩
    | some a =>
      have hC := AnyG.slices_Clone_string_zero Tryz.cloneS a c w
      change Calls Tryz.prog 76 _ _ _ at hC
      refine hC.mono ?_
      rintro e w' ⟨v', rfl, ho, _, hb⟩
      exact ⟨v', rfl, ho, hb⟩
  · have hC := AnyG.slices_Clone_string Tryz.cloneS b off l.length cap (l.map bs) w (by simp) (by have := sm.len; omega) (fun j hj => by
      have hj' : j < l.length := by simpa using hj
      rw [hcell j (.string (bs l[j])) (by simp [sc_get, hj'])]
      simp [List.getD, hj'])
    change Calls Tryz.prog 76 _ _ _ at hC
    refine hC.mono ?_
    rintro e w' ⟨v', rfl, ho, _, hb⟩
    refine ⟨v', rfl, ?_, hb⟩
    have e1 : ((l.map bs).take l.length).map Value.string = sc l := by
      rw [List.take_of_length_le (by simp)]; simp [sc]
    rw [e1] at ho
    exact ho

set_option maxRecDepth 100000 in
set_option maxHeartbeats 1000000 in
theorem rise_any {w : World} {base : Nat} {v : Value} {l : List (List UInt8)} (h : Own base w v l) (sm : Sm l) (hbase : base ≤ w.heap.size) :
    Calls Tryz.prog 75 #[v] w fun e w' => ∃ v', e = .returned v' ∧ Own base w' v' (norm l) ∧ Below base w w' := by
  have H : Hid (Own base w v l ∧ Sm l) := ⟨h, sm⟩
  clear h sm
  go_enter Tryz.func75, Tryz.ntmps75
  go_wp2_with fail
  refine (ssort_any H.out.1 H.out.2 hbase).mono ?_
  rintro e w1 ⟨rfl, ts, hp, hs, ho, hb⟩
  have H1 : Hid (Own base w1 v ts ∧ Sm ts ∧ ts.Pairwise (fun a b => cf a b ≤ 0) ∧ norm ts = norm l) :=
    ⟨ho, ⟨by rw [hp.length_eq]; exact H.out.2.len, fun x hx => H.out.2.each x (hp.mem_iff.1 hx)⟩, hs, norm_of (up_norm l) (fun x => (mem_norm x l).trans hp.mem_iff.symm)⟩
  have HB : Hid (Below base w w1) := hb
  have hb1 : base ≤ w1.heap.size := Nat.le_trans hbase hb.size
  clear hp hs ho hb
  go_wp2_with fail
  refine (compact_any H1.out.1 H1.out.2.1 H1.out.2.2.1 hb1).mono ?_
  rintro e w2 ⟨v2, rfl, ho2, hb2⟩
  have HO2 : Hid (Own base w2 v2 (norm l)) := by rw [← H1.out.2.2.2]; exact ho2
  have HB2 : Hid (Below base w w2) := below_trans HB.out hb2
  clear ho2 hb2
  go_wp2_with fail
  go_ret
  exact ⟨v2, rfl, HO2.out, HB2.out⟩

set_option maxRecDepth 100000 in
set_option maxHeartbeats 1000000 in
theorem norm_any {w : World} {v : Value} {l : List (List UInt8)} (h : SS w v l) (sm : Sm l) :
    Calls Tryz.prog 54 #[v] w fun e w' => ∃ v', e = .returned v' ∧ Own w.heap.size w' v' (norm l) ∧ Below w.heap.size w w' := by
  have H : Hid (SS w v l ∧ Sm l) := ⟨h, sm⟩
  clear h sm
  go_enter Tryz.func54, Tryz.ntmps54
  go_wp2_with fail
  refine (sclone_any H.out.1 H.out.2).mono ?_
  rintro e w1 ⟨v1, rfl, ho1, hb1⟩
  have HO1 : Hid (Own w.heap.size w1 v1 l) := ho1
  have HB1 : Hid (Below w.heap.size w w1) := hb1
  have hz := hb1.size
  clear ho1 hb1
  go_wp2_with fail
  refine (rise_any HO1.out H.out.2 hz).mono ?_
  rintro e w2 ⟨v2, rfl, ho2, hb2⟩
  have HO2 : Hid (Own w.heap.size w2 v2 (norm l)) := ho2
  have HB2 : Hid (Below w.heap.size w w2) := below_trans HB1.out hb2
  clear ho2 hb2
  go_wp2_with fail
  go_ret
  exact ⟨v2, rfl, HO2.out, HB2.out⟩
end Go.Proofs.YtkopjamednedfaaGreat
