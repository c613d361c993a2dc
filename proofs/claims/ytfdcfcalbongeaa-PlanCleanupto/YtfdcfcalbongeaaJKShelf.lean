/-
  The contracts of the sort, of Clone, of Compact and of the search, laid at this program, in plain words.
  The contracts of Compact, of the search and of Reverse, laid at this program, in plain words.
-/
import Derived.Shelf.SlSortCmp.NoneTotal
import Derived.Test.YtfdcfcalbongeaaProg
import Derived.Test.YtfdcfcalbongeaaRows2
import Derived.Deep.RegionHeld3
import Derived.Sort.OwnSorted
import Derived.Shelf.SlicesG.CompactS
import Derived.Shelf.SlCmpFuncs.BinarySearchFunc
import Derived.Shelf.SlCmpFuncs.None
import Derived.Shelf.Slices.ReverseS
namespace Go.Proofs
open Go.Shelf
def Try.sortL_ren : Go.Shelf.Ren := ⟨fun | 6 => 28 | 15 => 50 | 14 => 49 | 28 => 66 | 29 => 67 | 20 => 58 | 21 => 59 | 22 => 60 | 23 => 61 | 24 => 62 | 25 => 63 | 26 => 64 | 27 => 65 | 46 => 81 | 47 => 82 | 48 => 83 | 49 => 84 | 50 => 85 | 57 => 93 | n => n, fun | 22 => 27 | 24 => 9 | 25 => 35 | 3 => 3 | 39 => 75 | 0 => 0 | 53 => 89 | 55 => 91 | 4 => 4 | 46 => 83 | 45 => 82 | 50 => 69 | 5 => 5 | 9 => 9 | 66 => 100 | 70 => 104 | 76 => 112 | 77 => 76 | n => n, fun | n => n⟩
set_option maxRecDepth 100000 in
theorem Try.sortL : Go.Proofs.SlLaysF.n6 Try.prog Try.sortL_ren := {
  mixed := by kernel_rfl
  f6 := ⟨Try.f28.name, by decide, Try.func28.trans (congrArg some (by kernel_rfl))⟩
  f14 := ⟨Try.f49.name, by decide, Try.func49.trans (congrArg some (by kernel_rfl))⟩
  f15 := Try.func50.trans (congrArg some (by kernel_rfl))
  f20 := ⟨Try.f58.name, by decide, Try.func58.trans (congrArg some (by kernel_rfl))⟩
  f21 := ⟨Try.f59.name, by decide, Try.func59.trans (congrArg some (by kernel_rfl))⟩
  f22 := ⟨Try.f60.name, by decide, Try.func60.trans (congrArg some (by kernel_rfl))⟩
  f23 := ⟨Try.f61.name, by decide, Try.func61.trans (congrArg some (by kernel_rfl))⟩
  f24 := ⟨Try.f62.name, by decide, Try.func62.trans (congrArg some (by kernel_rfl))⟩
  f25 := ⟨Try.f63.name, by decide, Try.func63.trans (congrArg some (by kernel_rfl))⟩
  f26 := ⟨Try.f64.name, by decide, Try.func64.trans (congrArg some (by kernel_rfl))⟩
  f27 := ⟨Try.f65.name, by decide, Try.func65.trans (congrArg some (by kernel_rfl))⟩
  f28 := Try.func66.trans (congrArg some (by kernel_rfl))
  f29 := Try.func67.trans (congrArg some (by kernel_rfl))
  f46 := ⟨Try.f81.name, by decide, Try.func81.trans (congrArg some (by kernel_rfl))⟩
  f47 := Try.func82.trans (congrArg some (by kernel_rfl))
  f48 := Try.func83.trans (congrArg some (by kernel_rfl))
  f49 := ⟨Try.f84.name, by decide, Try.func84.trans (congrArg some (by kernel_rfl))⟩
  f50 := ⟨Try.f85.name, by decide, Try.func85.trans (congrArg some (by kernel_rfl))⟩
  f57 := ⟨Try.f93.name, by decide, Try.func93.trans (congrArg some (by kernel_rfl))⟩
  t0 := Try.underlying0
  a0 := Try.isAgg0
  z0 := Try.sizeOf0
  v0 := Try.zeroValue0
  t3 := Try.underlying3
  a3 := Try.isAgg3
  z3 := Try.sizeOf3
  v3 := Try.zeroValue3
  t4 := Try.underlying4
  a4 := Try.isAgg4
  z4 := Try.sizeOf4
  v4 := Try.zeroValue4
  t5 := Try.underlying5
  a5 := Try.isAgg5
  z5 := Try.sizeOf5
  v5 := Try.zeroValue5
  t9 := Try.underlying9
  a9 := Try.isAgg9
  z9 := Try.sizeOf9
  v9 := Try.zeroValue9
  t22 := Try.underlying27
  a22 := Try.isAgg27
  z22 := Try.sizeOf27
  v22 := Try.zeroValue27
  a24 := Try.isAgg9
  z24 := Try.sizeOf9
  t25 := Try.underlying35
  a25 := Try.isAgg35
  z25 := Try.sizeOf35
  v25 := Try.zeroValue35
  t39 := Try.underlying75
  a39 := Try.isAgg75
  z39 := Try.sizeOf75
  v39 := Try.zeroValue75
  t45 := Try.underlying82
  a45 := Try.isAgg82
  z45 := Try.sizeOf82
  v45 := Try.zeroValue82
  t46 := Try.underlying83
  a46 := Try.isAgg83
  z46 := Try.sizeOf83
  v46 := Try.zeroValue83
  t50 := Try.underlying69
  a50 := Try.isAgg69
  z50 := Try.sizeOf69
  v50 := Try.zeroValue69
  t53 := Try.underlying89
  a53 := Try.isAgg89
  z53 := Try.sizeOf89
  v53 := Try.zeroValue89
  t55 := Try.underlying91
  a55 := Try.isAgg91
  z55 := Try.sizeOf91
  v55 := Try.zeroValue91
  t66 := Try.underlying100
  a66 := Try.isAgg100
  z66 := Try.sizeOf100
  v66 := Try.zeroValue100
  t70 := Try.underlying104
  a70 := Try.isAgg104
  z70 := Try.sizeOf104
  v70 := Try.zeroValue104
  t76 := Try.underlying112
  a76 := Try.isAgg112
  z76 := Try.sizeOf112
  v76 := Try.zeroValue112
  t77 := Try.underlying76
  a77 := Try.isAgg76
  z77 := Try.sizeOf76
  v77 := Try.zeroValue76 }

end Go.Proofs

namespace Go.Proofs.Ytfdcfcalbongeaa
open Go.RowKit Go.Sort Go.Lib

/-
  A list brought into its order, each text once.
-/

theorem laid_grow {w w' : World} (h : Laid w w') : ∃ q os, w' = grow (w.drewN q) os := by
  refine ⟨w'.drawn - w.drawn, w'.heap.extract w.heap.size w'.heap.size, ?_⟩
  obtain ⟨hb, hd⟩ := h
  have hh : w'.heap = w.heap ++ w'.heap.extract w.heap.size w'.heap.size := by
    apply Array.ext_getElem?
    intro i
    rw [Array.getElem?_append]
    by_cases hi : i < w.heap.size
    · rw [if_pos hi]; exact hb.block i hi
    · rw [if_neg hi]
      have hs := hb.size
      by_cases hj : i < w'.heap.size
      · rw [Array.getElem?_extract_of_lt (by omega)]
        simp [Array.getElem?_eq_getElem hj, show w.heap.size + (i - w.heap.size) = i by omega]
      · rw [Array.getElem?_eq_none (by omega), Array.getElem?_eq_none (by simp; omega)]
  have e1 := hb.os
  have e2 := hb.tape
  have e3 := hb.output
  cases w' with
  | mk heap tape drawn os output =>
    cases w with
    | mk heap0 tape0 drawn0 os0 output0 =>
      simp only at hh e1 e2 e3 hd
      simp only [grow, World.drewN]
      subst e1 e2 e3
      congr 1
      omega

/-- a text that a machine has -/
abbrev TS : Type := { l : List UInt8 // l.length ≤ 1000000000 }
def tz : TS := ⟨[], by simp⟩
def encT (x : TS) : Value := .string (bs x.1)
def cfT (x y : TS) : Int := cf x.1 y.1
theorem ltT (x y : TS) : ltOf cfT x y = decide (cf x.1 y.1 < 0) := rfl
theorem swoT : SWO (ltOf cfT) where
  irrefl x := by rw [ltT, cf_self]; rfl
  trans x y z h1 h2 := by rw [ltT] at *; simp at *; exact cf_trans h1 h2
  ntrans x y z h1 h2 := by
    rw [ltT] at *
    simp at *
    have := cf_le_trans (a := z.1) (b := y.1) (c := x.1) (by rw [cf_neg]; omega) (by rw [cf_neg]; omega)
    rw [cf_neg] at this; omega
theorem totT (x y : TS) (h1 : ltOf cfT x y = false) (h2 : ltOf cfT y x = false) : x = y := by
  rw [ltT] at *
  simp at *
  have h3 : cf x.1 y.1 = 0 := by rw [cf_neg] at h2; omega
  exact Subtype.ext (cf_zero.1 h3)

theorem lift (l : List (List UInt8)) (h : ∀ x ∈ l, x.length ≤ 1000000000) : ∃ d : List TS, d.map Subtype.val = l := by
  induction l with
  | nil => exact ⟨[], rfl⟩
  | cons x l ih =>
    obtain ⟨d, hd⟩ := ih (fun y hy => h y (by simp [hy]))
    exact ⟨⟨x, h x (by simp)⟩ :: d, by simp [hd]⟩

theorem putRow_val [Inhabited TS] (w : World) (g : Nat) (d : List TS) : putRow encT w g 0 d.toArray = putRow encStr w g 0 (d.map Subtype.val).toArray := by
  unfold putRow
  congr 1
  funext c
  unfold putCells
  congr 1
  funext k x
  simp only [List.size_toArray, List.length_map, Nat.sub_zero, Nat.zero_add, Nat.zero_le, true_and]
  by_cases hk : k < d.length
  · rw [if_pos hk, if_pos hk]
    simp [hk]
    rfl
  · rw [if_neg hk, if_neg hk]

theorem sc_enc (l : List (List UInt8)) : l.map encStr = sc l := rfl

set_option maxRecDepth 100000 in
set_option maxHeartbeats 1000000 in
/-- the sort -/
theorem sort_any {w : World} {base : Nat} {v : Value} {l : List (List UInt8)} (h : Own base w v l) (hlen : l.length ≤ 100000000) (heach : ∀ x ∈ l, x.length ≤ 1000000000) (hbase : base ≤ w.heap.size) :
    Calls Try.prog 28 #[v, .func (.func 29) #[] #[]] w fun e w' => e = .returned (.tuple #[]) ∧ ∃ ts, ts.Perm l ∧ ts.Pairwise (fun a b => cf a b ≤ 0) ∧ Own base w' v ts ∧ Below base w w' := by
  have hinh : Inhabited TS := ⟨tz⟩
  by_cases h0 : l = []
  · subst h0
    obtain ⟨a, c, e, _⟩ := h.bs.form
    have hS := AnyF.slices_SortFunc_none (P := Try.prog) (ρ := Try.sortL_ren) { Try.sortL with } a c (.func (.func 29) #[] #[]) w
    change Calls Try.prog 28 _ _ _ at hS
    rw [e]
    refine hS.mono ?_
    rintro e1 w' ⟨rfl, rfl⟩
    exact ⟨rfl, [], .refl _, .nil, by rw [← e]; exact h, Below.refl _ _⟩
  · obtain ⟨d, hd⟩ := lift l heach
    have hdl : d.length = l.length := by rw [← hd]; simp
    rcases h.2 with ⟨_, h1⟩ | ⟨g, cap, cur, rfl, hbg, hg, hn, hcm, hcs, htake⟩
    · exact absurd (List.eq_nil_of_length_eq_zero h1) h0
    · have hH0 : Holds encStr w g 0 l.toArray := holds_of_block hg (by rw [sc_enc]; simpa using htake)
      have hH : Holds encT w g 0 d.toArray := by
        intro j hj
        have hj' : j < d.length := by simpa using hj
        have := hH0 j (by simp; omega)
        refine ⟨?_, this.2⟩
        rw [this.1]
        have hjl : j < l.length := by omega
        simp [hj', hjl]
        have : l[j] = (d[j]).1 := by simp [← hd]
        rw [this]; rfl
      have eg : ∀ args w, (callFunc 29 args).run Try.prog w = .ok (.enter 29 args) w := enters_of Try.func29 (by kernel_rfl) rfl
      have hcmp : CmpLays1 Try.prog 29 #[] encT cfT g 0 d.toArray.size w := fun m os dk _ x y =>
        (cmp_any x.1 y.1 _ (by have := x.2; omega) (by have := y.2; omega)).mono fun e w' ⟨he, hl⟩ => ⟨he, laid_grow hl⟩
      have hS := Any.slices_SortFunc_total Try.sortL encT (fun _ => rfl) cfT swoT 29 #[] g 0 cap d.toArray w eg hcmp hH (Array.getElem?_eq_some_iff.1 hg).1 (by have := hlen; simp; omega) totT
      change Calls Try.prog 28 _ _ _ at hS
      have e1 : d.toArray.size = l.length := by simp [hdl]
      rw [e1] at hS
      refine hS.mono ?_
      rintro e w' ⟨rfl, n, os, rfl⟩
      refine ⟨rfl, (d.mergeSort fun x y => !ltOf cfT y x).map Subtype.val, ?_, ?_, ?_, ?_⟩
      · rw [← hd]; exact (List.mergeSort_perm _ _).map _
      · rw [List.pairwise_map]
        have := List.pairwise_mergeSort (le := fun x y : TS => !ltOf cfT y x) (fun x y z h1 h2 => by
          simp only [ltT, Bool.not_eq_true', decide_eq_false_iff_not] at *
          have := cf_le_trans (a := x.1) (b := y.1) (c := z.1) (by rw [cf_neg] at h1; omega) (by rw [cf_neg] at h2; omega)
          rw [cf_neg]; omega) (fun x y => by
          simp only [ltT, Bool.or_eq_true, Bool.not_eq_true', decide_eq_false_iff_not]
          have := cf_neg x.1 y.1; omega) d
        obtain ⟨S, hS⟩ : ∃ S, (d.mergeSort fun x y => !ltOf cfT y x) = S := ⟨_, rfl⟩
        rw [hS] at this ⊢
        refine List.pairwise_iff_getElem.2 fun i j hi hj hij => ?_
        have hab : (!ltOf cfT S[j] S[i]) = true := List.pairwise_iff_getElem.1 this i j hi hj hij
        have hlt : ltOf cfT S[j] S[i] = false := by simpa using hab
        rw [ltT] at hlt
        have hge : ¬ cf S[j].1 S[i].1 < 0 := of_decide_eq_false hlt
        have hng := cf_neg S[i].1 S[j].1
        omega
      · unfold sortWorld
        have e2 : d.toArray.toList = d := by simp
        rw [e2, putRow_val]
        have := ownsRow_sorted (w := w) (base := base) (g := g) (cap := cap) (n := n) (e := 9) (os := os) (ss := l) (ts := (d.mergeSort fun x y => !ltOf cfT y x).map Subtype.val) (by simp [hdl]) hbg hg hn hcm hcs
        unfold Own
        rw [← sc_enc]
        have hl2 : ((d.mergeSort fun x y => !ltOf cfT y x).map Subtype.val).length = l.length := by simp [hdl]
        rw [hl2]
        exact this
      · unfold sortWorld
        have e2 : d.toArray.toList = d := by simp
        rw [e2, putRow_val]
        exact (Below.refl _ _).grown (grownBy_sorted _) hbase (fun k hk => by cases hk; exact hbg)
end Go.Proofs.Ytfdcfcalbongeaa

namespace Go.Proofs
open Go.Shelf
def Try.compactL_ren : Go.Shelf.Ren := ⟨fun | 44 => 42 | n => n, fun | 25 => 27 | 26 => 9 | 3 => 3 | 4 => 4 | 0 => 0 | n => n, fun | n => n⟩
set_option maxRecDepth 100000 in
theorem Try.compactL : Go.Proofs.SlLaysN.n44 Try.prog Try.compactL_ren := {
  mixed := by kernel_rfl
  f44 := ⟨Try.f42.name, by decide, Try.func42.trans (congrArg some (by kernel_rfl))⟩
  t0 := Try.underlying0
  a0 := Try.isAgg0
  z0 := Try.sizeOf0
  v0 := Try.zeroValue0
  t3 := Try.underlying3
  a3 := Try.isAgg3
  z3 := Try.sizeOf3
  v3 := Try.zeroValue3
  t4 := Try.underlying4
  a4 := Try.isAgg4
  z4 := Try.sizeOf4
  v4 := Try.zeroValue4
  t25 := Try.underlying27
  a25 := Try.isAgg27
  z25 := Try.sizeOf27
  v25 := Try.zeroValue27
  t26 := Try.underlying9
  a26 := Try.isAgg9
  z26 := Try.sizeOf9
  v26 := Try.zeroValue9
  i26 := by kernel_rfl }
def Try.searchS_ren : Go.Shelf.Ren := ⟨fun | 14 => 45 | n => n, fun | 22 => 27 | 24 => 9 | 29 => 9 | 32 => 35 | 3 => 3 | 4 => 4 | 35 => 75 | 0 => 0 | n => n, fun | n => n⟩
set_option maxRecDepth 100000 in
theorem Try.searchS : Go.Proofs.SlLaysG2.n14 Try.prog Try.searchS_ren := {
  mixed := by kernel_rfl
  f14 := ⟨Try.f45.name, by decide, Try.func45.trans (congrArg some (by kernel_rfl))⟩
  t0 := Try.underlying0
  a0 := Try.isAgg0
  z0 := Try.sizeOf0
  v0 := Try.zeroValue0
  t3 := Try.underlying3
  a3 := Try.isAgg3
  z3 := Try.sizeOf3
  v3 := Try.zeroValue3
  t4 := Try.underlying4
  a4 := Try.isAgg4
  z4 := Try.sizeOf4
  v4 := Try.zeroValue4
  t22 := Try.underlying27
  a22 := Try.isAgg27
  z22 := Try.sizeOf27
  v22 := Try.zeroValue27
  a24 := Try.isAgg9
  z24 := Try.sizeOf9
  a29 := Try.isAgg9
  z29 := Try.sizeOf9
  t32 := Try.underlying35
  a32 := Try.isAgg35
  z32 := Try.sizeOf35
  v32 := Try.zeroValue35
  t35 := Try.underlying75
  a35 := Try.isAgg75
  z35 := Try.sizeOf75
  v35 := Try.zeroValue75 }
def Try.reverseL_ren : Go.Shelf.Ren := ⟨fun | 17 => 44 | n => n, fun | 24 => 27 | 9 => 9 | 3 => 3 | 4 => 4 | 0 => 0 | n => n, fun | n => n⟩
set_option maxRecDepth 100000 in
theorem Try.reverseL : Go.Proofs.Lays2.n17 Try.prog Try.reverseL_ren := {
  mixed := by kernel_rfl
  f17 := Try.func44.trans (congrArg some (by kernel_rfl))
  t0 := Try.underlying0
  a0 := Try.isAgg0
  z0 := Try.sizeOf0
  v0 := Try.zeroValue0
  t3 := Try.underlying3
  a3 := Try.isAgg3
  z3 := Try.sizeOf3
  v3 := Try.zeroValue3
  t4 := Try.underlying4
  a4 := Try.isAgg4
  z4 := Try.sizeOf4
  v4 := Try.zeroValue4
  t9 := Try.underlying9
  a9 := Try.isAgg9
  z9 := Try.sizeOf9
  v9 := Try.zeroValue9
  t24 := Try.underlying27
  a24 := Try.isAgg27
  z24 := Try.sizeOf27
  v24 := Try.zeroValue27 }
end Go.Proofs
