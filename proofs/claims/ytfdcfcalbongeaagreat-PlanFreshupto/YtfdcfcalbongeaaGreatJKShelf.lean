/-
  The contracts of the sort, of Clone, of Compact and of the search, laid at this program, in plain words.
  The contracts of Compact, of the search and of Reverse, laid at this program, in plain words.
-/
import Derived.Shelf.SlSortCmp.NoneTotal
import Derived.Test.YtfdcfcalbongeaaGreatProg
import Derived.Test.YtfdcfcalbongeaaGreatJFil
import Derived.Deep.RegionHeld3
import Derived.Sort.OwnSorted
import Derived.Shelf.SlicesG.CompactS
import Derived.Shelf.SlCmpFuncs.BinarySearchFunc
import Derived.Shelf.SlCmpFuncs.None
import Derived.Shelf.Slices.ReverseS
namespace Go.Proofs
open Go.Shelf
def Tryz.sortL_ren : Go.Shelf.Ren := ⟨fun | 6 => 30 | 15 => 47 | 14 => 46 | 28 => 67 | 29 => 68 | 20 => 59 | 21 => 60 | 22 => 61 | 23 => 62 | 24 => 63 | 25 => 64 | 26 => 65 | 27 => 66 | 46 => 80 | 47 => 81 | 48 => 82 | 49 => 83 | 50 => 84 | 57 => 92 | n => n, fun | 22 => 26 | 24 => 9 | 25 => 59 | 3 => 3 | 39 => 73 | 0 => 0 | 53 => 89 | 55 => 91 | 4 => 4 | 46 => 83 | 45 => 82 | 50 => 67 | 5 => 5 | 9 => 9 | 66 => 99 | 70 => 103 | 76 => 111 | 77 => 74 | n => n, fun | n => n⟩
set_option maxRecDepth 100000 in
theorem Tryz.sortL : Go.Proofs.SlLaysF.n6 Tryz.prog Tryz.sortL_ren := {
  mixed := by kernel_rfl
  f6 := ⟨Tryz.f30.name, by decide, Tryz.func30.trans (congrArg some (by kernel_rfl))⟩
  f14 := ⟨Tryz.f46.name, by decide, Tryz.func46.trans (congrArg some (by kernel_rfl))⟩
  f15 := Tryz.func47.trans (congrArg some (by kernel_rfl))
  f20 := ⟨Tryz.f59.name, by decide, Tryz.func59.trans (congrArg some (by kernel_rfl))⟩
  f21 := ⟨Tryz.f60.name, by decide, Tryz.func60.trans (congrArg some (by kernel_rfl))⟩
  f22 := ⟨Tryz.f61.name, by decide, Tryz.func61.trans (congrArg some (by kernel_rfl))⟩
  f23 := ⟨Tryz.f62.name, by decide, Tryz.func62.trans (congrArg some (by kernel_rfl))⟩
  f24 := ⟨Tryz.f63.name, by decide, Tryz.func63.trans (congrArg some (by kernel_rfl))⟩
  f25 := ⟨Tryz.f64.name, by decide, Tryz.func64.trans (congrArg some (by kernel_rfl))⟩
  f26 := ⟨Tryz.f65.name, by decide, Tryz.func65.trans (congrArg some (by kernel_rfl))⟩
  f27 := ⟨Tryz.f66.name, by decide, Tryz.func66.trans (congrArg some (by kernel_rfl))⟩
  f28 := Tryz.func67.trans (congrArg some (by kernel_rfl))
  f29 := Tryz.func68.trans (congrArg some (by kernel_rfl))
  f46 := ⟨Tryz.f80.name, by decide, Tryz.func80.trans (congrArg some (by kernel_rfl))⟩
  f47 := Tryz.func81.trans (congrArg some (by kernel_rfl))
  f48 := Tryz.func82.trans (congrArg some (by kernel_rfl))
  f49 := ⟨Tryz.f83.name, by decide, Tryz.func83.trans (congrArg some (by kernel_rfl))⟩
  f50 := ⟨Tryz.f84.name, by decide, Tryz.func84.trans (congrArg some (by kernel_rfl))⟩
  f57 := ⟨Tryz.f92.name, by decide, Tryz.func92.trans (congrArg some (by kernel_rfl))⟩
  t0 := Tryz.underlying0
  a0 := Tryz.isAgg0
  z0 := Tryz.sizeOf0
  v0 := Tryz.zeroValue0
  t3 := Tryz.underlying3
  a3 := Tryz.isAgg3
  z3 := Tryz.sizeOf3
  v3 := Tryz.zeroValue3
  t4 := Tryz.underlying4
  a4 := Tryz.isAgg4
  z4 := Tryz.sizeOf4
  v4 := Tryz.zeroValue4
  t5 := Tryz.underlying5
  a5 := Tryz.isAgg5
  z5 := Tryz.sizeOf5
  v5 := Tryz.zeroValue5
  t9 := Tryz.underlying9
  a9 := Tryz.isAgg9
  z9 := Tryz.sizeOf9
  v9 := Tryz.zeroValue9
  t22 := Tryz.underlying26
  a22 := Tryz.isAgg26
  z22 := Tryz.sizeOf26
  v22 := Tryz.zeroValue26
  a24 := Tryz.isAgg9
  z24 := Tryz.sizeOf9
  t25 := Tryz.underlying59
  a25 := Tryz.isAgg59
  z25 := Tryz.sizeOf59
  v25 := Tryz.zeroValue59
  t39 := Tryz.underlying73
  a39 := Tryz.isAgg73
  z39 := Tryz.sizeOf73
  v39 := Tryz.zeroValue73
  t45 := Tryz.underlying82
  a45 := Tryz.isAgg82
  z45 := Tryz.sizeOf82
  v45 := Tryz.zeroValue82
  t46 := Tryz.underlying83
  a46 := Tryz.isAgg83
  z46 := Tryz.sizeOf83
  v46 := Tryz.zeroValue83
  t50 := Tryz.underlying67
  a50 := Tryz.isAgg67
  z50 := Tryz.sizeOf67
  v50 := Tryz.zeroValue67
  t53 := Tryz.underlying89
  a53 := Tryz.isAgg89
  z53 := Tryz.sizeOf89
  v53 := Tryz.zeroValue89
  t55 := Tryz.underlying91
  a55 := Tryz.isAgg91
  z55 := Tryz.sizeOf91
  v55 := Tryz.zeroValue91
  t66 := Tryz.underlying99
  a66 := Tryz.isAgg99
  z66 := Tryz.sizeOf99
  v66 := Tryz.zeroValue99
  t70 := Tryz.underlying103
  a70 := Tryz.isAgg103
  z70 := Tryz.sizeOf103
  v70 := Tryz.zeroValue103
  t76 := Tryz.underlying111
  a76 := Tryz.isAgg111
  z76 := Tryz.sizeOf111
  v76 := Tryz.zeroValue111
  t77 := Tryz.underlying74
  a77 := Tryz.isAgg74
  z77 := Tryz.sizeOf74
  v77 := Tryz.zeroValue74 }

end Go.Proofs

namespace Go.Proofs.YtfdcfcalbongeaaGreat
open Go.RowKit Go.Sort Go.Lib

/-
  A list brought into its order, each text once.
-/

theorem laid_grow {w w' : World} (h : Laid w w') : ∃ q os, w' = grow (w.drewN q) os := by
  refine ⟨w'.drawn - w.drawn, w'.heap.extract w.heap.size w'.heap.size, ?_⟩
  obtain ⟨hb, hd⟩ := h
  have hh : w'.heap = w.heap ++ w'.heap.extract w.heap.size w'.heap.size := by
    apply Array.ext_getElem?
    intro i
    rw [Array.getElem?_append]
    by_cases hi : i < w.heap.size
    · rw [if_pos hi]; exact hb.block i hi
    · rw [if_neg hi]
      have hs := hb.size
      by_cases hj : i < w'.heap.size
      · rw [Array.getElem?_extract_of_lt (by omega)]
        simp [Array.getElem?_eq_getElem hj, show w.heap.size + (i - w.heap.size) = i by omega]
      · rw [Array.getElem?_eq_none (by omega), Array.getElem?_eq_none (by simp; omega)]
  have e1 := hb.os
  have e2 := hb.tape
  have e3 := hb.output
  cases w' with
  | mk heap tape drawn os output =>
    cases w with
    | mk heap0 tape0 drawn0 os0 output0 =>
      simp only at hh e1 e2 e3 hd
      simp only [grow, World.drewN]
      subst e1 e2 e3
      congr 1
      omega

/-- a text that a machine has -/
abbrev TS : Type := { l : List UInt8 // l.length ≤ 1000000000 }
def tz : TS := ⟨[], by simp⟩
def encT (x : TS) : Value := .string (bs x.1)
def cfT (x y : TS) : Int := cf x.1 y.1
theorem ltT (x y : TS) : ltOf cfT x y = decide (cf x.1 y.1 < 0) := rfl
theorem swoT : SWO (ltOf cfT) where
  irrefl x := by rw [ltT, cf_self]; rfl
  trans x y z h1 h2 := by rw [ltT] at *; simp at *; exact cf_trans h1 h2
  ntrans x y z h1 h2 := by
    rw [ltT] at *
    simp at *
    have := cf_le_trans (a := z.1) (b := y.1) (c := x.1) (by rw [cf_neg]; omega) (by rw [cf_neg]; omega)
    rw [cf_neg] at this; omega
theorem totT (x y : TS) (h1 : ltOf cfT x y = false) (h2 : ltOf cfT y x = false) : x = y := by
  rw [ltT] at *
  simp at *
  have h3 : cf x.1 y.1 = 0 := by rw [cf_neg] at h2; omega
  exact Subtype.ext (cf_zero.1 h3)

theorem lift (l : List (List UInt8)) (h : ∀ x ∈ l, x.length ≤ 1000000000) : ∃ d : List TS, d.map Subtype.val = l := by
  induction l with
  | nil => exact ⟨[], rfl⟩
  | cons x l ih =>
    obtain ⟨d, hd⟩ := ih (fun y hy => h y (by simp [hy]))
    exact ⟨⟨x, h x (by simp)⟩ :: d, by simp [hd]⟩

theorem putRow_val [Inhabited TS] (w : World) (g : Nat) (d : List TS) : putRow encT w g 0 d.toArray = putRow encStr w g 0 (d.map Subtype.val).toArray := by
  unfold putRow
  congr 1
  funext c
  unfold putCells
  congr 1
  funext k x
  simp only [List.size_toArray, List.length_map, Nat.sub_zero, Nat.zero_add, Nat.zero_le, true_and]
  by_cases hk : k < d.length
  · rw [if_pos hk, if_pos hk]
    simp [hk]
    rfl
  · rw [if_neg hk, if_neg hk]

theorem sc_enc (l : List (List UInt8)) : l.map encStr = sc l := rfl

set_option maxRecDepth 100000 in
set_option maxHeartbeats 1000000 in
/-- the sort -/
theorem sort_any {w : World} {base : Nat} {v : Value} {l : List (List UInt8)} (h : Own base w v l) (hlen : l.length ≤ 100000000) (heach : ∀ x ∈ l, x.length ≤ 1000000000) (hbase : base ≤ w.heap.size) :
    Calls Tryz.prog 30 #[v, .func (.func 31) #[] #[]] w fun e w' => e = .returned (.tuple #[]) ∧ ∃ ts, ts.Perm l ∧ ts.Pairwise (fun a b => cf a b ≤ 0) ∧ Own base w' v ts ∧ Below base w w' := by
  have hinh : Inhabited TS := ⟨tz⟩
  by_cases h0 : l = []
  · subst h0
    obtain ⟨a, c, e, _⟩ := h.bs.form
    have hS := AnyF.slices_SortFunc_none (P := Tryz.prog) (ρ := Tryz.sortL_ren) { Tryz.sortL with } a c (.func (.func 31) #[] #[]) w
    change Calls Tryz.prog 30 _ _ _ at hS
    rw [e]
    refine hS.mono ?_
    rintro e1 w' ⟨rfl, rfl⟩
    exact ⟨rfl, [], .refl _, .nil, by rw [← e]; exact h, Below.refl _ _⟩
  · obtain ⟨d, hd⟩ := lift l heach
    have hdl : d.length = l.length := by rw [← hd]; simp
    rcases h.2 with ⟨_, h1⟩ | ⟨g, cap, cur, rfl, hbg, hg, hn, hcm, hcs, htake⟩
    · exact absurd (List.eq_nil_of_length_eq_zero h1) h0
    · have hH0 : Holds encStr w g 0 l.toArray := holds_of_block hg (by rw [sc_enc]; simpa using htake)
      have hH : Holds encT w g 0 d.toArray := by
        intro j hj
        have hj' : j < d.length := by simpa using hj
        have := hH0 j (by simp; omega)
        refine ⟨?_, this.2⟩
        rw [this.1]
        have hjl : j < l.length := by omega
        simp [hj', hjl]
        have : l[j] = (d[j]).1 := by simp [← hd]
        rw [this]; rfl
      have eg : ∀ args w, (callFunc 31 args).run Tryz.prog w = .ok (.enter 31 args) w := enters_of Tryz.func31 (by kernel_rfl) rfl
      have hcmp : CmpLays1 Tryz.prog 31 #[] encT cfT g 0 d.toArray.size w := fun m os dk _ x y =>
        (cmp_any x.1 y.1 _ (by have := x.2; omega) (by have := y.2; omega)).mono fun e w' ⟨he, hl⟩ => ⟨he, laid_grow hl⟩
      have hS := Any.slices_SortFunc_total Tryz.sortL encT (fun _ => rfl) cfT swoT 31 #[] g 0 cap d.toArray w eg hcmp hH (Array.getElem?_eq_some_iff.1 hg).1 (by have := hlen; simp; omega) totT
      change Calls Tryz.prog 30 _ _ _ at hS
      have e1 : d.toArray.size = l.length := by simp [hdl]
      rw [e1] at hS
      refine hS.mono ?_
      rintro e w' ⟨rfl, n, os, rfl⟩
      refine ⟨rfl, (d.mergeSort fun x y => !ltOf cfT y x).map Subtype.val, ?_, ?_, ?_, ?_⟩
      · rw [← hd]; exact (List.mergeSort_perm _ _).map _
      · rw [List.pairwise_map]
        have := List.pairwise_mergeSort (le := fun x y : TS => !ltOf cfT y x) (fun x y z h1 h2 => by
          simp only [ltT, Bool.not_eq_true', decide_eq_false_iff_not] at *
          have := cf_le_trans (a := x.1) (b := y.1) (c := z.1) (by rw [cf_neg] at h1; omega) (by rw [cf_neg] at h2; omega)
          rw [cf_neg]; omega) (fun x y => by
          simp only [ltT, Bool.or_eq_true, Bool.not_eq_true', decide_eq_false_iff_not]
          have := cf_neg x.1 y.1; omega) d
        obtain ⟨S, hS⟩ : ∃ S, (d.mergeSort fun x y => !ltOf cfT y x) = S := ⟨_, rfl⟩
        rw [hS] at this ⊢
        refine List.pairwise_iff_getElem.2 fun i j hi hj hij => ?_
        have hab : (!ltOf cfT S[j] S[i]) = true := List.pairwise_iff_getElem.1 this i j hi hj hij
        have hlt : ltOf cfT S[j] S[i] = false := by simpa using hab
        rw [ltT] at hlt
        have hge : ¬ cf S[j].1 S[i].1 < 0 := of_decide_eq_false hlt
        have hng := cf_neg S[i].1 S[j].1
        omega
      · unfold sortWorld
        have e2 : d.toArray.toList = d := by simp
        rw [e2, putRow_val]
        have := ownsRow_sorted (w := w) (base := base) (g := g) (cap := cap) (n := n) (e := 9) (os := os) (ss := l) (ts := (d.mergeSort fun x y => !ltOf cfT y x).map Subtype.val) (by simp [hdl]) hbg hg hn hcm hcs
        unfold Own
        rw [← sc_enc]
        have hl2 : ((d.mergeSort fun x y => !ltOf cfT y x).map Subtype.val).length = l.length := by simp [hdl]
        rw [hl2]
        exact this
      · unfold sortWorld
        have e2 : d.toArray.toList = d := by simp
        rw [e2, putRow_val]
        exact (Below.refl _ _).grown (grownBy_sorted _) hbase (fun k hk => by cases hk; exact hbg)
end Go.Proofs.YtfdcfcalbongeaaGreat

namespace Go.Proofs
open Go.Shelf
def Tryz.compactL_ren : Go.Shelf.Ren := ⟨fun | 44 => 39 | n => n, fun | 25 => 26 | 26 => 9 | 3 => 3 | 4 => 4 | 0 => 0 | n => n, fun | n => n⟩
set_option maxRecDepth 100000 in
theorem Tryz.compactL : Go.Proofs.SlLaysN.n44 Tryz.prog Tryz.compactL_ren := {
  mixed := by kernel_rfl
  f44 := ⟨Tryz.f39.name, by decide, Tryz.func39.trans (congrArg some (by kernel_rfl))⟩
  t0 := Tryz.underlying0
  a0 := Tryz.isAgg0
  z0 := Tryz.sizeOf0
  v0 := Tryz.zeroValue0
  t3 := Tryz.underlying3
  a3 := Tryz.isAgg3
  z3 := Tryz.sizeOf3
  v3 := Tryz.zeroValue3
  t4 := Tryz.underlying4
  a4 := Tryz.isAgg4
  z4 := Tryz.sizeOf4
  v4 := Tryz.zeroValue4
  t25 := Tryz.underlying26
  a25 := Tryz.isAgg26
  z25 := Tryz.sizeOf26
  v25 := Tryz.zeroValue26
  t26 := Tryz.underlying9
  a26 := Tryz.isAgg9
  z26 := Tryz.sizeOf9
  v26 := Tryz.zeroValue9
  i26 := by kernel_rfl }
def Tryz.searchS_ren : Go.Shelf.Ren := ⟨fun | 14 => 42 | n => n, fun | 22 => 26 | 24 => 9 | 29 => 9 | 32 => 59 | 3 => 3 | 4 => 4 | 35 => 73 | 0 => 0 | n => n, fun | n => n⟩
set_option maxRecDepth 100000 in
theorem Tryz.searchS : Go.Proofs.SlLaysG2.n14 Tryz.prog Tryz.searchS_ren := {
  mixed := by kernel_rfl
  f14 := ⟨Tryz.f42.name, by decide, Tryz.func42.trans (congrArg some (by kernel_rfl))⟩
  t0 := Tryz.underlying0
  a0 := Tryz.isAgg0
  z0 := Tryz.sizeOf0
  v0 := Tryz.zeroValue0
  t3 := Tryz.underlying3
  a3 := Tryz.isAgg3
  z3 := Tryz.sizeOf3
  v3 := Tryz.zeroValue3
  t4 := Tryz.underlying4
  a4 := Tryz.isAgg4
  z4 := Tryz.sizeOf4
  v4 := Tryz.zeroValue4
  t22 := Tryz.underlying26
  a22 := Tryz.isAgg26
  z22 := Tryz.sizeOf26
  v22 := Tryz.zeroValue26
  a24 := Tryz.isAgg9
  z24 := Tryz.sizeOf9
  a29 := Tryz.isAgg9
  z29 := Tryz.sizeOf9
  t32 := Tryz.underlying59
  a32 := Tryz.isAgg59
  z32 := Tryz.sizeOf59
  v32 := Tryz.zeroValue59
  t35 := Tryz.underlying73
  a35 := Tryz.isAgg73
  z35 := Tryz.sizeOf73
  v35 := Tryz.zeroValue73 }
def Tryz.reverseL_ren : Go.Shelf.Ren := ⟨fun | 17 => 41 | n => n, fun | 24 => 26 | 9 => 9 | 3 => 3 | 4 => 4 | 0 => 0 | n => n, fun | n => n⟩
set_option maxRecDepth 100000 in
theorem Tryz.reverseL : Go.Proofs.Lays2.n17 Tryz.prog Tryz.reverseL_ren := {
  mixed := by kernel_rfl
  f17 := Tryz.func41.trans (congrArg some (by kernel_rfl))
  t0 := Tryz.underlying0
  a0 := Tryz.isAgg0
  z0 := Tryz.sizeOf0
  v0 := Tryz.zeroValue0
  t3 := Tryz.underlying3
  a3 := Tryz.isAgg3
  z3 := Tryz.sizeOf3
  v3 := Tryz.zeroValue3
  t4 := Tryz.underlying4
  a4 := Tryz.isAgg4
  z4 := Tryz.sizeOf4
  v4 := Tryz.zeroValue4
  t9 := Tryz.underlying9
  a9 := Tryz.isAgg9
  z9 := Tryz.sizeOf9
  v9 := Tryz.zeroValue9
  t24 := Tryz.underlying26
  a24 := Tryz.isAgg26
  z24 := Tryz.sizeOf26
  v24 := Tryz.zeroValue26 }
end Go.Proofs
