/-
  The contracts of the sort, of Clone, of Compact and of the search, laid at this program, in plain words.
-/
import Derived.Test.YtbaheiimcnfaaaaGreatJPath
import Derived.Test.YtbaheiimcnfaaaaGreatJOrd
import Derived.Test.YtbaheiimcnfaaaaGreatSets
import Derived.Shelf.SlSortCmp.NoneTotal
import Derived.Shelf.SlicesG.Clone
import Derived.Shelf.SlicesG.CompactS
import Derived.Shelf.SlCmpFuncs.BinarySearchFunc
import Derived.Test.YtbaheiimcnfaaaaGreatProg
import Derived.Deep.RegionHeld3
import Derived.Sort.OwnSorted
namespace Go.Proofs.YtbaheiimcnfaaaaGreat
open Go.RowKit

theorem Own.only {S : List Nat} {base : Nat} {w w' : World} {v : Value} {l : List (List UInt8)} (h : Own base w v l) (ho : Only S w w') (hn : ∀ k, v.ownBlock = some k → k ∉ S) : Own base w' v l := by
  refine ⟨h.1, ?_⟩
  rcases h.2 with ⟨rfl, h0⟩ | ⟨g, cap, cur, rfl, hb, hg, hr⟩
  · exact .inl ⟨rfl, h0⟩
  · exact .inr ⟨g, cap, cur, rfl, hb, by rw [ho.block g (Array.getElem?_eq_some_iff.1 hg).1 (hn g rfl)]; exact hg, hr⟩
theorem Own.later {base : Nat} {w w' : World} {v : Value} {l : List (List UInt8)} (h : Own base w v l) (hb : Below w.heap.size w w') : Own base w' v l :=
  h.only (Only.of_below hb []) (by simp)
theorem Own.lt {base : Nat} {w : World} {v : Value} {l : List (List UInt8)} (h : Own base w v l) {k : Nat} (hk : v.ownBlock = some k) : base ≤ k ∧ k < w.heap.size := World.ownsRow.lt h k hk

theorem cell_one_str (w : World) (u : Value) (k : TypeId) : ∀ j x, [u][j]? = some x → (w.alloc (.cells #[u] k)).cell? ((⟨w.heap.size, 0, none⟩ : Addr).add j) = some x := by
  intro j x hx
  cases j with
  | zero => simp at hx; subst hx; rw [add_lit]; simp
  | succ j => simp at hx
theorem src_one (w : World) (p : List UInt8) : Src Tryz.prog 1 23 (.slice (some ⟨w.heap.size, 0, none⟩) 1 1) [p].length (sc [p]) (w.alloc (.cells #[.string (bs p)] 9)) :=
  Src.ofSlice _ und70 ⟨w.heap.size, 0, none⟩ 1 1 (sc [p]) (by simp [sc]) (cell_one_str w _ 9) (sc_one _)

/-- append of one text onto texts of the call's own -/
theorem app_one {w : World} {base : Nat} {v : Value} {l : List (List UInt8)} (p : List UInt8) (hown : Own base w v l) (hb : l.length + 1 ≤ 8796093022208) (hbase : base ≤ w.heap.size)
    {ops : Array Oper} {rest : List Oper} {o : Oper} {a : Act} {Q : Exit → Act → World → Prop} (hgd : o.guard = none) (s y : Operand)
    (ho : o.op = .call { callee := .builtin .append, args := #[s, y], argTypes := #[23, 23] }) (hv : a.eval s = v) (hx : a.eval y = .slice (some ⟨w.heap.size, 0, none⟩) 1 1)
    (h : ∀ v' w', Own base w' v' (l ++ [p]) → Below base w w' → base ≤ w'.heap.size → w.grownBy w' v.ownBlock → (v'.ownBlock = v.ownBlock ∨ v'.ownBlock = some (w.heap.size + 1)) → wpList Tryz.prog ops Q rest (a.put o.dst v') w') :
    wpList Tryz.prog ops Q (o :: rest) a (w.alloc (.cells #[.string (bs p)] 9)) := by
  refine app_strs (base := base) (l := l) (k := [p]) (World.ownsRow.alloc hown _) (src_one w p) (by simpa using hb) (by simp; omega) hgd s y ho hv hx ?_
  intro v' w' h1 h2 h3
  have hlt := World.ownsRow.lt hown
  have hB : Below base w w' := ((Below.refl _ _).alloc hbase _).grown h2 (by simp; omega) (fun k hk => (hlt k hk).1)
  refine h v' w' h1 hB (Nat.le_trans hbase hB.size) ((World.grownBy_alloc w _ _).trans h2) (by simpa using h3)

theorem SS.form {w : World} {v : Value} {L : List (List UInt8)} (h : SS w v L) : ∃ a c, v = .slice a L.length c ∧ (∀ k, (hk : k < L.length) → ∃ b off, a = some ⟨b, off, none⟩ ∧ b < w.heap.size ∧ w.cell? ⟨b, off + k, none⟩ = some (.string (bs L[k]))) := by
  rcases h with ⟨⟨a, c, rfl⟩, rfl⟩ | ⟨b, off, cap, rfl, hc, hlt, hcell⟩
  · exact ⟨a, c, rfl, fun k hk => by simp at hk⟩
  · exact ⟨_, _, rfl, fun k hk => ⟨b, off, rfl, hlt, hcell k _ (by simp [sc_get, hk])⟩⟩

theorem drop_same {α : Type} [DecidableEq α] {A B : List α} {k : Nat} (ha : k < A.length) (hb : k < B.length) : decide (A.drop k = B.drop k) = (decide (A[k] = B[k]) && decide (A.drop (k + 1) = B.drop (k + 1))) := by
  have e1 := List.drop_eq_getElem_cons ha
  have e2 := List.drop_eq_getElem_cons hb
  rw [Bool.eq_iff_iff]
  simp only [Bool.and_eq_true, decide_eq_true_eq]
  rw [e1, e2, List.cons.injEq]

/-- a list of texts that a machine has -/
structure Sm (l : List (List UInt8)) : Prop where
  len : l.length ≤ 4000000
  each : ∀ x ∈ l, x.length ≤ 1000000000
theorem Sm.norm {l : List (List UInt8)} (h : Sm l) : Sm (norm l) := ⟨Nat.le_trans (norm_len l) h.len, fun x hx => h.each x ((mem_norm x l).1 hx)⟩
theorem Sm.at {l : List (List UInt8)} (h : Sm l) {k : Nat} (hk : k < l.length) : (l[k]'hk).length ≤ 1000000000 := h.each _ (List.getElem_mem _)
theorem bstep {a b c : World} (h : Below a.heap.size a b) (k : Below b.heap.size b c) : Below a.heap.size a c := below_trans h (below_mono k h.size)
theorem Laid.below' {w w' : World} (h : Laid w w') : Below w.heap.size w w' := h.below

end Go.Proofs.YtbaheiimcnfaaaaGreat

namespace Go.Proofs
open Go.Shelf
def Tryz.sortS_ren : Go.Shelf.Ren := ⟨fun | 6 => 87 | 15 => 117 | 14 => 116 | 28 => 143 | 29 => 144 | 20 => 135 | 21 => 136 | 22 => 137 | 23 => 138 | 24 => 139 | 25 => 140 | 26 => 141 | 27 => 142 | 46 => 150 | 47 => 151 | 48 => 152 | 49 => 153 | 50 => 154 | 57 => 160 | n => n, fun | 22 => 23 | 24 => 9 | 25 => 59 | 3 => 3 | 39 => 130 | 0 => 0 | 53 => 157 | 55 => 116 | 4 => 4 | 46 => 151 | 45 => 150 | 50 => 101 | 5 => 5 | 9 => 9 | 66 => 164 | 70 => 168 | 76 => 171 | 77 => 54 | n => n, fun | n => n⟩
set_option maxRecDepth 100000 in
theorem Tryz.sortS : Go.Proofs.SlLaysF.n6 Tryz.prog Tryz.sortS_ren := {
  mixed := by kernel_rfl
  f6 := ⟨Tryz.f87.name, by decide, Tryz.func87.trans (congrArg some (by kernel_rfl))⟩
  f14 := ⟨Tryz.f116.name, by decide, Tryz.func116.trans (congrArg some (by kernel_rfl))⟩
  f15 := Tryz.func117.trans (congrArg some (by kernel_rfl))
  f20 := ⟨Tryz.f135.name, by decide, Tryz.func135.trans (congrArg some (by kernel_rfl))⟩
  f21 := ⟨Tryz.f136.name, by decide, Tryz.func136.trans (congrArg some (by kernel_rfl))⟩
  f22 := ⟨Tryz.f137.name, by decide, Tryz.func137.trans (congrArg some (by kernel_rfl))⟩
  f23 := ⟨Tryz.f138.name, by decide, Tryz.func138.trans (congrArg some (by kernel_rfl))⟩
  f24 := ⟨Tryz.f139.name, by decide, Tryz.func139.trans (congrArg some (by kernel_rfl))⟩
  f25 := ⟨Tryz.f140.name, by decide, Tryz.func140.trans (congrArg some (by kernel_rfl))⟩
  f26 := ⟨Tryz.f141.name, by decide, Tryz.func141.trans (congrArg some (by kernel_rfl))⟩
  f27 := ⟨Tryz.f142.name, by decide, Tryz.func142.trans (congrArg some (by kernel_rfl))⟩
  f28 := Tryz.func143.trans (congrArg some (by kernel_rfl))
  f29 := Tryz.func144.trans (congrArg some (by kernel_rfl))
  f46 := ⟨Tryz.f150.name, by decide, Tryz.func150.trans (congrArg some (by kernel_rfl))⟩
  f47 := Tryz.func151.trans (congrArg some (by kernel_rfl))
  f48 := Tryz.func152.trans (congrArg some (by kernel_rfl))
  f49 := ⟨Tryz.f153.name, by decide, Tryz.func153.trans (congrArg some (by kernel_rfl))⟩
  f50 := ⟨Tryz.f154.name, by decide, Tryz.func154.trans (congrArg some (by kernel_rfl))⟩
  f57 := ⟨Tryz.f160.name, by decide, Tryz.func160.trans (congrArg some (by kernel_rfl))⟩
  t0 := Tryz.underlying0
  a0 := Tryz.isAgg0
  z0 := Tryz.sizeOf0
  v0 := Tryz.zeroValue0
  t3 := Tryz.underlying3
  a3 := Tryz.isAgg3
  z3 := Tryz.sizeOf3
  v3 := Tryz.zeroValue3
  t4 := Tryz.underlying4
  a4 := Tryz.isAgg4
  z4 := Tryz.sizeOf4
  v4 := Tryz.zeroValue4
  t5 := Tryz.underlying5
  a5 := Tryz.isAgg5
  z5 := Tryz.sizeOf5
  v5 := Tryz.zeroValue5
  t9 := Tryz.underlying9
  a9 := Tryz.isAgg9
  z9 := Tryz.sizeOf9
  v9 := Tryz.zeroValue9
  t22 := Tryz.underlying23
  a22 := Tryz.isAgg23
  z22 := Tryz.sizeOf23
  v22 := Tryz.zeroValue23
  a24 := Tryz.isAgg9
  z24 := Tryz.sizeOf9
  t25 := Tryz.underlying59
  a25 := Tryz.isAgg59
  z25 := Tryz.sizeOf59
  v25 := Tryz.zeroValue59
  t39 := Tryz.underlying130
  a39 := Tryz.isAgg130
  z39 := Tryz.sizeOf130
  v39 := Tryz.zeroValue130
  t45 := Tryz.underlying150
  a45 := Tryz.isAgg150
  z45 := Tryz.sizeOf150
  v45 := Tryz.zeroValue150
  t46 := Tryz.underlying151
  a46 := Tryz.isAgg151
  z46 := Tryz.sizeOf151
  v46 := Tryz.zeroValue151
  t50 := Tryz.underlying101
  a50 := Tryz.isAgg101
  z50 := Tryz.sizeOf101
  v50 := Tryz.zeroValue101
  t53 := Tryz.underlying157
  a53 := Tryz.isAgg157
  z53 := Tryz.sizeOf157
  v53 := Tryz.zeroValue157
  t55 := Tryz.underlying116
  a55 := Tryz.isAgg116
  z55 := Tryz.sizeOf116
  v55 := Tryz.zeroValue116
  t66 := Tryz.underlying164
  a66 := Tryz.isAgg164
  z66 := Tryz.sizeOf164
  v66 := Tryz.zeroValue164
  t70 := Tryz.underlying168
  a70 := Tryz.isAgg168
  z70 := Tryz.sizeOf168
  v70 := Tryz.zeroValue168
  t76 := Tryz.underlying171
  a76 := Tryz.isAgg171
  z76 := Tryz.sizeOf171
  v76 := Tryz.zeroValue171
  t77 := Tryz.underlying54
  a77 := Tryz.isAgg54
  z77 := Tryz.sizeOf54
  v77 := Tryz.zeroValue54 }
def Tryz.cloneS_ren : Go.Shelf.Ren := ⟨fun | 42 => 40 | n => n, fun | 25 => 23 | 26 => 9 | 4 => 4 | n => n, fun | n => n⟩
set_option maxRecDepth 100000 in
theorem Tryz.cloneS : Go.Proofs.SlLaysN.n42 Tryz.prog Tryz.cloneS_ren := {
  mixed := by kernel_rfl
  f42 := ⟨Tryz.f40.name, by decide, Tryz.func40.trans (congrArg some (by kernel_rfl))⟩
  t4 := Tryz.underlying4
  a4 := Tryz.isAgg4
  z4 := Tryz.sizeOf4
  v4 := Tryz.zeroValue4
  t25 := Tryz.underlying23
  a25 := Tryz.isAgg23
  z25 := Tryz.sizeOf23
  v25 := Tryz.zeroValue23
  t26 := Tryz.underlying9
  a26 := Tryz.isAgg9
  z26 := Tryz.sizeOf9
  v26 := Tryz.zeroValue9
  i26 := by kernel_rfl }
def Tryz.compactS_ren : Go.Shelf.Ren := ⟨fun | 44 => 88 | n => n, fun | 25 => 23 | 26 => 9 | 3 => 3 | 4 => 4 | 0 => 0 | n => n, fun | n => n⟩
set_option maxRecDepth 100000 in
theorem Tryz.compactS : Go.Proofs.SlLaysN.n44 Tryz.prog Tryz.compactS_ren := {
  mixed := by kernel_rfl
  f44 := ⟨Tryz.f88.name, by decide, Tryz.func88.trans (congrArg some (by kernel_rfl))⟩
  t0 := Tryz.underlying0
  a0 := Tryz.isAgg0
  z0 := Tryz.sizeOf0
  v0 := Tryz.zeroValue0
  t3 := Tryz.underlying3
  a3 := Tryz.isAgg3
  z3 := Tryz.sizeOf3
  v3 := Tryz.zeroValue3
  t4 := Tryz.underlying4
  a4 := Tryz.isAgg4
  z4 := Tryz.sizeOf4
  v4 := Tryz.zeroValue4
  t25 := Tryz.underlying23
  a25 := Tryz.isAgg23
  z25 := Tryz.sizeOf23
  v25 := Tryz.zeroValue23
  t26 := Tryz.underlying9
  a26 := Tryz.isAgg9
  z26 := Tryz.sizeOf9
  v26 := Tryz.zeroValue9
  i26 := by kernel_rfl }
def Tryz.searchS_ren : Go.Shelf.Ren := ⟨fun | 14 => 71 | n => n, fun | 22 => 23 | 24 => 9 | 29 => 9 | 32 => 59 | 3 => 3 | 4 => 4 | 35 => 130 | 0 => 0 | n => n, fun | n => n⟩
set_option maxRecDepth 100000 in
theorem Tryz.searchS : Go.Proofs.SlLaysG2.n14 Tryz.prog Tryz.searchS_ren := {
  mixed := by kernel_rfl
  f14 := ⟨Tryz.f71.name, by decide, Tryz.func71.trans (congrArg some (by kernel_rfl))⟩
  t0 := Tryz.underlying0
  a0 := Tryz.isAgg0
  z0 := Tryz.sizeOf0
  v0 := Tryz.zeroValue0
  t3 := Tryz.underlying3
  a3 := Tryz.isAgg3
  z3 := Tryz.sizeOf3
  v3 := Tryz.zeroValue3
  t4 := Tryz.underlying4
  a4 := Tryz.isAgg4
  z4 := Tryz.sizeOf4
  v4 := Tryz.zeroValue4
  t22 := Tryz.underlying23
  a22 := Tryz.isAgg23
  z22 := Tryz.sizeOf23
  v22 := Tryz.zeroValue23
  a24 := Tryz.isAgg9
  z24 := Tryz.sizeOf9
  a29 := Tryz.isAgg9
  z29 := Tryz.sizeOf9
  t32 := Tryz.underlying59
  a32 := Tryz.isAgg59
  z32 := Tryz.sizeOf59
  v32 := Tryz.zeroValue59
  t35 := Tryz.underlying130
  a35 := Tryz.isAgg130
  z35 := Tryz.sizeOf130
  v35 := Tryz.zeroValue130 }
end Go.Proofs

namespace Go.Proofs.YtbaheiimcnfaaaaGreat
open Go.RowKit Go.Sort Go.Lib

/-
  A list brought into its order, each text once.
-/

theorem slaid_grow {w w' : World} (h : Laid w w') : ∃ q os, w' = grow (w.drewN q) os := by
  refine ⟨w'.drawn - w.drawn, w'.heap.extract w.heap.size w'.heap.size, ?_⟩
  obtain ⟨hb, hd⟩ := h
  have hh : w'.heap = w.heap ++ w'.heap.extract w.heap.size w'.heap.size := by
    apply Array.ext_getElem?
    intro i
    rw [Array.getElem?_append]
    by_cases hi : i < w.heap.size
    · rw [if_pos hi]; exact hb.block i hi
    · rw [if_neg hi]
      have hs := hb.size
      by_cases hj : i < w'.heap.size
      · rw [Array.getElem?_extract_of_lt (by omega)]
        simp [Array.getElem?_eq_getElem hj, show w.heap.size + (i - w.heap.size) = i by omega]
      · rw [Array.getElem?_eq_none (by omega), Array.getElem?_eq_none (by simp; omega)]
  have e1 := hb.os
  have e2 := hb.tape
  have e3 := hb.output
  cases w' with
  | mk heap tape drawn os output =>
    cases w with
    | mk heap0 tape0 drawn0 os0 output0 =>
      simp only at hh e1 e2 e3 hd
      simp only [grow, World.drewN]
      subst e1 e2 e3
      congr 1
      omega

/-- a text that a machine has -/
abbrev TSs : Type := { l : List UInt8 // l.length ≤ 1000000000 }
def tz : TSs := ⟨[], by simp⟩
def encT (x : TSs) : Value := .string (bs x.1)
def cfT (x y : TSs) : Int := cf x.1 y.1
theorem sltT (x y : TSs) : ltOf cfT x y = decide (cf x.1 y.1 < 0) := rfl
theorem sswoT : SWO (ltOf cfT) where
  irrefl x := by rw [sltT, cf_self]; rfl
  trans x y z h1 h2 := by rw [sltT] at *; simp at *; exact cf_trans h1 h2
  ntrans x y z h1 h2 := by
    rw [sltT] at *
    simp at *
    have := cf_le_trans (a := z.1) (b := y.1) (c := x.1) (by rw [cf_neg]; omega) (by rw [cf_neg]; omega)
    rw [cf_neg] at this; omega
theorem stotT (x y : TSs) (h1 : ltOf cfT x y = false) (h2 : ltOf cfT y x = false) : x = y := by
  rw [sltT] at *
  simp at *
  have h3 : cf x.1 y.1 = 0 := by rw [cf_neg] at h2; omega
  exact Subtype.ext (cf_zero.1 h3)

theorem lift (l : List (List UInt8)) (h : ∀ x ∈ l, x.length ≤ 1000000000) : ∃ d : List TSs, d.map Subtype.val = l := by
  induction l with
  | nil => exact ⟨[], rfl⟩
  | cons x l ih =>
    obtain ⟨d, hd⟩ := ih (fun y hy => h y (by simp [hy]))
    exact ⟨⟨x, h x (by simp)⟩ :: d, by simp [hd]⟩

theorem putRow_val [Inhabited TSs] (w : World) (g : Nat) (d : List TSs) : putRow encT w g 0 d.toArray = putRow encStr w g 0 (d.map Subtype.val).toArray := by
  unfold putRow
  congr 1
  funext c
  unfold putCells
  congr 1
  funext k x
  simp only [List.size_toArray, List.length_map, Nat.sub_zero, Nat.zero_add, Nat.zero_le, true_and]
  by_cases hk : k < d.length
  · rw [if_pos hk, if_pos hk]
    simp [hk]
    rfl
  · rw [if_neg hk, if_neg hk]

theorem sc_enc (l : List (List UInt8)) : l.map encStr = sc l := rfl

set_option maxRecDepth 100000 in
set_option maxHeartbeats 1000000 in
/-- the sort -/
theorem ssort_any {w : World} {base : Nat} {v : Value} {l : List (List UInt8)} (h : Own base w v l) (sm : Sm l) (hbase : base ≤ w.heap.size) :
    Calls Tryz.prog 87 #[v, .func (.func 72) #[] #[]] w fun e w' => e = .returned (.tuple #[]) ∧ ∃ ts, ts.Perm l ∧ ts.Pairwise (fun a b => cf a b ≤ 0) ∧ Own base w' v ts ∧ Below base w w' := by
  have hinh : Inhabited TSs := ⟨tz⟩
  by_cases h0 : l = []
  · subst h0
    obtain ⟨a, c, e, _⟩ := h.bs.form
    have hS := AnyF.slices_SortFunc_none (P := Tryz.prog) (ρ := Tryz.sortS_ren) { Tryz.sortS with } a c (.func (.func 72) #[] #[]) w
    change Calls Tryz.prog 87 _ _ _ at hS
    rw [e]
    refine hS.mono ?_
    rintro e1 w' ⟨rfl, rfl⟩
    exact ⟨rfl, [], .refl _, .nil, by rw [← e]; exact h, Below.refl _ _⟩
  · obtain ⟨d, hd⟩ := lift l sm.each
    have hdl : d.length = l.length := by rw [← hd]; simp
    rcases h.2 with ⟨_, h1⟩ | ⟨g, cap, cur, rfl, hbg, hg, hn, hcm, hcs, htake⟩
    · exact absurd (List.eq_nil_of_length_eq_zero h1) h0
    · have hH0 : Holds encStr w g 0 l.toArray := holds_of_block hg (by rw [sc_enc]; simpa using htake)
      have hH : Holds encT w g 0 d.toArray := by
        intro j hj
        have hj' : j < d.length := by simpa using hj
        have := hH0 j (by simp; omega)
        refine ⟨?_, this.2⟩
        rw [this.1]
        have hjl : j < l.length := by omega
        simp [hj', hjl]
        have : l[j] = (d[j]).1 := by simp [← hd]
        rw [this]; rfl
      have eg : ∀ args w, (callFunc 72 args).run Tryz.prog w = .ok (.enter 72 args) w := enters_of Tryz.func72 (by kernel_rfl) rfl
      have hcmp : CmpLays1 Tryz.prog 72 #[] encT cfT g 0 d.toArray.size w := fun m os dk _ x y =>
        (cmp_any x.1 y.1 _ (by have := x.2; omega) (by have := y.2; omega)).mono fun e w' ⟨he, hl⟩ => ⟨he, slaid_grow hl⟩
      have hS := Any.slices_SortFunc_total Tryz.sortS encT (fun _ => rfl) cfT sswoT 72 #[] g 0 cap d.toArray w eg hcmp hH (Array.getElem?_eq_some_iff.1 hg).1 (by have := sm.len; simp; omega) stotT
      change Calls Tryz.prog 87 _ _ _ at hS
      have e1 : d.toArray.size = l.length := by simp [hdl]
      rw [e1] at hS
      refine hS.mono ?_
      rintro e w' ⟨rfl, n, os, rfl⟩
      refine ⟨rfl, (d.mergeSort fun x y => !ltOf cfT y x).map Subtype.val, ?_, ?_, ?_, ?_⟩
      · rw [← hd]; exact (List.mergeSort_perm _ _).map _
      · rw [List.pairwise_map]
        have := List.pairwise_mergeSort (le := fun x y : TSs => !ltOf cfT y x) (fun x y z h1 h2 => by
          simp only [sltT, Bool.not_eq_true', decide_eq_false_iff_not] at *
          have := cf_le_trans (a := x.1) (b := y.1) (c := z.1) (by rw [cf_neg] at h1; omega) (by rw [cf_neg] at h2; omega)
          rw [cf_neg]; omega) (fun x y => by
          simp only [sltT, Bool.or_eq_true, Bool.not_eq_true', decide_eq_false_iff_not]
          have := cf_neg x.1 y.1; omega) d
        obtain ⟨S, hS⟩ : ∃ S, (d.mergeSort fun x y => !ltOf cfT y x) = S := ⟨_, rfl⟩
        rw [hS] at this ⊢
        refine List.pairwise_iff_getElem.2 fun i j hi hj hij => ?_
        have hab : (!ltOf cfT S[j] S[i]) = true := List.pairwise_iff_getElem.1 this i j hi hj hij
        have hlt : ltOf cfT S[j] S[i] = false := by simpa using hab
        rw [sltT] at hlt
        have hge : ¬ cf S[j].1 S[i].1 < 0 := of_decide_eq_false hlt
        have hng := cf_neg S[i].1 S[j].1
        omega
      · unfold sortWorld
        have e2 : d.toArray.toList = d := by simp
        rw [e2, putRow_val]
        have := ownsRow_sorted (w := w) (base := base) (g := g) (cap := cap) (n := n) (e := 9) (os := os) (ss := l) (ts := (d.mergeSort fun x y => !ltOf cfT y x).map Subtype.val) (by simp [hdl]) hbg hg hn hcm hcs
        unfold Own
        rw [← sc_enc]
        have hl2 : ((d.mergeSort fun x y => !ltOf cfT y x).map Subtype.val).length = l.length := by simp [hdl]
        rw [hl2]
        exact this
      · unfold sortWorld
        have e2 : d.toArray.toList = d := by simp
        rw [e2, putRow_val]
        exact (Below.refl _ _).grown (grownBy_sorted _) hbase (fun k hk => by cases hk; exact hbg)

theorem Own.cut {base : Nat} {w : World} {g n cap : Nat} {l : List (List UInt8)} (h : Own base w (.slice (some ⟨g, 0, none⟩) n cap) l) (k : Nat) (hk : k ≤ l.length) : Own base w (.slice (some ⟨g, 0, none⟩) k cap) (l.take k) := by
  rcases h.2 with ⟨e, _⟩ | ⟨g', cap', cur, e, hbg, hg, hn, hcm, hcs, htake⟩
  · cases e
  · injection e with e1 e2 e3
    injection e1 with e1
    injection e1 with e1 _ _
    subst e1
    subst e3
    have hlk : (l.take k).length = k := by simp; omega
    refine ⟨by rw [sc_length]; simp, .inr ⟨g, cap, cur, by rw [hlk], hbg, hg, by omega, hcm, hcs, ?_⟩⟩
    rw [hlk]
    have h2 : cur.toList.take (l.length * 1) = sc l := htake
    rw [Nat.mul_one] at h2 ⊢
    have h3 : cur.toList.take k = (cur.toList.take l.length).take k := by rw [List.take_take]; congr 1; omega
    rw [h3, h2]
    simp [sc]

set_option maxRecDepth 100000 in
set_option maxHeartbeats 1000000 in
theorem compact_short {v : Value} {a : Option Addr} {n c : Nat} (w : World) (hv : v = .slice a n c) (hn : n < 2) :
    Calls Tryz.prog 88 #[v] w fun e w' => e = .returned v ∧ w' = w := by
  subst hv
  go_enter Tryz.func88, Tryz.ntmps88
  go_wp2_with fail
  go_ret
  exact ⟨rfl, rfl⟩

set_option maxRecDepth 100000 in
set_option maxHeartbeats 1000000 in
/-- each run made one -/
theorem compact_any {w : World} {base : Nat} {v : Value} {l : List (List UInt8)} (h : Own base w v l) (sm : Sm l) (hs : l.Pairwise fun a b => cf a b ≤ 0) (hbase : base ≤ w.heap.size) :
    Calls Tryz.prog 88 #[v] w fun e w' => ∃ v', e = .returned v' ∧ Own base w' v' (norm l) ∧ Below base w w' := by
  by_cases h0 : l.length < 2
  · obtain ⟨a, c, e, _⟩ := h.bs.form
    refine (compact_short w e h0).mono ?_
    rintro e1 w' ⟨rfl, rfl⟩
    refine ⟨v, rfl, ?_, Below.refl _ _⟩
    have : norm l = l := norm_up (by
      match l, h0 with
      | [], _ => exact .nil
      | [x], _ => exact List.pairwise_singleton _ _)
    rw [this]; exact h
  · rcases h.2 with ⟨_, h1⟩ | ⟨g, cap, cur, rfl, hbg, hg, hn, hcm, hcs, htake⟩
    · exact absurd h1 (by omega)
    · have hH : Holds encStr w g 0 l.toArray := holds_of_block hg (by rw [sc_enc]; simpa using htake)
      have hC := AnyG.slices_Compact_string_arr Tryz.compactS g 0 cap l.toArray w hH (by have := sm.len; simp; omega) (by simpa using hn)
      change Calls Tryz.prog 88 _ _ _ at hC
      rw [compact_norm l l (.refl _) hs] at hC
      have e1 : l.toArray.size = l.length := by simp
      rw [e1] at hC
      refine hC.mono ?_
      rintro e w' ⟨rfl, q, rfl⟩
      have hnl := norm_len l
      obtain ⟨R, hR⟩ : ∃ R, norm l ++ List.replicate (l.length - (norm l).length) [] = R := ⟨_, rfl⟩
      rw [hR]
      have hRl : R.length = l.length := by rw [← hR]; simp; omega
      have ho := ownsRow_sorted (w := w) (base := base) (g := g) (cap := cap) (n := q) (e := 9) (os := #[]) (ss := l) (ts := R) hRl hbg hg hn hcm hcs
      have hgr := grownBy_sorted (w := w) (g := g) (n := q) (os := #[]) R.toArray
      rw [grow_empty] at ho hgr
      refine ⟨_, rfl, ?_, (Below.refl _ _).grown hgr hbase (fun k hk => by cases hk; exact hbg)⟩
      have ho2 : Own base (putRow encStr (Sort.ahead w q) g 0 R.toArray) (.slice (some ⟨g, 0, none⟩) l.length cap) R := by
        unfold Own
        rw [hRl]; exact ho
      have := ho2.cut (norm l).length (by omega)
      have e3 : R.take (norm l).length = norm l := by rw [← hR]; simp
      rw [e3] at this
      exact this

set_option maxRecDepth 100000 in
set_option maxHeartbeats 1000000 in
theorem sclone_any {w : World} {v : Value} {l : List (List UInt8)} (h : SS w v l) (sm : Sm l) :
    Calls Tryz.prog 40 #[v] w fun e w' => ∃ v', e = .returned v' ∧ Own w.heap.size w' v' l ∧ Below w.heap.size w w' := by
  rcases h with ⟨⟨a, c, rfl⟩, rfl⟩ | ⟨b, off, cap, rfl, hc, hlt, hcell⟩
  · cases a with
    | none =>
      have hC := AnyG.slices_Clone_string_nil Tryz.cloneS 0 c w
      change Calls Tryz.prog 40 _ _ _ at hC
      refine hC.mono ?_
      rintro e w' ⟨rfl, rfl⟩
      exact ⟨_, rfl, Own.nil _ _, Below.refl _ _⟩
    | some a =>
      have hC := AnyG.slices_Clone_string_zero Tryz.cloneS a c w
      change Calls Tryz.prog 40 _ _ _ at hC
      refine hC.mono ?_
      rintro e w' ⟨v', rfl, ho, _, hb⟩
      exact ⟨v', rfl, ho, hb⟩
  · have hC := AnyG.slices_Clone_string Tryz.cloneS b off l.length cap (l.map bs) w (by simp) (by have := sm.len; omega) (fun j hj => by
      have hj' : j < l.length := by simpa using hj
      rw [hcell j (.string (bs l[j])) (by simp [sc_get, hj'])]
      simp [List.getD, hj'])
    change Calls Tryz.prog 40 _ _ _ at hC
    refine hC.mono ?_
    rintro e w' ⟨v', rfl, ho, _, hb⟩
    refine ⟨v', rfl, ?_, hb⟩
    have e1 : ((l.map bs).take l.length).map Value.string = sc l := by
      rw [List.take_of_length_le (by simp)]; simp [sc]
    rw [e1] at ho
    exact ho

set_option maxRecDepth 100000 in
set_option maxHeartbeats 1000000 in
theorem rise_any {w : World} {base : Nat} {v : Value} {l : List (List UInt8)} (h : Own base w v l) (sm : Sm l) (hbase : base ≤ w.heap.size) :
    Calls Tryz.prog 98 #[v] w fun e w' => ∃ v', e = .returned v' ∧ Own base w' v' (norm l) ∧ Below base w w' := by
  have H : Hid (Own base w v l ∧ Sm l) := ⟨h, sm⟩
  clear h sm
  go_enter Tryz.func98, Tryz.ntmps98
  go_wp2_with fail
  refine (ssort_any H.out.1 H.out.2 hbase).mono ?_
  rintro e w1 ⟨rfl, ts, hp, hs, ho, hb⟩
  have H1 : Hid (Own base w1 v ts ∧ Sm ts ∧ ts.Pairwise (fun a b => cf a b ≤ 0) ∧ norm ts = norm l) :=
    ⟨ho, ⟨by rw [hp.length_eq]; exact H.out.2.len, fun x hx => H.out.2.each x (hp.mem_iff.1 hx)⟩, hs, norm_of (up_norm l) (fun x => (mem_norm x l).trans hp.mem_iff.symm)⟩
  have HB : Hid (Below base w w1) := hb
  have hb1 : base ≤ w1.heap.size := Nat.le_trans hbase hb.size
  clear hp hs ho hb
  go_wp2_with fail
  refine (compact_any H1.out.1 H1.out.2.1 H1.out.2.2.1 hb1).mono ?_
  rintro e w2 ⟨v2, rfl, ho2, hb2⟩
  have HO2 : Hid (Own base w2 v2 (norm l)) := by rw [← H1.out.2.2.2]; exact ho2
  have HB2 : Hid (Below base w w2) := below_trans HB.out hb2
  clear ho2 hb2
  go_wp2_with fail
  go_ret
  exact ⟨v2, rfl, HO2.out, HB2.out⟩

set_option maxRecDepth 100000 in
set_option maxHeartbeats 1000000 in
theorem norm_any {w : World} {v : Value} {l : List (List UInt8)} (h : SS w v l) (sm : Sm l) :
    Calls Tryz.prog 63 #[v] w fun e w' => ∃ v', e = .returned v' ∧ Own w.heap.size w' v' (norm l) ∧ Below w.heap.size w w' := by
  have H : Hid (SS w v l ∧ Sm l) := ⟨h, sm⟩
  clear h sm
  go_enter Tryz.func63, Tryz.ntmps63
  go_wp2_with fail
  refine (sclone_any H.out.1 H.out.2).mono ?_
  rintro e w1 ⟨v1, rfl, ho1, hb1⟩
  have HO1 : Hid (Own w.heap.size w1 v1 l) := ho1
  have HB1 : Hid (Below w.heap.size w w1) := hb1
  have hz := hb1.size
  clear ho1 hb1
  go_wp2_with fail
  refine (rise_any HO1.out H.out.2 hz).mono ?_
  rintro e w2 ⟨v2, rfl, ho2, hb2⟩
  have HO2 : Hid (Own w.heap.size w2 v2 (norm l)) := ho2
  have HB2 : Hid (Below w.heap.size w w2) := below_trans HB1.out hb2
  clear ho2 hb2
  go_wp2_with fail
  go_ret
  exact ⟨v2, rfl, HO2.out, HB2.out⟩
end Go.Proofs.YtbaheiimcnfaaaaGreat
