/-
  The contracts of the sort, of Clone, of Compact and of the search, laid at this program, in plain words.
  What is right in a directory, as a list.
-/
import Derived.Shelf.SlSortCmp.NoneTotal
import Derived.Test.YtbaheiimcnfaaaaGreatProg
import Derived.Test.YtbaheiimcnfaaaaGreatJNorm
import Derived.Deep.RegionHeld3
import Derived.Sort.OwnSorted
import Derived.Test.YtbaheiimcnfaaaaGreatJNe
namespace Go.Proofs
open Go.Shelf
def Tryz.sortL_ren : Go.Shelf.Ren := ⟨fun | 6 => 87 | 15 => 117 | 14 => 116 | 28 => 143 | 29 => 144 | 20 => 135 | 21 => 136 | 22 => 137 | 23 => 138 | 24 => 139 | 25 => 140 | 26 => 141 | 27 => 142 | 46 => 150 | 47 => 151 | 48 => 152 | 49 => 153 | 50 => 154 | 57 => 160 | n => n, fun | 22 => 23 | 24 => 9 | 25 => 59 | 3 => 3 | 39 => 130 | 0 => 0 | 53 => 157 | 55 => 116 | 4 => 4 | 46 => 151 | 45 => 150 | 50 => 101 | 5 => 5 | 9 => 9 | 66 => 164 | 70 => 168 | 76 => 171 | 77 => 54 | n => n, fun | n => n⟩
set_option maxRecDepth 100000 in
theorem Tryz.sortL : Go.Proofs.SlLaysF.n6 Tryz.prog Tryz.sortL_ren := {
  mixed := by kernel_rfl
  f6 := ⟨Tryz.f87.name, by decide, Tryz.func87.trans (congrArg some (by kernel_rfl))⟩
  f14 := ⟨Tryz.f116.name, by decide, Tryz.func116.trans (congrArg some (by kernel_rfl))⟩
  f15 := Tryz.func117.trans (congrArg some (by kernel_rfl))
  f20 := ⟨Tryz.f135.name, by decide, Tryz.func135.trans (congrArg some (by kernel_rfl))⟩
  f21 := ⟨Tryz.f136.name, by decide, Tryz.func136.trans (congrArg some (by kernel_rfl))⟩
  f22 := ⟨Tryz.f137.name, by decide, Tryz.func137.trans (congrArg some (by kernel_rfl))⟩
  f23 := ⟨Tryz.f138.name, by decide, Tryz.func138.trans (congrArg some (by kernel_rfl))⟩
  f24 := ⟨Tryz.f139.name, by decide, Tryz.func139.trans (congrArg some (by kernel_rfl))⟩
  f25 := ⟨Tryz.f140.name, by decide, Tryz.func140.trans (congrArg some (by kernel_rfl))⟩
  f26 := ⟨Tryz.f141.name, by decide, Tryz.func141.trans (congrArg some (by kernel_rfl))⟩
  f27 := ⟨Tryz.f142.name, by decide, Tryz.func142.trans (congrArg some (by kernel_rfl))⟩
  f28 := Tryz.func143.trans (congrArg some (by kernel_rfl))
  f29 := Tryz.func144.trans (congrArg some (by kernel_rfl))
  f46 := ⟨Tryz.f150.name, by decide, Tryz.func150.trans (congrArg some (by kernel_rfl))⟩
  f47 := Tryz.func151.trans (congrArg some (by kernel_rfl))
  f48 := Tryz.func152.trans (congrArg some (by kernel_rfl))
  f49 := ⟨Tryz.f153.name, by decide, Tryz.func153.trans (congrArg some (by kernel_rfl))⟩
  f50 := ⟨Tryz.f154.name, by decide, Tryz.func154.trans (congrArg some (by kernel_rfl))⟩
  f57 := ⟨Tryz.f160.name, by decide, Tryz.func160.trans (congrArg some (by kernel_rfl))⟩
  t0 := Tryz.underlying0
  a0 := Tryz.isAgg0
  z0 := Tryz.sizeOf0
  v0 := Tryz.zeroValue0
  t3 := Tryz.underlying3
  a3 := Tryz.isAgg3
  z3 := Tryz.sizeOf3
  v3 := Tryz.zeroValue3
  t4 := Tryz.underlying4
  a4 := Tryz.isAgg4
  z4 := Tryz.sizeOf4
  v4 := Tryz.zeroValue4
  t5 := Tryz.underlying5
  a5 := Tryz.isAgg5
  z5 := Tryz.sizeOf5
  v5 := Tryz.zeroValue5
  t9 := Tryz.underlying9
  a9 := Tryz.isAgg9
  z9 := Tryz.sizeOf9
  v9 := Tryz.zeroValue9
  t22 := Tryz.underlying23
  a22 := Tryz.isAgg23
  z22 := Tryz.sizeOf23
  v22 := Tryz.zeroValue23
  a24 := Tryz.isAgg9
  z24 := Tryz.sizeOf9
  t25 := Tryz.underlying59
  a25 := Tryz.isAgg59
  z25 := Tryz.sizeOf59
  v25 := Tryz.zeroValue59
  t39 := Tryz.underlying130
  a39 := Tryz.isAgg130
  z39 := Tryz.sizeOf130
  v39 := Tryz.zeroValue130
  t45 := Tryz.underlying150
  a45 := Tryz.isAgg150
  z45 := Tryz.sizeOf150
  v45 := Tryz.zeroValue150
  t46 := Tryz.underlying151
  a46 := Tryz.isAgg151
  z46 := Tryz.sizeOf151
  v46 := Tryz.zeroValue151
  t50 := Tryz.underlying101
  a50 := Tryz.isAgg101
  z50 := Tryz.sizeOf101
  v50 := Tryz.zeroValue101
  t53 := Tryz.underlying157
  a53 := Tryz.isAgg157
  z53 := Tryz.sizeOf157
  v53 := Tryz.zeroValue157
  t55 := Tryz.underlying116
  a55 := Tryz.isAgg116
  z55 := Tryz.sizeOf116
  v55 := Tryz.zeroValue116
  t66 := Tryz.underlying164
  a66 := Tryz.isAgg164
  z66 := Tryz.sizeOf164
  v66 := Tryz.zeroValue164
  t70 := Tryz.underlying168
  a70 := Tryz.isAgg168
  z70 := Tryz.sizeOf168
  v70 := Tryz.zeroValue168
  t76 := Tryz.underlying171
  a76 := Tryz.isAgg171
  z76 := Tryz.sizeOf171
  v76 := Tryz.zeroValue171
  t77 := Tryz.underlying54
  a77 := Tryz.isAgg54
  z77 := Tryz.sizeOf54
  v77 := Tryz.zeroValue54 }

end Go.Proofs

namespace Go.Proofs.YtbaheiimcnfaaaaGreat
open Go.RowKit Go.Sort Go.Lib

/-
  A list brought into its order, each text once.
-/

theorem laid_grow {w w' : World} (h : Laid w w') : ∃ q os, w' = grow (w.drewN q) os := by
  refine ⟨w'.drawn - w.drawn, w'.heap.extract w.heap.size w'.heap.size, ?_⟩
  obtain ⟨hb, hd⟩ := h
  have hh : w'.heap = w.heap ++ w'.heap.extract w.heap.size w'.heap.size := by
    apply Array.ext_getElem?
    intro i
    rw [Array.getElem?_append]
    by_cases hi : i < w.heap.size
    · rw [if_pos hi]; exact hb.block i hi
    · rw [if_neg hi]
      have hs := hb.size
      by_cases hj : i < w'.heap.size
      · rw [Array.getElem?_extract_of_lt (by omega)]
        simp [Array.getElem?_eq_getElem hj, show w.heap.size + (i - w.heap.size) = i by omega]
      · rw [Array.getElem?_eq_none (by omega), Array.getElem?_eq_none (by simp; omega)]
  have e1 := hb.os
  have e2 := hb.tape
  have e3 := hb.output
  cases w' with
  | mk heap tape drawn os output =>
    cases w with
    | mk heap0 tape0 drawn0 os0 output0 =>
      simp only at hh e1 e2 e3 hd
      simp only [grow, World.drewN]
      subst e1 e2 e3
      congr 1
      omega

/-- a text that a machine has -/
abbrev TS : Type := { l : List UInt8 // l.length ≤ 1000000000 }
def tzT : TS := ⟨[], by simp⟩
def encTT (x : TS) : Value := .string (bs x.1)
def cfTT (x y : TS) : Int := cf x.1 y.1
theorem ltT (x y : TS) : ltOf cfTT x y = decide (cf x.1 y.1 < 0) := rfl
theorem swoT : SWO (ltOf cfTT) where
  irrefl x := by rw [ltT, cf_self]; rfl
  trans x y z h1 h2 := by rw [ltT] at *; simp at *; exact cf_trans h1 h2
  ntrans x y z h1 h2 := by
    rw [ltT] at *
    simp at *
    have := cf_le_trans (a := z.1) (b := y.1) (c := x.1) (by rw [cf_neg]; omega) (by rw [cf_neg]; omega)
    rw [cf_neg] at this; omega
theorem totT (x y : TS) (h1 : ltOf cfTT x y = false) (h2 : ltOf cfTT y x = false) : x = y := by
  rw [ltT] at *
  simp at *
  have h3 : cf x.1 y.1 = 0 := by rw [cf_neg] at h2; omega
  exact Subtype.ext (cf_zero.1 h3)

theorem liftT (l : List (List UInt8)) (h : ∀ x ∈ l, x.length ≤ 1000000000) : ∃ d : List TS, d.map Subtype.val = l := by
  induction l with
  | nil => exact ⟨[], rfl⟩
  | cons x l ih =>
    obtain ⟨d, hd⟩ := ih (fun y hy => h y (by simp [hy]))
    exact ⟨⟨x, h x (by simp)⟩ :: d, by simp [hd]⟩

theorem putRow_valT [Inhabited TS] (w : World) (g : Nat) (d : List TS) : putRow encTT w g 0 d.toArray = putRow encStr w g 0 (d.map Subtype.val).toArray := by
  unfold putRow
  congr 1
  funext c
  unfold putCells
  congr 1
  funext k x
  simp only [List.size_toArray, List.length_map, Nat.sub_zero, Nat.zero_add, Nat.zero_le, true_and]
  by_cases hk : k < d.length
  · rw [if_pos hk, if_pos hk]
    simp [hk]
    rfl
  · rw [if_neg hk, if_neg hk]

theorem sc_encT (l : List (List UInt8)) : l.map encStr = sc l := rfl

set_option maxRecDepth 100000 in
set_option maxHeartbeats 1000000 in
/-- the sort -/
theorem sort_any {w : World} {base : Nat} {v : Value} {l : List (List UInt8)} (h : Own base w v l) (sm : Sm l) (hbase : base ≤ w.heap.size) :
    Calls Tryz.prog 87 #[v, .func (.func 72) #[] #[]] w fun e w' => e = .returned (.tuple #[]) ∧ ∃ ts, ts.Perm l ∧ ts.Pairwise (fun a b => cf a b ≤ 0) ∧ Own base w' v ts ∧ Below base w w' := by
  have hinh : Inhabited TS := ⟨tzT⟩
  by_cases h0 : l = []
  · subst h0
    obtain ⟨a, c, e, _⟩ := h.bs.form
    have hS := AnyF.slices_SortFunc_none (P := Tryz.prog) (ρ := Tryz.sortL_ren) { Tryz.sortL with } a c (.func (.func 72) #[] #[]) w
    change Calls Tryz.prog 87 _ _ _ at hS
    rw [e]
    refine hS.mono ?_
    rintro e1 w' ⟨rfl, rfl⟩
    exact ⟨rfl, [], .refl _, .nil, by rw [← e]; exact h, Below.refl _ _⟩
  · obtain ⟨d, hd⟩ := liftT l sm.each
    have hdl : d.length = l.length := by rw [← hd]; simp
    rcases h.2 with ⟨_, h1⟩ | ⟨g, cap, cur, rfl, hbg, hg, hn, hcm, hcs, htake⟩
    · exact absurd (List.eq_nil_of_length_eq_zero h1) h0
    · have hH0 : Holds encStr w g 0 l.toArray := holds_of_block hg (by rw [sc_encT]; simpa using htake)
      have hH : Holds encTT w g 0 d.toArray := by
        intro j hj
        have hj' : j < d.length := by simpa using hj
        have := hH0 j (by simp; omega)
        refine ⟨?_, this.2⟩
        rw [this.1]
        have hjl : j < l.length := by omega
        simp [hj', hjl]
        have : l[j] = (d[j]).1 := by simp [← hd]
        rw [this]; rfl
      have eg : ∀ args w, (callFunc 72 args).run Tryz.prog w = .ok (.enter 72 args) w := enters_of Tryz.func72 (by kernel_rfl) rfl
      have hcmp : CmpLays1 Tryz.prog 72 #[] encTT cfTT g 0 d.toArray.size w := fun m os dk _ x y =>
        (cmp_any x.1 y.1 _ (by have := x.2; omega) (by have := y.2; omega)).mono fun e w' ⟨he, hl⟩ => ⟨he, laid_grow hl⟩
      have hS := Any.slices_SortFunc_total Tryz.sortL encTT (fun _ => rfl) cfTT swoT 72 #[] g 0 cap d.toArray w eg hcmp hH (Array.getElem?_eq_some_iff.1 hg).1 (by have := sm.len; simp; omega) totT
      change Calls Tryz.prog 87 _ _ _ at hS
      have e1 : d.toArray.size = l.length := by simp [hdl]
      rw [e1] at hS
      refine hS.mono ?_
      rintro e w' ⟨rfl, n, os, rfl⟩
      refine ⟨rfl, (d.mergeSort fun x y => !ltOf cfTT y x).map Subtype.val, ?_, ?_, ?_, ?_⟩
      · rw [← hd]; exact (List.mergeSort_perm _ _).map _
      · rw [List.pairwise_map]
        have := List.pairwise_mergeSort (le := fun x y : TS => !ltOf cfTT y x) (fun x y z h1 h2 => by
          simp only [ltT, Bool.not_eq_true', decide_eq_false_iff_not] at *
          have := cf_le_trans (a := x.1) (b := y.1) (c := z.1) (by rw [cf_neg] at h1; omega) (by rw [cf_neg] at h2; omega)
          rw [cf_neg]; omega) (fun x y => by
          simp only [ltT, Bool.or_eq_true, Bool.not_eq_true', decide_eq_false_iff_not]
          have := cf_neg x.1 y.1; omega) d
        obtain ⟨S, hS⟩ : ∃ S, (d.mergeSort fun x y => !ltOf cfTT y x) = S := ⟨_, rfl⟩
        rw [hS] at this ⊢
        refine List.pairwise_iff_getElem.2 fun i j hi hj hij => ?_
        have hab : (!ltOf cfTT S[j] S[i]) = true := List.pairwise_iff_getElem.1 this i j hi hj hij
        have hlt : ltOf cfTT S[j] S[i] = false := by simpa using hab
        rw [ltT] at hlt
        have hge : ¬ cf S[j].1 S[i].1 < 0 := of_decide_eq_false hlt
        have hng := cf_neg S[i].1 S[j].1
        omega
      · unfold sortWorld
        have e2 : d.toArray.toList = d := by simp
        rw [e2, putRow_valT]
        have := ownsRow_sorted (w := w) (base := base) (g := g) (cap := cap) (n := n) (e := 9) (os := os) (ss := l) (ts := (d.mergeSort fun x y => !ltOf cfTT y x).map Subtype.val) (by simp [hdl]) hbg hg hn hcm hcs
        unfold Own
        rw [← sc_encT]
        have hl2 : ((d.mergeSort fun x y => !ltOf cfTT y x).map Subtype.val).length = l.length := by simp [hdl]
        rw [hl2]
        exact this
      · unfold sortWorld
        have e2 : d.toArray.toList = d := by simp
        rw [e2, putRow_valT]
        exact (Below.refl _ _).grown (grownBy_sorted _) hbase (fun k hk => by cases hk; exact hbg)
end Go.Proofs.YtbaheiimcnfaaaaGreat

namespace Go.Proofs.YtbaheiimcnfaaaaGreat
open Go.RowKit Go.Maps

/-- what of the map is still to come -/
def RG (w : World) (N b r : Nat) (F : List UInt8 → Option Nat) (left : List UInt8 → Bool) (cnt : Nat) : Prop :=
  ∃ n D lf, w.ranges Tryz.prog 9 ptrR b r n D lf cnt ∧ n ≤ N ∧ (∀ k : List UInt8, lf (.string k) = left k) ∧ ∀ k : List UInt8, Maps.has D (.string k) = (F k).isSome ∧ ∀ a, F k = some a → ∀ zd, D.atKey (.string k) zd = .lit (.int .i64 a)
theorem RG.below {w w' : World} {N b r cnt B : Nat} {F : List UInt8 → Option Nat} {left : List UInt8 → Bool} (h : RG w N b r F left cnt) (hb : Below B w w') (h1 : b < B) (h2 : r < B) : RG w' N b r F left cnt := by
  obtain ⟨n, D, lf, ⟨es, clock, since, seen, c0, k1, k2, k3, k4, k5, k6⟩, h3⟩ := h
  exact ⟨n, D, lf, ⟨es, clock, since, seen, c0, (hb.block b h1).trans k1, k2, k3, k4, (hb.block r h2).trans k5, k6⟩, h3⟩
theorem RG.lt {w : World} {N b r cnt : Nat} {F : List UInt8 → Option Nat} {left : List UInt8 → Bool} (h : RG w N b r F left cnt) : r < w.heap.size := by
  obtain ⟨n, D, lf, h1, _⟩ := h; exact h1.lt
theorem RG.left_eq {w : World} {N b r cnt : Nat} {F : List UInt8 → Option Nat} {left : List UInt8 → Bool} (h : RG w N b r F left cnt) : w.rangeLeft b r = cnt := by
  obtain ⟨n, D, lf, h1, _⟩ := h; exact h1.left_eq
theorem keyInv {v : Value} {l : Lit} (h : keyOf Tryz.prog 9 v = some l) : ∃ s, v = .string (bs s) ∧ l = .string s := by
  cases v <;> simp [keyOf, mapKey] at h
  rename_i s
  exact ⟨s.data.toList, by rw [bs_of], h.2.symm⟩
theorem ptrShape {v : Value} {y : DataW Unit × List MemPlace} (h : ptrR v = some y) : ∃ a : Option Nat, v = pv a := by
  unfold ptrR at h
  split at h
  · rename_i x
    split at h
    · rename_i e
      obtain ⟨b, o, s⟩ := x
      simp only at e
      obtain ⟨rfl, rfl⟩ := e
      exact ⟨some b, rfl⟩
    · cases h
  · exact ⟨none, rfl⟩
  · cases h

section
variable {w : World} {ops : Array Oper} {rest : List Oper} {o : Oper} {a : Act} {Q : Exit → Act → World → Prop}
/-- range over the map -/
theorem wp_range {N b : Nat} {F : List UInt8 → Option Nat} (h : MP w N b F) (hg : o.guard = none) (m : Operand) (hop : o.op = Op.range 115 m) (hm : a.eval m = .map (some b))
    (hK : ∀ w' cnt, RG w' N b w.heap.size F (fun k => (F k).isSome) cnt → Below w.heap.size w w' → w'.heap.size = w.heap.size + 1 → wpList Tryz.prog ops Q rest (a.put o.dst (.pointer (some ⟨w.heap.size, 0, none⟩))) w') :
    wpList Tryz.prog ops Q (o :: rest) a w := by
  obtain ⟨n, D, h1, h2, h3, h4⟩ := h
  refine wpList_range_own w hg m 115 hop 9 109 lawM undM ptrR b n D hm h1 ?_
  intro w' r1 r2 r3
  refine hK w' _ ⟨n, D, _, r1, h2, fun k => (h4 k).1, h4⟩ ⟨r2.os, r2.tape, r2.output, r2.size, fun i hi => r2.block i hi (by simp)⟩ r3
set_option maxRecDepth 100000 in
/-- the next one -/
theorem wp_next {N b r cnt : Nat} {F : List UInt8 → Option Nat} {left : List UInt8 → Bool} (h : RG w N b r F left cnt) (hg : o.guard = none) (it : Operand) (hop : o.op = Op.next it false) (hit : a.eval it = .pointer (some ⟨r, 0, none⟩))
    (hDone : (∀ k, left k = false) → wpList Tryz.prog ops Q rest (a.put o.dst (.tuple #[.bool false])) w)
    (hMore : ∀ (k : List UInt8) (x : Nat) (w' : World) (cnt' : Nat), left k = true → F k = some x → RG w' N b r F (fun z => left z && !(z == k)) cnt' → cnt' < cnt → w.grownBy w' (some r) → w'.heap.size = w.heap.size →
      (Instr.entry (.pointer (some ⟨r, 0, none⟩))).run Tryz.prog w' = .ok (.tuple #[.string (bs k), .pointer (some ⟨x, 0, none⟩)]) w' → wpList Tryz.prog ops Q rest (a.put o.dst (.tuple #[.bool true, .string (bs k), .pointer (some ⟨x, 0, none⟩)])) w') :
    wpList Tryz.prog ops Q (o :: rest) a w := by
  obtain ⟨n, D, lf, h1, h2, h3, h4⟩ := h
  refine wpList_next_ranges w hg it hop 9 lawM ptrR (fun s : List UInt8 => .string (bs s)) pv (fun key kl hk => by obtain ⟨s, e, _⟩ := keyInv hk; exact ⟨s, e⟩) (fun v y hy => ptrShape hy) b r n D lf cnt hit h1 ?_ ?_
  · intro _ hl
    exact hDone (fun k => by rw [← h3 k]; exact hl _)
  · intro k x kl y w' cnt' hkey hl hR hat hrg hlt hgr hsz hen
    obtain ⟨s, e1, e2⟩ := keyInv hkey
    have e1 : k = s := by
      injection e1 with e1
      exact bs_inj.1 e1
    subst e1
    subst e2
    have hh : Maps.has D (.string k) = true := Maps.has_true_of_atKey hat
    rw [(h4 k).1] at hh
    obtain ⟨z, hz⟩ := Option.isSome_iff_exists.1 hh
    have hx : x = some z := by
      have h5 := (h4 k).2 z hz .nil
      rw [hat] at h5
      have h6 : ptrR (pv x) = some (.lit (.int .i64 z), y.2) := by rw [hR, ← h5]
      have h7 := ptrR_inv h6
      cases x with
      | none => cases h7
      | some x =>
        unfold pv at h7
        injection h7 with h7
        injection h7 with h7
        injection h7 with h7
        rw [h7]
    subst hx
    refine hMore k z w' cnt' (by rw [← h3 k]; exact hl) hz ⟨n, D, _, hrg, h2, fun q => ?_, h4⟩ hlt hgr hsz hen
    show (lf (.string q) && !(Lit.string q).sameKey (.string k)) = (left q && !(q == k))
    rw [h3 q]
    by_cases e : q = k
    · rw [e, WideAt.sameKey_self (isKeyLit k)]; simp
    · rw [Maps.sameKey_ne (fun h => e (Lit.string.inj h))]; simp [e]
end
end Go.Proofs.YtbaheiimcnfaaaaGreat
