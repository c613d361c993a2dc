/-
  The contracts of the sort, of Clone, of Compact and of the search, laid at this program, in plain words.
  The keys of a map, one by one.
-/
import Derived.Shelf.SlSortCmp.NoneTotal
import Derived.Test.YtlkkmcibjhoneaaGreatDoorProg
import Derived.Test.YtlkkmcibjhoneaaGreatDoorJFil
import Derived.Deep.RegionHeld3
import Derived.Sort.OwnSorted
import Derived.Test.YtlkkmcibjhoneaaGreatDoorLm
import Derived.RangeFuncNested
import Derived.RangeFuncBound
import Derived.RangeFuncCalls
import Derived.RangeFuncLeaves
import Derived.Shelf.RegionOpen
import Derived.OwnWalkIn
import Derived.TacticsInMore
import Derived.LoopNIn
import Derived.LoopIn
import Derived.Sort.MapsRangeIn
namespace Go.Proofs
open Go.Shelf
def Tryz.sortL_ren : Go.Shelf.Ren := ⟨fun | 6 => 80 | 15 => 104 | 14 => 106 | 28 => 132 | 29 => 133 | 20 => 134 | 21 => 135 | 22 => 136 | 23 => 137 | 24 => 138 | 25 => 139 | 26 => 140 | 27 => 141 | 46 => 151 | 47 => 147 | 48 => 148 | 49 => 152 | 50 => 153 | 57 => 159 | n => n, fun | 22 => 42 | 24 => 9 | 25 => 55 | 3 => 3 | 39 => 125 | 0 => 0 | 53 => 130 | 55 => 144 | 4 => 4 | 46 => 137 | 45 => 136 | 50 => 116 | 5 => 5 | 9 => 9 | 66 => 150 | 70 => 154 | 76 => 159 | 77 => 92 | n => n, fun | n => n⟩
set_option maxRecDepth 100000 in
theorem Tryz.sortL : Go.Proofs.SlLaysF.n6 Tryz.prog Tryz.sortL_ren := {
  mixed := by kernel_rfl
  f6 := ⟨Tryz.f80.name, by decide, Tryz.func80.trans (congrArg some (by kernel_rfl))⟩
  f14 := ⟨Tryz.f106.name, by decide, Tryz.func106.trans (congrArg some (by kernel_rfl))⟩
  f15 := Tryz.func104.trans (congrArg some (by kernel_rfl))
  f20 := ⟨Tryz.f134.name, by decide, Tryz.func134.trans (congrArg some (by kernel_rfl))⟩
  f21 := ⟨Tryz.f135.name, by decide, Tryz.func135.trans (congrArg some (by kernel_rfl))⟩
  f22 := ⟨Tryz.f136.name, by decide, Tryz.func136.trans (congrArg some (by kernel_rfl))⟩
  f23 := ⟨Tryz.f137.name, by decide, Tryz.func137.trans (congrArg some (by kernel_rfl))⟩
  f24 := ⟨Tryz.f138.name, by decide, Tryz.func138.trans (congrArg some (by kernel_rfl))⟩
  f25 := ⟨Tryz.f139.name, by decide, Tryz.func139.trans (congrArg some (by kernel_rfl))⟩
  f26 := ⟨Tryz.f140.name, by decide, Tryz.func140.trans (congrArg some (by kernel_rfl))⟩
  f27 := ⟨Tryz.f141.name, by decide, Tryz.func141.trans (congrArg some (by kernel_rfl))⟩
  f28 := Tryz.func132.trans (congrArg some (by kernel_rfl))
  f29 := Tryz.func133.trans (congrArg some (by kernel_rfl))
  f46 := ⟨Tryz.f151.name, by decide, Tryz.func151.trans (congrArg some (by kernel_rfl))⟩
  f47 := Tryz.func147.trans (congrArg some (by kernel_rfl))
  f48 := Tryz.func148.trans (congrArg some (by kernel_rfl))
  f49 := ⟨Tryz.f152.name, by decide, Tryz.func152.trans (congrArg some (by kernel_rfl))⟩
  f50 := ⟨Tryz.f153.name, by decide, Tryz.func153.trans (congrArg some (by kernel_rfl))⟩
  f57 := ⟨Tryz.f159.name, by decide, Tryz.func159.trans (congrArg some (by kernel_rfl))⟩
  t0 := Tryz.underlying0
  a0 := Tryz.isAgg0
  z0 := Tryz.sizeOf0
  v0 := Tryz.zeroValue0
  t3 := Tryz.underlying3
  a3 := Tryz.isAgg3
  z3 := Tryz.sizeOf3
  v3 := Tryz.zeroValue3
  t4 := Tryz.underlying4
  a4 := Tryz.isAgg4
  z4 := Tryz.sizeOf4
  v4 := Tryz.zeroValue4
  t5 := Tryz.underlying5
  a5 := Tryz.isAgg5
  z5 := Tryz.sizeOf5
  v5 := Tryz.zeroValue5
  t9 := Tryz.underlying9
  a9 := Tryz.isAgg9
  z9 := Tryz.sizeOf9
  v9 := Tryz.zeroValue9
  t22 := Tryz.underlying42
  a22 := Tryz.isAgg42
  z22 := Tryz.sizeOf42
  v22 := Tryz.zeroValue42
  a24 := Tryz.isAgg9
  z24 := Tryz.sizeOf9
  t25 := Tryz.underlying55
  a25 := Tryz.isAgg55
  z25 := Tryz.sizeOf55
  v25 := Tryz.zeroValue55
  t39 := Tryz.underlying125
  a39 := Tryz.isAgg125
  z39 := Tryz.sizeOf125
  v39 := Tryz.zeroValue125
  t45 := Tryz.underlying136
  a45 := Tryz.isAgg136
  z45 := Tryz.sizeOf136
  v45 := Tryz.zeroValue136
  t46 := Tryz.underlying137
  a46 := Tryz.isAgg137
  z46 := Tryz.sizeOf137
  v46 := Tryz.zeroValue137
  t50 := Tryz.underlying116
  a50 := Tryz.isAgg116
  z50 := Tryz.sizeOf116
  v50 := Tryz.zeroValue116
  t53 := Tryz.underlying130
  a53 := Tryz.isAgg130
  z53 := Tryz.sizeOf130
  v53 := Tryz.zeroValue130
  t55 := Tryz.underlying144
  a55 := Tryz.isAgg144
  z55 := Tryz.sizeOf144
  v55 := Tryz.zeroValue144
  t66 := Tryz.underlying150
  a66 := Tryz.isAgg150
  z66 := Tryz.sizeOf150
  v66 := Tryz.zeroValue150
  t70 := Tryz.underlying154
  a70 := Tryz.isAgg154
  z70 := Tryz.sizeOf154
  v70 := Tryz.zeroValue154
  t76 := Tryz.underlying159
  a76 := Tryz.isAgg159
  z76 := Tryz.sizeOf159
  v76 := Tryz.zeroValue159
  t77 := Tryz.underlying92
  a77 := Tryz.isAgg92
  z77 := Tryz.sizeOf92
  v77 := Tryz.zeroValue92 }

end Go.Proofs

namespace Go.Proofs.YtlkkmcibjhoneaaGreatDoor
open Go.RowKit Go.Sort Go.Lib

/-
  A list brought into its order, each text once.
-/

theorem laid_grow {w w' : World} (h : Laid w w') : ∃ q os, w' = grow (w.drewN q) os := by
  refine ⟨w'.drawn - w.drawn, w'.heap.extract w.heap.size w'.heap.size, ?_⟩
  obtain ⟨hb, hd⟩ := h
  have hh : w'.heap = w.heap ++ w'.heap.extract w.heap.size w'.heap.size := by
    apply Array.ext_getElem?
    intro i
    rw [Array.getElem?_append]
    by_cases hi : i < w.heap.size
    · rw [if_pos hi]; exact hb.block i hi
    · rw [if_neg hi]
      have hs := hb.size
      by_cases hj : i < w'.heap.size
      · rw [Array.getElem?_extract_of_lt (by omega)]
        simp [Array.getElem?_eq_getElem hj, show w.heap.size + (i - w.heap.size) = i by omega]
      · rw [Array.getElem?_eq_none (by omega), Array.getElem?_eq_none (by simp; omega)]
  have e1 := hb.os
  have e2 := hb.tape
  have e3 := hb.output
  cases w' with
  | mk heap tape drawn os output =>
    cases w with
    | mk heap0 tape0 drawn0 os0 output0 =>
      simp only at hh e1 e2 e3 hd
      simp only [grow, World.drewN]
      subst e1 e2 e3
      congr 1
      omega

/-- a text that a machine has -/
abbrev TS : Type := { l : List UInt8 // l.length ≤ 1000000000 }
def tz : TS := ⟨[], by simp⟩
def encT (x : TS) : Value := .string (bs x.1)
def cfT (x y : TS) : Int := cf x.1 y.1
theorem ltT (x y : TS) : ltOf cfT x y = decide (cf x.1 y.1 < 0) := rfl
theorem swoT : SWO (ltOf cfT) where
  irrefl x := by rw [ltT, cf_self]; rfl
  trans x y z h1 h2 := by rw [ltT] at *; simp at *; exact cf_trans h1 h2
  ntrans x y z h1 h2 := by
    rw [ltT] at *
    simp at *
    have := cf_le_trans (a := z.1) (b := y.1) (c := x.1) (by rw [cf_neg]; omega) (by rw [cf_neg]; omega)
    rw [cf_neg] at this; omega
theorem totT (x y : TS) (h1 : ltOf cfT x y = false) (h2 : ltOf cfT y x = false) : x = y := by
  rw [ltT] at *
  simp at *
  have h3 : cf x.1 y.1 = 0 := by rw [cf_neg] at h2; omega
  exact Subtype.ext (cf_zero.1 h3)

theorem lift (l : List (List UInt8)) (h : ∀ x ∈ l, x.length ≤ 1000000000) : ∃ d : List TS, d.map Subtype.val = l := by
  induction l with
  | nil => exact ⟨[], rfl⟩
  | cons x l ih =>
    obtain ⟨d, hd⟩ := ih (fun y hy => h y (by simp [hy]))
    exact ⟨⟨x, h x (by simp)⟩ :: d, by simp [hd]⟩

theorem putRow_val [Inhabited TS] (w : World) (g : Nat) (d : List TS) : putRow encT w g 0 d.toArray = putRow encStr w g 0 (d.map Subtype.val).toArray := by
  unfold putRow
  congr 1
  funext c
  unfold putCells
  congr 1
  funext k x
  simp only [List.size_toArray, List.length_map, Nat.sub_zero, Nat.zero_add, Nat.zero_le, true_and]
  by_cases hk : k < d.length
  · rw [if_pos hk, if_pos hk]
    simp [hk]
    rfl
  · rw [if_neg hk, if_neg hk]

theorem sc_enc (l : List (List UInt8)) : l.map encStr = sc l := rfl

set_option maxRecDepth 100000 in
set_option maxHeartbeats 1000000 in
/-- the sort -/
theorem sort_any {w : World} {base : Nat} {v : Value} {l : List (List UInt8)} (h : Own base w v l) (hlen : l.length ≤ 100000000) (heach : ∀ x ∈ l, x.length ≤ 1000000000) (hbase : base ≤ w.heap.size) :
    Calls Tryz.prog 80 #[v, .func (.func 27) #[] #[]] w fun e w' => e = .returned (.tuple #[]) ∧ ∃ ts, ts.Perm l ∧ ts.Pairwise (fun a b => cf a b ≤ 0) ∧ Own base w' v ts ∧ Below base w w' := by
  have hinh : Inhabited TS := ⟨tz⟩
  by_cases h0 : l = []
  · subst h0
    obtain ⟨a, c, e, _⟩ := h.bs.form
    have hS := AnyF.slices_SortFunc_none (P := Tryz.prog) (ρ := Tryz.sortL_ren) { Tryz.sortL with } a c (.func (.func 27) #[] #[]) w
    change Calls Tryz.prog 80 _ _ _ at hS
    rw [e]
    refine hS.mono ?_
    rintro e1 w' ⟨rfl, rfl⟩
    exact ⟨rfl, [], .refl _, .nil, by rw [← e]; exact h, Below.refl _ _⟩
  · obtain ⟨d, hd⟩ := lift l heach
    have hdl : d.length = l.length := by rw [← hd]; simp
    rcases h.2 with ⟨_, h1⟩ | ⟨g, cap, cur, rfl, hbg, hg, hn, hcm, hcs, htake⟩
    · exact absurd (List.eq_nil_of_length_eq_zero h1) h0
    · have hH0 : Holds encStr w g 0 l.toArray := holds_of_block hg (by rw [sc_enc]; simpa using htake)
      have hH : Holds encT w g 0 d.toArray := by
        intro j hj
        have hj' : j < d.length := by simpa using hj
        have := hH0 j (by simp; omega)
        refine ⟨?_, this.2⟩
        rw [this.1]
        have hjl : j < l.length := by omega
        simp [hj', hjl]
        have : l[j] = (d[j]).1 := by simp [← hd]
        rw [this]; rfl
      have eg : ∀ args w, (callFunc 27 args).run Tryz.prog w = .ok (.enter 27 args) w := enters_of Tryz.func27 (by kernel_rfl) rfl
      have hcmp : CmpLays1 Tryz.prog 27 #[] encT cfT g 0 d.toArray.size w := fun m os dk _ x y =>
        (cmp_any x.1 y.1 _ (by have := x.2; omega) (by have := y.2; omega)).mono fun e w' ⟨he, hl⟩ => ⟨he, laid_grow hl⟩
      have hS := Any.slices_SortFunc_total Tryz.sortL encT (fun _ => rfl) cfT swoT 27 #[] g 0 cap d.toArray w eg hcmp hH (Array.getElem?_eq_some_iff.1 hg).1 (by have := hlen; simp; omega) totT
      change Calls Tryz.prog 80 _ _ _ at hS
      have e1 : d.toArray.size = l.length := by simp [hdl]
      rw [e1] at hS
      refine hS.mono ?_
      rintro e w' ⟨rfl, n, os, rfl⟩
      refine ⟨rfl, (d.mergeSort fun x y => !ltOf cfT y x).map Subtype.val, ?_, ?_, ?_, ?_⟩
      · rw [← hd]; exact (List.mergeSort_perm _ _).map _
      · rw [List.pairwise_map]
        have := List.pairwise_mergeSort (le := fun x y : TS => !ltOf cfT y x) (fun x y z h1 h2 => by
          simp only [ltT, Bool.not_eq_true', decide_eq_false_iff_not] at *
          have := cf_le_trans (a := x.1) (b := y.1) (c := z.1) (by rw [cf_neg] at h1; omega) (by rw [cf_neg] at h2; omega)
          rw [cf_neg]; omega) (fun x y => by
          simp only [ltT, Bool.or_eq_true, Bool.not_eq_true', decide_eq_false_iff_not]
          have := cf_neg x.1 y.1; omega) d
        obtain ⟨S, hS⟩ : ∃ S, (d.mergeSort fun x y => !ltOf cfT y x) = S := ⟨_, rfl⟩
        rw [hS] at this ⊢
        refine List.pairwise_iff_getElem.2 fun i j hi hj hij => ?_
        have hab : (!ltOf cfT S[j] S[i]) = true := List.pairwise_iff_getElem.1 this i j hi hj hij
        have hlt : ltOf cfT S[j] S[i] = false := by simpa using hab
        rw [ltT] at hlt
        have hge : ¬ cf S[j].1 S[i].1 < 0 := of_decide_eq_false hlt
        have hng := cf_neg S[i].1 S[j].1
        omega
      · unfold sortWorld
        have e2 : d.toArray.toList = d := by simp
        rw [e2, putRow_val]
        have := ownsRow_sorted (w := w) (base := base) (g := g) (cap := cap) (n := n) (e := 9) (os := os) (ss := l) (ts := (d.mergeSort fun x y => !ltOf cfT y x).map Subtype.val) (by simp [hdl]) hbg hg hn hcm hcs
        unfold Own
        rw [← sc_enc]
        have hl2 : ((d.mergeSort fun x y => !ltOf cfT y x).map Subtype.val).length = l.length := by simp [hdl]
        rw [hl2]
        exact this
      · unfold sortWorld
        have e2 : d.toArray.toList = d := by simp
        rw [e2, putRow_val]
        exact (Below.refl _ _).grown (grownBy_sorted _) hbase (fun k hk => by cases hk; exact hbg)
end Go.Proofs.YtlkkmcibjhoneaaGreatDoor

namespace Go.Proofs.YtlkkmcibjhoneaaGreatDoor
open Go.RowKit Go.Maps

/-- what has come of the keys -/
structure Cl (D : DataW Unit) (left : Lit → Bool) (ss : List (List UInt8)) : Prop where
  nd : ss.Nodup
  iff : ∀ a : List UInt8, (a ∈ ss ↔ Maps.has D (.string a) = true ∧ left (.string a) = false)
theorem Cl.start (D : DataW Unit) : Cl D (Maps.has D) [] := ⟨List.nodup_nil, fun a => by simp⟩
theorem Cl.step {D : DataW Unit} {left : Lit → Bool} {ss : List (List UInt8)} (h : Cl D left ss) {x : List UInt8} (hl : left (.string x) = true) (hh : Maps.has D (.string x) = true) :
    Cl D (fun z => left z && !z.sameKey (.string x)) (ss ++ [x]) := by
  have hn : x ∉ ss := fun e => by have := ((h.iff x).1 e).2; rw [hl] at this; cases this
  refine ⟨?_, fun a => ?_⟩
  · rw [List.nodup_append]
    refine ⟨h.nd, by simp, ?_⟩
    intro y hy z hz
    have : z = x := by simpa using hz
    subst this
    rintro rfl
    exact hn hy
  · rw [List.mem_append, h.iff a]
    by_cases e : a = x
    · subst e
      simp [hh, WideAt.sameKey_self (isKeyLit a)]
    · rw [Maps.sameKey_ne (fun h => e (Lit.string.inj h))]
      simp [e]
set_option maxRecDepth 100000 in
set_option maxHeartbeats 4000000 in
theorem keys_it {w : World} {b cnt : Nat} {F : List UInt8 → Option Int} (h : MP cI w b F cnt) (Bm : Nat) (hBm : Bm < w.heap.size) (hm : w.cell? ⟨Bm, 0, none⟩ = some (.map (some b))) (n : Nat) (hn : 1 ≤ n) :
    SeqStopsK Fence.wide n Tryz.prog 81 #[.pointer (some ⟨Bm, 0, none⟩)] (fun x : List UInt8 => #[.string (bs x)]) KeepsWalks (fun ss => ss.Nodup ∧ ∀ a, a ∈ ss ↔ Lk a ∧ (F a).isSome = true) (fun _ => True) cnt w := by
  intro l J Jx W hW hJ hJx hY h0
  have hmW := (hW.cell (p := ⟨Bm, 0, none⟩) hBm).trans hm
  obtain ⟨D, hown, hsz, hks, hF⟩ := h.later hW
  clear h hm hBm
  change CallsIn Fence.wide n Tryz.prog 81 #[.func (.yield l) #[] #[], .pointer (some ⟨Bm, 0, none⟩)] W _
  refine callsIn_of_wp Tryz.func81 rfl trivial ?_ rfl
  rw [Tryz.ntmps81, show (#[Value.func (.yield l) #[] #[], .pointer (some ⟨Bm, 0, none⟩)] ++ Array.replicate (14 - (#[Value.func (.yield l) #[] #[], .pointer (some ⟨Bm, 0, none⟩)] : Array Value).size) undef) = #[.func (.yield l) #[] #[], .pointer (some ⟨Bm, 0, none⟩), undef, undef, undef, undef, undef, undef, undef, undef, undef, undef, undef, undef] from rfl]
  have HF : Hid ((∀ k : List UInt8, Lk k → Maps.has D (.string k) = (F k).isSome ∧ ∀ x, F k = some x → ∀ zd, D.atKey (.string k) zd = cI.d x) ∧ Ks D ∧ Maps.size D = cnt) := ⟨hF, hks, hsz⟩
  clear hF hks hsz
  gi_wp2_with (first
    | (gi_at_range; refine wpListIn_range_own _ rfl _ 71 rfl 9 3 lawM cI.und _ b cnt _ rfl hown ?_; intro w0 hrg0 hg0 hs0)
    | gi_in)
  gi_loopw [3] (fun _ wr => ∃ (left : Lit → Bool) (c : Nat) (ss : List (List UInt8)), wr.ranges Tryz.prog 9 cI.R b W.heap.size cnt D left c ∧ ss.length + c ≤ cnt ∧ Cl D left ss ∧ J ss wr)
    (fun _ wr => wr.rangeLeft b W.heap.size)
  case atStart =>
    exact ⟨_, _, [], hrg0, by rw [HF.out.2.2]; simp, Cl.start D, hJ [] W w0 none h0 hg0 (fun r e => by cases e)⟩
  case round =>
    obtain ⟨left, c, ss, hrg, hcs, hC, hJs⟩ := hrel
    gi_wp2_with (first
      | (gi_at_next; refine wpListIn_next_ranges _ rfl _ rfl 9 lawM cI.R (fun x : List UInt8 => Value.string (bs x)) (fun x : Int => Value.int .i64 x) (fun key kl hk => by obtain ⟨x, hx, _⟩ := keyInv hk; exact ⟨x, hx⟩) (fun v y hy => cI.inv v y hy) b W.heap.size cnt _ _ _ rfl hrg ?_ ?_)
      | gi_in)
    · intro hc0 hl0
      gi_wp2
      go_end0
      refine ⟨⟨_, rfl⟩, .inl ⟨ss, ⟨hC.nd, fun a => ?_⟩, hJs⟩⟩
      constructor
      · intro ha
        have hh := ((hC.iff a).1 ha).1
        have hu := HF.out.2.1 a hh
        exact ⟨hu, by rw [← (HF.out.1 a hu).1]; exact hh⟩
      · rintro ⟨hu, hs⟩
        exact (hC.iff a).2 ⟨by rw [(HF.out.1 a hu).1]; exact hs, hl0 _⟩
    · intro x cc kl yd yp w2 cnt2 hkey hlk hv hat hrg2 hlt hg2 hs2 hen
      obtain ⟨x', ex, rfl⟩ := keyInv hkey
      obtain rfl : x = x' := by injection ex with ex; exact bs_inj.1 ex
      have HK : Hid (left (.string x) = true ∧ Maps.has D (.string x) = true) := ⟨hlk, Maps.has_true_of_atKey hat⟩
      clear hkey hlk hat hv ex
      have hJ2 : J ss w2 := hJ ss wr w2 (some W.heap.size) hJs hg2 (fun r e => by cases e; exact ⟨Nat.le_refl _, hrg.iter_walk⟩)
      obtain ⟨fn, tmps, assign, body, hy, hR⟩ := hY ss x _ hJ2 (by omega)
      have hy2 : (Instr.yield l #[.string (bs x)]).run Tryz.prog w2 = .ok (.round l fn tmps assign body) w2 := hy
      clear hy
      have HH : Hid (w2.ranges Tryz.prog 9 cI.R b W.heap.size cnt D (fun z => left z && !z.sameKey (.string x)) cnt2 ∧ cnt2 < c ∧ wr.rangeLeft b W.heap.size = c ∧ Cl D left ss ∧ ss.length + c ≤ cnt) := ⟨hrg2, hlt, hrg.left_eq, hC, hcs⟩
      clear hs2 hrg2 hg2 hrg hC hJ2 hJs hlt hcs
      gi_wp2
      refine hR.mono ?_
      rintro e W3 (⟨rfl, hJ4, hk4⟩ | ⟨rfl, hJ4⟩)
      · have HR3 : Hid (W3.ranges Tryz.prog 9 cI.R b W.heap.size cnt D (fun z => left z && !z.sameKey (.string x)) cnt2) := HH.out.1.of_walks hk4
        clear hk4
        gi_wp2
        go_roundw
        case rel => exact ⟨_, cnt2, ss ++ [x], HR3.out, by have := HH.out.2.1; have := HH.out.2.2.2.2; simp; omega, HH.out.2.2.2.1.step HK.out.1 HK.out.2, hJ4⟩
        case measure => rw [HR3.out.left_eq, HH.out.2.2.1]; exact HH.out.2.1
      · gi_wp2
        refine bodyPost_ret (results_none rfl _ _ _) rfl ?_
        exact ⟨⟨_, rfl⟩, .inr ⟨ss ++ [x], hJ4⟩⟩
set_option maxHeartbeats 1000000 in
theorem mkeys_any (b : Nat) (w : World) : Calls Tryz.prog 49 #[.map (some b)] w fun e w' => e = .returned (.func (.func 81) #[] #[.pointer (some ⟨w.heap.size, 0, none⟩)]) ∧ w' = w.alloc (.cells #[.map (some b)] 71) := by
  go_enter Tryz.func49, Tryz.ntmps49
  go_wp2_with fail
  go_ret
  exact ⟨rfl, rfl⟩
end Go.Proofs.YtlkkmcibjhoneaaGreatDoor
