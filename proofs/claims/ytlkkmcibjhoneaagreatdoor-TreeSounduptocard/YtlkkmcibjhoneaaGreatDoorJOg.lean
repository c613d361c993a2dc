/-
  The contract of the sort, laid at this program, in plain words.
  A row of files brought into its order: Files.
-/
import Derived.Shelf.SlSortCmp.NoneTotal
import Derived.Test.YtlkkmcibjhoneaaGreatDoorProg
import Derived.Test.YtlkkmcibjhoneaaGreatDoorJOd
namespace Go.Proofs
open Go.Shelf
def Tryz.sortF_ren : Go.Shelf.Ren := ⟨fun | 6 => 77 | 15 => 104 | 14 => 103 | 28 => 132 | 29 => 133 | 20 => 124 | 21 => 125 | 22 => 126 | 23 => 127 | 24 => 128 | 25 => 129 | 26 => 130 | 27 => 131 | 46 => 146 | 47 => 147 | 48 => 148 | 49 => 149 | 50 => 150 | 57 => 158 | n => n, fun | 22 => 22 | 24 => 31 | 25 => 84 | 3 => 3 | 39 => 125 | 0 => 0 | 53 => 130 | 55 => 144 | 4 => 4 | 46 => 137 | 45 => 136 | 50 => 116 | 5 => 5 | 9 => 9 | 66 => 150 | 70 => 154 | 76 => 159 | 77 => 92 | n => n, fun | n => n⟩
theorem Tryz.sortF : Go.Proofs.SlLaysF0.n6 Tryz.prog Tryz.sortF_ren := {
  mixed := by kernel_rfl
  f6 := ⟨Tryz.f77.name, by decide, Tryz.func77.trans (congrArg some (by kernel_rfl))⟩
  f14 := ⟨Tryz.f103.name, by decide, Tryz.func103.trans (congrArg some (by kernel_rfl))⟩
  f15 := Tryz.func104.trans (congrArg some (by kernel_rfl))
  f20 := ⟨Tryz.f124.name, by decide, Tryz.func124.trans (congrArg some (by kernel_rfl))⟩
  f21 := ⟨Tryz.f125.name, by decide, Tryz.func125.trans (congrArg some (by kernel_rfl))⟩
  f22 := ⟨Tryz.f126.name, by decide, Tryz.func126.trans (congrArg some (by kernel_rfl))⟩
  f23 := ⟨Tryz.f127.name, by decide, Tryz.func127.trans (congrArg some (by kernel_rfl))⟩
  f24 := ⟨Tryz.f128.name, by decide, Tryz.func128.trans (congrArg some (by kernel_rfl))⟩
  f25 := ⟨Tryz.f129.name, by decide, Tryz.func129.trans (congrArg some (by kernel_rfl))⟩
  f26 := ⟨Tryz.f130.name, by decide, Tryz.func130.trans (congrArg some (by kernel_rfl))⟩
  f27 := ⟨Tryz.f131.name, by decide, Tryz.func131.trans (congrArg some (by kernel_rfl))⟩
  f28 := Tryz.func132.trans (congrArg some (by kernel_rfl))
  f29 := Tryz.func133.trans (congrArg some (by kernel_rfl))
  f46 := ⟨Tryz.f146.name, by decide, Tryz.func146.trans (congrArg some (by kernel_rfl))⟩
  f47 := Tryz.func147.trans (congrArg some (by kernel_rfl))
  f48 := Tryz.func148.trans (congrArg some (by kernel_rfl))
  f49 := ⟨Tryz.f149.name, by decide, Tryz.func149.trans (congrArg some (by kernel_rfl))⟩
  f50 := ⟨Tryz.f150.name, by decide, Tryz.func150.trans (congrArg some (by kernel_rfl))⟩
  f57 := ⟨Tryz.f158.name, by decide, Tryz.func158.trans (congrArg some (by kernel_rfl))⟩
  t0 := Tryz.underlying0
  a0 := Tryz.isAgg0
  z0 := Tryz.sizeOf0
  v0 := Tryz.zeroValue0
  t3 := Tryz.underlying3
  a3 := Tryz.isAgg3
  z3 := Tryz.sizeOf3
  v3 := Tryz.zeroValue3
  t4 := Tryz.underlying4
  a4 := Tryz.isAgg4
  z4 := Tryz.sizeOf4
  v4 := Tryz.zeroValue4
  t5 := Tryz.underlying5
  a5 := Tryz.isAgg5
  z5 := Tryz.sizeOf5
  v5 := Tryz.zeroValue5
  t9 := Tryz.underlying9
  a9 := Tryz.isAgg9
  z9 := Tryz.sizeOf9
  v9 := Tryz.zeroValue9
  t22 := Tryz.underlying22
  a22 := Tryz.isAgg22
  z22 := Tryz.sizeOf22
  v22 := Tryz.zeroValue22
  t25 := Tryz.underlying84
  a25 := Tryz.isAgg84
  z25 := Tryz.sizeOf84
  v25 := Tryz.zeroValue84
  t39 := Tryz.underlying125
  a39 := Tryz.isAgg125
  z39 := Tryz.sizeOf125
  v39 := Tryz.zeroValue125
  t45 := Tryz.underlying136
  a45 := Tryz.isAgg136
  z45 := Tryz.sizeOf136
  v45 := Tryz.zeroValue136
  t46 := Tryz.underlying137
  a46 := Tryz.isAgg137
  z46 := Tryz.sizeOf137
  v46 := Tryz.zeroValue137
  t50 := Tryz.underlying116
  a50 := Tryz.isAgg116
  z50 := Tryz.sizeOf116
  v50 := Tryz.zeroValue116
  t53 := Tryz.underlying130
  a53 := Tryz.isAgg130
  z53 := Tryz.sizeOf130
  v53 := Tryz.zeroValue130
  t55 := Tryz.underlying144
  a55 := Tryz.isAgg144
  z55 := Tryz.sizeOf144
  v55 := Tryz.zeroValue144
  t66 := Tryz.underlying150
  a66 := Tryz.isAgg150
  z66 := Tryz.sizeOf150
  v66 := Tryz.zeroValue150
  t70 := Tryz.underlying154
  a70 := Tryz.isAgg154
  z70 := Tryz.sizeOf154
  v70 := Tryz.zeroValue154
  t76 := Tryz.underlying159
  a76 := Tryz.isAgg159
  z76 := Tryz.sizeOf159
  v76 := Tryz.zeroValue159
  t77 := Tryz.underlying92
  a77 := Tryz.isAgg92
  z77 := Tryz.sizeOf92
  v77 := Tryz.zeroValue92 }
end Go.Proofs

namespace Go.Proofs.YtlkkmcibjhoneaaGreatDoor
open Go.RowKit Go.Sort Go.Lib Go.Maps

/-- the files of a list -/
abbrev TF (l : List Fl) : Type := { f : Fl // f ∈ l }
def encF {l : List Fl} (x : TF l) : List Value := [.string (bs x.1.path), .string (bs x.1.text), .int .i64 x.1.blob, .int .i64 x.1.size]
def cfF {l : List Fl} (x y : TF l) : Int := cf x.1.path y.1.path
theorem ltF {l : List Fl} (x y : TF l) : ltOf cfF x y = decide (cf x.1.path y.1.path < 0) := rfl
theorem swoF (l : List Fl) : SWO (ltOf (cfF (l := l))) where
  irrefl x := by rw [ltF, cf_self]; rfl
  trans x y z h1 h2 := by rw [ltF] at *; simp at *; exact cf_trans h1 h2
  ntrans x y z h1 h2 := by
    rw [ltF] at *
    simp at *
    have := cf_le_trans (a := z.1.path) (b := y.1.path) (c := x.1.path) (by rw [cf_neg]; omega) (by rw [cf_neg]; omega)
    rw [cf_neg] at this; omega
theorem totF {l : List Fl} (hd : ∀ x ∈ l, ∀ y ∈ l, x.path = y.path → x = y) (x y : TF l) (h1 : ltOf cfF x y = false) (h2 : ltOf cfF y x = false) : x = y := by
  rw [ltF] at *
  simp at *
  have h3 : cf x.1.path y.1.path = 0 := by rw [cf_neg] at h2; omega
  exact Subtype.ext (hd _ x.2 _ y.2 (cf_zero.1 h3))
theorem liftF (l : List Fl) : ∀ k : List Fl, (∀ x ∈ k, x ∈ l) → ∃ d : List (TF l), d.map Subtype.val = k
  | [], _ => ⟨[], rfl⟩
  | x :: k, h => by
    obtain ⟨d, hd⟩ := liftF l k (fun y hy => h y (by simp [hy]))
    exact ⟨⟨x, h x (by simp)⟩ :: d, by simp [hd]⟩
theorem fc_at (l : List Fl) (t : Nat) (h : t < l.length * 4) : (fc l)[t]? = some (([.string (bs (l[t / 4]'(by omega)).path), .string (bs (l[t / 4]'(by omega)).text), .int .i64 (l[t / 4]'(by omega)).blob, .int .i64 (l[t / 4]'(by omega)).size] : List Value)[t % 4]!) := by
  have hk : t / 4 < l.length := by omega
  obtain ⟨h0, h1, h2, h3⟩ := fc_get l (t / 4) hk
  have hm : t % 4 < 4 := Nat.mod_lt _ (by omega)
  have hdm := Nat.div_add_mod t 4
  rcases (show t % 4 = 0 ∨ t % 4 = 1 ∨ t % 4 = 2 ∨ t % 4 = 3 by omega) with e | e | e | e
  · rw [show t / 4 * 4 = t by omega] at h0; rw [e, h0]; rfl
  · rw [show t / 4 * 4 + 1 = t by omega] at h1; rw [e, h1]; rfl
  · rw [show t / 4 * 4 + 2 = t by omega] at h2; rw [e, h2]; rfl
  · rw [show t / 4 * 4 + 3 = t by omega] at h3; rw [e, h3]; rfl
theorem flat_fc {l : List Fl} [Inhabited (TF l)] (d : List (TF l)) : (flatK encF 4 d.toArray).toList = fc (d.map Subtype.val) := by
  apply List.ext_getElem?
  intro t
  by_cases h : t < d.length * 4
  · rw [fc_at _ t (by simpa using h)]
    have hs : t < (flatK encF 4 d.toArray).size := by simpa using h
    rw [Array.getElem?_toList, Array.getElem?_eq_getElem hs]
    have e := get_flatK encF 4 d.toArray t (by simpa using h)
    have hk : t / 4 < d.length := by omega
    rw [getElem!_pos (flatK encF 4 d.toArray) t hs] at e
    rw [e]
    simp [hk, encF]
  · rw [List.getElem?_eq_none (by simp; omega), List.getElem?_eq_none (by rw [fc_length]; simp; omega)]

theorem pair_uniq : ∀ {m : List Fl}, m.Pairwise (fun a b => cf a.path b.path < 0) → ∀ {x y : Fl}, x ∈ m → y ∈ m → x.path = y.path → x = y
  | [], _, x, _, hx, _, _ => by cases hx
  | z :: m, h, x, y, hx, hy, e => by
    have h1 := List.pairwise_cons.1 h
    rcases List.mem_cons.1 hx with hx1 | hx1
    · rcases List.mem_cons.1 hy with hy1 | hy1
      · rw [hx1, hy1]
      · have := h1.1 y hy1
        rw [← hx1, e, cf_self] at this; omega
    · rcases List.mem_cons.1 hy with hy1 | hy1
      · have := h1.1 x hx1
        rw [← hy1, e, cf_self] at this; omega
      · exact pair_uniq h1.2 hx1 hy1 e
set_option maxRecDepth 100000 in
set_option maxHeartbeats 1000000 in
/-- the sort -/
theorem sortF_any {w : World} {base : Nat} {v : Value} {l m : List Fl} (h : OwnF base w v l) (hl : l.length ≤ 100000000) (hu : ∀ x ∈ l, x.path.length ≤ 1000000000) (hp : l.Perm m) (hm : m.Pairwise (fun a b => cf a.path b.path < 0)) (hbase : base ≤ w.heap.size) :
    Calls Tryz.prog 77 #[v, .func (.func 47) #[] #[]] w fun e w' => e = .returned (.tuple #[]) ∧ OwnF base w' v m ∧ Below base w w' := by
  by_cases h0 : l = []
  · subst h0
    obtain rfl : m = [] := (List.nil_perm.1 hp)
    obtain ⟨a, c, e⟩ := h.form
    have hS := AnyF.slices_SortFunc_none (P := Tryz.prog) (ρ := Tryz.sortF_ren) { Tryz.sortF with } a c (.func (.func 47) #[] #[]) w
    change Calls Tryz.prog 77 _ _ _ at hS
    have e' : v = .slice a 0 c := e
    rw [e']
    refine hS.mono ?_
    rintro e1 w' ⟨rfl, rfl⟩
    exact ⟨rfl, by rw [← e']; exact h, Below.refl _ _⟩
  · obtain ⟨d, hd⟩ := liftF l l (fun _ h => h)
    have hdl : d.length = l.length := by have := congrArg List.length hd; simpa using this
    have hinh : Inhabited (TF l) := by
      cases l with
      | nil => exact absurd rfl h0
      | cons x l => exact ⟨⟨x, by simp⟩⟩
    have hdis : ∀ x ∈ l, ∀ y ∈ l, x.path = y.path → x = y := fun x hx y hy e => by
      have := pair_uniq hm (hp.mem_iff.1 hx) (hp.mem_iff.1 hy) e
      exact this
    rcases h.2 with ⟨_, h1⟩ | ⟨g, cap, cur, rfl, hbg, hg, hn, hcm, hcs, htake⟩
    · exact absurd (List.eq_nil_of_length_eq_zero h1) h0
    · have htake' : cur.toList.take (l.length * 4) = fc l := htake
      have hget : ∀ j, j < l.length * 4 → cur[j]? = (fc l)[j]? := fun j hj => by rw [← htake', List.getElem?_take_of_lt hj]; simp
      have hH : HoldsK encF 4 w g 0 d.toArray := by
        intro j hj
        have hj' : j < l.length * 4 := by simpa [hdl] using hj
        refine ⟨?_, by simp [World.frozen?, hg]⟩
        have e : (flatK encF 4 d.toArray)[j]? = (fc l)[j]? := by rw [← Array.getElem?_toList, flat_fc, hd]
        rw [Array.getElem?_eq_getElem hj] at e
        rw [Nat.zero_add, cell_blk hg, hget j hj', ← e, getElem!_pos (flatK encF 4 d.toArray) j hj]; rfl
      have eg : ∀ args w, (callFunc 47 args).run Tryz.prog w = .ok (.enter 47 args) w := enters_of Tryz.func47 (by kernel_rfl) rfl
      have hcmp : CmpLays Tryz.prog 47 #[] encF 4 cfF g 0 d.toArray.size w := fun m os dk _ x y =>
        (byPath_any x.1 y.1 _ (hu _ x.2) (hu _ y.2)).mono fun e w' ⟨he, hl⟩ => ⟨he, laid_grow hl⟩
      have hS := AnyQ.slices_SortFunc_total Tryz.sortF 4 (fun w => Tryz.isAgg31 w) (fun w => Tryz.sizeOf31 w) encF (fun _ => rfl) (fun x v hv => by
        simp only [encF, List.mem_cons, List.not_mem_nil, or_false] at hv
        rcases hv with rfl | rfl | rfl | rfl <;> rfl) cfF (swoF l) 47 #[] g 0 cap d.toArray w eg hcmp hH (Array.getElem?_eq_some_iff.1 hg).1 (by simp; omega) (totF hdis)
      change Calls Tryz.prog 77 _ _ _ at hS
      have e1 : d.toArray.size = l.length := by simp [hdl]
      rw [e1] at hS
      refine hS.mono ?_
      rintro e w' ⟨rfl, n, os, rfl⟩
      have e2 : d.toArray.toList = d := by simp
      rw [e2]
      obtain ⟨D, hD⟩ : ∃ D, (d.mergeSort fun x y => !ltOf cfF y x) = D := ⟨_, rfl⟩
      have hperm : D.Perm d := by rw [← hD]; exact List.mergeSort_perm _ _
      have hDl : D.length = l.length := by rw [hperm.length_eq, hdl]
      have hpw : D.Pairwise (fun x y => (!ltOf cfF y x) = true) := by
        rw [← hD]
        exact List.pairwise_mergeSort (le := fun x y : TF l => !ltOf cfF y x) (fun x y z h1 h2 => by
          simp only [Bool.not_eq_true'] at *
          exact (swoF l).ntrans z y x h2 h1) (fun x y => by
          simp only [ltF, Bool.or_eq_true, Bool.not_eq_true', decide_eq_false_iff_not]
          have := cf_neg x.1.path y.1.path; omega) d
      have hval : D.map Subtype.val = m := by
        refine sort_eq Fl.path ((hperm.map Subtype.val).trans (by rw [hd]; exact hp)) ?_ hm
        rw [List.pairwise_map]
        refine hpw.imp (fun {x y} h1 => ?_)
        rw [ltF] at h1
        simp only [Bool.not_eq_true', decide_eq_false_iff_not] at h1
        have := cf_neg x.1.path y.1.path
        omega
      rw [hD]
      have hrl : m.length = l.length := hp.length_eq.symm
      obtain ⟨cur', hcur'⟩ : ∃ cur', (sortWorldK encF 4 w g 0 n D.toArray os).heap[g]? = some (.cells cur' 31 (0, 0)) ∧ cur'.size = cur.size ∧ cur'.toList.take (l.length * 4) = fc m := by
        unfold sortWorldK putRowK
        have hgl : g < w.heap.size := (Array.getElem?_eq_some_iff.1 hg).1
        rw [heap_grow_old _ _ (by simpa using hgl)]
        simp only [putRow, mapBlock, Sort.ahead, Array.getElem?_modify, hg, onCells, if_true, Option.map_some]
        refine ⟨_, rfl, by simp [putCells], ?_⟩
        apply List.ext_getElem?
        intro j
        have hfl := flat_fc D
        rw [hval] at hfl
        simp only [putCells]
        by_cases hj : j < l.length * 4
        · have hjs : j < (flatK encF 4 D.toArray).size := by simp [hDl]; exact hj
          have e5 : (flatK encF 4 D.toArray)[j]? = (fc m)[j]? := by rw [← Array.getElem?_toList, hfl]
          rw [Array.getElem?_eq_getElem hjs] at e5
          have hjc : j < cur.size := by rw [hcs]; exact Nat.lt_of_lt_of_le hj (Nat.mul_le_mul_right 4 hn)
          rw [List.getElem?_take_of_lt hj, ← e5]
          simp [hjc]
          rw [if_pos (by omega), getElem!_pos (flatK encF 4 D.toArray) j hjs]
        · rw [List.getElem?_eq_none (by simp; omega), List.getElem?_eq_none (by rw [fc_length, hrl]; omega)]
      have hgr : w.grownBy (sortWorldK encF 4 w g 0 n D.toArray os) (some g) := by
        unfold sortWorldK putRowK
        refine ⟨rfl, rfl, rfl, by simp, fun k hk hne => ?_⟩
        rw [heap_grow_old _ _ (by simpa using hk)]
        have : g ≠ k := fun e => hne (by rw [e])
        simp [putRow, mapBlock, Sort.ahead, Array.getElem?_modify, this]
      refine ⟨rfl, ⟨by rw [fc_length], .inr ⟨g, cap, cur', by rw [hrl], hbg, hcur'.1, by rw [hrl]; exact hn, hcm, by rw [hcur'.2.1]; exact hcs, by rw [hrl]; exact hcur'.2.2⟩⟩, ?_⟩
      exact (Below.refl _ _).grown hgr hbase (fun k hk => by cases hk; exact hbg)
end Go.Proofs.YtlkkmcibjhoneaaGreatDoor
