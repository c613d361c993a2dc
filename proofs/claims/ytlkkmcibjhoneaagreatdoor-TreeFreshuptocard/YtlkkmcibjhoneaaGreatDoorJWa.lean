/-
  Plain: what is right in a directory, counted.
  Append of one text to texts that begin anywhere in their block.
-/
import Derived.Test.YtlkkmcibjhoneaaGreatDoorTt1
import Derived.Test.YtlkkmcibjhoneaaGreatDoorMark
import Derived.Test.YtlkkmcibjhoneaaGreatDoorJWw
namespace Go.Proofs.YtlkkmcibjhoneaaGreatDoor

theorem pw_ne {α : Type} (key : α → List UInt8) : ∀ (l : List α), (l.map key).Nodup → ∀ {x : α}, x ∈ l → ∀ q : α → Bool, l.countP q = (l.filter (fun y => !(key y == key x))).countP q + (if q x then 1 else 0)
  | [], _, x, hx, _ => by cases hx
  | y :: l, h, x, hx, q => by
    rw [List.map_cons, List.nodup_cons] at h
    have hkeep : ∀ z, z ∈ l → key z ≠ key y := fun z hz e => h.1 (by rw [← e]; exact List.mem_map_of_mem hz)
    rcases List.mem_cons.1 hx with rfl | hx
    · have e1 : (x :: l).filter (fun y => !(key y == key x)) = l := by
        rw [List.filter_cons_of_neg (by simp)]
        exact List.filter_eq_self.2 (fun z hz => by simpa using hkeep z hz)
      rw [e1, List.countP_cons]
    · have hne : key y ≠ key x := fun e => hkeep x hx e.symm
      rw [List.filter_cons_of_pos (by simpa using hne), List.countP_cons, List.countP_cons, pw_ne key l h.2 hx q]
      omega
theorem pw_len {α : Type} (key : α → List UInt8) (l : List α) (h : (l.map key).Nodup) {x : α} (hx : x ∈ l) : (l.filter (fun y => !(key y == key x))).length = l.length - 1 := by
  have := pw_ne key l h hx (fun _ => true)
  simp only [List.countP_true, if_true] at this
  omega
/-- the file of a path -/
def fF (fs : List Fl) (k : List UInt8) : Option Fl := fs.find? (fun f => f.path == k)
/-- how much is right in a directory -/
def cin (fs : List Fl) (ds : List (List UInt8)) (k : List UInt8) : Nat := (fs.map Fl.path).countP (fun p => dir p == k) + ds.countP (fun d => dir d == k)
def dF (fs : List Fl) (ds : List (List UInt8)) (k : List UInt8) : Option Int := if hasD ds k then some (cin fs ds k : Int) else none
theorem fF_has (fs : List Fl) (k : List UInt8) : (fF fs k).isSome = hasF fs k := by
  unfold fF hasF
  rw [Bool.eq_iff_iff, List.find?_isSome, List.any_eq_true]
theorem dF_has (fs : List Fl) (ds : List (List UInt8)) (k : List UInt8) : (dF fs ds k).isSome = hasD ds k := by
  unfold dF; split <;> simp_all
theorem ins_perm {p : List UInt8} : ∀ {l : List (List UInt8)}, p ∉ l → (ins p l).Perm (p :: l)
  | [], _ => .refl _
  | y :: l, h => by
    rw [List.mem_cons, not_or] at h
    unfold ins
    split
    · exact .refl _
    · split
      · rename_i e
        exact absurd (cf_zero.1 e) h.1
      · exact ((ins_perm h.2).cons y).trans (.swap _ _ _)
theorem insF_paths {f : Fl} : ∀ {l : List Fl}, l.Pairwise (fun a b => cf a.path b.path < 0) → (if hasF l f.path then (insF f l).map Fl.path = l.map Fl.path else ((insF f l).map Fl.path).Perm (f.path :: l.map Fl.path))
  | [], _ => by simp [hasF, insF]
  | g :: r, h => by
    have hr := List.pairwise_cons.1 h
    unfold insF
    by_cases h1 : cf g.path f.path < 0
    · rw [if_pos h1]
      have hne : ¬ g.path = f.path := fun e => by rw [e, cf_self] at h1; omega
      have ih := insF_paths (f := f) hr.2
      have e : hasF (g :: r) f.path = hasF r f.path := by simp [hasF, hne]
      rw [e]
      split
      · rename_i h2; rw [if_pos h2] at ih; simp [ih]
      · rename_i h2; rw [if_neg h2] at ih
        simpa using (ih.cons g.path).trans (.swap _ _ _)
    · rw [if_neg h1]
      by_cases h2 : g.path = f.path
      · rw [if_pos h2, if_pos (by simp [hasF, h2])]
        simp [h2]
      · rw [if_neg h2]
        have hno : hasF (g :: r) f.path = false := by
          rw [Bool.eq_false_iff]
          intro hh
          obtain ⟨x, hx, e⟩ := hasF_iff.1 hh
          rcases List.mem_cons.1 hx with rfl | hx
          · exact h2 e
          · have := hr.1 x hx
            rw [e] at this
            exact h1 this
        rw [if_neg (by simp [hno])]
        exact .refl _
theorem fF_ins {f : Fl} : ∀ {l : List Fl}, l.Pairwise (fun a b => cf a.path b.path < 0) → ∀ k, fF (insF f l) k = if k = f.path then some f else fF l k
  | [], _, k => by
    by_cases e : k = f.path
    · simp [fF, insF, e]
    · have : ¬ f.path = k := fun h => e h.symm
      simp [fF, insF, e, this]
  | g :: r, h, k => by
    have hr := List.pairwise_cons.1 h
    unfold insF
    by_cases h1 : cf g.path f.path < 0
    · rw [if_pos h1]
      have hne : ¬ g.path = f.path := fun e => by rw [e, cf_self] at h1; omega
      have ih := fF_ins (f := f) hr.2 k
      unfold fF at ih ⊢
      by_cases hk : g.path = k
      · have : ¬ k = f.path := fun e => hne (hk.trans e)
        simp [hk, this]
      · simp [hk, ih]
    · rw [if_neg h1]
      by_cases h2 : g.path = f.path
      · rw [if_pos h2]
        by_cases e : k = f.path
        · simp [fF, e]
        · have e1 : ¬ f.path = k := fun h => e h.symm
          have e2 : ¬ g.path = k := fun h => e1 (h2 ▸ h)
          simp [fF, e, e1, e2]
      · rw [if_neg h2]
        by_cases e : k = f.path
        · simp [fF, e]
        · have e1 : ¬ f.path = k := fun h => e h.symm
          simp [fF, e, e1]
theorem fF_del (l : List Fl) (p k : List UInt8) : fF (l.filter (fun f => !(f.path == p))) k = if k = p then none else fF l k := by
  unfold fF
  rw [List.find?_filter]
  split
  · rename_i e
    subst e
    rw [List.find?_eq_none]
    intro x _
    simp
  · rename_i e
    congr 1
    funext x
    by_cases h : x.path = k
    · simp [h, e]
    · simp [h]
theorem paths_nd {l : List Fl} (h : l.Pairwise (fun a b => cf a.path b.path < 0)) : (l.map Fl.path).Nodup := by
  rw [List.nodup_iff_pairwise_ne, List.pairwise_map]
  exact h.imp (fun {a b} hab e => by rw [e, cf_self] at hab; omega)
theorem up_nd {l : List (List UInt8)} (h : Up l) : l.Nodup := by
  rw [List.nodup_iff_pairwise_ne]
  exact List.Pairwise.imp (fun {a b} hab e => by rw [e, cf_self] at hab; omega) h
/-! ### what a step makes of the counts -/
theorem cin_none {T : TT} (h : TOk T) {p : List UInt8} (hp : hasD T.ds p = false) : cin T.fs T.ds p = 0 := by
  unfold cin
  rw [Nat.add_eq_zero_iff, List.countP_eq_zero, List.countP_eq_zero]
  refine ⟨fun x hx => ?_, fun d hd => ?_⟩
  · obtain ⟨f, hf, rfl⟩ := List.mem_map.1 hx
    have := h.fd f hf
    intro e
    have e' : dir f.path = p := by simpa using e
    rw [e', hp] at this; cases this
  · have := h.dd d hd
    intro e
    have e' : dir d = p := by simpa using e
    rw [e', hp] at this; cases this
theorem cin_dir {fs : List Fl} {ds : List (List UInt8)} {p : List UInt8} (hn : p ∉ ds) (k : List UInt8) : cin fs (ins p ds) k = cin fs ds k + (if dir p = k then 1 else 0) := by
  unfold cin
  rw [(ins_perm hn).countP_eq, List.countP_cons]
  simp only [beq_iff_eq]
  omega
theorem cin_file {fs : List Fl} {ds : List (List UInt8)} {f : Fl} (hu : fs.Pairwise (fun a b => cf a.path b.path < 0)) (k : List UInt8) : cin (insF f fs) ds k = cin fs ds k + (if hasF fs f.path = false ∧ dir f.path = k then 1 else 0) := by
  have := insF_paths (f := f) hu
  unfold cin
  by_cases h : hasF fs f.path = true
  · rw [if_pos h] at this
    rw [this, h]
    simp
  · rw [if_neg h] at this
    have h' : hasF fs f.path = false := by simpa using h
    rw [this.countP_eq, List.countP_cons, h']
    simp only [beq_iff_eq, true_and]
    omega
theorem len_file {fs : List Fl} {f : Fl} (hu : fs.Pairwise (fun a b => cf a.path b.path < 0)) : (insF f fs).length = if hasF fs f.path then fs.length else fs.length + 1 := by
  have := insF_paths (f := f) hu
  split
  · rename_i h; rw [if_pos h] at this; simpa using congrArg List.length this
  · rename_i h; rw [if_neg h] at this; simpa using this.length_eq
theorem cin_del {fs : List Fl} {ds : List (List UInt8)} {p : List UInt8} (hu : fs.Pairwise (fun a b => cf a.path b.path < 0)) (hp : hasF fs p = true) (k : List UInt8) :
    cin fs ds k = cin (fs.filter (fun f => !(f.path == p))) ds k + (if dir p = k then 1 else 0) := by
  obtain ⟨x, hx, rfl⟩ := hasF_iff.1 hp
  unfold cin
  rw [List.countP_map, List.countP_map, pw_ne Fl.path fs (paths_nd hu) hx]
  simp only [Function.comp, beq_iff_eq]
  omega
theorem len_del {fs : List Fl} {p : List UInt8} (hu : fs.Pairwise (fun a b => cf a.path b.path < 0)) (hp : hasF fs p = true) : (fs.filter (fun f => !(f.path == p))).length = fs.length - 1 := by
  obtain ⟨x, hx, rfl⟩ := hasF_iff.1 hp
  exact pw_len Fl.path fs (paths_nd hu) hx
theorem cin_rm {fs : List Fl} {ds : List (List UInt8)} {p : List UInt8} (hu : Up ds) (hp : p ∈ ds) (k : List UInt8) :
    cin fs ds k = cin fs (ds.filter (fun d => !(d == p))) k + (if dir p = k then 1 else 0) := by
  unfold cin
  rw [pw_ne id ds (by simpa using up_nd hu) hp]
  simp only [id, beq_iff_eq]
  omega
theorem len_rm {ds : List (List UInt8)} {p : List UInt8} (hu : Up ds) (hp : p ∈ ds) : (ds.filter (fun d => !(d == p))).length + 1 = ds.length := by
  have := pw_len id ds (by simpa using up_nd hu) hp
  simp only [id] at this
  have := List.length_pos_of_mem hp
  omega
theorem cin_emp {T : TT} {p : List UInt8} : emp T p = true ↔ cin T.fs T.ds p = 0 := by
  unfold emp cin
  rw [Nat.add_eq_zero_iff, List.countP_eq_zero, List.countP_eq_zero, Bool.and_eq_true, List.all_eq_true, List.all_eq_true]
  simp
end Go.Proofs.YtlkkmcibjhoneaaGreatDoor

namespace Go.Proofs.YtlkkmcibjhoneaaGreatDoor
open Go.RowKit

theorem app_putW {w : World} {base : Nat} {v : Value} {l : List (List UInt8)} (p : List UInt8) (hown : Oww base w v l) (hb : l.length + 1 ≤ 8796093022208) (hbase : base ≤ w.heap.size)
    {ops : Array Oper} {rest : List Oper} {o : Oper} {a : Act} {Q : Exit → Act → World → Prop} (hgd : o.guard = none) (s y : Operand)
    (ho : o.op = .call { callee := .builtin .append, args := #[s, y], argTypes := #[42, 42] }) (hv : a.eval s = v) (hx : a.eval y = .slice (some ⟨w.heap.size, 0, none⟩) 1 1)
    (h : ∀ v' w', Oww base w' v' (l ++ [p]) → ((∃ g off n cap, v = .slice (some ⟨g, off, none⟩) n cap ∧ v' = .slice (some ⟨g, off, none⟩) (n + 1) cap ∧ w.grownBy w' (some g)) ∨ (∃ b, v'.ownBlock = some b ∧ w.heap.size ≤ b ∧ Below w.heap.size w w')) → wpList Tryz.prog ops Q rest (a.put o.dst v') w') :
    wpList Tryz.prog ops Q (o :: rest) a (w.alloc (.cells #[.string (bs p)] 9)) := by
  rcases hown with ⟨rfl, rfl⟩ | ⟨g, off, cap, cur, rfl, h2, h3, h4, h5, h6, h7⟩
  · exact app_put p (Own.nil base w) hb hbase hgd s y ho hv hx (fun v' w' k1 k2 => h v' w' k1.ww (k2.imp (fun ⟨g, n, cap, a, b, c⟩ => ⟨g, 0, n, cap, a, b, c⟩) id))
  obtain ⟨w1, hw1⟩ : ∃ w1, w.alloc (.cells #[.string (bs p)] 9) = w1 := ⟨_, rfl⟩
  have hsrc : Src Tryz.prog 1 42 (.slice (some ⟨w.heap.size, 0, none⟩) 1 1) [p].length (sc [p]) w1 := by rw [← hw1]; exact src_one w p
  have hlt : g < w.heap.size := (Array.getElem?_eq_some_iff.1 h3).1
  have hg : w1.heap[g]? = some (.cells cur 9 (0, 0)) := by rw [← hw1]; exact (heap_alloc_old _ _ hlt).trans h3
  have hb1 : Below w.heap.size w w1 := by rw [← hw1]; exact balloc _ _
  have hz1 : w1.heap.size = w.heap.size + 1 := by rw [← hw1]; simp
  have hg1 : ∀ row, w.grownBy w1 row := fun row => by rw [← hw1]; exact World.grownBy_alloc w _ _
  rw [hw1]
  obtain ⟨i, hi, hz0, hzs, hz2⟩ := info_parts info9
  have key : ∃ v' w', (Builtin.append_ #[42, 42] o.type #[.slice (some ⟨g, off, none⟩) l.length cap, .slice (some ⟨w.heap.size, 0, none⟩) 1 1]).run Tryz.prog w1 = .ok v' w' ∧ Oww base w' v' (l ++ [p]) ∧ ((∃ g' off' n cap', Value.slice (some ⟨g, off, none⟩) l.length cap = .slice (some ⟨g', off', none⟩) n cap' ∧ v' = .slice (some ⟨g', off', none⟩) (n + 1) cap' ∧ w.grownBy w' (some g')) ∨ (∃ b, v'.ownBlock = some b ∧ w.heap.size ≤ b ∧ Below w.heap.size w w')) := by
    by_cases hroom : l.length + 1 ≤ cap
    · have hr := run_append_room_src (P := Tryz.prog) w1 42 42 o.type 9 i und52 hi g off l.length cap (.slice (some ⟨w.heap.size, 0, none⟩) 1 1) 1 (sc [p]) (by rw [hzs]; exact hsrc) hroom (fun j hj => by
        rw [cell_blk hg, hzs]
        have : j < 1 := hj
        rw [Array.getElem?_eq_getElem (by omega)]; rfl) (fun j hj => by simp [World.frozen?, hg])
      rw [hzs, Nat.mul_one] at hr
      have e : w1.setCells g (off + l.length) (sc [p]) = w1.setCell ⟨g, off + l.length, none⟩ (.string (bs p)) := rfl
      rw [e] at hr
      have hs := heap_setCellW w1 g (off + l.length) (.string (bs p)) hg
      refine ⟨_, _, hr, .inr ⟨g, off, cap, _, by simp, h2, hs, by simpa using hroom, h5, by simpa using h6, fun j u hu => ?_⟩, .inl ⟨g, off, l.length, cap, rfl, rfl, ?_⟩⟩
      · rw [sc_append] at hu
        by_cases ej : j = l.length
        · subst ej
          rw [List.getElem?_append_right (by rw [sc_length]; exact Nat.le_refl _), sc_length, Nat.sub_self] at hu
          rw [Array.getElem?_setIfInBounds_self_of_lt (by omega)]
          exact hu
        · have hj := (List.getElem?_eq_some_iff.1 hu).1
          rw [List.length_append, sc_length, sc_length] at hj
          have hj2 : j < l.length + 1 := hj
          rw [List.getElem?_append_left (by rw [sc_length]; omega)] at hu
          rw [Array.getElem?_setIfInBounds_ne (by omega)]
          exact h7 j u hu
      · have ho := Only.set w1 g (off + l.length) (.string (bs p))
        exact (hg1 _).trans ⟨ho.os, ho.tape, ho.output, ho.size, fun k hk hn => ho.block k hk (by intro e; apply hn; rw [show k = g by simpa using e])⟩
    · have holds : ∀ j u, (sc l)[j]? = some u → w1.drew.cell? ((⟨g, off, none⟩ : Addr).add j) = some u := fun j u hu => by
        rw [add_lit, cell_blk (w := w1.drew) hg]; exact h7 j u hu
      have hr := run_append_grow_src (P := Tryz.prog) w1 42 42 o.type 9 i (.string ByteArray.empty) und52 hi hz0 (some ⟨g, off, none⟩) l.length cap (sc l) (run_firstCells_some w1.drew i.size l.length _ l.length cap (sc l) (by rw [sc_length, hzs]; simp) holds) (.slice (some ⟨w.heap.size, 0, none⟩) 1 1) 1 (sc [p]) (by rw [hzs]; exact hsrc) (by omega) (by omega) (growslice_fits (by omega) (by rw [hz2]; omega))
      have hge := grownCap_ge w1 (l.length + 1) cap 9
      have hcm : grownCap w1 (l.length + 1) cap 9 ≤ maxLen := grownCap_le_maxLen w1 (l.length + 1) cap 9 (by unfold maxLen; omega)
      have hlen : (sc l ++ sc [p]).length = l.length + 1 := by rw [List.length_append, sc_length, sc_length]; rfl
      refine ⟨_, _, hr, .inr ⟨w1.heap.size, 0, _, _, by simp, by omega, heap_alloc_new w1.drew _, by simpa using hge, hcm, ?_, fun j u hu => ?_⟩, .inr ⟨w1.heap.size, rfl, by omega, bstep hb1 (below_drew_alloc w1 _)⟩⟩
      · rw [Array.size_append, List.size_toArray, hlen, size_zeroCells]
        have : (Value.string ByteArray.empty).cells.size = 1 := rfl
        rw [this]
        omega
      · rw [sc_append] at hu
        have hj := (List.getElem?_eq_some_iff.1 hu).1
        rw [Nat.zero_add, Array.getElem?_append_left (by simpa using hj)]
        simpa using hu
  obtain ⟨v', w', hr, k1, k2⟩ := key
  refine wpList_plain hgd fun K hK => ?_
  unfold Oper.wp execOp
  simp only [ho, resolve, invoke, builtin, Sem.run_bind, Sem.run_pure, Result.andThen_ok, List.map_toArray, List.map_cons, List.map_nil, hv, hx, hr]
  exact hK _ _ (h v' w' k1 k2)
end Go.Proofs.YtlkkmcibjhoneaaGreatDoor
