/-
  Rows and maps that are made.
  The edges of a graph.
-/
import Derived.Test.YtclbnjfmipifnaaBk
import Derived.Deep.RegionLaw
namespace Go.Proofs.Ytclbnjfmipifnaa
open Go.RowKit Go.Maps

/-- the cells of a new row -/
def mkC (c : Nat) : Array Value := madeCells (Value.agg #[.string ⟨#[]⟩, .string ⟨#[]⟩]).cells (c * 2)
theorem make_L (c : Nat) (hc : c ≤ 1000000) (w : World) : (Instr.makeSlice 32 (.int .i64 0) (.int .i64 (c : Int))).run Try.prog w = .ok (.slice (some ⟨w.heap.size, 0, none⟩) 0 c) (w.alloc (.cells (mkC c) 35)) := by
  obtain ⟨i0, hi, hz0, hz1, hz2⟩ := info_parts info_L
  have h := run_make (P := Try.prog) w 32 35 i0 _ und_L hi hz0 .i64 .i64 0 (c : Int) (by omega) (by omega) (by rw [hz2]; omega) (by omega)
  rw [hz1] at h
  simpa [mkC] using h
theorem own_L (c : Nat) (hc : c ≤ 1000000) (w : World) : OwnL w.heap.size (w.alloc (.cells (mkC c) 35)) (.slice (some ⟨w.heap.size, 0, none⟩) 0 c) [] := by
  obtain ⟨i0, hi, hz0, hz1, hz2⟩ := info_parts info_L
  obtain ⟨w', h1, h2, h3⟩ := run_make_own (P := Try.prog) w w.heap.size 32 35 i0 _ 2 und_L hi hz0 hz1 .i64 .i64 c (by rw [hz2]; omega) (by unfold maxLen; omega) (Nat.le_refl _)
  rw [make_L c hc w] at h1
  injection h1 with _ h1
  rw [← h1] at h2
  exact h2
theorem make_M {t k e : TypeId} (ht : Try.prog.underlying t = some (.map k e)) (c : Nat) (w : World) : (Instr.makeMap t (some (.int .i64 (c : Int)))).run Try.prog w = .ok (.map (some w.heap.size)) (w.alloc (.map #[] 0)) := by
  simp [Instr.makeMap, run_underlying ht, asInt, asIntOf]
end Go.Proofs.Ytclbnjfmipifnaa

namespace Go.Proofs.Ytclbnjfmipifnaa
open Go.RowKit Go.Maps

/-- the edges -/
def Eg (ns : List Lb) (out : Lb → List Lb) : List (Lb × Lb) := ns.flatMap (fun a => (out a).map (fun b => (a, b)))
theorem mem_Eg {w : World} {F : Nat → Prop} {g : Nat} {ns : List Lb} {out : Lb → List Lb} (h : GR w F g ns out) (a b : Lb) : (a, b) ∈ Eg ns out ↔ b ∈ out a := by
  unfold Eg
  rw [List.mem_flatMap]
  constructor
  · rintro ⟨x, _, hx⟩
    obtain ⟨y, hy, e⟩ := List.mem_map.1 hx
    injection e with e1 e2
    subst e1 e2
    exact hy
  · intro hb
    exact ⟨a, (h.sub a b hb).1, List.mem_map.2 ⟨b, hb, rfl⟩⟩
theorem addN_pre (M : List Lb) (a : Lb) (k : Nat) (hk : k ≤ M.length) : (addN M a).take k = M.take k := by
  unfold addN
  split
  · rfl
  · rw [List.take_append_of_le_length hk]
theorem addN_ge (M : List Lb) (a : Lb) : M.length ≤ (addN M a).length := by unfold addN; split <;> simp

/-- nodes and edges, plain -/
structure GF (ns : List Lb) (out : Lb → List Lb) : Prop where
  nd : ns.Nodup
  up : ∀ a, UpL (out a)
  sub : ∀ a b, b ∈ out a → a ∈ ns ∧ b ∈ ns
theorem GR.gf {w : World} {F : Nat → Prop} {g : Nat} {ns : List Lb} {out : Lb → List Lb} (h : GR w F g ns out) : GF ns out := ⟨h.nd, h.up, h.sub⟩
theorem GF.eg {ns : List Lb} {out : Lb → List Lb} (h : GF ns out) (a b : Lb) : (a, b) ∈ Eg ns out ↔ b ∈ out a := by
  unfold Eg
  rw [List.mem_flatMap]
  constructor
  · rintro ⟨x, _, hx⟩
    obtain ⟨y, hy, e⟩ := List.mem_map.1 hx
    injection e with e1 e2
    subst e1 e2
    exact hy
  · intro hb
    exact ⟨a, (h.sub a b hb).1, List.mem_map.2 ⟨b, hb, rfl⟩⟩
def cI : Cd Int where
  R := fun v => match v with | .int .i64 x => some (.lit (.int .i64 x), []) | _ => none
  enc := fun x => .int .i64 x
  d := fun x => .lit (.int .i64 x)
  z := 0
  t := 80
  e := 3
  hR _ := rfl
  inv v y h := by
    split at h
    · exact ⟨_, rfl⟩
    · cases h
  inj x y h := by
    injection h with h
    injection h
  und := by kernel_rfl
  zero w := by kernel_rfl

theorem step_app_L {T : TypeId} (hT : Try.prog.underlying T = some (.slice 35)) {ops : Array Oper} {o : Oper} {a : Act} {w : World} {K : Act → World → Prop} {Q : Exit → Act → World → Prop} {E : Prop} (hgd : o.guard = none) (s y : Operand)
    (ho : o.op = .call { callee := .builtin .append, args := #[s, y], argTypes := #[T, T] }) (base : Nat) (l k : List Lb) (v x : Value) (hv : a.eval s = v) (hx : a.eval y = x)
    (hown : OwnL base w v l) (hs : Src Try.prog 2 T x k.length (lc k) w) (hb : l.length + k.length ≤ 100000000) (hbase : base ≤ w.heap.size)
    (h : ∀ v' w', OwnL base w' v' (l ++ k) → w.grownBy w' v.ownBlock → (v'.ownBlock = v.ownBlock ∨ v'.ownBlock = some w.heap.size) → K (a.put o.dst v') w') :
    if Region.wanted o (yielded ops a.tmps) = true then Oper.wp Try.prog o a w K Q else E := by
  have hw : Region.wanted o (yielded ops a.tmps) = true := by simp [Region.wanted, hgd]
  rw [if_pos hw]
  obtain ⟨i0, hi, hz0, hz1, hz2⟩ := info_parts info_L
  obtain ⟨v', w', hr, h2, h3, h4⟩ := run_append_src (P := Try.prog) w base T T o.type 35 i0 _ 2 32 hT hi hz0 hz1 hz2 rfl v l.length (lc l) hown x k.length (lc k) hs (by simp only [maxLen]; omega) (by omega) hbase
  unfold Oper.wp execOp
  simp only [ho, resolve, invoke, builtin, Sem.run_bind, Sem.run_pure, Result.andThen_ok, List.map_toArray, List.map_cons, List.map_nil, hv, hx, hr]
  exact h v' w' (by unfold OwnL; rw [lc_append, List.length_append]; exact h2) h3 h4
theorem src_Ld {T : TypeId} (hT : Try.prog.underlying T = some (.slice 35)) (w : World) (t : Lb) : Src Try.prog 2 T (.slice (some ⟨w.heap.size, 0, none⟩) 1 1) [t].length (lc [t]) (w.alloc (.cells #[.string (bs t.pkg), .string (bs t.name)] 35)).drew := by
  refine Src.ofSlice _ hT ⟨w.heap.size, 0, none⟩ 1 1 (lc [t]) (by simp [lc_length]) ?_ (lc_one _)
  exact fun j u hu => World.news_of_block (heap_alloc_new w _) j u hu
theorem own_d {base : Nat} {w : World} {v : Value} {l : List Lb} (h : OwnL base w v l) (o : Obj) : OwnL base (w.alloc o).drew v l := h.later (balloc w o).drew
theorem rs_nd (ns : List Lb) : (rs ns).Nodup := Gs.Ris.nodup stoL (Gs.ris_up stoL ns)
theorem nd_take {l : List Lb} (h : l.Nodup) {k : Nat} (hk : k < l.length) : l[k] ∉ l.take k := by
  have h1 := List.take_succ_eq_append_getElem hk
  have h2 : (l.take (k + 1)).Nodup := h.sublist (List.take_sublist _ _)
  rw [h1, List.nodup_append] at h2
  exact fun e => h2.2.2 _ e _ (by simp) rfl
end Go.Proofs.Ytclbnjfmipifnaa
