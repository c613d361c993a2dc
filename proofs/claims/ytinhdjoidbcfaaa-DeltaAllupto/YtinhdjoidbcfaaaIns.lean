/-
  A file laid into a row at its place: slices.Insert.
-/
import Derived.Test.YtinhdjoidbcfaaaSea
import Derived.Deep.RegionLaw
namespace Go.Proofs.Ytinhdjoidbcfaaa
open Go.RowKit

theorem el22 : Try.prog.elem 22 = 40 := by kernel_rfl
theorem el22' : Try.prog.underlying 22 = some (.slice (Try.prog.elem 22)) := by kernel_rfl
theorem slice_lo (g o n cap : Nat) (a : Int) (k : Nat) (hk : a = k) (ha : k ≤ n) (hc : k < cap) (W : World) : (Instr.slice 22 (.slice (some ⟨g, o, none⟩) n cap) (some (.int .i64 a)) none none).run Try.prog W = .ok (.slice (some ⟨g, o + k * 4, none⟩) (n - k) (cap - k)) W := by
  subst hk
  rw [run_slice_l (P := Try.prog) (w := W) 22 _ n cap el22' .i64 (k : Int) (by omega) (by omega), el22, Try.sizeOf40]
  simp only [Result.andThen_ok, sliced, Int.toNat_natCast, Option.map_some, Addr.add_lit]
  rw [if_neg (by omega)]
theorem slice_hi (g o n cap : Nat) (b : Int) (k : Nat) (hk : b = k) (hb : k ≤ cap) (hc : cap ≠ 0) (W : World) : (Instr.slice 22 (.slice (some ⟨g, o, none⟩) n cap) none (some (.int .i64 b)) none).run Try.prog W = .ok (.slice (some ⟨g, o, none⟩) k cap) W := by
  subst hk
  rw [run_slice_h (P := Try.prog) (w := W) 22 _ n cap el22' .i64 (k : Int) (by omega) (by omega), el22, Try.sizeOf40]
  simp only [Result.andThen_ok, sliced, Int.toNat_natCast, Option.map_some, Addr.add_lit]
  rw [if_neg hc]
  simp
theorem slice_from (v : Value) (ad : Option Addr) (n cap : Nat) (hv : v = .slice ad n cap) (a : Nat) (ha : a ≤ n) : ∃ X, ∀ W, (Instr.slice 22 v (some (.int .i64 (a : Int))) none none).run Try.prog W = .ok X W := by
  subst hv
  refine ⟨sliced ad a n cap 4, fun W => ?_⟩
  rw [run_slice_l (P := Try.prog) (w := W) 22 _ n cap el22' .i64 (a : Int) (by omega) (by omega), el22, Try.sizeOf40]
  rfl
theorem only_grown {w w' : World} {v : Value} (h : w.grownBy w' v.ownBlock) : Only (bl v) w w' :=
  ⟨h.os, h.tape, h.output, h.size, fun k hk hn => h.block k hk (by
    intro e; apply hn; unfold bl; rw [← e]; simp)⟩
theorem wpList_copy_run {P : Program} {w : World} {ops : Array Oper} {rest : List Oper} {o : Oper} {a : Act} {Q : Exit → Act → World → Prop} (hgd : o.guard = none) (d s : Operand) (t t' : TypeId)
    (ho : o.op = .call { callee := .builtin .copy, args := #[d, s], argTypes := #[t, t'] }) (v u : Value) (hd : a.eval d = v) (hs : a.eval s = u) {v' : Value} {w' : World}
    (hr : (Builtin.copy_ #[t, t'] o.type #[v, u]).run P w = .ok v' w') (h : wpList P ops Q rest (a.put o.dst v') w') : wpList P ops Q (o :: rest) a w := by
  refine wpList_plain hgd fun K hK => ?_
  unfold Oper.wp execOp
  simp only [ho, resolve, invoke, builtin, Sem.run_bind, Sem.run_pure, Result.andThen_ok, List.map_toArray, List.map_cons, List.map_nil, hd, hs, hr]
  exact hK _ _ h
theorem step_copy_run {P : Program} {ops : Array Oper} {o : Oper} {a : Act} {w : World} {K : Act → World → Prop} {Q : Exit → Act → World → Prop} {E : Prop} (hg : o.guard = none) (d x : Operand) (dT sT : TypeId)
    (hop : o.op = .call { callee := .builtin .copy, args := #[d, x], argTypes := #[dT, sT] }) (v u : Value) (hd : a.eval d = v) (hx : a.eval x = u) {v' : Value} {w' : World} (hr : (Builtin.copy_ #[dT, sT] o.type #[v, u]).run P w = .ok v' w') (hK : K (a.put o.dst v') w') :
    if Region.wanted o (yielded ops a.tmps) = true then Oper.wp P o a w K Q else E := by
  have hw : Region.wanted o (yielded ops a.tmps) = true := by simp [Region.wanted, hg]
  rw [if_pos hw]
  unfold Oper.wp execOp
  simp only [hop, resolve, invoke, builtin, Sem.run_bind, Sem.run_pure, Result.andThen_ok, List.map_toArray, List.map_cons, List.map_nil, hd, hx, hr]
  exact hK

/-- one file, laid in a block of its own -/
structure VB (w : World) (vb : Nat) (f : Fl) : Prop where
  blk : w.heap[vb]? = some (.cells #[.string (bs f.path), .string (bs f.text), .int .i64 f.blob, .int .i64 f.size] 40 (0, 0))
theorem VB.lt {w : World} {vb : Nat} {f : Fl} (h : VB w vb f) : vb < w.heap.size := (Array.getElem?_eq_some_iff.1 h.blk).1
theorem VB.new (w : World) (f : Fl) : VB (w.alloc (.cells #[.string (bs f.path), .string (bs f.text), .int .i64 f.blob, .int .i64 f.size] 40)) w.heap.size f := ⟨heap_alloc_new _ _⟩
theorem VB.cells {w : World} {vb : Nat} {f : Fl} (h : VB w vb f) : ∀ j u, (fc [f])[j]? = some u → w.cell? ((⟨vb, 0, none⟩ : Addr).add j) = some u := World.news_of_block h.blk
theorem VB.src {w : World} {vb : Nat} {f : Fl} (h : VB w vb f) : Src Try.prog 4 22 (.slice (some ⟨vb, 0, none⟩) 1 1) [f].length (fc [f]) w :=
  Src.ofSlice _ und22 ⟨vb, 0, none⟩ 1 1 (fc [f]) (by simp [fc_length]) h.cells (fc_one _)
theorem VB.only {S : List Nat} {w w' : World} {vb : Nat} {f : Fl} (h : VB w vb f) (ho : Only S w w') (hn : vb ∉ S) : VB w' vb f := ⟨(ho.block vb h.lt hn).trans h.blk⟩

theorem fc_take (l : List Fl) (k : Nat) (h : k ≤ l.length) (r : List Value) : (fc l ++ r).take (k * 4) = fc (l.take k) := by
  have e : fc l = fc (l.take k) ++ fc (l.drop k) := by rw [← fc_append, List.take_append_drop]
  have hl : (fc (l.take k)).length = k * 4 := by rw [fc_length, List.length_take]; omega
  rw [e, List.append_assoc, ← hl, List.take_left]
theorem fc_drop (l : List Fl) (k : Nat) (h : k ≤ l.length) (r : List Value) : (fc l ++ r).drop (k * 4) = fc (l.drop k) ++ r := by
  have e : fc l = fc (l.take k) ++ fc (l.drop k) := by rw [← fc_append, List.take_append_drop]
  have hl : (fc (l.take k)).length = k * 4 := by rw [fc_length, List.length_take]; omega
  rw [e, List.append_assoc, ← hl, List.drop_left]
/-- files copied over others of the row -/
theorem OF.copy {base : Nat} {w : World} {g cap : Nat} {L : List Fl} {rest : List Value} (h : OF base w g cap L rest) (o dLen dCap : Nat) (sad : Addr) (sLen sCap : Nat) (k : List Fl) (hk : k.length = Nat.min sLen dLen)
    (hsrc : ∀ j u, (fc k)[j]? = some u → w.cell? (sad.add j) = some u) (hfit : o + k.length ≤ L.length) :
    ∃ w', (∀ ty, (Builtin.copy_ #[22, 22] ty #[.slice (some ⟨g, o * 4, none⟩) dLen dCap, .slice (some sad) sLen sCap]).run Try.prog w = .ok (goInt (Nat.min sLen dLen : Nat)) w') ∧ OF base w' g cap (L.take o ++ k ++ L.drop (o + k.length)) rest ∧ Only [g] w w' := by
  have hsz := h.sz
  refine ⟨_, fun ty => run_copy_f w ty g (o * 4) dLen dCap sad sLen sCap _ (fc k) h.blk (by rw [fc_length, hk]) hsrc (by simp [fc_length]; omega) (fc_one k), ?_, only_row _ _ _⟩
  refine h.row (by simp; omega) ?_
  show (fc L ++ rest).take (o * 4) ++ fc k ++ (fc L ++ rest).drop (o * 4 + (fc k).length) = _
  rw [fc_length, ← Nat.add_mul, fc_take L o (by omega), fc_drop L (o + k.length) hfit, fc_append, fc_append]
  simp
/-- files moved up by one -/
theorem OF.up {base : Nat} {w : World} {g cap : Nat} {l : List Fl} {rest : List Value} (h : OF base w g cap l rest) (a : Nat) (ha : a < l.length) (hroom : l.length + 1 ≤ cap) (dCap sCap : Nat) :
    ∃ w', (∀ ty, (Builtin.copy_ #[22, 22] ty #[.slice (some ⟨g, (a + 1) * 4, none⟩) (l.length + 1 - (a + 1)) dCap, .slice (some ⟨g, a * 4, none⟩) (l.length + 1 - a) sCap]).run Try.prog w = .ok (goInt ((l.length - a : Nat))) w') ∧ OF base w' g cap (l.take (a + 1) ++ l.drop a) (rest.drop 4) ∧ Only [g] w w' := by
  have hsz := h.sz
  have hmin : Nat.min (l.length + 1 - a) (l.length + 1 - (a + 1)) = l.length - a := by show min _ _ = _; omega
  have hr := fun ty => run_copy_f w ty g ((a + 1) * 4) (l.length + 1 - (a + 1)) dCap ⟨g, a * 4, none⟩ (l.length + 1 - a) sCap _ (fc (l.drop a)) h.blk (by rw [fc_length, hmin, List.length_drop]) (fun j u hu => by
    rw [add_lit]
    have hc := h.blk
    have e : (fc l ++ rest)[a * 4 + j]? = some u := by
      have e1 := fc_drop l a (by omega) rest
      have e2 : ((fc l ++ rest).drop (a * 4))[j]? = some u := by
        rw [e1, List.getElem?_append_left (by have := (List.getElem?_eq_some_iff.1 hu).1; exact this)]; exact hu
      rwa [List.getElem?_drop] at e2
    simp only [World.cell?, hc]
    simpa using e) (by simp [fc_length]; omega) (fc_one _)
  rw [hmin] at hr
  refine ⟨_, hr, ?_, only_row _ _ _⟩
  refine h.row (by simp; omega) ?_
  show (fc l ++ rest).take ((a + 1) * 4) ++ fc (l.drop a) ++ (fc l ++ rest).drop ((a + 1) * 4 + (fc (l.drop a)).length) = _
  rw [fc_take l (a + 1) (by omega), fc_length, List.length_drop, fc_append]
  congr 1
  rw [show (a + 1) * 4 + (l.length - a) * 4 = (fc l).length + 4 by rw [fc_length]; omega, List.drop_append]
  simp
theorem fc_zero : ∀ (n i : Nat), i < n * 4 → (fc (List.replicate n zf))[i]? = some ((Value.agg #[.string ⟨#[]⟩, .string ⟨#[]⟩, .int .i64 0, .int .i64 0]).cells[i % 4]!)
  | 0, i, h => by omega
  | n + 1, i, h => by
    rw [List.replicate_succ, fc]
    match i, h with
    | 0, _ => rfl
    | 1, _ => rfl
    | 2, _ => rfl
    | 3, _ => rfl
    | i + 4, h =>
      have := fc_zero n i (by omega)
      simp only [List.getElem?_cons_succ]
      rw [this, Nat.add_mod_right]
theorem zeros_fc (n : Nat) : (Builtin.zeroCells (Value.agg #[.string ⟨#[]⟩, .string ⟨#[]⟩, .int .i64 0, .int .i64 0]).cells n).toList = fc (List.replicate n zf) := by
  apply List.ext_getElem?
  intro i
  have hs : (Value.agg #[.string ⟨#[]⟩, .string ⟨#[]⟩, .int .i64 0, .int .i64 0]).cells.size = 4 := rfl
  by_cases h : i < n * 4
  · rw [fc_zero n i h]
    unfold Builtin.zeroCells
    rw [hs]
    simp [h]
  · rw [List.getElem?_eq_none (by rw [Array.length_toList, size_zeroCells, hs]; omega), List.getElem?_eq_none (by rw [fc_length, List.length_replicate]; omega)]
/-- room behind a part of the row, in a new one -/
theorem OF.grow {base : Nat} {w : World} {g cap : Nat} {l : List Fl} {rest : List Value} (h : OF base w g cap l rest) (a k : Nat) (ha : a ≤ l.length) (hk : 0 < k) (hc : cap < a + k) (hb : (a + k) * 48 ≤ 140737488355328) (hbase : base ≤ w.heap.size) (x : Int) (hx : x = (k : Int)) :
    ∃ w' C rest', (∀ ty, (Builtin.append_ #[22, 3] ty #[.slice (some ⟨g, 0, none⟩) a cap, .int .i64 x]).run Try.prog w = .ok (.slice (some ⟨w.heap.size, 0, none⟩) (a + k) C) w') ∧ OF base w' w.heap.size C (l.take a ++ List.replicate k zf) rest' ∧ Below w.heap.size w w' := by
  subst hx
  obtain ⟨i, hi, hz, hs, hby⟩ := info_parts info40
  have hold : (Builtin.firstCells i.size a (.slice (some ⟨g, 0, none⟩) a cap)).run Try.prog w.drew = .ok (fc (l.take a)).toArray w.drew := by
    rw [hs]
    refine run_firstCells_some w.drew 4 a ⟨g, 0, none⟩ a cap (fc (l.take a)) (by rw [fc_length, List.length_take]; omega) (fun j u hu => ?_)
    rw [add_lit]
    have hbk := h.blk
    have e : (fc l ++ rest)[j]? = some u := by
      have e1 := fc_take l a ha rest
      rw [← e1, List.getElem?_take] at hu
      split at hu
      · exact hu
      · simp at hu
    show w.cell? ⟨g, 0 + j, none⟩ = some u
    simp only [World.cell?, hbk, Nat.zero_add]
    simpa using e
  have hge := grownCap_ge w (a + k) cap 40
  have hcm : grownCap w (a + k) cap 40 ≤ maxLen := grownCap_le_maxLen w (a + k) cap 40 (by simp only [maxLen]; omega)
  refine ⟨_, _, fc (List.replicate (grownCap w (a + k) cap 40 - (a + k)) zf), fun ty => Lib.run_append_grow_zeros w 22 3 ty 40 i _ .i64 .i64 und22 (by kernel_rfl) hi hz (some ⟨g, 0, none⟩) a cap (fc (l.take a)) hold k hk (by rw [hs]; omega) hc (by omega) (by rw [hby]; omega) (by rw [hby]; exact growslice_fits hc hb), ?_, ?_⟩
  · refine ⟨?_, hbase, hcm, by simp [fc_length]; omega⟩
    refine (heap_alloc_new w.drew _).trans (congrArg (fun c => some (Obj.cells c 40 (0, 0))) ?_)
    apply Array.toList_inj.1
    simp only [Array.toList_append, zeros_fc]
    rw [fc_append]
  · exact (Below.refl _ _).drew.alloc (Nat.le_refl _) _
end Go.Proofs.Ytinhdjoidbcfaaa
