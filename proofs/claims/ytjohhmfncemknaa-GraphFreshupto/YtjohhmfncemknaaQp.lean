/-
  The queue's Push and Pop.
-/
import Derived.Test.YtjohhmfncemknaaJQs
import Derived.Deep.RegionLaw
namespace Go.Proofs.Ytjohhmfncemknaa
open Go.RowKit Go.Maps

/-- only the queue's box, and the blocks of G -/
abbrev QX (q : Nat) (G : Nat → Prop) (w w' : World) : Prop := OnlyP (fun k => k = q ∨ G k) w w'
theorem QX.of {q : Nat} {G : Nat → Prop} {w w' : World} (h : Below w.heap.size w w') : QX q G w w' := OnlyP.of_below h _
theorem QX.trans {q : Nat} {G : Nat → Prop} {a b c : World} (h : QX q G a b) (k : QX q G b c) : QX q G a c := OnlyP.trans h k (fun _ _ e => e)
theorem QX.own {q : Nat} {G : Nat → Prop} {w w' : World} {v : Value} {l : List Lb} (h : OwnQ G w v l) (ho : Only (bl v) w w') : QX q G w w' :=
  OnlyP.of_only ho (fun k hk _ => .inr (h.2 k (show v.ownBlock = some k by unfold bl at hk; simpa using hk)))
theorem QX.set {q : Nat} {G : Nat → Prop} {w w' : World} (h : QX q G w w') (v : Value) : QX q G w (w'.setCell ⟨q, 0, none⟩ v) :=
  QX.trans h (OnlyP.of_only (Only.set w' q 0 v) (fun k hk _ => .inl (by simpa using hk)))
theorem step_app_L {T : TypeId} (hT : Try.prog.underlying T = some (.slice 31)) {ops : Array Oper} {o : Oper} {a : Act} {w : World} {K : Act → World → Prop} {Q : Exit → Act → World → Prop} {E : Prop} (hgd : o.guard = none) (s y : Operand)
    (ho : o.op = .call { callee := .builtin .append, args := #[s, y], argTypes := #[T, T] }) (base : Nat) (l k : List Lb) (v x : Value) (hv : a.eval s = v) (hx : a.eval y = x)
    (hown : OwnL base w v l) (hs : Src Try.prog 2 T x k.length (lc k) w) (hb : l.length + k.length ≤ 100000000) (hbase : base ≤ w.heap.size)
    (h : ∀ v' w', OwnL base w' v' (l ++ k) → w.grownBy w' v.ownBlock → (v'.ownBlock = v.ownBlock ∨ v'.ownBlock = some w.heap.size) → K (a.put o.dst v') w') :
    if Region.wanted o (yielded ops a.tmps) = true then Oper.wp Try.prog o a w K Q else E := by
  have hw : Region.wanted o (yielded ops a.tmps) = true := by simp [Region.wanted, hgd]
  rw [if_pos hw]
  obtain ⟨i0, hi, hz0, hz1, hz2⟩ := info_parts info_L
  obtain ⟨v', w', hr, h2, h3, h4⟩ := run_append_src (P := Try.prog) w base T T o.type 31 i0 _ 2 32 hT hi hz0 hz1 hz2 rfl v l.length (lc l) hown x k.length (lc k) hs (by simp only [maxLen]; omega) (by omega) hbase
  unfold Oper.wp execOp
  simp only [ho, resolve, invoke, builtin, Sem.run_bind, Sem.run_pure, Result.andThen_ok, List.map_toArray, List.map_cons, List.map_nil, hv, hx, hr]
  exact h v' w' (by unfold OwnL; rw [lc_append, List.length_append]; exact h2) h3 h4
theorem src_Ld {T : TypeId} (hT : Try.prog.underlying T = some (.slice 31)) (w : World) (t : Lb) : Src Try.prog 2 T (.slice (some ⟨w.heap.size, 0, none⟩) 1 1) [t].length (lc [t]) (w.alloc (.cells #[.string (bs t.pkg), .string (bs t.name)] 31)).drew := by
  refine Src.ofSlice _ hT ⟨w.heap.size, 0, none⟩ 1 1 (lc [t]) (by simp [lc_length]) ?_ (lc_one _)
  exact fun j u hu => World.news_of_block (heap_alloc_new w _) j u hu
theorem own_d {base : Nat} {w : World} {v : Value} {l : List Lb} (h : OwnL base w v l) (o : Obj) : OwnL base (w.alloc o).drew v l := h.later (balloc w o).drew
theorem ta31 (p n : List UInt8) (w : World) : (Instr.typeAssert (.iface 31 (.agg #[.string (bs p), .string (bs n)])) 20 31 false).run Try.prog w = .ok (.agg #[.string (bs p), .string (bs n)]) w := by kernel_rfl

theorem box_ne {base : Nat} {w : World} {v u : Value} {l : List Lb} {q : Nat} (ho : OwnL base w v l) (hb : Boxed w q 73 u) : v.ownBlock ≠ some q := by
  intro e
  rcases OL.of ho with ⟨e2, _⟩ | ⟨g, cap, rest, e2, hol⟩
  · rw [e2] at e; cases e
  · rw [e2] at e
    simp only [Value.ownBlock, Option.some.injEq] at e
    subst e
    have := hol.blk.symm.trans hb
    injection this with this
    injection this with _ this _
    exact absurd this (by decide)
theorem box_kept {base : Nat} {w w3 : World} {v u : Value} {l : List Lb} {q : Nat} {o : Obj} (hb : Boxed w q 73 u) (ho : OwnL base w v l) (hg : (w.alloc o).drew.grownBy w3 v.ownBlock) : Boxed w3 q 73 u :=
  (hg.block q (by have := hb.lt; simp; omega) (fun e => box_ne ho hb e.symm)).trans ((heap_alloc_old w o hb.lt).trans hb)
theorem own_box {base : Nat} {w : World} {v u v' : Value} {l : List Lb} {q : Nat} (ho : OwnL base w v l) (hb : Boxed w q 73 u) : OwnL base (w.setCell ⟨q, 0, none⟩ v') v l :=
  ho.only (Only.set w q 0 v') (fun k hk hm => by have e : k = q := (by simpa using hm); exact box_ne ho hb (by rw [hk, e]))

set_option maxRecDepth 100000 in
set_option maxHeartbeats 4000000 in
theorem qpush_any {G : Nat → Prop} {w : World} {q : Nat} {l : List Lb} (h : QB G w q l) (hbase : NewG G w) (hl : l.length + 1 ≤ 1000000) (a : Lb) :
    Calls Try.prog 113 #[.pointer (some ⟨q, 0, none⟩), .iface 31 a.val] w fun e w' => e = .returned (.tuple #[]) ∧ QB G w' q (l ++ [a]) ∧ QX q G w w' := by
  obtain ⟨v, hv, ho, hG⟩ := h
  have hc := hv.cell
  have hf := hv.frozen
  obtain ⟨av, cv, hvv⟩ := ho.form
  obtain ⟨n, hn⟩ : ∃ n, l.length = n := ⟨_, rfl⟩
  rw [hn] at hvv
  subst hvv
  have H : Hid (Boxed w q 73 (.slice av n cv) ∧ OwnL 0 w (.slice av n cv) l ∧ (∀ k, (Value.slice av n cv).ownBlock = some k → G k) ∧ NewG G w ∧ l.length + 1 ≤ 1000000) := ⟨hv, ho, hG, hbase, hl⟩
  clear hv ho hG hbase hl hn
  obtain ⟨p, m⟩ := a
  have hta := ta31 p m
  have hca := cell_alloc (.cells #[.string (bs p), .string (bs m)] 31) H.out.1.lt hc
  simp only [Lb.val]
  go_enter Try.func113, Try.ntmps113
  go_wp2_with fail
  go_region_law (refine step_app_L und73 rfl (.tmp 7) (.tmp 10) rfl 0 l [⟨p, m⟩] (.slice av n cv) _ rfl rfl (own_d H.out.2.1 _) (src_Ld und73 w ⟨p, m⟩) (by have := H.out.2.2.2.2; simp; omega) (Nat.zero_le _) ?_; intro v' w3 ho3 hg3 hl3; have HL3 : Hid (v'.ownBlock = (Value.slice av n cv).ownBlock ∨ v'.ownBlock = some (w.alloc (.cells #[.string (bs p), .string (bs m)] 31)).drew.heap.size) := hl3; clear hl3; obtain ⟨av', cv', hvv'⟩ := ho3.form; subst hvv'; have hb3 : Boxed w3 q 73 (.slice av n cv) := box_kept H.out.1 H.out.2.1 hg3; have hc3 := hb3.cell; have hf3 := hb3.frozen)
  all_goals go_end0
  all_goals have hB3 : QX q G w w3 := ⟨hg3.os, hg3.tape, hg3.output, by have := hg3.size; simp at this; omega, fun k hk hn => (hg3.block k (by simp; omega) (fun e => hn (.inr (H.out.2.2.1 k e.symm)))).trans (heap_alloc_old w _ hk)⟩
  all_goals have hG3 := fun k (hk : (Value.slice av' (l ++ [(⟨p, m⟩ : Lb)]).length cv').ownBlock = some k) => (show G k from by
    rcases HL3.out with e | e
    · exact H.out.2.2.1 k (by rw [← e]; exact hk)
    · rw [e] at hk
      simp only [Option.some.injEq] at hk
      rw [← hk]; exact H.out.2.2.2.1 _ (by simp))
  all_goals rw [show (l ++ [(⟨p, m⟩ : Lb)]).length = l.length + 1 by simp] at ho3 hG3
  all_goals exact ⟨rfl, ⟨_, hb3.set _, own_box ho3 hb3, hG3⟩, QX.set hB3 _⟩

theorem slice_73 (g n cap : Nat) (k : Nat) (hk : k ≤ n) (hn : n ≤ cap) (hc : cap ≠ 0) (W : World) : (Instr.slice 73 (.slice (some ⟨g, 0, none⟩) n cap) none (some (.int .i64 (k : Int))) none).run Try.prog W = .ok (.slice (some ⟨g, 0, none⟩) k cap) W := by
  have e73 : Try.prog.underlying 73 = some (.slice (Try.prog.elem 73)) := by kernel_rfl
  have el73 : Try.prog.elem 73 = 31 := by kernel_rfl
  rw [run_slice_h (P := Try.prog) (w := W) 73 _ n cap e73 .i64 (k : Int) (by omega) (by omega), el73, Try.sizeOf31]
  simp only [Result.andThen_ok, sliced, Int.toNat_natCast, Option.map_some, Addr.add_lit]
  rw [if_neg hc]
  simp

set_option maxRecDepth 100000 in
set_option maxHeartbeats 4000000 in
theorem qpop_any {G : Nat → Prop} {w : World} {q : Nat} {l : List Lb} (h : QB G w q l) (hl : l.length ≤ 1000000) (hne : 0 < l.length) :
    Calls Try.prog 112 #[.pointer (some ⟨q, 0, none⟩)] w fun e w' => (∃ x, e = .returned x) ∧ QB G w' q (l.take (l.length - 1)) ∧ QX q G w w' := by
  obtain ⟨v, hv, ho, hG⟩ := h
  have hc := hv.cell
  have hf := hv.frozen
  rcases OL.of ho with ⟨_, e⟩ | ⟨g, cap, rest, rfl, hol⟩
  · rw [e] at hne; simp at hne
  · obtain ⟨m, hm⟩ : ∃ m, l.length = m + 1 := ⟨l.length - 1, by omega⟩
    have hml : m < l.length := by omega
    obtain ⟨c0, c1⟩ := hol.cell hml
    have hcl := hol.len
    have hcm := hol.cm
    unfold maxLen at hcm
    have hsl := slice_73 g (m + 1) cap m (by omega) (by omega) (by omega)
    have H : Hid (Boxed w q 73 (.slice (some ⟨g, 0, none⟩) (m + 1) cap) ∧ OL 0 w g cap l rest ∧ G g ∧ l.length = m + 1) := ⟨by rw [← hm]; exact hv, hol, hG g rfl, hm⟩
    rw [hm] at hc hl hcl
    generalize l[m] = x at c0 c1
    obtain ⟨p, n⟩ := x
    simp only at c0 c1
    have hca := cell_alloc (.cells #[.string (bs p), .string (bs n)] 31) H.out.1.lt hc
    have hfa : (w.alloc (.cells #[.string (bs p), .string (bs n)] 31)).frozen? ⟨q, 0, none⟩ = false := (H.out.1.alloc _).frozen
    have k1 : (m : Int) < (m : Int) + 1 := by omega
    have hRX : RB ((w.alloc (.cells #[.string (bs p), .string (bs n)] 31)).setCell ⟨q, 0, none⟩ (.slice (some ⟨g, 0, none⟩) m cap)) w.heap.size ⟨p, n⟩ := ⟨((Only.set (w.alloc (.cells #[.string (bs p), .string (bs n)] 31)) q 0 (.slice (some ⟨g, 0, none⟩) m cap)).block w.heap.size (by simp) (by have := H.out.1.lt; simp; omega)).trans (RB.new w ⟨p, n⟩).blk⟩
    obtain ⟨x0, x1, _, _⟩ := hRX.cells
    simp only at x0 x1
    clear hRX
    rw [hm, show m + 1 - 1 = m by omega]
    clear hv ho hG hne hml hm hol
    go_enter Try.func112, Try.ntmps112
    go_wp2_with fail
    go_ret
    have hb1 : Boxed (w.alloc (.cells #[.string (bs p), .string (bs n)] 31)) q 73 (.slice (some ⟨g, 0, none⟩) (m + 1) cap) := H.out.1.alloc _
    have hB : QX q G w (w.alloc (.cells #[.string (bs p), .string (bs n)] 31)) := QX.of (balloc _ _)
    have ho2 : OwnL 0 (w.alloc (.cells #[.string (bs p), .string (bs n)] 31)) (.slice (some ⟨g, 0, none⟩) m cap) (l.take m) := by
      have h1 : OL 0 (w.alloc (.cells #[.string (bs p), .string (bs n)] 31)) g cap (l.take m ++ l.drop m) rest := by rw [List.take_append_drop]; exact H.out.2.1.later (balloc _ _)
      have h2 := h1.split.own
      rw [List.length_take, Nat.min_eq_left (by have := H.out.2.2.2; omega)] at h2
      exact h2
    exact ⟨⟨_, rfl⟩, ⟨_, hb1.set _, own_box ho2 hb1, fun k hk => by cases hk; exact H.out.2.2.1⟩, QX.set hB _⟩
end Go.Proofs.Ytjohhmfncemknaa
