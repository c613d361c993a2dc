/-
  A delta, and one change behind the other.
-/
import Derived.Test.YtinhdjoidbcfaaaMade
namespace Go.Proofs.Ytinhdjoidbcfaaa
open Go.RowKit

/-- a change that a call gives, in a block of its own -/
structure RC (w : World) (g : Nat) (c : Ch) : Prop where
  blk : w.heap[g]? = some (.cells #[.string (bs c.path), .bool c.had, .bool c.has, .string (bs c.old.path), .string (bs c.old.text), .int .i64 c.old.blob, .int .i64 c.old.size, .string (bs c.new.path), .string (bs c.new.text), .int .i64 c.new.blob, .int .i64 c.new.size] 42 (0, 0))
theorem RC.lt {w : World} {g : Nat} {f : Ch} (h : RC w g f) : g < w.heap.size := (Array.getElem?_eq_some_iff.1 h.blk).1
theorem RC.later {w w' : World} {g : Nat} {f : Ch} (h : RC w g f) (hb : Below w.heap.size w w') : RC w' g f := ⟨(hb.block g h.lt).trans h.blk⟩
theorem RC.new (w : World) (c : Ch) : RC (w.alloc (.cells #[.string (bs c.path), .bool c.had, .bool c.has, .string (bs c.old.path), .string (bs c.old.text), .int .i64 c.old.blob, .int .i64 c.old.size, .string (bs c.new.path), .string (bs c.new.text), .int .i64 c.new.blob, .int .i64 c.new.size] 42)) w.heap.size c := ⟨heap_alloc_new _ _⟩
theorem RC.cb {w : World} {g : Nat} {f : Ch} (h : RC w g f) : CB w g 0 f := by
  have hb := h.blk
  exact ⟨by simp [World.cell?, hb], by simp [World.cell?, hb], by simp [World.cell?, hb], by simp [World.cell?, hb], by simp [World.cell?, hb], by simp [World.cell?, hb], by simp [World.cell?, hb], by simp [World.cell?, hb], by simp [World.cell?, hb], by simp [World.cell?, hb], by simp [World.cell?, hb]⟩
theorem RC.free {w : World} {g : Nat} {f : Ch} (h : RC w g f) (o : Nat) : w.frozen? ⟨g, o, none⟩ = false := by
  have hb := h.blk
  simp [World.frozen?, hb]
theorem RC.set {w : World} {g : Nat} {f : Ch} (h : RC w g f) (k : Ch) :
    RC (((((((((((w.setCell ⟨g, 0, none⟩ (.string (bs k.path))).setCell ⟨g, 1, none⟩ (.bool k.had)).setCell ⟨g, 2, none⟩ (.bool k.has)).setCell ⟨g, 3, none⟩ (.string (bs k.old.path))).setCell ⟨g, 4, none⟩ (.string (bs k.old.text))).setCell ⟨g, 5, none⟩ (.int .i64 k.old.blob)).setCell ⟨g, 6, none⟩ (.int .i64 k.old.size)).setCell ⟨g, 7, none⟩ (.string (bs k.new.path))).setCell ⟨g, 8, none⟩ (.string (bs k.new.text))).setCell ⟨g, 9, none⟩ (.int .i64 k.new.blob)).setCell ⟨g, 10, none⟩ (.int .i64 k.new.size)) g k := by
  refine ⟨?_⟩
  rw [heap_setCell _ _ _ _ (heap_setCell _ _ _ _ (heap_setCell _ _ _ _ (heap_setCell _ _ _ _ (heap_setCell _ _ _ _ (heap_setCell _ _ _ _ (heap_setCell _ _ _ _ (heap_setCell _ _ _ _ (heap_setCell _ _ _ _ (heap_setCell _ _ _ _ (heap_setCell _ _ _ _ h.blk))))))))))]
  simp
theorem bset11 {B : Nat} {w w' : World} {g : Nat} (hb : Below B w w') (hg : B ≤ g) (v0 v1 v2 v3 v4 v5 v6 v7 v8 v9 v10 : Value) :
    Below B w (((((((((((w'.setCell ⟨g, 0, none⟩ v0).setCell ⟨g, 1, none⟩ v1).setCell ⟨g, 2, none⟩ v2).setCell ⟨g, 3, none⟩ v3).setCell ⟨g, 4, none⟩ v4).setCell ⟨g, 5, none⟩ v5).setCell ⟨g, 6, none⟩ v6).setCell ⟨g, 7, none⟩ v7).setCell ⟨g, 8, none⟩ v8).setCell ⟨g, 9, none⟩ v9).setCell ⟨g, 10, none⟩ v10) :=
  (((((((((((hb.setCell (p := ⟨g, 0, none⟩) hg _).setCell (p := ⟨g, 1, none⟩) hg _).setCell (p := ⟨g, 2, none⟩) hg _).setCell (p := ⟨g, 3, none⟩) hg _).setCell (p := ⟨g, 4, none⟩) hg _).setCell (p := ⟨g, 5, none⟩) hg _).setCell (p := ⟨g, 6, none⟩) hg _).setCell (p := ⟨g, 7, none⟩) hg _).setCell (p := ⟨g, 8, none⟩) hg _).setCell (p := ⟨g, 9, none⟩) hg _).setCell (p := ⟨g, 10, none⟩) hg _)
def zc : Ch := ⟨[], false, false, zf, zf⟩
theorem RC.new3 (w : World) (o1 o2 : Obj) (c : Ch) : RC (((w.alloc o1).alloc o2).alloc (.cells #[.string (bs c.path), .bool c.had, .bool c.has, .string (bs c.old.path), .string (bs c.old.text), .int .i64 c.old.blob, .int .i64 c.old.size, .string (bs c.new.path), .string (bs c.new.text), .int .i64 c.new.blob, .int .i64 c.new.size] 42)) (w.heap.size + 1 + 1) c := by
  have := RC.new ((w.alloc o1).alloc o2) c
  rw [show (((w.alloc o1).alloc o2).heap.size) = w.heap.size + 1 + 1 by simp] at this
  exact this

set_option maxRecDepth 100000 in
set_option maxHeartbeats 4000000 in
theorem follow_any (c n : Ch) (w : World) : Calls Try.prog 32 #[c.val, n.val] w fun e w' => e = .returned (.tuple #[((fo c n).getD zc).val, .bool (fo c n).isSome]) ∧ Below w.heap.size w w' := by
  obtain ⟨p, ha, hb, ⟨q, t, bl, s⟩, ⟨r, y, dd, z⟩⟩ := c
  obtain ⟨p', ha', hb', ⟨q', t', bl', s'⟩, ⟨r', y', dd', z'⟩⟩ := n
  obtain ⟨A, hA⟩ : ∃ A, Value.tuple #[((fo ⟨p, ha, hb, ⟨q, t, bl, s⟩, ⟨r, y, dd, z⟩⟩ ⟨p', ha', hb', ⟨q', t', bl', s'⟩, ⟨r', y', dd', z'⟩⟩).getD zc).val, .bool (fo ⟨p, ha, hb, ⟨q, t, bl, s⟩, ⟨r, y, dd, z⟩⟩ ⟨p', ha', hb', ⟨q', t', bl', s'⟩, ⟨r', y', dd', z'⟩⟩).isSome] = A := ⟨_, rfl⟩
  rw [hA]
  have HR : Hid (Value.tuple #[((fo ⟨p, ha, hb, ⟨q, t, bl, s⟩, ⟨r, y, dd, z⟩⟩ ⟨p', ha', hb', ⟨q', t', bl', s'⟩, ⟨r', y', dd', z'⟩⟩).getD zc).val, .bool (fo ⟨p, ha, hb, ⟨q, t, bl, s⟩, ⟨r, y, dd, z⟩⟩ ⟨p', ha', hb', ⟨q', t', bl', s'⟩, ⟨r', y', dd', z'⟩⟩).isSome] = A) := hA
  clear hA
  simp only [Ch.val]
  have q1 := neq_run
  have q2 := guard_run
  by_cases h1 : hb = ha'
  · obtain ⟨e, he⟩ : ∃ e, feq ⟨r, y, dd, z⟩ ⟨q', t', bl', s'⟩ = e := ⟨_, rfl⟩
    have HE : Hid (feq ⟨r, y, dd, z⟩ ⟨q', t', bl', s'⟩ = e) := he
    subst h1
    cases e
    · have hq : ∀ w, (binOp .neq 40 (.agg #[.string (bs r), .string (bs y), .int .i64 dd, .int .i64 z]) (.agg #[.string (bs q'), .string (bs t'), .int .i64 bl', .int .i64 s'])).run Try.prog w = .ok (.bool true) w := fun w => by rw [neq_run, he]; rfl
      clear he q1
      go_enter Try.func32, Try.ntmps32
      go_wp2_with fail
      refine bodyPost_ret (results_ct rfl _ _ (w.heap.size + 1 + 1) 42 #[.string (bs []), .bool false, .bool false, .string (bs []), .string (bs []), .int .i64 0, .int .i64 0, .string (bs []), .string (bs []), .int .i64 0, .int .i64 0] (0, 0) _ rfl ?_ Try.underlying42 rfl (by kernel_rfl)) rfl ?_
      · exact (RC.new3 w _ _ zc).blk
      refine ⟨?_, bstep (balloc _ _) (bstep (balloc _ _) (balloc _ _))⟩
      rw [← HR.out]
      unfold fo
      simp only [HE.out, Bool.and_false, Bool.false_eq_true, if_false]; rfl
    · have hq : ∀ w, (binOp .neq 40 (.agg #[.string (bs r), .string (bs y), .int .i64 dd, .int .i64 z]) (.agg #[.string (bs q'), .string (bs t'), .int .i64 bl', .int .i64 s'])).run Try.prog w = .ok (.bool false) w := fun w => by rw [neq_run, he]; rfl
      clear he q1
      go_enter Try.func32, Try.ntmps32
      go_wp2_with fail
      refine bodyPost_ret (results_ct rfl _ _ (w.heap.size + 1 + 1) 42 #[.string (bs p), .bool ha, .bool hb', .string (bs q), .string (bs t), .int .i64 bl, .int .i64 s, .string (bs r'), .string (bs y'), .int .i64 dd', .int .i64 z'] (0, 0) _ rfl ?_ Try.underlying42 rfl (by kernel_rfl)) rfl ?_
      · exact (RC.new3 w _ _ ⟨p, ha, hb', ⟨q, t, bl, s⟩, ⟨r', y', dd', z'⟩⟩).blk
      refine ⟨?_, bstep (balloc _ _) (bstep (balloc _ _) (balloc _ _))⟩
      rw [← HR.out]
      unfold fo
      simp only [HE.out, beq_self_eq_true, Bool.and_true, if_true]; rfl
  · have hx : (hb != ha') = true := by simpa using h1
    have hy : (hb == ha') = false := by simpa using h1
    have HX : Hid ((hb == ha') = false) := hy
    go_enter Try.func32, Try.ntmps32
    go_wp2_with fail
    refine bodyPost_ret (results_ct rfl _ _ (w.heap.size + 1 + 1) 42 #[.string (bs []), .bool false, .bool false, .string (bs []), .string (bs []), .int .i64 0, .int .i64 0, .string (bs []), .string (bs []), .int .i64 0, .int .i64 0] (0, 0) _ rfl ?_ Try.underlying42 rfl (by kernel_rfl)) rfl ?_
    · exact (RC.new3 w _ _ zc).blk
    refine ⟨?_, bstep (balloc _ _) (bstep (balloc _ _) (balloc _ _))⟩
    rw [← HR.out]
    unfold fo
    simp only [HX.out, Bool.false_and, Bool.false_eq_true, if_false]; rfl
end Go.Proofs.Ytinhdjoidbcfaaa
