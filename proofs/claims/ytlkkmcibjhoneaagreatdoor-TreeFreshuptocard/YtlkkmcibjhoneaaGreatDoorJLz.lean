/-
  The landed tree: a step counted; what is there at a path.
  The landed tree: what is there at a path.
-/
import Derived.Test.YtlkkmcibjhoneaaGreatDoorJLx
namespace Go.Proofs.YtlkkmcibjhoneaaGreatDoor
open Go.RowKit Go.Maps

/-- a tree's own block -/
def LC (w : World) (c : Nat) (vf vd vj : Value) (st sp : Int) (dn : Bool) (vt : Value) : Prop := w.heap[c]? = some (.cells #[vf, vd, vj, .int .i64 st, .int .i64 sp, .bool dn, vt] 73 (0, 0))
theorem LC.cell {w : World} {c : Nat} {vf vd vj vt : Value} {st sp : Int} {dn : Bool} (h : LC w c vf vd vj st sp dn vt) :
    w.cell? ⟨c, 0, none⟩ = some vf ∧ w.cell? ⟨c, 1, none⟩ = some vd ∧ w.cell? ⟨c, 2, none⟩ = some vj ∧ w.cell? ⟨c, 3, none⟩ = some (.int .i64 st) ∧ w.cell? ⟨c, 4, none⟩ = some (.int .i64 sp) ∧ w.cell? ⟨c, 5, none⟩ = some (.bool dn) ∧ w.cell? ⟨c, 6, none⟩ = some vt ∧ ∀ i, w.frozen? ⟨c, i, none⟩ = false := by
  unfold LC at h
  exact ⟨by simp [World.cell?, h], by simp [World.cell?, h], by simp [World.cell?, h], by simp [World.cell?, h], by simp [World.cell?, h], by simp [World.cell?, h], by simp [World.cell?, h], fun i => by simp [World.frozen?, h]⟩
section
variable {w w' : World} {c : Nat} {vf vd vj vt u : Value} {st sp st' : Int} {dn dn' : Bool}
theorem LC.set3 (h : LC w c vf vd vj st sp dn vt) : LC (w.setCell ⟨c, 3, none⟩ (.int .i64 st')) c vf vd vj st' sp dn vt := by
  unfold LC at h ⊢
  rw [heap_setCell _ _ _ _ h]; simp
theorem LC.set4 (h : LC w c vf vd vj st sp dn vt) : LC (w.setCell ⟨c, 4, none⟩ (.int .i64 st')) c vf vd vj st st' dn vt := by
  unfold LC at h ⊢
  rw [heap_setCell _ _ _ _ h]; simp
theorem LC.set5 (h : LC w c vf vd vj st sp dn vt) : LC (w.setCell ⟨c, 5, none⟩ (.bool dn')) c vf vd vj st sp dn' vt := by
  unfold LC at h ⊢
  rw [heap_setCell _ _ _ _ h]; simp
end

theorem LX.lc {w : World} {c mf md : Nat} {vj vt : Value} {lf : Int} {T : TT} (h : LX w c mf md vj vt lf T) : LC w c (.map (some mf)) (.map (some md)) vj T.st lf T.dn vt := h.blk
/-- the tree behind a step that was counted -/
def StX (w : World) (c mf md : Nat) (vj vt : Value) (U : TT) (w' : World) : Prop := ∃ lf', LX w' c mf md vj vt lf' U ∧ Only [c] w w'
set_option maxRecDepth 100000 in
set_option maxHeartbeats 4000000 in
theorem stops_any {w : World} {c mf md : Nat} {vj vt : Value} {lf : Int} {T : TT} (h : LX w c mf md vj vt lf T) (hst : T.st ≤ 4000000) :
    Calls Tryz.prog 51 #[.pointer (some ⟨c, 0, none⟩)] w fun e w' => e = .returned (.bool (!(T.cnt []).2)) ∧ StX w c mf md vj vt (T.cnt []).1 w' := by
  obtain ⟨c0, c1, c2, c3, c4, c5, c6, fz⟩ := h.lc.cell
  have r1 := h.lc.set3 (st' := (T.st : Int) + 1)
  obtain ⟨-, -, -, d3, d4, d5, d6, fz1⟩ := r1.cell
  have hw : wrap64 ((T.st : Int) + 1) = (T.st : Int) + 1 := IntWalk.wrap64_in _ (by omega)
  have f3 := fz 3
  have f4 := fz1 4
  have H : Hid (LX w c mf md vj vt lf T) := h
  have R1 : Hid (LC (w.setCell ⟨c, 3, none⟩ (.int .i64 ((T.st : Int) + 1))) c (.map (some mf)) (.map (some md)) vj ((T.st : Int) + 1) lf T.dn vt) := r1
  obtain ⟨l0, l1, hd1, hd0⟩ := h.rel
  clear c0 c1 c2 c4 c5 c6 fz h r1
  cases hdn : T.dn with
  | true =>
    obtain ⟨rfl, hsp⟩ := hd1 hdn
    have hcnt : T.cnt [] = ({ T with st := T.st + 1 }, false) := by unfold TT.cnt; rw [if_neg (by omega), if_neg (by omega), if_pos hdn]
    obtain ⟨U, hU⟩ : ∃ U : TT, U = { T with st := T.st + 1 } := ⟨_, rfl⟩
    rw [← hU] at hcnt
    have hok : TOk U := by have := H.out.ok.cnt []; rw [hcnt] at this; exact this
    have HU : Hid (U = { T with st := T.st + 1 } ∧ TOk U) := ⟨hU, hok⟩
    clear hok hU
    rw [hcnt]
    rw [hdn] at d5
    clear hcnt hd0 hd1
    go_enter Tryz.func51, Tryz.ntmps51
    go_wp2_with fail
    go_ret
    refine ⟨rfl, 0, ?_, Only.set _ _ _ _⟩
    have hok := HU.out.2
    rw [HU.out.1] at hok ⊢
    refine H.out.put (Only.set _ _ _ _) ?_ rfl rfl rfl rfl H.out.rel hok
    have := R1.out
    unfold LC at this
    rw [this]
    simp
  | false =>
    rw [hdn] at d5
    rcases hd0 hdn with ⟨hl, hsp⟩ | ⟨hl, hsp⟩
    · have hcnt : T.cnt [] = ({ T with st := T.st + 1 }, true) := by unfold TT.cnt; rw [if_pos hsp]
      obtain ⟨U, hU⟩ : ∃ U : TT, U = { T with st := T.st + 1 } := ⟨_, rfl⟩
      rw [← hU] at hcnt
      have hok : TOk U := by have := H.out.ok.cnt []; rw [hcnt] at this; exact this
      have HU : Hid (U = { T with st := T.st + 1 } ∧ TOk U) := ⟨hU, hok⟩
      clear hok hU
      have hg : decide ((0 : Int) < lf) = false := by simp; omega
      have hg2 : ¬ ((0 : Int) < lf) := by omega
      rw [hcnt]
      clear hcnt hd0 hd1 hl
      go_enter Tryz.func51, Tryz.ntmps51
      go_wp2_with fail
      go_ret
      refine ⟨rfl, lf, ?_, Only.set _ _ _ _⟩
      have hok := HU.out.2
      rw [HU.out.1] at hok ⊢
      refine H.out.put (Only.set _ _ _ _) ?_ rfl rfl rfl rfl H.out.rel hok
      have := R1.out
      unfold LC at this
      rw [this]
      simp
    · have hg : decide ((0 : Int) < lf) = true := by simp; omega
      have hg2 : (0 : Int) < lf := by omega
      have hw2 : wrap64 (lf - 1) = lf - 1 := IntWalk.wrap64_in _ (by omega)
      have r2 := R1.out.set4 (st' := lf - 1)
      obtain ⟨-, -, -, e3, e4, e5, e6, fz2⟩ := r2.cell
      have f5 := fz2 5
      by_cases h1 : lf = 1
      · have hcnt : T.cnt [] = ({ T with st := T.st + 1, dn := true, tn := [] }, false) := by unfold TT.cnt; rw [if_neg (by omega), if_neg (by omega), if_neg (by simp [hdn])]
        obtain ⟨U, hU⟩ : ∃ U : TT, U = { T with st := T.st + 1, dn := true, tn := [] } := ⟨_, rfl⟩
        rw [← hU] at hcnt
        have hok : TOk U := by have := H.out.ok.cnt []; rw [hcnt] at this; exact this
        have HU : Hid (U = { T with st := T.st + 1, dn := true, tn := [] } ∧ TOk U) := ⟨hU, hok⟩
        clear hok hU
        have R3 : Hid (LC (((w.setCell ⟨c, 3, none⟩ (.int .i64 ((T.st : Int) + 1))).setCell ⟨c, 4, none⟩ (.int .i64 (lf - 1))).setCell ⟨c, 5, none⟩ (.bool true)) c (.map (some mf)) (.map (some md)) vj ((T.st : Int) + 1) (lf - 1) true vt) := r2.set5
        have hz0 : (lf - 1 == 0) = true := by simp; omega
        have h5 := R3.out.cell.2.2.2.2.2.1
        rw [hcnt]
        clear hcnt hd0 hd1 hl r2 fz1 fz2
        have HL : Hid (lf = 1 ∧ T.sp = lf ∧ T.dn = false) := ⟨h1, hsp, hdn⟩
        clear h1 hsp hdn
        go_enter Tryz.func51, Tryz.ntmps51
        go_wp2_with fail
        go_ret
        refine ⟨rfl, lf - 1, ?_, ((Only.set _ _ _ _).trans (Only.set _ _ _ _)).trans (Only.set _ _ _ _)⟩
        have hok := HU.out.2
        rw [HU.out.1] at hok ⊢
        refine H.out.put (((Only.set _ _ _ _).trans (Only.set _ _ _ _)).trans (Only.set _ _ _ _)) ?_ rfl rfl rfl (H.out.ok.tn0 HL.out.2.2).symm ⟨by omega, by omega, fun _ => ⟨?_, ?_⟩, fun e => by cases e⟩ hok
        · have := R3.out
          unfold LC at this
          rw [this]
          simp
        · have := HL.out.1; omega
        · have := HL.out.1; have := HL.out.2.1; show T.sp = 1; omega
      · have hcnt : T.cnt [] = ({ T with st := T.st + 1, sp := T.sp - 1 }, true) := by unfold TT.cnt; rw [if_neg (by omega), if_pos (by omega)]
        obtain ⟨U, hU⟩ : ∃ U : TT, U = { T with st := T.st + 1, sp := T.sp - 1 } := ⟨_, rfl⟩
        rw [← hU] at hcnt
        have hok : TOk U := by have := H.out.ok.cnt []; rw [hcnt] at this; exact this
        have HU : Hid (U = { T with st := T.st + 1, sp := T.sp - 1 } ∧ TOk U) := ⟨hU, hok⟩
        clear hok hU
        have R3 : Hid (LC (((w.setCell ⟨c, 3, none⟩ (.int .i64 ((T.st : Int) + 1))).setCell ⟨c, 4, none⟩ (.int .i64 (lf - 1))).setCell ⟨c, 5, none⟩ (.bool false)) c (.map (some mf)) (.map (some md)) vj ((T.st : Int) + 1) (lf - 1) false vt) := r2.set5
        have hz0 : (lf - 1 == 0) = false := by simp; omega
        have h5 := R3.out.cell.2.2.2.2.2.1
        rw [hcnt]
        clear hcnt hd0 hd1 r2 fz1 fz2
        have HL : Hid (1 < lf ∧ T.sp = lf ∧ T.dn = false) := ⟨by omega, hsp, hdn⟩
        clear h1 hsp hdn hl
        go_enter Tryz.func51, Tryz.ntmps51
        go_wp2_with fail
        go_ret
        refine ⟨rfl, lf - 1, ?_, ((Only.set _ _ _ _).trans (Only.set _ _ _ _)).trans (Only.set _ _ _ _)⟩
        have hok := HU.out.2
        rw [HU.out.1] at hok ⊢
        refine H.out.put (((Only.set _ _ _ _).trans (Only.set _ _ _ _)).trans (Only.set _ _ _ _)) ?_ rfl rfl rfl rfl ⟨by omega, by omega, fun e => ?_, fun _ => .inr ⟨?_, ?_⟩⟩ hok
        · have := R3.out
          unfold LC at this
          rw [this]
          simp [HL.out.2.2]
        · exact absurd (HL.out.2.2.symm.trans e) (by decide)
        · have := HL.out.1; omega
        · have := HL.out.2.1; show T.sp - 1 = lf - 1; omega
end Go.Proofs.YtlkkmcibjhoneaaGreatDoor

namespace Go.Proofs.YtlkkmcibjhoneaaGreatDoor
open Go.RowKit Go.Maps

set_option maxRecDepth 100000 in
set_option maxHeartbeats 4000000 in
theorem at_any {w : World} {c mf md : Nat} {vj vt : Value} {lf : Int} {T : TT} (h : LX w c mf md vj vt lf T) (p : List UInt8) (hp : Lk p) :
    Calls Tryz.prog 58 #[.pointer (some ⟨c, 0, none⟩), .string (bs p)] w fun e w' => e = .returned (.agg #[.bool (hasF T.fs p), .bool (hasD T.ds p)]) ∧ Below w.heap.size w w' := by
  obtain ⟨a, ha⟩ : ∃ a, hasF T.fs p = a := ⟨_, rfl⟩
  obtain ⟨b, hb⟩ : ∃ b, hasD T.ds p = b := ⟨_, rfl⟩
  obtain ⟨z, hz⟩ : ∃ z, at_ cF (fF T.fs p) = z := ⟨_, rfl⟩
  obtain ⟨y, hy⟩ : ∃ y, at_ cI (dF T.fs T.ds p) = y := ⟨_, rfl⟩
  rw [ha, hb]
  have hl1 := (h.fl.later (balloc w (.cells #[.bool false, .bool false] 95))).look hp true
  rw [hz, fF_has, ha] at hl1
  obtain ⟨zp, zt, zb, zs⟩ := z
  have hl1' : (Instr.lookup 70 (.map (some mf)) (.string (bs p)) true).run Tryz.prog (w.alloc (.cells #[.bool false, .bool false] 95)) = .ok (.tuple #[.agg #[.string (bs zp), .string (bs zt), .int .i64 zb, .int .i64 zs], .bool a]) (w.alloc (.cells #[.bool false, .bool false] 95)) := hl1
  have hl2 : ∀ W : World, W.heap[md]? = w.heap[md]? → (Instr.lookup 71 (.map (some md)) (.string (bs p)) true).run Tryz.prog W = .ok (.tuple #[.int .i64 y, .bool b]) W := fun W e => by
    have := (h.dr.block e).look hp true
    rw [hy, dF_has, hb] at this
    exact this
  obtain ⟨c0, c1, -⟩ := h.cells
  have e0 := ((balloc w (.cells #[.bool false, .bool false] 95)).cell (p := ⟨c, 0, none⟩) h.clt).trans c0
  have hb2 : Below w.heap.size w ((w.alloc (.cells #[.bool false, .bool false] 95)).alloc (.cells #[.string (bs zp), .string (bs zt), .int .i64 zb, .int .i64 zs] 31)) := bstep (balloc _ _) (balloc _ _)
  have e1 : ((w.alloc (.cells #[.bool false, .bool false] 95)).alloc (.cells #[.string (bs zp), .string (bs zt), .int .i64 zb, .int .i64 zs] 31)).cell? ⟨c, 1, none⟩ = some (.map (some md)) := (hb2.cell (p := ⟨c, 1, none⟩) h.clt).trans c1
  have hl3 := hl2 ((w.alloc (.cells #[.bool false, .bool false] 95)).alloc (.cells #[.string (bs zp), .string (bs zt), .int .i64 zb, .int .i64 zs] 31)) (hb2.block md h.dr.lt)
  have HB : Hid (Below w.heap.size w ((w.alloc (.cells #[.bool false, .bool false] 95)).alloc (.cells #[.string (bs zp), .string (bs zt), .int .i64 zb, .int .i64 zs] 31))) := hb2
  clear h hl1 hl2 ha hb hz hy c0 c1 hb2
  go_enter Tryz.func58, Tryz.ntmps58
  go_wp2_with fail
  refine bodyPost_ret (results_cell_row rfl _ _ w.heap.size 95 #[.bool a, .bool b] (0, 0) _ rfl ((heap_alloc_old _ _ (by simp)).trans (heap_alloc_new _ _)) Tryz.underlying95 rfl (by kernel_rfl)) rfl ?_
  exact ⟨rfl, bstep (balloc _ _) (balloc _ _)⟩
/-- two such answers, compared -/
theorem eql_there (a b a' b' : Bool) (w : World) : (binOp .eql 95 (.agg #[.bool a, .bool b]) (.agg #[.bool a', .bool b'])).run Tryz.prog w = .ok (.bool (a == a' && b == b')) w := by
  cases a <;> cases b <;> cases a' <;> cases b' <;> kernel_rfl
theorem neq_there (a b a' b' : Bool) (w : World) : (binOp .neq 95 (.agg #[.bool a, .bool b]) (.agg #[.bool a', .bool b'])).run Tryz.prog w = .ok (.bool (!(a == a' && b == b'))) w := by
  cases a <;> cases b <;> cases a' <;> cases b' <;> kernel_rfl
theorem Ev.cells {w : World} (h : Ev w) : w.cell? ⟨0, 0, none⟩ = some (.bool false) ∧ w.cell? ⟨0, 1, none⟩ = some (.bool false) ∧ w.cell? ⟨1, 0, none⟩ = some (.bool false) ∧ w.cell? ⟨1, 1, none⟩ = some (.bool true) ∧ w.cell? ⟨2, 0, none⟩ = some (.bool true) ∧ w.cell? ⟨2, 1, none⟩ = some (.bool false) := by
  refine ⟨?_, ?_, ?_, ?_, ?_, ?_⟩ <;> simp [World.cell?, h.n, h.d, h.f]
end Go.Proofs.YtlkkmcibjhoneaaGreatDoor
