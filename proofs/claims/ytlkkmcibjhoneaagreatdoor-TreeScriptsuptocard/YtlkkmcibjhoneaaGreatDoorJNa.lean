/-
  The landed tree: a step counted; what is there at a path.
  The landed tree: what is there at a path.
  The landed tree: a directory more, a file more.
-/
import Derived.Test.YtlkkmcibjhoneaaGreatDoorJLx
namespace Go.Proofs.YtlkkmcibjhoneaaGreatDoor
open Go.RowKit Go.Maps

/-- a tree's own block -/
def LC (w : World) (c : Nat) (vf vd vj : Value) (st sp : Int) (dn : Bool) (vt : Value) : Prop := w.heap[c]? = some (.cells #[vf, vd, vj, .int .i64 st, .int .i64 sp, .bool dn, vt] 73 (0, 0))
theorem LC.lt {w : World} {c : Nat} {vf vd vj vt : Value} {st sp : Int} {dn : Bool} (h : LC w c vf vd vj st sp dn vt) : c < w.heap.size := (Array.getElem?_eq_some_iff.1 h).1
theorem LC.cell {w : World} {c : Nat} {vf vd vj vt : Value} {st sp : Int} {dn : Bool} (h : LC w c vf vd vj st sp dn vt) :
    w.cell? ⟨c, 0, none⟩ = some vf ∧ w.cell? ⟨c, 1, none⟩ = some vd ∧ w.cell? ⟨c, 2, none⟩ = some vj ∧ w.cell? ⟨c, 3, none⟩ = some (.int .i64 st) ∧ w.cell? ⟨c, 4, none⟩ = some (.int .i64 sp) ∧ w.cell? ⟨c, 5, none⟩ = some (.bool dn) ∧ w.cell? ⟨c, 6, none⟩ = some vt ∧ ∀ i, w.frozen? ⟨c, i, none⟩ = false := by
  unfold LC at h
  exact ⟨by simp [World.cell?, h], by simp [World.cell?, h], by simp [World.cell?, h], by simp [World.cell?, h], by simp [World.cell?, h], by simp [World.cell?, h], by simp [World.cell?, h], fun i => by simp [World.frozen?, h]⟩
section
variable {w w' : World} {c : Nat} {vf vd vj vt u : Value} {st sp st' : Int} {dn dn' : Bool}
theorem LC.set3 (h : LC w c vf vd vj st sp dn vt) : LC (w.setCell ⟨c, 3, none⟩ (.int .i64 st')) c vf vd vj st' sp dn vt := by
  unfold LC at h ⊢
  rw [heap_setCell _ _ _ _ h]; simp
theorem LC.set4 (h : LC w c vf vd vj st sp dn vt) : LC (w.setCell ⟨c, 4, none⟩ (.int .i64 st')) c vf vd vj st st' dn vt := by
  unfold LC at h ⊢
  rw [heap_setCell _ _ _ _ h]; simp
theorem LC.set5 (h : LC w c vf vd vj st sp dn vt) : LC (w.setCell ⟨c, 5, none⟩ (.bool dn')) c vf vd vj st sp dn' vt := by
  unfold LC at h ⊢
  rw [heap_setCell _ _ _ _ h]; simp
theorem LC.stay (h : LC w c vf vd vj st sp dn vt) (e : w'.heap[c]? = w.heap[c]?) : LC w' c vf vd vj st sp dn vt := by
  unfold LC at h ⊢
  rw [e]; exact h
end

theorem LX.lc {w : World} {c mf md : Nat} {vj vt : Value} {lf : Int} {T : TT} (h : LX w c mf md vj vt lf T) : LC w c (.map (some mf)) (.map (some md)) vj T.st lf T.dn vt := h.blk
/-- the tree behind a step that was counted -/
def StX (w : World) (c mf md : Nat) (vj vt : Value) (U : TT) (w' : World) : Prop := ∃ lf', LX w' c mf md vj vt lf' U ∧ Only [c] w w'
set_option maxRecDepth 100000 in
set_option maxHeartbeats 4000000 in
theorem stops_any {w : World} {c mf md : Nat} {vj vt : Value} {lf : Int} {T : TT} (h : LX w c mf md vj vt lf T) (hst : T.st ≤ 4000000) :
    Calls Tryz.prog 51 #[.pointer (some ⟨c, 0, none⟩)] w fun e w' => e = .returned (.bool (!(T.cnt []).2)) ∧ StX w c mf md vj vt (T.cnt []).1 w' := by
  obtain ⟨c0, c1, c2, c3, c4, c5, c6, fz⟩ := h.lc.cell
  have r1 := h.lc.set3 (st' := (T.st : Int) + 1)
  obtain ⟨-, -, -, d3, d4, d5, d6, fz1⟩ := r1.cell
  have hw : wrap64 ((T.st : Int) + 1) = (T.st : Int) + 1 := IntWalk.wrap64_in _ (by omega)
  have f3 := fz 3
  have f4 := fz1 4
  have H : Hid (LX w c mf md vj vt lf T) := h
  have R1 : Hid (LC (w.setCell ⟨c, 3, none⟩ (.int .i64 ((T.st : Int) + 1))) c (.map (some mf)) (.map (some md)) vj ((T.st : Int) + 1) lf T.dn vt) := r1
  obtain ⟨l0, l1, hd1, hd0⟩ := h.rel
  clear c0 c1 c2 c4 c5 c6 fz h r1
  cases hdn : T.dn with
  | true =>
    obtain ⟨rfl, hsp⟩ := hd1 hdn
    have hcnt : T.cnt [] = ({ T with st := T.st + 1 }, false) := by unfold TT.cnt; rw [if_neg (by omega), if_neg (by omega), if_pos hdn]
    obtain ⟨U, hU⟩ : ∃ U : TT, U = { T with st := T.st + 1 } := ⟨_, rfl⟩
    rw [← hU] at hcnt
    have hok : TOk U := by have := H.out.ok.cnt []; rw [hcnt] at this; exact this
    have HU : Hid (U = { T with st := T.st + 1 } ∧ TOk U) := ⟨hU, hok⟩
    clear hok hU
    rw [hcnt]
    rw [hdn] at d5
    clear hcnt hd0 hd1
    go_enter Tryz.func51, Tryz.ntmps51
    go_wp2_with fail
    go_ret
    refine ⟨rfl, 0, ?_, Only.set _ _ _ _⟩
    have hok := HU.out.2
    rw [HU.out.1] at hok ⊢
    refine H.out.put (Only.set _ _ _ _) ?_ rfl rfl rfl rfl H.out.rel hok
    have := R1.out
    unfold LC at this
    rw [this]
    simp
  | false =>
    rw [hdn] at d5
    rcases hd0 hdn with ⟨hl, hsp⟩ | ⟨hl, hsp⟩
    · have hcnt : T.cnt [] = ({ T with st := T.st + 1 }, true) := by unfold TT.cnt; rw [if_pos hsp]
      obtain ⟨U, hU⟩ : ∃ U : TT, U = { T with st := T.st + 1 } := ⟨_, rfl⟩
      rw [← hU] at hcnt
      have hok : TOk U := by have := H.out.ok.cnt []; rw [hcnt] at this; exact this
      have HU : Hid (U = { T with st := T.st + 1 } ∧ TOk U) := ⟨hU, hok⟩
      clear hok hU
      have hg : decide ((0 : Int) < lf) = false := by simp; omega
      have hg2 : ¬ ((0 : Int) < lf) := by omega
      rw [hcnt]
      clear hcnt hd0 hd1 hl
      go_enter Tryz.func51, Tryz.ntmps51
      go_wp2_with fail
      go_ret
      refine ⟨rfl, lf, ?_, Only.set _ _ _ _⟩
      have hok := HU.out.2
      rw [HU.out.1] at hok ⊢
      refine H.out.put (Only.set _ _ _ _) ?_ rfl rfl rfl rfl H.out.rel hok
      have := R1.out
      unfold LC at this
      rw [this]
      simp
    · have hg : decide ((0 : Int) < lf) = true := by simp; omega
      have hg2 : (0 : Int) < lf := by omega
      have hw2 : wrap64 (lf - 1) = lf - 1 := IntWalk.wrap64_in _ (by omega)
      have r2 := R1.out.set4 (st' := lf - 1)
      obtain ⟨-, -, -, e3, e4, e5, e6, fz2⟩ := r2.cell
      have f5 := fz2 5
      by_cases h1 : lf = 1
      · have hcnt : T.cnt [] = ({ T with st := T.st + 1, dn := true, tn := [] }, false) := by unfold TT.cnt; rw [if_neg (by omega), if_neg (by omega), if_neg (by simp [hdn])]
        obtain ⟨U, hU⟩ : ∃ U : TT, U = { T with st := T.st + 1, dn := true, tn := [] } := ⟨_, rfl⟩
        rw [← hU] at hcnt
        have hok : TOk U := by have := H.out.ok.cnt []; rw [hcnt] at this; exact this
        have HU : Hid (U = { T with st := T.st + 1, dn := true, tn := [] } ∧ TOk U) := ⟨hU, hok⟩
        clear hok hU
        have R3 : Hid (LC (((w.setCell ⟨c, 3, none⟩ (.int .i64 ((T.st : Int) + 1))).setCell ⟨c, 4, none⟩ (.int .i64 (lf - 1))).setCell ⟨c, 5, none⟩ (.bool true)) c (.map (some mf)) (.map (some md)) vj ((T.st : Int) + 1) (lf - 1) true vt) := r2.set5
        have hz0 : (lf - 1 == 0) = true := by simp; omega
        have h5 := R3.out.cell.2.2.2.2.2.1
        rw [hcnt]
        clear hcnt hd0 hd1 hl r2 fz1 fz2
        have HL : Hid (lf = 1 ∧ T.sp = lf ∧ T.dn = false) := ⟨h1, hsp, hdn⟩
        clear h1 hsp hdn
        go_enter Tryz.func51, Tryz.ntmps51
        go_wp2_with fail
        go_ret
        refine ⟨rfl, lf - 1, ?_, ((Only.set _ _ _ _).trans (Only.set _ _ _ _)).trans (Only.set _ _ _ _)⟩
        have hok := HU.out.2
        rw [HU.out.1] at hok ⊢
        refine H.out.put (((Only.set _ _ _ _).trans (Only.set _ _ _ _)).trans (Only.set _ _ _ _)) ?_ rfl rfl rfl (H.out.ok.tn0 HL.out.2.2).symm ⟨by omega, by omega, fun _ => ⟨?_, ?_⟩, fun e => by cases e⟩ hok
        · have := R3.out
          unfold LC at this
          rw [this]
          simp
        · have := HL.out.1; omega
        · have := HL.out.1; have := HL.out.2.1; show T.sp = 1; omega
      · have hcnt : T.cnt [] = ({ T with st := T.st + 1, sp := T.sp - 1 }, true) := by unfold TT.cnt; rw [if_neg (by omega), if_pos (by omega)]
        obtain ⟨U, hU⟩ : ∃ U : TT, U = { T with st := T.st + 1, sp := T.sp - 1 } := ⟨_, rfl⟩
        rw [← hU] at hcnt
        have hok : TOk U := by have := H.out.ok.cnt []; rw [hcnt] at this; exact this
        have HU : Hid (U = { T with st := T.st + 1, sp := T.sp - 1 } ∧ TOk U) := ⟨hU, hok⟩
        clear hok hU
        have R3 : Hid (LC (((w.setCell ⟨c, 3, none⟩ (.int .i64 ((T.st : Int) + 1))).setCell ⟨c, 4, none⟩ (.int .i64 (lf - 1))).setCell ⟨c, 5, none⟩ (.bool false)) c (.map (some mf)) (.map (some md)) vj ((T.st : Int) + 1) (lf - 1) false vt) := r2.set5
        have hz0 : (lf - 1 == 0) = false := by simp; omega
        have h5 := R3.out.cell.2.2.2.2.2.1
        rw [hcnt]
        clear hcnt hd0 hd1 r2 fz1 fz2
        have HL : Hid (1 < lf ∧ T.sp = lf ∧ T.dn = false) := ⟨by omega, hsp, hdn⟩
        clear h1 hsp hdn hl
        go_enter Tryz.func51, Tryz.ntmps51
        go_wp2_with fail
        go_ret
        refine ⟨rfl, lf - 1, ?_, ((Only.set _ _ _ _).trans (Only.set _ _ _ _)).trans (Only.set _ _ _ _)⟩
        have hok := HU.out.2
        rw [HU.out.1] at hok ⊢
        refine H.out.put (((Only.set _ _ _ _).trans (Only.set _ _ _ _)).trans (Only.set _ _ _ _)) ?_ rfl rfl rfl rfl ⟨by omega, by omega, fun e => ?_, fun _ => .inr ⟨?_, ?_⟩⟩ hok
        · have := R3.out
          unfold LC at this
          rw [this]
          simp [HL.out.2.2]
        · exact absurd (HL.out.2.2.symm.trans e) (by decide)
        · have := HL.out.1; omega
        · have := HL.out.2.1; show T.sp - 1 = lf - 1; omega
end Go.Proofs.YtlkkmcibjhoneaaGreatDoor

namespace Go.Proofs.YtlkkmcibjhoneaaGreatDoor
open Go.RowKit Go.Maps

set_option maxRecDepth 100000 in
set_option maxHeartbeats 4000000 in
theorem at_any {w : World} {c mf md : Nat} {vj vt : Value} {lf : Int} {T : TT} (h : LX w c mf md vj vt lf T) (p : List UInt8) (hp : Lk p) :
    Calls Tryz.prog 58 #[.pointer (some ⟨c, 0, none⟩), .string (bs p)] w fun e w' => e = .returned (.agg #[.bool (hasF T.fs p), .bool (hasD T.ds p)]) ∧ Below w.heap.size w w' := by
  obtain ⟨a, ha⟩ : ∃ a, hasF T.fs p = a := ⟨_, rfl⟩
  obtain ⟨b, hb⟩ : ∃ b, hasD T.ds p = b := ⟨_, rfl⟩
  obtain ⟨z, hz⟩ : ∃ z, at_ cF (fF T.fs p) = z := ⟨_, rfl⟩
  obtain ⟨y, hy⟩ : ∃ y, at_ cI (dF T.fs T.ds p) = y := ⟨_, rfl⟩
  rw [ha, hb]
  have hl1 := (h.fl.later (balloc w (.cells #[.bool false, .bool false] 95))).look hp true
  rw [hz, fF_has, ha] at hl1
  obtain ⟨zp, zt, zb, zs⟩ := z
  have hl1' : (Instr.lookup 70 (.map (some mf)) (.string (bs p)) true).run Tryz.prog (w.alloc (.cells #[.bool false, .bool false] 95)) = .ok (.tuple #[.agg #[.string (bs zp), .string (bs zt), .int .i64 zb, .int .i64 zs], .bool a]) (w.alloc (.cells #[.bool false, .bool false] 95)) := hl1
  have hl2 : ∀ W : World, W.heap[md]? = w.heap[md]? → (Instr.lookup 71 (.map (some md)) (.string (bs p)) true).run Tryz.prog W = .ok (.tuple #[.int .i64 y, .bool b]) W := fun W e => by
    have := (h.dr.block e).look hp true
    rw [hy, dF_has, hb] at this
    exact this
  obtain ⟨c0, c1, -⟩ := h.cells
  have e0 := ((balloc w (.cells #[.bool false, .bool false] 95)).cell (p := ⟨c, 0, none⟩) h.clt).trans c0
  have hb2 : Below w.heap.size w ((w.alloc (.cells #[.bool false, .bool false] 95)).alloc (.cells #[.string (bs zp), .string (bs zt), .int .i64 zb, .int .i64 zs] 31)) := bstep (balloc _ _) (balloc _ _)
  have e1 : ((w.alloc (.cells #[.bool false, .bool false] 95)).alloc (.cells #[.string (bs zp), .string (bs zt), .int .i64 zb, .int .i64 zs] 31)).cell? ⟨c, 1, none⟩ = some (.map (some md)) := (hb2.cell (p := ⟨c, 1, none⟩) h.clt).trans c1
  have hl3 := hl2 ((w.alloc (.cells #[.bool false, .bool false] 95)).alloc (.cells #[.string (bs zp), .string (bs zt), .int .i64 zb, .int .i64 zs] 31)) (hb2.block md h.dr.lt)
  have HB : Hid (Below w.heap.size w ((w.alloc (.cells #[.bool false, .bool false] 95)).alloc (.cells #[.string (bs zp), .string (bs zt), .int .i64 zb, .int .i64 zs] 31))) := hb2
  clear h hl1 hl2 ha hb hz hy c0 c1 hb2
  go_enter Tryz.func58, Tryz.ntmps58
  go_wp2_with fail
  refine bodyPost_ret (results_cell_row rfl _ _ w.heap.size 95 #[.bool a, .bool b] (0, 0) _ rfl ((heap_alloc_old _ _ (by simp)).trans (heap_alloc_new _ _)) Tryz.underlying95 rfl (by kernel_rfl)) rfl ?_
  exact ⟨rfl, bstep (balloc _ _) (balloc _ _)⟩
/-- two such answers, compared -/
theorem eql_there (a b a' b' : Bool) (w : World) : (binOp .eql 95 (.agg #[.bool a, .bool b]) (.agg #[.bool a', .bool b'])).run Tryz.prog w = .ok (.bool (a == a' && b == b')) w := by
  cases a <;> cases b <;> cases a' <;> cases b' <;> kernel_rfl
theorem neq_there (a b a' b' : Bool) (w : World) : (binOp .neq 95 (.agg #[.bool a, .bool b]) (.agg #[.bool a', .bool b'])).run Tryz.prog w = .ok (.bool (!(a == a' && b == b'))) w := by
  cases a <;> cases b <;> cases a' <;> cases b' <;> kernel_rfl
theorem Ev.cells {w : World} (h : Ev w) : w.cell? ⟨0, 0, none⟩ = some (.bool false) ∧ w.cell? ⟨0, 1, none⟩ = some (.bool false) ∧ w.cell? ⟨1, 0, none⟩ = some (.bool false) ∧ w.cell? ⟨1, 1, none⟩ = some (.bool true) ∧ w.cell? ⟨2, 0, none⟩ = some (.bool true) ∧ w.cell? ⟨2, 1, none⟩ = some (.bool false) := by
  refine ⟨?_, ?_, ?_, ?_, ?_, ?_⟩ <;> simp [World.cell?, h.n, h.d, h.f]
end Go.Proofs.YtlkkmcibjhoneaaGreatDoor

namespace Go.Proofs.YtlkkmcibjhoneaaGreatDoor
open Go.RowKit Go.Maps

theorem cin_le (fs : List Fl) (ds : List (List UInt8)) (k : List UInt8) : cin fs ds k ≤ fs.length + ds.length := by
  unfold cin
  have h1 := List.countP_le_length (p := fun p => dir p == k) (l := fs.map Fl.path)
  have h2 := List.countP_le_length (p := fun d => dir d == k) (l := ds)
  rw [List.length_map] at h1
  omega
theorem hasD_ins (ds : List (List UInt8)) (p k : List UInt8) : hasD (ins p ds) k = (k == p || hasD ds k) := by
  rw [Bool.eq_iff_iff]
  simp only [hasD, Bool.or_eq_true, beq_iff_eq, decide_eq_true_eq, mem_ins]
  constructor
  · rintro (h | h | h)
    · exact .inr (.inl h)
    · exact .inl h
    · exact .inr (.inr h)
  · rintro (h | h | h)
    · exact .inr (.inl h)
    · exact .inl h
    · exact .inr (.inr h)
theorem dF_mk {T : TT} (h : TOk T) {p : List UInt8} (hp : hasD T.ds p = false) (hd : hasD T.ds (dir p) = true) (k : List UInt8) :
    (if k = dir p then some ((cin T.fs T.ds (dir p) : Int) + 1) else if k = p then some 0 else dF T.fs T.ds k) = dF T.fs (ins p T.ds) k := by
  have hne : p ≠ [] := by rintro rfl; simp [hasD] at hp
  have hn : p ∉ T.ds := fun hm => by simp [hasD, hm] at hp
  unfold dF
  rw [hasD_ins, cin_dir hn]
  by_cases e1 : k = dir p
  · subst e1
    simp [hd]
  · by_cases e2 : k = p
    · subst e2
      have : ¬ dir k = k := dir_ne hne
      simp [e1, this, cin_none h hp]
    · have : ¬ dir p = k := fun e => e1 e.symm
      simp [e1, e2, this]
theorem dF_wr {T : TT} (h : TOk T) {f : Fl} (hf : hasF T.fs f.path = false) (hd : hasD T.ds (dir f.path) = true) (k : List UInt8) :
    (if k = dir f.path then some ((cin T.fs T.ds (dir f.path) : Int) + 1) else dF T.fs T.ds k) = dF (insF f T.fs) T.ds k := by
  unfold dF
  rw [cin_file h.fu, hf]
  by_cases e1 : k = dir f.path
  · subst e1; simp [hd]
  · have : ¬ dir f.path = k := fun e => e1 e.symm
    simp [e1, this]
theorem dF_wr' {T : TT} (h : TOk T) {f : Fl} (hf : hasF T.fs f.path = true) (k : List UInt8) : dF T.fs T.ds k = dF (insF f T.fs) T.ds k := by
  unfold dF
  rw [cin_file h.fu, hf]
  simp
theorem dF_dl {T : TT} (h : TOk T) {p : List UInt8} (hf : hasF T.fs p = true) (hd : hasD T.ds (dir p) = true) (k : List UInt8) :
    (if k = dir p then some ((cin T.fs T.ds (dir p) : Int) - 1) else dF T.fs T.ds k) = dF (T.fs.filter (fun f => !(f.path == p))) T.ds k := by
  unfold dF
  have := cin_del (ds := T.ds) h.fu hf k
  by_cases e1 : k = dir p
  · subst e1
    simp only [if_true, hd]
    rw [this]
    simp
  · have e2 : ¬ dir p = k := fun e => e1 e.symm
    rw [if_neg e2] at this
    simp only [e1, if_false, this, Nat.add_zero]
theorem hasD_rm (ds : List (List UInt8)) (p k : List UInt8) (hp : p ≠ []) : hasD (ds.filter (fun d => !(d == p))) k = (hasD ds k && !(k == p)) := by
  rw [Bool.eq_iff_iff]
  simp only [hasD, Bool.or_eq_true, Bool.and_eq_true, beq_iff_eq, decide_eq_true_eq, List.mem_filter, Bool.not_eq_true', beq_eq_false_iff_ne]
  constructor
  · rintro (rfl | ⟨h1, h2⟩)
    · exact ⟨.inl rfl, fun e => hp e.symm⟩
    · exact ⟨.inr h1, h2⟩
  · rintro ⟨rfl | h1, h2⟩
    · exact .inl rfl
    · exact .inr ⟨h1, h2⟩
theorem dF_rm {T : TT} (h : TOk T) {p : List UInt8} (hp : p ∈ T.ds) (k : List UInt8) :
    (if k = dir p then some ((cin T.fs T.ds (dir p) : Int) - 1) else if k = p then none else dF T.fs T.ds k) = dF T.fs (T.ds.filter (fun d => !(d == p))) k := by
  have hne := (h.de p hp).1
  have hd := h.dd p hp
  have hdn := dir_ne hne
  unfold dF
  rw [hasD_rm _ _ _ hne]
  have := cin_rm (fs := T.fs) h.du hp k
  by_cases e1 : k = dir p
  · subst e1
    simp only [if_true, hd, Bool.true_and]
    rw [this]
    simp [hdn]
  · have e2 : ¬ dir p = k := fun e => e1 e.symm
    rw [if_neg e2] at this
    by_cases e3 : k = p
    · subst e3; simp [Ne.symm hdn]
    · simp [e1, e3, this]
section
variable {w w' : World} {c mf md : Nat} {vj vt : Value} {lf : Int} {T : TT}
/-- the maps are turned -/
theorem LX.maps (h : LX w c mf md vj vt lf T) {T' : TT} (ho : Only [mf, md] w w') (hf : MP cF w' mf (fF T'.fs) T'.fs.length) (hd : MP cI w' md (dF T'.fs T'.ds) (T'.ds.length + 1))
    (e : T' = { T with fs := T'.fs, ds := T'.ds }) (hok : TOk T') : LX w' c mf md vj vt lf T' := by
  have hs : ∀ k, LB c mf md vj vt k → k ≠ mf → k ≠ md → w'.heap[k]? = w.heap[k]? := fun k hk h1 h2 => ho.block k (h.blt k hk) (by simp [h1, h2])
  have ⟨n1, n2⟩ := h.cm
  have e1 : T'.st = T.st := by rw [e]
  have e2 : T'.dn = T.dn := by rw [e]
  have e3 : T'.jl = T.jl := by rw [e]
  have e4 : T'.tn = T.tn := by rw [e]
  have e5 : T'.sp = T.sp := by rw [e]
  refine ⟨by rw [e1, e2]; exact (hs c (.inl rfl) n1 n2).trans h.blk, hf, hd, ?_, ?_, by rw [e5, e2]; exact h.rel, h.low, h.nm, h.nj, hok, h.ev.only ho (by simpa using ⟨h.low.2.1, h.low.2.2.1⟩)⟩
  · rw [e3]; exact row_stay h.jo (fun k hk => hs k (.inr (.inr (.inr (.inl hk)))) (h.row_ne h.jo k hk).2.1 (h.row_ne h.jo k hk).2.2)
  · rw [e4]; exact row_stay h.ton (fun k hk => hs k (.inr (.inr (.inr (.inr hk)))) (h.row_ne h.ton k hk).2.1 (h.row_ne h.ton k hk).2.2)
end
theorem Only.wide {S S' : List Nat} {w w' : World} (h : Only S w w') (hS : ∀ k ∈ S, k ∈ S') : Only S' w w' := ⟨h.os, h.tape, h.output, h.size, fun k hk hn => h.block k hk (fun hm => hn (hS k hm))⟩
theorem okP_lk {p : List UInt8} (h : okP p = true) : Lk p := by have := (okP_len h).1; unfold Lk; omega
theorem dir_le (p : List UInt8) : (dir p).length ≤ p.length := by
  by_cases h : p = []
  · subst h; simp [dir_nil]
  · exact Nat.le_of_lt (dir_lt h)
theorem lk_dir {p : List UInt8} (h : Lk p) : Lk (dir p) := Nat.le_trans (dir_le p) h
theorem wrapIn {x : Int} (h0 : -9223372036854775808 ≤ x) (h1 : x ≤ 9223372036854775807) : IntKind.i64.wrap x = x := by rw [IntKind.wrap_i64]; omega
set_option maxRecDepth 100000 in
set_option maxHeartbeats 8000000 in
theorem addDir_any {w : World} {c mf md : Nat} {vj vt : Value} {lf : Int} {T : TT} (h : LX w c mf md vj vt lf T) (p : List UInt8) (hp : mkB T p = true) (hz : T.fs.length + T.ds.length ≤ 100000000) :
    Calls Tryz.prog 59 #[.pointer (some ⟨c, 0, none⟩), .string (bs p)] w fun e w' => e = .returned (.tuple #[]) ∧ LX w' c mf md vj vt lf { T with ds := ins p T.ds } ∧ Only [mf, md] w w' := by
  have hp' := hp
  simp only [mkB, Bool.and_eq_true, Bool.not_eq_true'] at hp
  obtain ⟨⟨⟨hpo, hnf⟩, hnd⟩, hdd⟩ := hp
  have hlk := okP_lk hpo
  have hne : p ≠ [] := by rintro rfl; simp [hasD] at hnd
  obtain ⟨w1, r1, m1, o1, s1⟩ := h.dr.store hlk (by omega) 0
  have g1 : (dF T.fs T.ds p).isSome = false := by rw [dF_has]; exact hnd
  rw [g1] at m1
  have m1d : MP cI w1.drew md (fun y => if y = p then some 0 else dF T.fs T.ds y) (T.ds.length + 1 + 1) := m1.later (Below.refl _ _).drew
  have hle := cin_le T.fs T.ds (dir p)
  obtain ⟨n, hn⟩ : ∃ n, cin T.fs T.ds (dir p) = n := ⟨_, rfl⟩
  have gd : (if dir p = p then some 0 else dF T.fs T.ds (dir p)) = some (n : Int) := by
    rw [if_neg (dir_ne hne)]; unfold dF; rw [if_pos hdd, hn]
  have l2 := m1d.look (lk_dir hlk) false
  simp only [gd, at_, Option.getD_some] at l2
  obtain ⟨w2, r2, m2, o2, s2⟩ := m1d.store (lk_dir hlk) (by omega) ((n : Int) + 1)
  simp only [gd, Option.isSome_some, if_true] at m2
  have hl2 : (Instr.lookup 71 (.map (some md)) (.string (bs (dir p))) false).run Tryz.prog w1.drew = .ok (.int .i64 n) w1.drew := l2
  have hr1 : (Instr.mapUpdate 71 (.map (some md)) (.string (bs p)) (.int .i64 0)).run Tryz.prog w = .ok () w1 := r1
  have hw : wrap64 ((n : Int) + 1) = (n : Int) + 1 := IntWalk.wrap64_in _ (by omega)
  have hr2 : (Instr.mapUpdate 71 (.map (some md)) (.string (bs (dir p))) (.int .i64 (IntKind.i64.wrap ((n : Int) + 1)))).run Tryz.prog w1.drew = .ok () w2 := by
    rw [wrapIn (by omega) (by omega)]; exact r2
  obtain ⟨c0, c1, -⟩ := h.cells
  have d1 : w1.cell? ⟨c, 1, none⟩ = some (.map (some md)) := (cell_stay (o1.block c h.clt (by simpa using h.cm.2)) 1).trans c1
  have hok : TOk ({ T with ds := ins p T.ds } : TT) := by
    have := h.ok.mkG p
    unfold mkG at this
    rw [if_pos hp'] at this
    exact this
  have H : Hid (LX w2 c mf md vj vt lf { T with ds := ins p T.ds } ∧ Only [mf, md] w w2) := by
    have ho : Only [mf, md] w w2 := (o1.wide (by simp)).trans ((Only.of_below ((Below.refl w1.heap.size w1).drew) [mf, md]).trans (o2.wide (by simp)))
    have hmf : w2.heap[mf]? = w.heap[mf]? := by
      have a1 := o1.block mf h.fl.lt (by simpa using h.nm)
      have a2 := o2.block mf (by have := h.fl.lt; show mf < w1.heap.size; omega) (by simpa using h.nm)
      exact a2.trans a1
    refine ⟨h.maps ho (h.fl.block hmf) ?_ rfl hok, ho⟩
    have hlen : (ins p T.ds).length = T.ds.length + 1 := by
      have hn : p ∉ T.ds := fun hm => by simp [hasD, hm] at hnd
      simpa using (ins_perm hn).length_eq
    rw [hlen]
    refine m2.congr (fun k _ => ?_)
    have := dF_mk h.ok hnd hdd k
    rw [hn] at this
    exact this
  have HP : Hid (p.length ≤ 9223372036854775807) := by unfold Lk at hlk; show p.length ≤ 9223372036854775807; omega
  clear h hp' hpo hnf hnd hdd hlk hne r1 m1 o1 s1 g1 m1d hle hn gd l2 r2 m2 o2 s2 c0 hok
  go_enter Tryz.func59, Tryz.ntmps59
  go_wp2_with fail
  refine wp_region_noPanic ?_
  go_region_with (go_at_call 25; refine (dir_any p _ HP.out).mono ?_; rintro e wq ⟨rfl, rfl⟩)
  all_goals
    refine NoPanic.normal ?_
    go_wp2_with fail
    go_end0
    exact ⟨rfl, H.out⟩
end Go.Proofs.YtlkkmcibjhoneaaGreatDoor
