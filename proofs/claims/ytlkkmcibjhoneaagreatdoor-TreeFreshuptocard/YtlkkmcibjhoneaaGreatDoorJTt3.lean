/-
  Find.
  What TreeSound asks, plain.
-/
import Derived.Test.YtlkkmcibjhoneaaGreatDoorJFq
import Derived.Test.YtlkkmcibjhoneaaGreatDoorJLent
import Derived.Test.YtlkkmcibjhoneaaGreatDoorJTo
namespace Go.Proofs.YtlkkmcibjhoneaaGreatDoor
open Go.RowKit

def fnd (l : List Fl) (J : List UInt8) : Option Fl := l.find? (fun f => decide (f.path = J))
theorem results_ct {P : Program} {fn : Func} {p u : Tmp} {ty : TypeId} (h : fn.results = #[.cell p ty, .tmp u]) (tmps : Array Value) (w : World) (g : Nat) (t : TypeId) (cs : Array Value) (fr : Nat × Nat) (d : TypeDesc)
    (hp : tmps.getD p undef = .pointer (some ⟨g, 0, none⟩)) (hg : w.heap[g]? = some (.cells cs t fr))
    (hu : P.underlying ty = some d) (hd : (match d with | .struct _ | .array _ _ => true | _ => false) = true) (hi : (P.info? ty).map (·.size) = some cs.size) :
    (results fn tmps).run P w = .ok (.tuple #[.agg cs, tmps.getD u undef]) w := by
  rw [results_cell_tmp h]
  rw [hp]
  simp only [asAddr, Sem.run_pure, Result.andThen_ok]
  rw [run_loadVar_row w g t ty cs fr d hg hu hd hi]
  rfl
theorem bset4 {B : Nat} {w w' : World} {g : Nat} (hb : Below B w w') (hg : B ≤ g) (a b c d : Value) :
    Below B w ((((w'.setCell ⟨g, 0, none⟩ a).setCell ⟨g, 1, none⟩ b).setCell ⟨g, 2, none⟩ c).setCell ⟨g, 3, none⟩ d) :=
  (((hb.setCell (p := ⟨g, 0, none⟩) hg _).setCell (p := ⟨g, 1, none⟩) hg _).setCell (p := ⟨g, 2, none⟩) hg _).setCell (p := ⟨g, 3, none⟩) hg _
def zf : Fl := ⟨[], [], 0, 0⟩
structure FQ (l : List Fl) : Prop where
  len : l.length ≤ 4000000
  each : ∀ f ∈ l, Fok f
  path : ∀ f ∈ l, f.path.length ≤ 100000000
/-- a file that a call gives, in a block of its own -/
structure RBf (w : World) (g : Nat) (f : Fl) : Prop where
  blk : w.heap[g]? = some (.cells #[.string (bs f.path), .string (bs f.text), .int .i64 f.blob, .int .i64 f.size] 31 (0, 0))
theorem RBf.lt {w : World} {g : Nat} {f : Fl} (h : RBf w g f) : g < w.heap.size := (Array.getElem?_eq_some_iff.1 h.blk).1
theorem RBf.later {w w' : World} {g : Nat} {f : Fl} (h : RBf w g f) (hb : Below w.heap.size w w') : RBf w' g f := ⟨(hb.block g h.lt).trans h.blk⟩
theorem RBf.new (w : World) (f : Fl) : RBf (w.alloc (.cells #[.string (bs f.path), .string (bs f.text), .int .i64 f.blob, .int .i64 f.size] 31)) w.heap.size f := ⟨heap_alloc_new _ _⟩
theorem RBf.cells {w : World} {g : Nat} {f : Fl} (h : RBf w g f) : w.cell? ⟨g, 0, none⟩ = some (.string (bs f.path)) ∧ w.cell? ⟨g, 1, none⟩ = some (.string (bs f.text)) ∧ w.cell? ⟨g, 2, none⟩ = some (.int .i64 f.blob) ∧ w.cell? ⟨g, 3, none⟩ = some (.int .i64 f.size) ∧
    w.frozen? ⟨g, 0, none⟩ = false ∧ w.frozen? ⟨g, 1, none⟩ = false ∧ w.frozen? ⟨g, 2, none⟩ = false ∧ w.frozen? ⟨g, 3, none⟩ = false := by
  have hb := h.blk
  exact ⟨by simp [World.cell?, hb], by simp [World.cell?, hb], by simp [World.cell?, hb], by simp [World.cell?, hb], by simp [World.frozen?, hb], by simp [World.frozen?, hb], by simp [World.frozen?, hb], by simp [World.frozen?, hb]⟩
theorem RBf.set {w : World} {g : Nat} {f : Fl} (h : RBf w g f) (k : Fl) :
    RBf ((((w.setCell ⟨g, 0, none⟩ (.string (bs k.path))).setCell ⟨g, 1, none⟩ (.string (bs k.text))).setCell ⟨g, 2, none⟩ (.int .i64 k.blob)).setCell ⟨g, 3, none⟩ (.int .i64 k.size)) g k := by
  refine ⟨?_⟩
  rw [heap_setCell _ _ _ _ (heap_setCell _ _ _ _ (heap_setCell _ _ _ _ (heap_setCell _ _ _ _ h.blk)))]
  simp
def fopt (o : Option Fl) : Fl := match o with | some f => f | none => zf
theorem fnd_step (l : List Fl) (k : Nat) (h : k < l.length) (p : List UInt8) : fnd (l.drop k) p = if (l[k]'h).path = p then some (l[k]'h) else fnd (l.drop (k + 1)) p := by
  rw [List.drop_eq_getElem_cons h]
  unfold fnd
  rw [List.find?_cons]
  by_cases hp : (l[k]'h).path = p
  · simp [hp]
  · simp [hp]

set_option maxRecDepth 100000 in
set_option maxHeartbeats 4000000 in
theorem find_any {w : World} {v : Value} {l : List Fl} (q : List UInt8) (h : FS w v l) (sm : FQ l) :
    Calls Tryz.prog 30 #[v, .string (bs q)] w fun e w' => e = .returned (.tuple #[(fopt (fnd l q)).val, .bool (fnd l q).isSome]) ∧ Below w.heap.size w w' := by
  obtain ⟨r, hr⟩ : ∃ r, fnd l q = r := ⟨_, rfl⟩
  rw [hr]
  have HR : Hid (fnd (l.drop 0) q = r) := hr
  have H : Hid (FS w v l) := h
  have hlen : l.length ≤ 4000000 := sm.len
  clear hr sm
  obtain ⟨a, c, rfl, _⟩ := h.form
  clear h
  obtain ⟨n, hn⟩ : ∃ n, l.length = n := ⟨_, rfl⟩
  have H' : Hid (FS w (.slice a l.length c) l) := H.out
  clear H
  rw [hn] at hlen ⊢
  have HN : Hid (l.length = n) := hn
  clear hn
  obtain ⟨A, hA⟩ : ∃ A, Value.tuple #[(fopt r).val, .bool r.isSome] = A := ⟨_, rfl⟩
  rw [hA]
  have HA : Hid (Value.tuple #[(fopt r).val, .bool r.isSome] = A) := hA
  clear hA
  rename_i hform
  clear hform
  have hq := bs_toList q
  go_enter Tryz.func30, Tryz.ntmps30
  go_wp2_with fail
  go_loopw [10] (fun i wr => ∃ k : Nat, k ≤ n ∧ i = .int .i64 k ∧ Below w.heap.size w wr ∧ RBf wr w.heap.size zf ∧ fnd (l.drop k) q = r) (fun i _ => n - (intOf i).toNat)
  case atStart => exact ⟨0, by omega, rfl, balloc _ _, RBf.new w zf, HR.out⟩
  case round =>
    obtain ⟨k, hk, rfl, hb, hrb, hl⟩ := hrel
    have HB : Hid (Below w.heap.size w wr) := hb
    have HZ : Hid (RBf wr w.heap.size zf) := hrb
    have HL : Hid (fnd (l.drop k) q = r) := hl
    have hlt0 := hrb.lt
    clear hb hl hrb
    by_cases hlt : k < n
    · have hkl : k < l.length := by have := HN.out; omega
      obtain ⟨b, off, ea, hbw, d0, d1, d2, d3⟩ := FS.at H'.out HB.out hkl
      subst ea
      obtain ⟨f, hf⟩ : ∃ f, l[k] = f := ⟨_, rfl⟩
      rw [hf] at d0 d1 d2 d3
      have HS2 : Hid ((if f.path = q then some f else fnd (l.drop (k + 1)) q) = r) := by
        have h1 := HL.out
        rw [fnd_step l k hkl, hf] at h1; exact h1
      clear hf
      obtain ⟨p, t, bl, s⟩ := f
      simp only at d0 d1 d2 d3 HS2
      have k1 : (0 : Int) ≤ (k : Int) := by omega
      have k2 : (k : Int) < (n : Int) := by omega
      have hp := bs_toList p
      have Z1 : Hid (RBf (wr.alloc (.cells #[.string (bs p), .string (bs t), .int .i64 bl, .int .i64 s] 31)) w.heap.size zf) := HZ.out.later (balloc _ _)
      obtain ⟨z0, z1, z2, z3, y0, y1, y2, y3⟩ := HZ.out.cells
      by_cases hpq : p = q
      · have hd : (p == q) = true := by simpa using hpq
        have HPQ : Hid (p = q) := hpq
        clear hpq
        go_wp2_with fail
        refine bodyPost_ret (results_ct rfl _ _ w.heap.size 31 #[.string (bs p), .string (bs t), .int .i64 bl, .int .i64 s] (0, 0) _ rfl ?_ Tryz.underlying31 rfl (by kernel_rfl)) rfl ?_
        · exact ((HZ.out.set ⟨p, t, bl, s⟩).later (balloc _ _)).blk
        refine ⟨?_, ?_⟩
        · have h1 := HS2.out
          rw [if_pos HPQ.out] at h1
          rw [← HA.out, ← h1]; rfl
        · exact below_trans (bset4 HB.out (Nat.le_refl _) _ _ _ _) (below_mono (balloc _ _) (by have := HB.out.size; simp [World.setCell]; omega))
      · have hd : (p == q) = false := by simpa using hpq
        have HPQ : Hid (¬ p = q) := hpq
        clear hpq
        go_wp2_with fail
        go_roundw
        case rel =>
          refine ⟨k + 1, by omega, by go_num, bstep HB.out (balloc _ _), Z1.out, ?_⟩
          have h1 := HS2.out
          rw [if_neg HPQ.out] at h1
          exact h1
        case measure => simp [intOf]; omega
    · obtain rfl : k = n := by omega
      obtain ⟨z0, z1, z2, z3, y0, y1, y2, y3⟩ := HZ.out.cells
      go_wp2_with fail
      refine bodyPost_ret (results_ct rfl _ _ w.heap.size 31 #[.string (bs []), .string (bs []), .int .i64 0, .int .i64 0] (0, 0) _ rfl ?_ Tryz.underlying31 rfl (by kernel_rfl)) rfl ?_
      · exact (HZ.out.set zf).blk
      refine ⟨?_, bset4 HB.out (Nat.le_refl _) _ _ _ _⟩
      have h1 := HL.out
      rw [List.drop_eq_nil_of_le (by have := HN.out; omega)] at h1
      rw [← HA.out, ← h1]; rfl

end Go.Proofs.YtlkkmcibjhoneaaGreatDoor

namespace Go.Proofs.YtlkkmcibjhoneaaGreatDoor

theorem TOk.op {T : TT} (h : TOk T) (o : Opp) : TOk (opR o T).1 := by
  unfold opR
  split
  · exact h.mk' _
  · split
    · exact h.wr _
    · split
      · exact h.dl _
      · split
        · exact h.rm _
        · split
          · exact h.ap _
          · split
            · exact h.cl
            · exact h
theorem TOk.run : ∀ (l : List Opp) {T : TT}, TOk T → TOk (runT T l)
  | [], _, h => h
  | o :: l, _, h => TOk.run l (h.op o)
theorem op_free {o : Opp} {T : TT} (h : T.sp = 0) : (opR o T).1.sp = 0 := by
  by_cases hs : isS o = true
  · have := (op_both hs (Al.refl T) (by omega) (by omega) (by omega) (by omega)).2.1
    rwa [if_pos h] at this
  · have hn : ¬ (1 ≤ o.kind ∧ o.kind ≤ 6) := fun e => hs (isS_iff.2 e)
    unfold opR
    rw [if_neg (by omega), if_neg (by omega), if_neg (by omega), if_neg (by omega), if_neg (by omega), if_neg (by omega)]
    exact h
theorem run_free : ∀ (l : List Opp) {T : TT}, T.sp = 0 → (runT T l).sp = 0
  | [], _, h => h
  | _ :: l, _, h => run_free l (op_free h)
/-- a step counted -/
def TT.up (T : TT) (k : Nat) : TT := { T with st := T.st + k }
theorem up_up (T : TT) (a b : Nat) : (T.up a).up b = T.up (a + b) := by unfold TT.up; simp [Nat.add_assoc]
theorem cnt_free {T : TT} (h : T.sp = 0) (b : List UInt8) : T.cnt b = (T.up 1, true) := by unfold TT.cnt TT.up; rw [if_pos h]
theorem mk_free {T : TT} (h : T.sp = 0) (p : List UInt8) : T.mk' p = mkG p (T.up 1) := by unfold TT.mk' TT.step; rw [cnt_free h]; rfl
theorem dl_free {T : TT} (h : T.sp = 0) (p : List UInt8) : T.dl p = dlG p (T.up 1) := by unfold TT.dl TT.step; rw [cnt_free h]; rfl
theorem rm_free {T : TT} (h : T.sp = 0) (p : List UInt8) : T.rm p = rmG p (T.up 1) := by unfold TT.rm TT.step; rw [cnt_free h]; rfl
theorem wr_free {T : TT} (h : T.sp = 0) (f : Fl) : T.wr f = wrG f (T.up 1) := by unfold TT.wr TT.step; rw [cnt_free h]; rfl
/-- a directory is not made again, and is no file -/
theorem dir_refused {T : TT} (h : TOk T) (h0 : T.sp = 0) {d : List UInt8} (hd : d ∈ T.ds) : T.mk' d = (T.up 1, 16) ∧ T.dl d = (T.up 1, 16) := by
  rw [mk_free h0, dl_free h0]
  have h1 : hasD T.ds d = true := hasD_iff.2 (.inr hd)
  have h2 : hasF T.fs d = false := by
    cases e : hasF T.fs d with
    | false => rfl
    | true =>
      obtain ⟨f, hf, rfl⟩ := hasF_iff.1 e
      exact absurd hd (h.no f hf)
  constructor
  · unfold mkG mkB
    rw [show (T.up 1).ds = T.ds from rfl, show (T.up 1).fs = T.fs from rfl, h1]
    simp
  · unfold dlG
    rw [show (T.up 1).fs = T.fs from rfl, h2]
    simp
theorem ins_new {x : List UInt8} : ∀ {l : List (List UInt8)}, x ∉ l → (ins x l).length = l.length + 1 ∧ (ins x l).filter (fun d => !(d == x)) = l
  | [], _ => by simp [ins]
  | y :: l, h => by
    have hy : y ≠ x := fun e => h (by simp [e])
    have hl : x ∉ l := fun e => h (by simp [e])
    obtain ⟨h1, h2⟩ := ins_new hl
    have hf : ∀ m : List (List UInt8), x ∉ m → m.filter (fun d => !(d == x)) = m := fun m hm => List.filter_eq_self.2 fun d hd => by
      have : d ≠ x := fun e => hm (e ▸ hd)
      simpa using this
    unfold ins
    split
    · rw [List.filter_cons]
      simp only [beq_self_eq_true, Bool.not_true, Bool.false_eq_true, if_false]
      exact ⟨by simp, hf _ h⟩
    · split
      · rename_i e
        exact absurd (cf_zero.1 e).symm hy
      · rw [List.filter_cons, if_pos (by simpa using hy), h2, List.length_cons, h1]
        exact ⟨by simp, rfl⟩
theorem dir_ne {p : List UInt8} (h : p ≠ []) : dir p ≠ p := fun e => by
  have := dir_lt h
  rw [e] at this
  omega
/-- a new directory comes and goes without a trace -/
theorem mk_rm {T : TT} (h : TOk T) (h0 : T.sp = 0) {p : List UInt8} (hb : mkB T p = true) :
    T.mk' p = ({ T.up 1 with ds := ins p T.ds }, 0) ∧ (ins p T.ds).length = T.ds.length + 1 ∧
    (∀ f : Fl, f.path = p → ({ T.up 1 with ds := ins p T.ds } : TT).wr f = ({ T.up 2 with ds := ins p T.ds }, if fileE f = 0 then 16 else fileE f)) ∧
    ({ T.up 2 with ds := ins p T.ds } : TT).rm p = (T.up 3, 0) := by
  have hb' := hb
  unfold mkB at hb'
  simp only [Bool.and_eq_true, Bool.not_eq_true'] at hb'
  obtain ⟨⟨⟨h1, h2⟩, h3⟩, h4⟩ := hb'
  have hp : p ≠ [] := fun e => by rw [e] at h3; simp [hasD] at h3
  have hn : p ∉ T.ds := fun e => by rw [hasD_iff.2 (.inr e)] at h3; cases h3
  obtain ⟨l1, l2⟩ := ins_new hn
  have hm : hasD (ins p T.ds) p = true := hasD_iff.2 (.inr ((mem_ins p p _).2 (.inl rfl)))
  refine ⟨?_, l1, fun f hf => ?_, ?_⟩
  · rw [mk_free h0]
    unfold mkG
    rw [if_pos (show mkB (T.up 1) p = true from hb)]
    rfl
  · rw [wr_free (show ({ T.up 1 with ds := ins p T.ds } : TT).sp = 0 from h0)]
    unfold wrG wrB
    rw [hf]
    have e2 : ({ T.up 1 with ds := ins p T.ds } : TT).up 1 = { T.up 2 with ds := ins p T.ds } := by unfold TT.up; simp
    rw [e2, show ({ T.up 2 with ds := ins p T.ds } : TT).ds = ins p T.ds from rfl, hm]
    simp
    split <;> rfl
  · rw [rm_free (show ({ T.up 2 with ds := ins p T.ds } : TT).sp = 0 from h0)]
    have e2 : ({ T.up 2 with ds := ins p T.ds } : TT).up 1 = { T.up 3 with ds := ins p T.ds } := by unfold TT.up; simp
    rw [e2]
    unfold rmG
    have hr : rmB { T.up 3 with ds := ins p T.ds } p = true := by
      unfold rmB emp
      simp only [Bool.and_eq_true, Bool.not_eq_true', List.all_eq_true, beq_eq_false_iff_ne]
      refine ⟨⟨hp, hm⟩, fun f hf e => ?_, fun d hd e => ?_⟩
      · have := h.fd f hf
        rw [e, h3] at this
        cases this
      · rcases (mem_ins p d _).1 hd with rfl | hd
        · exact dir_ne hp e
        · have := h.dd d hd
          rw [e, h3] at this
          cases this
    rw [if_pos hr]
    show ((_ : TT), (0 : Int)) = _
    simp only [l2]
    rfl
theorem mk_no {T : TT} (h0 : T.sp = 0) {p : List UInt8} (hb : mkB T p = false) : T.mk' p = (T.up 1, 16) := by
  rw [mk_free h0]
  unfold mkG
  rw [if_neg (by rw [show mkB (T.up 1) p = mkB T p from rfl, hb]; decide)]
theorem TOk.up {T : TT} (h : TOk T) (k : Nat) : TOk (T.up k) := ⟨h.fe, h.fu, h.du, h.de, h.fd, h.dd, h.no, h.sp0, h.dn1, h.tn0⟩
end Go.Proofs.YtlkkmcibjhoneaaGreatDoor
