/-
  Labels in memory; Valid, Print, checked, Parse, In.
-/
import Derived.Test.YtddaoloabfkheaaGreatDoorJCuts
import Derived.Laws.ResultCell
import Derived.Laws.StructEq
import Derived.Deep.RegionHeld3
import Derived.BigQuiet
namespace Go.Proofs.YtddaoloabfkheaaGreatDoor
open Go.RowKit

def Lb.val (l : Lb) : Value := .agg #[.string (bs l.pkg), .string (bs l.name)]
/-- two labels held against each other -/
theorem st23 : Tryz.prog.underlying 92 = some (.struct (Tryz.prog.fieldsOf 92)) := by kernel_rfl
theorem held23 : Tryz.prog.stoodInHeld 92 = false := by kernel_rfl
theorem guard23 : Tryz.prog.eqGuardType Tryz.prog.depth 92 = false := by kernel_rfl
theorem flds23 : (Tryz.prog.fieldsOf 92).toList.map (fun f => (f.name, f.type, f.offset)) = [("Pkg", 9, 0), ("Name", 9, 1)] := by kernel_rfl
theorem u9 : Tryz.prog.underlying 9 = some .string := by kernel_rfl
theorem agg9 (w : World) : (isAgg 9).run Tryz.prog w = .ok false w := by simp [isAgg, run_underlying u9]
theorem equal_run (w : World) (p t p' t' : List UInt8) :
    (Op.equalIn 10000 92 (.agg #[.string (bs p), .string (bs t)]) (.agg #[.string (bs p'), .string (bs t')])).run Tryz.prog w = .ok (decide ((⟨p, t⟩ : Lb) = ⟨p', t'⟩)) w := by
  rw [run_equalIn_struct w 9999 92 _ _ st23 held23]
  have h := flds23
  revert h
  generalize (Tryz.prog.fieldsOf 92).toList = L
  intro h
  have hl : L.length = 2 := by have := congrArg List.length h; simpa using this
  obtain ⟨f0, f1, rfl⟩ : ∃ f0 f1, L = [f0, f1] := by
    rcases L with _ | ⟨f0, _ | ⟨f1, _ | ⟨f2, r⟩⟩⟩
    · simp at hl
    · simp at hl
    · exact ⟨f0, f1, rfl⟩
    · simp at hl
  · simp only [List.map_cons, List.map_nil, List.cons.injEq, Prod.mk.injEq, and_true] at h
    obtain ⟨⟨n0, t0, o0⟩, ⟨n1, t1, o1⟩⟩ := h
    have e9 : ∀ (a c : List UInt8) (w : World), (Op.equalIn 9999 9 (.string (bs a)) (.string (bs c))).run Tryz.prog w = .ok (a == c) w := fun a c w => by
      have := run_equalIn_string (P := Tryz.prog) w 9998 9 (bs a) (bs c) u9
      rw [bs_toList, bs_toList] at this; exact this
    simp only [Op.eqFields, n0, n1, t0, t1, o0, o1]
    have g0 : ("Pkg" : String) ≠ "_" := by decide
    have g1 : ("Name" : String) ≠ "_" := by decide
    simp only [g0, g1, ne_eq, not_false_eq_true, if_true, part, Sem.run_bind, agg9, Result.andThen_ok, Bool.false_eq_true, if_false]
    simp [e9]
    by_cases hp : p = p' <;> by_cases ht : t = t' <;> simp [hp, ht]
theorem eql_run (w : World) (p t p' t' : List UInt8) :
    (binOp .eql 92 (.agg #[.string (bs p), .string (bs t)]) (.agg #[.string (bs p'), .string (bs t')])).run Tryz.prog w = .ok (.bool (decide ((⟨p, t⟩ : Lb) = ⟨p', t'⟩))) w := by
  rw [run_eql_struct, equal_run]; rfl
theorem guard_run (w : World) (op : BinOp) (x y : Operand) (xs ys : Array Value) : (eqGuard op 92 x y (.agg xs) (.agg ys)).run Tryz.prog w = .ok () w := run_eqGuard_agg w op 92 x y xs ys guard23

theorem results_ct {P : Program} {fn : Func} {p u : Tmp} {ty : TypeId} (h : fn.results = #[.cell p ty, .tmp u]) (tmps : Array Value) (w : World) (g : Nat) (t : TypeId) (cs : Array Value) (fr : Nat × Nat) (d : TypeDesc)
    (hp : tmps.getD p undef = .pointer (some ⟨g, 0, none⟩)) (hg : w.heap[g]? = some (.cells cs t fr))
    (hu : P.underlying ty = some d) (hd : (match d with | .struct _ | .array _ _ => true | _ => false) = true) (hi : (P.info? ty).map (·.size) = some cs.size) :
    (results fn tmps).run P w = .ok (.tuple #[.agg cs, tmps.getD u undef]) w := by
  rw [results_cell_tmp h]
  rw [hp]
  simp only [asAddr, Sem.run_pure, Result.andThen_ok]
  rw [run_loadVar_row w g t ty cs fr d hg hu hd hi]
  rfl
theorem heap_setCell (w : World) (g i : Nat) (v : Value) {cur : Array Value} {e : TypeId} {fr : Nat × Nat} (h : w.heap[g]? = some (.cells cur e fr)) :
    (w.setCell ⟨g, i, none⟩ v).heap[g]? = some (.cells (cur.setIfInBounds i v) e fr) := by
  simp [World.setCell, Array.getElem?_modify, h]
/-- a label in a block of its own -/
structure RB (w : World) (g : Nat) (l : Lb) : Prop where
  blk : w.heap[g]? = some (.cells #[.string (bs l.pkg), .string (bs l.name)] 92 (0, 0))
theorem RB.lt {w : World} {g : Nat} {f : Lb} (h : RB w g f) : g < w.heap.size := (Array.getElem?_eq_some_iff.1 h.blk).1
theorem RB.below {w w' : World} {g : Nat} {f : Lb} {B : Nat} (h : RB w g f) (hb : Below B w w') (hg : g < B) : RB w' g f := ⟨(hb.block g hg).trans h.blk⟩
theorem RB.later {w w' : World} {g : Nat} {f : Lb} (h : RB w g f) (hb : Below w.heap.size w w') : RB w' g f := h.below hb h.lt
theorem RB.new (w : World) (f : Lb) : RB (w.alloc (.cells #[.string (bs f.pkg), .string (bs f.name)] 92)) w.heap.size f := ⟨heap_alloc_new _ _⟩
theorem RB.cells {w : World} {g : Nat} {f : Lb} (h : RB w g f) : w.cell? ⟨g, 0, none⟩ = some (.string (bs f.pkg)) ∧ w.cell? ⟨g, 1, none⟩ = some (.string (bs f.name)) ∧
    w.frozen? ⟨g, 0, none⟩ = false ∧ w.frozen? ⟨g, 1, none⟩ = false := by
  have hb := h.blk
  exact ⟨by simp [World.cell?, hb], by simp [World.cell?, hb], by simp [World.frozen?, hb], by simp [World.frozen?, hb]⟩
theorem RB.set {w : World} {g : Nat} {f : Lb} (h : RB w g f) (k : Lb) :
    RB ((w.setCell ⟨g, 0, none⟩ (.string (bs k.pkg))).setCell ⟨g, 1, none⟩ (.string (bs k.name))) g k := by
  refine ⟨?_⟩
  rw [heap_setCell _ _ _ _ (heap_setCell _ _ _ _ h.blk)]
  simp
theorem bset2 {B : Nat} {w w' : World} {g : Nat} (hb : Below B w w') (hg : B ≤ g) (a b : Value) :
    Below B w ((w'.setCell ⟨g, 0, none⟩ a).setCell ⟨g, 1, none⟩ b) :=
  (hb.setCell (p := ⟨g, 0, none⟩) hg _).setCell (p := ⟨g, 1, none⟩) hg _

theorem bd (w : World) (n : Nat) : Below w.heap.size w (w.drewN n) := ⟨rfl, rfl, rfl, Nat.le_refl _, fun _ _ => rfl⟩

/-- every text of it is short enough -/
structure Lm (l : Lb) : Prop where
  pkg : l.pkg.length ≤ 1125899906842624
  name : l.name.length ≤ 1125899906842624

set_option maxRecDepth 100000 in
set_option maxHeartbeats 1000000 in
theorem lvalid_any (l : Lb) (w : World) (hl : Lm l) : Calls Tryz.prog 177 #[l.val] w fun e w' => e = .returned (.bool (okL l)) ∧ Below w.heap.size w w' := by
  obtain ⟨p, n⟩ := l
  have h1 := hl.pkg
  have h2 := hl.name
  simp only at h1 h2
  have HV : Hid (∀ w : World, Calls Tryz.prog 22 #[.string (bs p)] w fun e w' => e = .returned (.bool (okP p)) ∧ Below w.heap.size w w') := fun w => valid_any p w (by omega)
  have HC : Hid (∀ w : World, Calls Tryz.prog 55 #[.string (bs n)] w fun e w' => e = .returned (.bool (okC n)) ∧ w' = w) := fun w => component_any n w (by omega)
  clear h1 h2 hl
  simp only [Lb.val, okL]
  have hR := RB.new w ⟨p, n⟩
  cases hp : okP p
  · rw [hp] at HV
    go_enter Tryz.func177, Tryz.ntmps177
    go_wp2_with fail
    refine (HV.out _).mono ?_
    rintro e w1 ⟨rfl, hb1⟩
    have HB : Hid (Below w.heap.size w w1) := bstep (balloc w _) hb1
    clear hb1
    go_wp2_with fail
    go_ret
    exact ⟨rfl, HB.out⟩
  · rw [hp] at HV
    have HRR : Hid (RB (w.alloc (.cells #[.string (bs p), .string (bs n)] 92)) w.heap.size ⟨p, n⟩) := hR
    clear hR
    go_enter Tryz.func177, Tryz.ntmps177
    go_wp2_with fail
    refine (HV.out _).mono ?_
    rintro e w1 ⟨rfl, hb1⟩
    obtain ⟨c0, c1, _, _⟩ := (HRR.out.later hb1).cells
    simp only at c0 c1
    have HB : Hid (Below w.heap.size w w1) := bstep (balloc w _) hb1
    clear hb1
    go_wp2_with fail
    refine (HC.out _).mono ?_
    rintro e w2 ⟨rfl, rfl⟩
    go_wp2_with fail
    go_ret
    exact ⟨rfl, HB.out⟩

theorem bs_app (a b : List UInt8) : bs a ++ bs b = bs (a ++ b) := by
  apply ByteArray.ext
  simp [bs, ByteArray.data_append]
def pair (x : Lb × Int) : Value := .tuple #[x.1.val, .int .i64 x.2]
set_option maxRecDepth 100000 in
set_option maxHeartbeats 1000000 in
theorem checked_any (l : Lb) (w : World) (hl : Lm l) : Calls Tryz.prog 169 #[l.val] w fun e w' => e = .returned (pair (chk l)) ∧ Below w.heap.size w w' := by
  have HV : Hid (∀ w : World, Calls Tryz.prog 177 #[l.val] w fun e w' => e = .returned (.bool (okL l)) ∧ Below w.heap.size w w') := fun w => lvalid_any l w hl
  obtain ⟨p, n⟩ := l
  clear hl
  simp only [Lb.val] at HV ⊢
  have HZ : Hid (RB ((w.alloc (.cells #[.string (bs p), .string (bs n)] 92)).alloc (.cells #[.string (bs []), .string (bs [])] 92)) (w.heap.size + 1) zl) := by
    show RB _ _ zl
    have := RB.new (w.alloc (.cells #[.string (bs p), .string (bs n)] 92)) zl
    simpa [zl] using this
  have HR : Hid (RB ((w.alloc (.cells #[.string (bs p), .string (bs n)] 92)).alloc (.cells #[.string (bs []), .string (bs [])] 92)) w.heap.size ⟨p, n⟩) := (RB.new w ⟨p, n⟩).later (balloc _ _)
  have HB0 : Hid (Below w.heap.size w ((w.alloc (.cells #[.string (bs p), .string (bs n)] 92)).alloc (.cells #[.string (bs []), .string (bs [])] 92))) := bstep (balloc w _) (balloc _ _)
  unfold chk
  cases hk : okL ⟨p, n⟩
  · rw [hk] at HV
    simp only [Bool.false_eq_true, if_false]
    go_enter Tryz.func169, Tryz.ntmps169
    go_wp2_with fail
    refine (HV.out _).mono ?_
    rintro e w1 ⟨rfl, hb1⟩
    have Z1 : Hid (RB w1 (w.heap.size + 1) zl) := HZ.out.later hb1
    have HB : Hid (Below w.heap.size w w1) := bstep HB0.out hb1
    obtain ⟨c0, c1, f0, f1⟩ := Z1.out.cells
    have hlt := Z1.out.lt
    clear hb1
    go_wp2_with fail
    refine bodyPost_ret (results_ct rfl _ _ (w.heap.size + 1) 92 #[.string (bs []), .string (bs [])] (0, 0) _ rfl ?_ Tryz.underlying92 rfl (by kernel_rfl)) rfl ?_
    · exact (Z1.out.set zl).blk
    exact ⟨rfl, bset2 HB.out (by omega) _ _⟩
  · rw [hk] at HV
    simp only [if_true]
    go_enter Tryz.func169, Tryz.ntmps169
    go_wp2_with fail
    refine (HV.out _).mono ?_
    rintro e w1 ⟨rfl, hb1⟩
    have Z1 : Hid (RB w1 (w.heap.size + 1) zl) := HZ.out.later hb1
    have HB : Hid (Below w.heap.size w w1) := bstep HB0.out hb1
    obtain ⟨c0, c1, f0, f1⟩ := Z1.out.cells
    obtain ⟨d0, d1, _, _⟩ := (HR.out.later hb1).cells
    simp only at d0 d1
    have hlt := Z1.out.lt
    clear hb1
    go_wp2_with fail
    refine bodyPost_ret (results_ct rfl _ _ (w.heap.size + 1) 92 #[.string (bs p), .string (bs n)] (0, 0) _ rfl ?_ Tryz.underlying92 rfl (by kernel_rfl)) rfl ?_
    · exact (Z1.out.set ⟨p, n⟩).blk
    exact ⟨rfl, bset2 HB.out (by omega) _ _⟩

set_option maxRecDepth 100000 in
set_option maxHeartbeats 1000000 in
theorem lparse_any (s : List UInt8) (w : World) (hs : s.length ≤ 1125899906842624) : Calls Tryz.prog 170 #[.string (bs s)] w fun e w' => e = .returned (pair (prs s)) ∧ Below w.heap.size w w' := by
  have HP : Hid (∀ w : World, Calls Tryz.prog 168 #[.string (bs s), .string (bs [47, 47])] w fun e w' => e = .returned (.tuple #[.string (bs (if [47, 47].isPrefixOf s then s.drop 2 else s)), .bool ([47, 47].isPrefixOf s)]) ∧ w' = w) := fun w => cutPrefix_any s [47, 47] w (by omega) (by simp)
  have HZ : Hid (RB (w.alloc (.cells #[.string (bs []), .string (bs [])] 92)) w.heap.size zl) := RB.new w zl
  unfold prs
  cases hp : List.isPrefixOf [47, 47] s
  · rw [hp] at HP
    simp only [Bool.false_eq_true, if_false] at HP ⊢
    clear hs
    go_enter Tryz.func170, Tryz.ntmps170
    go_wp2_with fail
    refine (HP.out _).mono ?_
    rintro e w1 ⟨rfl, rfl⟩
    obtain ⟨c0, c1, f0, f1⟩ := HZ.out.cells
    go_wp2_with fail
    refine bodyPost_ret (results_ct rfl _ _ w.heap.size 92 #[.string (bs []), .string (bs [])] (0, 0) _ rfl ?_ Tryz.underlying92 rfl (by kernel_rfl)) rfl ?_
    · exact HZ.out.blk
    exact ⟨rfl, balloc _ _⟩
  · rw [hp] at HP
    simp only [if_true] at HP ⊢
    obtain ⟨r, hr⟩ : ∃ r, s.drop 2 = r := ⟨_, rfl⟩
    have hrl : r.length ≤ 1125899906842624 := by rw [← hr]; simp; omega
    rw [hr] at HP ⊢
    have q1 := c_hd_le r
    have q2 := c_tl_le r
    have HC : Hid (∀ w : World, Calls Tryz.prog 90 #[.string (bs r), .string (bs [58])] w fun e w' => e = .returned (.tuple #[.string (bs (chd r)), .string (bs (ctl r)), .bool (csl r)]) ∧ ∃ n, w' = w.drewN n) := fun w => c_cut_any r w (by omega)
    have HK : Hid (∀ w : World, Calls Tryz.prog 169 #[.agg #[.string (bs (chd r)), .string (bs (ctl r))]] w fun e w' => e = .returned (pair (chk ⟨chd r, ctl r⟩)) ∧ Below w.heap.size w w') := fun w => checked_any ⟨chd r, ctl r⟩ w ⟨by simp only; omega, by simp only; omega⟩
    generalize chk ⟨chd r, ctl r⟩ = K at *
    clear q1 q2 hrl hr hs hp
    obtain ⟨⟨kp, kn⟩, ke⟩ := K
    simp only [pair, Lb.val] at HK ⊢
    go_enter Tryz.func170, Tryz.ntmps170
    go_wp2_with fail
    refine (HP.out _).mono ?_
    rintro e w1 ⟨rfl, rfl⟩
    go_wp2_with fail
    refine (HC.out _).mono ?_
    rintro e w1 ⟨rfl, m, rfl⟩
    go_wp2_with fail
    refine (HK.out _).mono ?_
    rintro e w1 ⟨rfl, hb1⟩
    have hb2 := bstep (bd (w.alloc (.cells #[.string (bs []), .string (bs [])] 92)) m) hb1
    have Z1 : Hid (RB w1 w.heap.size zl) := HZ.out.later hb2
    have HB : Hid (Below w.heap.size w w1) := bstep (balloc w _) hb2
    obtain ⟨c0, c1, f0, f1⟩ := Z1.out.cells
    have hlt := Z1.out.lt
    clear hb1 hb2
    go_wp2_with fail
    refine bodyPost_ret (results_ct rfl _ _ w.heap.size 92 #[.string (bs kp), .string (bs kn)] (0, 0) _ rfl ?_ Tryz.underlying92 rfl (by kernel_rfl)) rfl ?_
    · exact (Z1.out.set ⟨kp, kn⟩).blk
    exact ⟨rfl, bset2 HB.out (by omega) _ _⟩

set_option maxRecDepth 100000 in
set_option maxHeartbeats 1000000 in
theorem lin_any (p s : List UInt8) (w : World) (hpl : p.length ≤ 1125899906842624) (hs : s.length ≤ 1125899906842624) : Calls Tryz.prog 162 #[.string (bs p), .string (bs s)] w fun e w' => e = .returned (pair (inn p s)) ∧ Below w.heap.size w w' := by
  have HV : Hid (∀ w : World, Calls Tryz.prog 22 #[.string (bs p)] w fun e w' => e = .returned (.bool (okP p)) ∧ Below w.heap.size w w') := fun w => valid_any p w (by omega)
  have HP : Hid (∀ w : World, Calls Tryz.prog 168 #[.string (bs s), .string (bs [58])] w fun e w' => e = .returned (.tuple #[.string (bs (if [58].isPrefixOf s then s.drop 1 else s)), .bool ([58].isPrefixOf s)]) ∧ w' = w) := fun w => cutPrefix_any s [58] w (by omega) (by simp)
  have HZ : Hid (RB (w.alloc (.cells #[.string (bs []), .string (bs [])] 92)) w.heap.size zl) := RB.new w zl
  unfold inn
  cases hv : okP p
  · rw [hv] at HV
    simp only [Bool.false_eq_true, if_false]
    clear hs hpl
    go_enter Tryz.func162, Tryz.ntmps162
    go_wp2_with fail
    refine (HV.out _).mono ?_
    rintro e w1 ⟨rfl, hb1⟩
    have Z1 : Hid (RB w1 w.heap.size zl) := HZ.out.later hb1
    have HB : Hid (Below w.heap.size w w1) := bstep (balloc w _) hb1
    obtain ⟨c0, c1, f0, f1⟩ := Z1.out.cells
    have hlt := Z1.out.lt
    clear hb1
    go_wp2_with fail
    refine bodyPost_ret (results_ct rfl _ _ w.heap.size 92 #[.string (bs []), .string (bs [])] (0, 0) _ rfl ?_ Tryz.underlying92 rfl (by kernel_rfl)) rfl ?_
    · exact (Z1.out.set zl).blk
    exact ⟨rfl, bset2 HB.out (by omega) _ _⟩
  · rw [hv] at HV
    simp only [if_true]
    cases hp : List.isPrefixOf [58] s
    · rw [hp] at HP
      simp only [Bool.false_eq_true, if_false] at HP ⊢
      have HK : Hid (∀ w : World, Calls Tryz.prog 170 #[.string (bs s)] w fun e w' => e = .returned (pair (prs s)) ∧ Below w.heap.size w w') := fun w => lparse_any s w hs
      generalize prs s = K at *
      obtain ⟨⟨kp, kn⟩, ke⟩ := K
      simp only [pair, Lb.val] at HK ⊢
      clear hs hpl
      go_enter Tryz.func162, Tryz.ntmps162
      go_wp2_with fail
      refine (HV.out _).mono ?_
      rintro e w1 ⟨rfl, hb1⟩
      have Z1 : Hid (RB w1 w.heap.size zl) := HZ.out.later hb1
      have HB : Hid (Below w.heap.size w w1) := bstep (balloc w _) hb1
      clear hb1
      go_wp2_with fail
      refine (HP.out _).mono ?_
      rintro e w2 ⟨rfl, rfl⟩
      go_wp2_with fail
      refine (HK.out _).mono ?_
      rintro e w3 ⟨rfl, hb2⟩
      have Z2 : Hid (RB w3 w.heap.size zl) := Z1.out.later hb2
      have HB2 : Hid (Below w.heap.size w w3) := bstep HB.out hb2
      obtain ⟨c0, c1, f0, f1⟩ := Z2.out.cells
      have hlt := Z2.out.lt
      clear hb2
      go_wp2_with fail
      refine bodyPost_ret (results_ct rfl _ _ w.heap.size 92 #[.string (bs kp), .string (bs kn)] (0, 0) _ rfl ?_ Tryz.underlying92 rfl (by kernel_rfl)) rfl ?_
      · exact (Z2.out.set ⟨kp, kn⟩).blk
      exact ⟨rfl, bset2 HB2.out (by omega) _ _⟩
    · rw [hp] at HP
      simp only [if_true] at HP ⊢
      obtain ⟨r, hr⟩ : ∃ r, s.drop 1 = r := ⟨_, rfl⟩
      have hrl : r.length ≤ 1125899906842624 := by rw [← hr]; simp; omega
      rw [hr] at HP ⊢
      have HK : Hid (∀ w : World, Calls Tryz.prog 169 #[.agg #[.string (bs p), .string (bs r)]] w fun e w' => e = .returned (pair (chk ⟨p, r⟩)) ∧ Below w.heap.size w w') := fun w => checked_any ⟨p, r⟩ w ⟨hpl, hrl⟩
      generalize chk ⟨p, r⟩ = K at *
      obtain ⟨⟨kp, kn⟩, ke⟩ := K
      simp only [pair, Lb.val] at HK ⊢
      clear hs hpl hrl hr hp
      go_enter Tryz.func162, Tryz.ntmps162
      go_wp2_with fail
      refine (HV.out _).mono ?_
      rintro e w1 ⟨rfl, hb1⟩
      have Z1 : Hid (RB w1 w.heap.size zl) := HZ.out.later hb1
      have HB : Hid (Below w.heap.size w w1) := bstep (balloc w _) hb1
      clear hb1
      go_wp2_with fail
      refine (HP.out _).mono ?_
      rintro e w2 ⟨rfl, rfl⟩
      go_wp2_with fail
      refine (HK.out _).mono ?_
      rintro e w3 ⟨rfl, hb2⟩
      have Z2 : Hid (RB w3 w.heap.size zl) := Z1.out.later hb2
      have HB2 : Hid (Below w.heap.size w w3) := bstep HB.out hb2
      obtain ⟨c0, c1, f0, f1⟩ := Z2.out.cells
      have hlt := Z2.out.lt
      clear hb2
      go_wp2_with fail
      refine bodyPost_ret (results_ct rfl _ _ w.heap.size 92 #[.string (bs kp), .string (bs kn)] (0, 0) _ rfl ?_ Tryz.underlying92 rfl (by kernel_rfl)) rfl ?_
      · exact (Z2.out.set ⟨kp, kn⟩).blk
      exact ⟨rfl, bset2 HB2.out (by omega) _ _⟩
end Go.Proofs.YtddaoloabfkheaaGreatDoor
