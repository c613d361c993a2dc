/-
  Parse: a fault is caught at the face.
  What came in; the library's variables.
  What came in, whatever its size: texts, a word to be laid.
  What is read: places, and how long the lists are.
  The law of there and back: what it stands on.
-/
import Derived.Test.YtemoplpfndnklaaGreatDoorRead
import Derived.Defers
import Derived.Recover
import Derived.Test.YtemoplpfndnklaaGreatDoorRows
import Derived.ProofKit
import Derived.OpenShut
import Derived.ShutString
import Derived.ChangeOld
import Derived.JoinedCond
import Derived.SizedLaws
import Derived.Deep.Strs
import Derived.Deep.SlicePairs
import Derived.LaidLaws
import Derived.LaidHandle
import Derived.Lib.SmallJoins
import Derived.Test.YtemoplpfndnklaaGreatDoorJRd
import Derived.Test.YtemoplpfndnklaaGreatDoorJShelf
namespace Go.Proofs.YtemoplpfndnklaaGreatDoor
open Go.RowKit

theorem wp_weaken {P : Program} {c : Code} {Q Q' : Exit → Act → World → Prop} {a : Act} {w : World} (h : ∀ e a w, Q e a w → Q' e a w) (hc : c.wp P Q a w) : c.wp P Q' a w := fun b k cs =>
  let ⟨e, a', w', hq, hr⟩ := hc b k cs
  ⟨e, a', w', h _ _ _ hq, hr⟩
theorem ta_err (z : Int) (w : World) : (Instr.typeAssert (.iface 77 (.int .i64 z)) 20 53 true).run Tryz.prog w = .ok (.tuple #[.iface 77 (.int .i64 z), .bool true]) w := by kernel_rfl
theorem ta_nil (w : World) : (Instr.typeAssert .nilIface 20 53 true).run Tryz.prog w = .ok (.tuple #[.nilIface, .bool false]) w := by kernel_rfl
set_option maxHeartbeats 4000000 in
theorem catch_idle (gl ga : Nat) (w : World) :
    CallsD Tryz.prog 20 #[.pointer (some ⟨gl, 0, none⟩), .pointer (some ⟨ga, 0, none⟩)] .returning w fun e u' w' => e = .returned (.tuple #[]) ∧ u' = .returning ∧ w' = w := by
  have ht := ta_nil
  refine callsD_of_wpS Tryz.func20 rfl fun c₀ cs hu => ?_
  apply wpS_seq
  apply wpS_region
  simp [wpOpsS, go_sem, recoverD, hu, Tryz.ntmps20, Exit.thenS, ta_nil]
  refine wpS_of_wp ?_
  change Code.wp Tryz.prog _ _ ⟨#[.pointer (some ⟨gl, 0, none⟩), .pointer (some ⟨ga, 0, none⟩), .nilIface, .bool false, .tuple #[.nilIface, .bool false], .nilIface, .tuple #[.nilIface, .bool false], .nilIface, .bool false, undef, undef, undef], []⟩ w
  go_wp2_with fail
  cases c₀
  simp_all [bodyPostS, results, Tryz.results20]
set_option maxHeartbeats 4000000 in
theorem catch_pan (gl ga : Nat) (z : Int) {w : World} (E : Ev w) {x y : Value} (cl : w.cell? ⟨gl, 0, none⟩ = some x) (ca : w.cell? ⟨ga, 0, none⟩ = some y) (fl : w.frozen? ⟨gl, 0, none⟩ = false) (fa : w.frozen? ⟨ga, 0, none⟩ = false) (hgl : gl < w.heap.size) (hga : ga < w.heap.size) (hne : gl ≠ ga) :
    CallsD Tryz.prog 20 #[.pointer (some ⟨gl, 0, none⟩), .pointer (some ⟨ga, 0, none⟩)] (.panicking [{ v := .iface 77 (.int .i64 z), recovered := false }]) w fun e u' w' =>
      e = .returned (.tuple #[]) ∧ u' = .panicking [{ v := .iface 77 (.int .i64 z), recovered := true }] ∧ ∃ w1, Below w.heap.size w w1 ∧ w' = (w1.setCell ⟨gl, 0, none⟩ (.slice none 0 0)).setCell ⟨ga, 0, none⟩ (.int .i64 z) := by
  have HP : Hid (Calls Tryz.prog 21 #[.iface 77 (.int .i64 z)] w fun e w' => e = .returned (.int .i64 z) ∧ Below w.heap.size w w') := placeOf_any z E
  refine callsD_of_wpS Tryz.func20 rfl fun c₀ cs hu => ?_
  apply wpS_seq
  apply wpS_region
  simp [wpOpsS, go_sem, recoverD, hu, Tryz.ntmps20, Exit.thenS, ta_err]
  refine wpS_of_wp ?_
  refine wp_weaken (Q := fun e a' w' => e = Exit.normal ∧ a'.defers = [] ∧ ∃ w1, Below w.heap.size w w1 ∧ w' = (w1.setCell ⟨gl, 0, none⟩ (.slice none 0 0)).setCell ⟨ga, 0, none⟩ (.int .i64 z)) ?_ ?_
  · rintro e a' w' ⟨rfl, hd, h1⟩
    exact ⟨hd, _, rfl, _, results_none rfl _ _ _, rfl, rfl, h1⟩
  clear hu
  simp only [Array.replicate, List.replicate, List.setIfInBounds_toArray, List.set_cons_succ, List.set_cons_zero, List.append_toArray, List.cons_append, List.nil_append]
  clear E
  go_wp2_with fail
  refine HP.out.mono ?_
  rintro e w1 ⟨rfl, hb⟩
  have cl1 : w1.cell? ⟨gl, 0, none⟩ = some x := (hb.cell (p := ⟨gl, 0, none⟩) hgl).trans cl
  have ca1 : w1.cell? ⟨ga, 0, none⟩ = some y := (hb.cell (p := ⟨ga, 0, none⟩) hga).trans ca
  have fl1 : w1.frozen? ⟨gl, 0, none⟩ = false := (hb.frozen (p := ⟨gl, 0, none⟩) hgl).trans fl
  have fa1 : w1.frozen? ⟨ga, 0, none⟩ = false := (hb.frozen (p := ⟨ga, 0, none⟩) hga).trans fa
  have HB : Hid (Below w.heap.size w w1) := hb
  clear hb
  go_wp2_with fail
  exact ⟨w1, HB.out, rfl⟩

/-- what Parse leaves -/
def LsP (w : World) (R : List Tg × Int) (e : Ending) (w' : World) : Prop := ∃ v, e = .returned (.tuple #[v, .int .i64 R.2]) ∧ GOwn w.heap.size w' v R.1 ∧ Below w.heap.size w w'
theorem results_ll {P : Program} {fn : Func} {p q : Tmp} {t u : TypeId} (h : fn.results = #[.cell p t, .cell q u]) (tmps : Array Value) (w : World) {g k : Nat} {x y : Value} (hp : tmps.getD p undef = .pointer (some ⟨g, 0, none⟩)) (hq : tmps.getD q undef = .pointer (some ⟨k, 0, none⟩))
    (hx : (loadVar t ⟨g, 0, none⟩).run P w = .ok x w) (hy : (loadVar u ⟨k, 0, none⟩).run P w = .ok y w) : (results fn tmps).run P w = .ok (.tuple #[x, y]) w := by
  have hp' : tmps[p]?.getD undef = .pointer (some ⟨g, 0, none⟩) := by simpa using hp
  have hq' : tmps[q]?.getD undef = .pointer (some ⟨k, 0, none⟩) := by simpa using hq
  unfold results
  rw [h]
  simp [hp', hq', asAddr, hx, hy]
theorem load22 {w : World} {g : Nat} {x : Value} (h : w.cell? ⟨g, 0, none⟩ = some x) : (loadVar 22 ⟨g, 0, none⟩).run Tryz.prog w = .ok x w := by
  simp [loadVar, isAgg, underlying, Tryz.underlying22, h]
theorem load3 {w : World} {g : Nat} {x : Value} (h : w.cell? ⟨g, 0, none⟩ = some x) : (loadVar 3 ⟨g, 0, none⟩).run Tryz.prog w = .ok x w := by
  simp [loadVar, isAgg, underlying, Tryz.underlying3, h]
theorem GOwn.only {S : List Nat} {base : Nat} {w w' : World} {v : Value} {l : List Tg} (h : GOwn base w v l) (ho : Only S w w') (hS : ∀ k ∈ S, k < base) : GOwn base w' v l := by
  obtain ⟨a, h1, h2, h3⟩ := h.it
  refine ⟨a, h1.only ho fun k hk hm => ?_, h2.only ho fun t ht u hu k hk hm => ?_, h3⟩
  · have := (h1.lt hk).1; have := hS k hm; omega
  · have := (h2.lt t ht u hu k hk).1; have := hS k hm; omega
theorem GOwn.form {base : Nat} {w : World} {v : Value} {l : List Tg} (h : GOwn base w v l) : ∃ a n c, v = .slice a n c := by
  obtain ⟨b, h1, _, _⟩ := h.it
  obtain ⟨a, c, e⟩ := h1.form
  exact ⟨a, _, c, e⟩
/-- the two results' variables -/
structure TwoB (w : World) (G : Nat) (x y : Value) : Prop where
  l : w.heap[G]? = some (.cells #[x] 22 (0, 0))
  a : w.heap[G + 1]? = some (.cells #[y] 3 (0, 0))
theorem TwoB.new (w : World) (x y : Value) : TwoB ((w.alloc (.cells #[x] 22)).alloc (.cells #[y] 3)) w.heap.size x y :=
  ⟨(heap_alloc_old _ _ (by simp)).trans (heap_alloc_new _ _), by have := heap_alloc_new (w.alloc (.cells #[x] 22)) (.cells #[y] 3); simpa using this⟩
theorem TwoB.lt {w : World} {G : Nat} {x y : Value} (h : TwoB w G x y) : G + 1 < w.heap.size := (Array.getElem?_eq_some_iff.1 h.a).1
theorem TwoB.later {w w' : World} {G : Nat} {x y : Value} (h : TwoB w G x y) (hb : Below w.heap.size w w') : TwoB w' G x y :=
  ⟨(hb.block G (by have := h.lt; omega)).trans h.l, (hb.block (G + 1) h.lt).trans h.a⟩
theorem TwoB.set {w : World} {G : Nat} {x y : Value} (h : TwoB w G x y) (x' y' : Value) : TwoB ((w.setCell ⟨G, 0, none⟩ x').setCell ⟨G + 1, 0, none⟩ y') G x' y' := by
  constructor
  · rw [hset_ne _ (by omega), heap_setCell _ _ _ _ h.l]; simp
  · rw [heap_setCell _ _ _ _ ((hset_ne _ (by omega) _ _).trans h.a)]; simp
theorem TwoB.cells {w : World} {G : Nat} {x y : Value} (h : TwoB w G x y) : w.cell? ⟨G, 0, none⟩ = some x ∧ w.cell? ⟨G + 1, 0, none⟩ = some y ∧ w.frozen? ⟨G, 0, none⟩ = false ∧ w.frozen? ⟨G + 1, 0, none⟩ = false := by
  have h1 := h.l
  have h2 := h.a
  exact ⟨by simp [World.cell?, h1], by simp [World.cell?, h2], by simp [World.frozen?, h1], by simp [World.frozen?, h2]⟩
theorem set2_only (w : World) (G : Nat) (x y : Value) : Only [G, G + 1] w ((w.setCell ⟨G, 0, none⟩ x).setCell ⟨G + 1, 0, none⟩ y) :=
  ((Only.set _ _ _ _).mono (by simp)).trans ((Only.set _ _ _ _).mono (by simp))
theorem set2_below {B : Nat} {w w' : World} {G : Nat} (hb : Below B w w') (hG : B ≤ G) (x y : Value) : Below B w ((w'.setCell ⟨G, 0, none⟩ x).setCell ⟨G + 1, 0, none⟩ y) :=
  (hb.setCell (p := ⟨G, 0, none⟩) hG _).setCell (p := ⟨G + 1, 0, none⟩) (by show B ≤ G + 1; omega) _
set_option maxHeartbeats 4000000 in
theorem parse_any {w : World} (p s : List UInt8) (hE : Ev w) (hp : p.length ≤ 1125899906842624) (hs : s.length ≤ 1125899906842624) :
    Calls Tryz.prog 8 #[.string (bs p), .string (bs s)] w (LsP w (prsM p s)) := by
  have hmf : ∀ (fn : Fn) (first cap : Array Value) (w : World), (Instr.makeFunc fn first cap).run Tryz.prog w = .ok (.func fn first cap) w := fun _ _ _ _ => rfl
  have hz : (bs s).size = s.length := rfl
  have HV : Hid (∀ W : World, Calls Tryz.prog 19 #[.string (bs p)] W fun e w' => e = .returned (.bool (okP p)) ∧ Below W.heap.size W w') := fun W => valid_any p W (by omega)
  obtain ⟨R, hR⟩ : ∃ R, prsM p s = R := ⟨_, rfl⟩
  rw [hR]
  unfold prsM at hR
  obtain ⟨G, hG⟩ : ∃ G, w.heap.size = G := ⟨_, rfl⟩
  obtain ⟨w0, hw0⟩ : ∃ w0, (w.alloc (.cells #[.slice none 0 0] 22)).alloc (.cells #[.int .i64 0] 3) = w0 := ⟨_, rfl⟩
  have T0 : Hid (TwoB w0 G (.slice none 0 0) (.int .i64 0)) := by
    show TwoB w0 G _ _
    rw [← hw0, ← hG]; exact TwoB.new w _ _
  have B0 : Hid (Below w.heap.size w w0) := by show Below w.heap.size w w0; rw [← hw0]; exact bstep (balloc _ _) (balloc _ _)
  have HW : Hid ((w.alloc (.cells #[.slice none 0 0] 22)).alloc (.cells #[.int .i64 0] 3) = w0 ∧ w.heap.size = G) := ⟨hw0, hG⟩
  have hGw : w.heap.size ≤ G := by omega
  have HE0 : Hid (Ev w0) := hE.later B0.out
  clear hw0 hG hE
  cases hok : okP p
  · rw [hok] at HV
    obtain rfl : ([], 0) = R := by rw [← hR, hok]; rfl
    clear hok hR
    go_enter_defers Tryz.func8, Tryz.ntmps8
    go_wp2_with fail
    rw [HW.out.1, HW.out.2]
    refine (HV.out _).mono ?_
    rintro e w1 ⟨rfl, hb⟩
    have T1 : Hid (TwoB w1 G (.slice none 0 0) (.int .i64 0)) := T0.out.later hb
    have B1 : Hid (Below w.heap.size w w1) := bstep B0.out hb
    obtain ⟨c0, c1, f0, f1⟩ := T1.out.cells
    clear hb
    go_wp2_with fail
    obtain ⟨r0, r1, _, _⟩ := (T1.out.set (.slice none 0 0) (.int .i64 0)).cells
    exact ⟨_, results_ll rfl _ _ rfl rfl (load22 r0) (load3 r1), _, rfl, GOwn.nil _ _, set2_below B1.out hGw _ _⟩
  rw [hok, if_pos rfl] at hR
  rw [hok] at HV
  have hp120 : p.length ≤ 120 := (okP_len hok).1
  clear hok
  by_cases hlen : s.length ≤ 4096
  rotate_left
  · rw [if_neg hlen] at hR
    subst hR
    have i1 : (4096 : Int) < (s.length : Int) := by omega
    go_enter_defers Tryz.func8, Tryz.ntmps8
    go_wp2_with fail
    rw [HW.out.1, HW.out.2]
    refine (HV.out _).mono ?_
    rintro e w1 ⟨rfl, hb⟩
    have T1 : Hid (TwoB w1 G (.slice none 0 0) (.int .i64 0)) := T0.out.later hb
    have B1 : Hid (Below w.heap.size w w1) := bstep B0.out hb
    obtain ⟨c0, c1, f0, f1⟩ := T1.out.cells
    clear hb
    go_wp2_with fail
    obtain ⟨r0, r1, _, _⟩ := (T1.out.set (.slice none 0 0) (.int .i64 4096)).cells
    exact ⟨_, results_ll rfl _ _ rfl rfl (load22 r0) (load3 r1), _, rfl, GOwn.nil _ _, set2_below B1.out hGw _ _⟩
  rw [if_pos hlen] at hR
  have i1 : ¬ ((4096 : Int) < (s.length : Int)) := by omega
  have HRd : Hid (∀ W : World, Ev W → Calls Tryz.prog 22 #[.string (bs p), .string (bs s)] W fun e w' => (∃ v ts, e = .returned v ∧ GOwn W.heap.size w' v ts ∧ R = (ts, -1) ∧ Below W.heap.size W w') ∨ (∃ z, e = flt z ∧ R = ([], z) ∧ Below W.heap.size W w')) := fun W hW => mread_any p s hW hp120 hlen hR
  clear hR
  go_enter_defers Tryz.func8, Tryz.ntmps8
  go_wp2_with fail
  rw [HW.out.1, HW.out.2]
  refine (HV.out _).mono ?_
  rintro e w1 ⟨rfl, hb⟩
  have T1 : Hid (TwoB w1 G (.slice none 0 0) (.int .i64 0)) := T0.out.later hb
  have B1 : Hid (Below w.heap.size w w1) := bstep B0.out hb
  have E1 : Hid (Ev w1) := HE0.out.later hb
  have hG1 := T1.out.lt
  clear hb HE0 T0
  go_wp2_with fail
  refine (HRd.out _ E1.out).mono ?_
  rintro e w2 (⟨v, ts, rfl, hO, rfl, hb⟩ | ⟨z, rfl, rfl, hb⟩)
  · have T2 : Hid (TwoB w2 G (.slice none 0 0) (.int .i64 0)) := T1.out.later hb
    have B2 : Hid (Below w.heap.size w w2) := bstep B1.out hb
    obtain ⟨av, nv, cv, hv⟩ := hO.form
    subst hv
    have O2 : Hid (GOwn w1.heap.size w2 (.slice av nv cv) ts) := hO
    obtain ⟨c0, c1, f0, f1⟩ := T2.out.cells
    clear hb hO
    go_wp2_with fail
    refine leaves_cons (f := 20) (args := #[.pointer (some ⟨G, 0, none⟩), .pointer (some ⟨G + 1, 0, none⟩)]) (by simp) (by simp [go_sem]) ?_
    refine (catch_idle G (G + 1) _).mono ?_
    rintro e u' w3 ⟨rfl, rfl, rfl⟩
    obtain ⟨r0, r1, _, _⟩ := (T2.out.set (.slice av nv cv) (.int .i64 (-1))).cells
    refine ⟨_, results_ll rfl _ _ rfl rfl (load22 r0) (load3 r1), _, rfl, ?_, set2_below B2.out hGw _ _⟩
    exact (O2.out.only (set2_only _ _ _ _) (by simp; omega)).mono (by have := B1.out.size; omega)
  · have T2 : Hid (TwoB w2 G (.slice none 0 0) (.int .i64 0)) := T1.out.later hb
    have B2 : Hid (Below w.heap.size w w2) := bstep B1.out hb
    obtain ⟨c0, c1, f0, f1⟩ := T2.out.cells
    have hs2 := hb.size
    refine leaves_cons (f := 20) (args := #[.pointer (some ⟨G, 0, none⟩), .pointer (some ⟨G + 1, 0, none⟩)]) (by simp) (by simp [go_sem]) ?_
    refine (catch_pan G (G + 1) z (E1.out.later hb) c0 c1 f0 f1 (by omega) (by omega) (by omega)).mono ?_
    rintro e u' w3 ⟨rfl, rfl, w4, hb4, rfl⟩
    obtain ⟨r0, r1, _, _⟩ := ((T2.out.later hb4).set (.slice none 0 0) (.int .i64 z)).cells
    exact ⟨_, results_ll rfl _ _ rfl rfl (load22 r0) (load3 r1), _, rfl, GOwn.nil _ _, set2_below (bstep B2.out hb4) hGw _ _⟩
end Go.Proofs.YtemoplpfndnklaaGreatDoor

namespace Go.Proofs.YtemoplpfndnklaaGreatDoor
open Go.ChangeShapes Go.WideShapes Go.ChangeAt Go.RowKit Go.Deep

theorem own9 : ownKnob Tryz.prog.godebug = none := by kernel_rfl
theorem laidOut : laidOutB Tryz.prog = true := by kernel_rfl
theorem bulk_bound {H : Type} {l : List (DataW H)} (hk : Rows.uptoSmall H l = true) : Rows.uptoBulkAll l ≤ 1048576 := of_decide_eq_true hk
theorem g_et : Tryz.prog.globalNamed "errors.errorType" = some 0 := by kernel_rfl
theorem g_rt : (Tryz.prog.cutTypes.find? (·.1 == "internal/reflectlite.rtype")).map (·.2) = some 137 := by kernel_rfl
theorem g_size : ∃ n, Tryz.prog.types.size = n ∧ ((List.range n).filter fun t => Tryz.prog.rowNamed t [101, 114, 114, 111, 114]) = [53] := ⟨_, rfl, by kernel_rfl⟩
theorem int_of_shape {P : Program} {w : World} {g : Nat} {t : TypeId} {zero : Array Value} (h : w.ShapedOpen P) (hg : g < P.globals.size)
    (h0 : ((begin P (fun _ _ => 0) default).world.heap[g]?).bind Obj.row? = some (zero, t)) (hz : zero.size = 1)
    (hb : P.buildable t = true) (hc : P.cellTypes P.depth t = some [t]) (hu : P.underlying t = some (.int .i64)) : ∃ m, w.cell? ⟨g, 0, none⟩ = some (.int .i64 m) := by
  obtain ⟨cs, hh, hs, hr⟩ := h.1 g zero t hg h0
  obtain ⟨ts, hts, _, hall⟩ := hr hb
  rw [hc] at hts
  cases hts
  have h1 : 0 < cs.size := by omega
  obtain ⟨u, hu', hok⟩ := hall 0 cs[0] (by simp [h1])
  have : u = t := by simpa using hu'.symm
  subst this
  have hcell : w.cell? ⟨g, 0, none⟩ = some cs[0] := by simp [World.cell?, hh, h1]
  rw [hcell]
  unfold Cell.ok at hok
  rw [hu] at hok
  cases hv : cs[0] <;> rw [hv] at hok <;> first | (simp at hok; done) | skip
  simp at hok
  obtain ⟨rfl, _⟩ := hok
  exact ⟨_, rfl⟩
/-- what the five rows list -/
noncomputable def laid9 : List (String × DataW Unit) := Rows.manifestParsesUptoRow.laid
theorem handle_of_laid {W : World} (h : laidMetH Tryz.prog laid9 W) : W.cell? ⟨0, 0, none⟩ = some hErr := by
  have h' : laidMet Tryz.prog [("unicode/utf8.acceptRanges", Rows.laid_unicode_utf8_acceptRanges), ("unicode/utf8.first", Rows.laid_unicode_utf8_first)] W ∧ handlesMet Tryz.prog [("errors.errorType", Rows.laid_errors_errorType)] W := h
  obtain ⟨name, u, ty, e1, e2, e3, e4, e5⟩ := h'.2 _ (List.mem_singleton.2 rfl)
  have en : name = [101, 114, 114, 111, 114] := (Option.some.inj e1).symm
  subst en
  obtain rfl := Option.some.inj (g_rt.symm.trans e2)
  obtain ⟨n, hn, hone⟩ := g_size
  have hm : ty ∈ (List.range n).filter fun t => Tryz.prog.rowNamed t [101, 114, 114, 111, 114] := List.mem_filter.2 ⟨List.mem_range.2 (by rw [← hn]; exact e3), e4⟩
  rw [hone] at hm
  obtain rfl := List.mem_singleton.1 hm
  have hh : typeHandle Tryz.prog 53 = .pointer (some ⟨4, 53, none⟩) := by kernel_rfl
  rw [hh] at e5
  simpa [hErr] using World.var?_cell g_et e5 0
theorem env_of {W : World} (h : laidMetH Tryz.prog laid9 W) (hsh : W.ShapedOpen Tryz.prog) : Ev W := by
  refine ⟨handle_of_laid h, int_of_shape (g := 1) (t := 3) (zero := #[.int .i64 0]) hsh (of_decide_eq_true (by kernel_rfl)) (by kernel_rfl) rfl (by kernel_rfl) (by kernel_rfl) Tryz.underlying3, ?_⟩
  obtain ⟨zs, hz⟩ : ∃ zs, ((begin Tryz.prog (fun _ _ => 0) default).world.heap[3]?).bind Obj.row? = some (zs, 192) := ⟨Array.replicate 32 (.int .u8 0), by kernel_rfl⟩
  obtain ⟨cs, hh, _, _⟩ := hsh.1 3 zs 192 (of_decide_eq_true (by kernel_rfl)) hz
  have := (Array.getElem?_eq_some_iff.1 hh).1
  omega
end Go.Proofs.YtemoplpfndnklaaGreatDoor

namespace Go.Proofs.YtemoplpfndnklaaGreatDoor
open Go.ChangeShapes Go.WideShapes Go.ChangeAt Go.RowKit Go.Deep Go.Joins

theorem cells32 : Tryz.prog.cellsOf 32 = 2 := by kernel_rfl
theorem w_str {H : Type} (t : List UInt8) : t.length ∈ (DataW.lit (.string t) : DataW H).weights Tryz.prog 9 := by simp [DataW.weights]
theorem w_spot {H : Type} (z : Int) (t : List UInt8) : t.length ∈ (DataW.agg [.lit (.int .i64 z), .lit (.string t)] : DataW H).weights Tryz.prog 32 := by
  simp [DataW.weights, Tryz.underlying32, DataW.weightsEach]
set_option maxRecDepth 100000 in
theorem read_spot {H : Type} {enc : TypeId × Value → H} {W : World} {base : Nat} {v : Value} {d : DataW H} {ps : List MemPlace} (hok : Value.okWide Tryz.prog W .any base 32 v)
    (h : DataW.Trod enc Tryz.prog W 0 (fun _ => true) true 32 v d ps) : ∃ (z : Int) (t : List UInt8), v = .agg #[.int .i64 z, .string (bs t)] ∧ d = .agg [.lit (.int .i64 z), .lit (.string t)] := by
  obtain ⟨c0, c1, y0, y1, m, rfl, rfl, rfl, hy0, hy1⟩ := open_agg2 Tryz.underlying32 (by kernel_rfl) cells32 hok h
  obtain ⟨z0, e0, x0, wz0⟩ := DataW.trod_int Tryz.underlying3 hy0
  obtain ⟨s1, e1, x1, ws1⟩ := DataW.trod_string Tryz.underlying9 hy1
  simp at e0 e1
  subst e0 e1 x0 x1
  exact ⟨z0, s1.data.toList, rfl, rfl⟩
end Go.Proofs.YtemoplpfndnklaaGreatDoor

namespace Go.Proofs.YtemoplpfndnklaaGreatDoor

theorem go_range {p : List UInt8} {E S : Int} (hE : 0 ≤ E) : ∀ (L : List Tk) (st : St), (∀ k ∈ L, 0 ≤ k.at') → (go p E S st L).2 = -1 ∨ (0 ≤ (go p E S st L).2 ∧ (go p E S st L).1 = [])
  | [], st, _ => by
    cases st
    case top l =>
      simp only [go, fin]
      split
      · rename_i h; exact .inr ⟨h, rfl⟩
      · exact .inl rfl
    all_goals exact .inr ⟨hE, rfl⟩
  | k :: r, st, h => by
    simp only [go]
    cases hs : stp p st k with
    | none => exact .inr ⟨h k (by simp), rfl⟩
    | some st' => exact go_range hE r st' fun q hq => h q (by simp [hq])
theorem endE_nonneg (s : List UInt8) : 0 ≤ endE s := by
  unfold endE; split <;> omega
theorem prsM_range (p s : List UInt8) : (prsM p s).2 = -1 ∨ (0 ≤ (prsM p s).2 ∧ (prsM p s).1 = []) := by
  unfold prsM
  split
  · split
    · rename_i h
      exact go_range (endE_nonneg s) _ _ fun k hk => (toks_ok h k hk).at0
    · exact .inr ⟨by simp, rfl⟩
  · exact .inr ⟨by simp, rfl⟩

structure T64 (t : Tg) : Prop where
  s : t.srcs.length ≤ 64
  d : t.deps.length ≤ 64
  e : t.see.length ≤ 64
theorem T64.new (n : List UInt8) : T64 ⟨n, [], [], []⟩ := ⟨by simp, by simp, by simp⟩
theorem addI_64 {p f : List UInt8} {t u : Tg} {w : List UInt8} (h : T64 t) (ha : addI p f t w = some u) : T64 u := by
  unfold addI at ha
  split at ha
  · split at ha
    · rename_i hc
      injection ha with ha
      subst ha
      simp only [Bool.and_eq_true, decide_eq_true_eq] at hc
      exact ⟨by simp; omega, h.d, h.e⟩
    · cases ha
  · split at ha
    · split at ha
      · rename_i hc
        injection ha with ha
        subst ha
        simp only [Bool.and_eq_true, decide_eq_true_eq] at hc
        exact ⟨h.s, by simp; omega, h.e⟩
      · cases ha
    · split at ha
      · rename_i hc
        injection ha with ha
        subst ha
        simp only [Bool.and_eq_true, decide_eq_true_eq] at hc
        exact ⟨h.s, h.d, by simp; omega⟩
      · cases ha
def stL : St → List Tg
  | .top l => l
  | .nm l => l
  | .op l _ => l
  | .fl l _ _ => l
  | .eq l _ _ _ => l
  | .bg l _ _ _ => l
  | .i0 l _ _ _ => l
  | .it l _ _ _ => l
  | .sp l _ _ _ => l
def stT : St → List Tg
  | .fl _ t _ => [t]
  | .eq _ t _ _ => [t]
  | .bg _ t _ _ => [t]
  | .i0 _ t _ _ => [t]
  | .it _ t _ _ => [t]
  | .sp _ t _ _ => [t]
  | _ => []
structure S64 (st : St) : Prop where
  all : ∀ t ∈ stL st, T64 t
  cur : ∀ t ∈ stT st, T64 t
  top : (stL st).length ≤ 64 ∧ ((∀ l, st ≠ .top l) → (stL st).length < 64)
theorem stp_64 {p : List UInt8} {st st' : St} {k : Tk} (h : S64 st) (hs : stp p st k = some st') : S64 st' := by
  have hc := h.cur
  have ha := h.all
  have ht := h.top
  cases st <;> simp only [stp] at hs <;> simp only [stL, stT, List.mem_cons, List.mem_nil_iff, or_false, forall_eq, ne_eq, reduceCtorEq, not_false_eq_true, implies_true, forall_const] at hc ha ht
  case top l =>
    split at hs
    · rename_i hk; injection hs with hs; subst hs; exact ⟨ha, by simp [stT], ⟨ht.1, fun _ => hk.2.2⟩⟩
    · cases hs
  case nm l =>
    split at hs
    · injection hs with hs; subst hs; exact ⟨ha, by simp [stT], ⟨ht.1, fun _ => ht.2⟩⟩
    · cases hs
  case op l n =>
    split at hs
    · injection hs with hs; subst hs; exact ⟨ha, by simp only [stT, List.mem_singleton, forall_eq]; exact T64.new n, ⟨ht.1, fun _ => ht.2⟩⟩
    · cases hs
  case fl l t hd =>
    split at hs
    · injection hs with hs; subst hs
      refine ⟨?_, by simp [stT], ?_⟩
      · intro x hx
        simp only [stL, List.mem_append, List.mem_singleton] at hx
        rcases hx with hx | rfl
        · exact ha x hx
        · exact hc
      · simp only [stL, List.length_append, List.length_singleton]
        exact ⟨by omega, fun hx => absurd rfl (hx _)⟩
    · split at hs
      · injection hs with hs; subst hs; exact ⟨ha, by simpa [stT] using hc, ⟨ht.1, fun _ => ht.2⟩⟩
      · cases hs
  case eq l t hd f =>
    split at hs
    · injection hs with hs; subst hs; exact ⟨ha, by simpa [stT] using hc, ⟨ht.1, fun _ => ht.2⟩⟩
    · cases hs
  case bg l t hd f =>
    split at hs
    · injection hs with hs; subst hs; exact ⟨ha, by simpa [stT] using hc, ⟨ht.1, fun _ => ht.2⟩⟩
    · cases hs
  case i0 l t hd f =>
    split at hs
    · injection hs with hs; subst hs; exact ⟨ha, by simpa [stT] using hc, ⟨ht.1, fun _ => ht.2⟩⟩
    · split at hs
      · cases hi : addI p f t k.text with
        | none => rw [hi] at hs; cases hs
        | some u =>
          rw [hi] at hs
          injection hs with hs; subst hs
          exact ⟨ha, by simpa [stT] using addI_64 hc hi, ⟨ht.1, fun _ => ht.2⟩⟩
      · cases hs
  case it l t hd f =>
    split at hs
    · cases hi : addI p f t k.text with
      | none => rw [hi] at hs; cases hs
      | some u =>
        rw [hi] at hs
        injection hs with hs; subst hs
        exact ⟨ha, by simpa [stT] using addI_64 hc hi, ⟨ht.1, fun _ => ht.2⟩⟩
    · cases hs
  case sp l t hd f =>
    split at hs
    · injection hs with hs; subst hs; exact ⟨ha, by simpa [stT] using hc, ⟨ht.1, fun _ => ht.2⟩⟩
    · split at hs
      · injection hs with hs; subst hs; exact ⟨ha, by simpa [stT] using hc, ⟨ht.1, fun _ => ht.2⟩⟩
      · cases hs
theorem go_64 {p : List UInt8} {E S : Int} : ∀ (L : List Tk) (st : St), S64 st → (∀ t ∈ (go p E S st L).1, T64 t) ∧ (go p E S st L).1.length ≤ 64
  | [], st, h => by
    have ha := h.all
    have ht := h.top
    cases st
    case top l =>
      simp only [go, fin]
      split
      · exact ⟨by simp, by simp⟩
      · exact ⟨ha, ht.1⟩
    all_goals exact ⟨by simp [go, fin], by simp [go, fin]⟩
  | k :: r, st, h => by
    simp only [go]
    cases hs : stp p st k with
    | none => exact ⟨by simp, by simp⟩
    | some st' => exact go_64 r st' (stp_64 h hs)
theorem prsM_64 (p s : List UInt8) : (∀ t ∈ (prsM p s).1, T64 t) ∧ (prsM p s).1.length ≤ 64 := by
  unfold prsM
  split
  · split
    · exact go_64 _ _ ⟨by simp [stL], by simp [stT], by simp [stL]⟩
    · exact ⟨by simp, by simp⟩
  · exact ⟨by simp, by simp⟩
end Go.Proofs.YtemoplpfndnklaaGreatDoor

namespace Go.Proofs.YtemoplpfndnklaaGreatDoor
open Go.RowKit

/-- does a statement begin with this region? -/
def beg (n : Nat) : Code → Bool
  | .region m _ _ => m == n
  | .seq a _ => beg n a
  | .block _ c => beg n c
  | .loop c => beg n c
  | .scope c => beg n c
  | _ => false
/-- what stands from there on -/
def suff (n : Nat) : Code → Code
  | .seq a b => if beg n a then .seq a b else suff n b
  | c => c
/-- what the law answers -/
def GoodE (w : World) (e : Ending) (w' : World) : Prop := e = .returned (.bool true) ∧ Below w.heap.size w w'
/-- texts that came in -/
structure Lw (l : Lb) : Prop where
  pkg : l.pkg.length ≤ 281474976710656
  name : l.name.length ≤ 281474976710656
theorem Lw.lm {l : Lb} (h : Lw l) : Lm l := ⟨by have := h.pkg; omega, by have := h.name; omega⟩
theorem prt_len {l : Lb} (h : Lw l) : (prt l).length ≤ 1125899906842624 := by
  have h1 := h.pkg
  have h2 := h.name
  simp only [prt, List.length_cons, List.length_append]; omega
/-- the three labels in their blocks -/
structure Tri (w wc : World) (g3 g4 g5 : Nat) (a b c : Lb) : Prop where
  below : Below w.heap.size w wc
  ra : RB wc g3 a
  rb : RB wc g4 b
  rc : RB wc g5 c
  sa : Lw a
  sb : Lw b
  sc : Lw c
theorem Tri.later {w wc w' : World} {g3 g4 g5 : Nat} {a b c : Lb} (h : Tri w wc g3 g4 g5 a b c) (hb : Below wc.heap.size wc w') : Tri w w' g3 g4 g5 a b c :=
  ⟨bstep h.below hb, h.ra.later hb, h.rb.later hb, h.rc.later hb, h.sa, h.sb, h.sc⟩
/-- the see words of a package -/
def won (p : List UInt8) : List UInt8 := 47 :: 47 :: p
def wsb (p : List UInt8) : List UInt8 := if p = [] then adots else 47 :: 47 :: (p ++ dots)
theorem rdk_won {p : List UInt8} (h : okP p = true) : rdk (won p) = .one p := by
  have h1 : won p ≠ pub := by unfold won pub; simp
  have h2 : won p ≠ adots := by
    intro e
    have : p = [46, 46, 46] := by unfold won adots at e; simpa using e
    rw [this] at h; exact absurd h (by decide)
  have h3 : won p ≠ 47 :: 47 :: dots := by
    intro e
    have : p = dots := by unfold won at e; simpa using e
    rw [this, show dots = [] ++ dots from rfl, okP_dots] at h; cases h
  have h4 : dots.isSuffixOf p = false := by
    cases h4 : dots.isSuffixOf p
    · rfl
    · obtain ⟨r, hr⟩ := List.isSuffixOf_iff_suffix.1 h4
      rw [← hr, okP_dots] at h; cases h
  unfold rdk kin
  simp only [h1, h2, h3, if_false]
  simp [won, List.isPrefixOf, h4, Kd.top, h]
theorem rdk_pub : rdk pub = .all := by decide
theorem rdk_adots : rdk adots = .tree [] := by decide
theorem rdk_wsb {p : List UInt8} (h : okP p = true) : rdk (wsb p) = .tree p := by
  unfold wsb
  by_cases hp : p = []
  · rw [if_pos hp, hp]; exact rdk_adots
  rw [if_neg hp]
  have h1 : 47 :: 47 :: (p ++ dots) ≠ pub := by unfold pub; simp
  have hl : 0 < p.length := by cases p with | nil => exact absurd rfl hp | cons => simp
  have h2 : 47 :: 47 :: (p ++ dots) ≠ adots := by
    intro e
    have := congrArg List.length e
    simp only [dots, adots, List.length_cons, List.length_append, List.length_nil] at this; omega
  have h3 : 47 :: 47 :: (p ++ dots) ≠ 47 :: 47 :: dots := by
    intro e
    have := congrArg List.length e
    simp only [dots, List.length_cons, List.length_append, List.length_nil] at this; omega
  have h4 : dots.isSuffixOf (p ++ dots) = true := List.isSuffixOf_iff_suffix.2 ⟨p, rfl⟩
  unfold rdk kin
  simp only [h1, h2, h3, if_false]
  have h5 : (p ++ dots).take ((p ++ dots).length - 4) = p := by
    have : (p ++ dots).length - 4 = p.length := by simp [dots]
    rw [this]; simp
  simp only [List.isPrefixOf, beq_self_eq_true, Bool.true_and, if_true, List.drop_succ_cons, List.drop_zero, h4, h5, Kd.top, h]
theorem len_won {p : List UInt8} (h : okP p = true) : (won p).length ≤ 1125899906842624 := by
  have := (okP_len h).1
  simp only [won, List.length_cons]; omega
theorem len_wsb {p : List UInt8} (h : okP p = true) : (wsb p).length ≤ 1125899906842624 := by
  have := (okP_len h).1
  unfold wsb
  split
  · decide
  · simp only [dots, List.length_cons, List.length_append, List.length_nil]; omega
theorem len_pub : pub.length ≤ 1125899906842624 := by decide
theorem len_adots : adots.length ≤ 1125899906842624 := by decide
theorem ses_one (s b c : List UInt8) : ses [s] b c = (decide (b = c) || nms (rdk s) c) := by simp [ses]
/-- below, by its bytes -/
def blw (a c : List UInt8) : Bool := decide (c = a) || abvV a c
theorem won_len {l : Lb} (h : okL l = true) : l.pkg.length ≤ 120 := by
  unfold okL at h; simp only [Bool.and_eq_true] at h
  exact (okP_len h.1).1
theorem okL_pkg {l : Lb} (h : okL l = true) : okP l.pkg = true := by
  unfold okL at h; simp only [Bool.and_eq_true] at h; exact h.1
theorem bad_ctl : ∀ (p n : List UInt8), (58 : UInt8) ∈ p → (58 : UInt8) ∈ ctl (p ++ 58 :: n)
  | [], n, h => by cases h
  | c :: r, n, h => by
    by_cases hc : c = 58
    · simp [ctl, hc]
    · have hr : (58 : UInt8) ∈ r := by
        rcases List.mem_cons.1 h with e | e
        · exact absurd e.symm hc
        · exact e
      simp only [List.cons_append, ctl, hc, if_false]
      exact bad_ctl r n hr
theorem prs_good {l : Lb} (h : okL l = true) : prs (prt l) = (l, 0) := by
  have h1 := okP_colon (okL_pkg h)
  obtain ⟨e1, e2⟩ := cut_colon l.pkg l.name h1
  rw [prs_prt, e1, e2]; unfold chk; rw [if_pos h]
theorem prs_bad {l : Lb} (h : okL l = false) : prs (prt l) = (zl, 10) := by
  rw [prs_prt]
  unfold chk
  by_cases hc : (58 : UInt8) ∈ l.pkg
  · have h1 := bad_ctl l.pkg l.name hc
    have h2 : okC (ctl (l.pkg ++ 58 :: l.name)) = false := by
      cases hh : okC (ctl (l.pkg ++ 58 :: l.name))
      · rfl
      · exact absurd h1 (okC_colon hh)
    simp [okL, h2]
  · obtain ⟨e1, e2⟩ := cut_colon l.pkg l.name hc
    rw [e1, e2]
    simp [h]
end Go.Proofs.YtemoplpfndnklaaGreatDoor
