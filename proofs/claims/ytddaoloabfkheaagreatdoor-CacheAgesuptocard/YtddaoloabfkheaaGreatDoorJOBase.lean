/-
  Parse: a fault is caught at the face.
  What came in; the library's variables.
  Numbers as bytes.
  Caches as plain lists: keys (a path, a text), the bytes of an entry, of a cache; what is put.
  Byte rows: what a byte slice reads as, what the call owns, append from whatever source.
-/
import Derived.Test.YtddaoloabfkheaaGreatDoorRead
import Derived.Defers
import Derived.Recover
import Derived.Test.YtddaoloabfkheaaGreatDoorRows
import Derived.ProofKit
import Derived.OpenShut
import Derived.ShutString
import Derived.ChangeOld
import Derived.JoinedCond
import Derived.SizedLaws
import Derived.Deep.Strs
import Derived.Deep.SlicePairs
import Derived.LaidLaws
import Derived.LaidHandle
import Derived.Test.YtddaoloabfkheaaGreatDoorJPath
import Derived.Test.YtddaoloabfkheaaGreatDoorJRd
import Derived.Test.YtddaoloabfkheaaGreatDoorJCuts
import Derived.WalkKit
import Derived.WalkSpells
import Derived.WalkLawsBesides
import Derived.Deep.AppendSrc
import Derived.Deep.Upon
import Derived.Deep.Onto
import Derived.Deep.AppendLies
import Derived.Maps.AppendAt
import Derived.Laws.BytesArg
namespace Go.Proofs.YtddaoloabfkheaaGreatDoor
open Go.RowKit

theorem wp_weaken {P : Program} {c : Code} {Q Q' : Exit → Act → World → Prop} {a : Act} {w : World} (h : ∀ e a w, Q e a w → Q' e a w) (hc : c.wp P Q a w) : c.wp P Q' a w := fun b k cs =>
  let ⟨e, a', w', hq, hr⟩ := hc b k cs
  ⟨e, a', w', h _ _ _ hq, hr⟩
theorem ta_err (z : Int) (w : World) : (Instr.typeAssert (.iface 160 (.int .i64 z)) 20 145 true).run Tryz.prog w = .ok (.tuple #[.iface 160 (.int .i64 z), .bool true]) w := by kernel_rfl
theorem ta_nil (w : World) : (Instr.typeAssert .nilIface 20 145 true).run Tryz.prog w = .ok (.tuple #[.nilIface, .bool false]) w := by kernel_rfl
set_option maxRecDepth 100000 in
set_option maxHeartbeats 4000000 in
theorem catch_idle (gl ga : Nat) (w : World) :
    CallsD Tryz.prog 93 #[.pointer (some ⟨gl, 0, none⟩), .pointer (some ⟨ga, 0, none⟩)] .returning w fun e u' w' => e = .returned (.tuple #[]) ∧ u' = .returning ∧ w' = w := by
  have ht := ta_nil
  refine callsD_of_wpS Tryz.func93 rfl fun c₀ cs hu => ?_
  apply wpS_seq
  apply wpS_region
  simp [wpOpsS, go_sem, recoverD, hu, Tryz.ntmps93, Exit.thenS, ta_nil]
  refine wpS_of_wp ?_
  change Code.wp Tryz.prog _ _ ⟨#[.pointer (some ⟨gl, 0, none⟩), .pointer (some ⟨ga, 0, none⟩), .nilIface, .bool false, .tuple #[.nilIface, .bool false], .nilIface, .tuple #[.nilIface, .bool false], .nilIface, .bool false, undef, undef, undef], []⟩ w
  go_wp2_with fail
  cases c₀
  simp_all [bodyPostS, results, Tryz.results93]
set_option maxRecDepth 100000 in
set_option maxHeartbeats 4000000 in
theorem catch_pan (gl ga : Nat) (z : Int) {w : World} (E : Ev w) {x y : Value} (cl : w.cell? ⟨gl, 0, none⟩ = some x) (ca : w.cell? ⟨ga, 0, none⟩ = some y) (fl : w.frozen? ⟨gl, 0, none⟩ = false) (fa : w.frozen? ⟨ga, 0, none⟩ = false) (hgl : gl < w.heap.size) (hga : ga < w.heap.size) (hne : gl ≠ ga) :
    CallsD Tryz.prog 93 #[.pointer (some ⟨gl, 0, none⟩), .pointer (some ⟨ga, 0, none⟩)] (.panicking [{ v := .iface 160 (.int .i64 z), recovered := false }]) w fun e u' w' =>
      e = .returned (.tuple #[]) ∧ u' = .panicking [{ v := .iface 160 (.int .i64 z), recovered := true }] ∧ ∃ w1, Below w.heap.size w w1 ∧ w' = (w1.setCell ⟨gl, 0, none⟩ (.slice none 0 0)).setCell ⟨ga, 0, none⟩ (.int .i64 z) := by
  have HP : Hid (Calls Tryz.prog 94 #[.iface 160 (.int .i64 z)] w fun e w' => e = .returned (.int .i64 z) ∧ Below w.heap.size w w') := placeOf_any z E
  refine callsD_of_wpS Tryz.func93 rfl fun c₀ cs hu => ?_
  apply wpS_seq
  apply wpS_region
  simp [wpOpsS, go_sem, recoverD, hu, Tryz.ntmps93, Exit.thenS, ta_err]
  refine wpS_of_wp ?_
  refine wp_weaken (Q := fun e a' w' => e = Exit.normal ∧ a'.defers = [] ∧ ∃ w1, Below w.heap.size w w1 ∧ w' = (w1.setCell ⟨gl, 0, none⟩ (.slice none 0 0)).setCell ⟨ga, 0, none⟩ (.int .i64 z)) ?_ ?_
  · rintro e a' w' ⟨rfl, hd, h1⟩
    exact ⟨hd, _, rfl, _, results_none rfl _ _ _, rfl, rfl, h1⟩
  clear hu
  simp only [Array.replicate, List.replicate, List.setIfInBounds_toArray, List.set_cons_succ, List.set_cons_zero, List.append_toArray, List.cons_append, List.nil_append]
  clear E
  go_wp2_with fail
  refine HP.out.mono ?_
  rintro e w1 ⟨rfl, hb⟩
  have cl1 : w1.cell? ⟨gl, 0, none⟩ = some x := (hb.cell (p := ⟨gl, 0, none⟩) hgl).trans cl
  have ca1 : w1.cell? ⟨ga, 0, none⟩ = some y := (hb.cell (p := ⟨ga, 0, none⟩) hga).trans ca
  have fl1 : w1.frozen? ⟨gl, 0, none⟩ = false := (hb.frozen (p := ⟨gl, 0, none⟩) hgl).trans fl
  have fa1 : w1.frozen? ⟨ga, 0, none⟩ = false := (hb.frozen (p := ⟨ga, 0, none⟩) hga).trans fa
  have HB : Hid (Below w.heap.size w w1) := hb
  clear hb
  go_wp2_with fail
  exact ⟨w1, HB.out, rfl⟩

/-- what Parse leaves -/
def LsP (w : World) (R : List Tg × Int) (e : Ending) (w' : World) : Prop := ∃ v, e = .returned (.tuple #[v, .int .i64 R.2]) ∧ GOwn w.heap.size w' v R.1 ∧ Below w.heap.size w w'
theorem results_ll {P : Program} {fn : Func} {p q : Tmp} {t u : TypeId} (h : fn.results = #[.cell p t, .cell q u]) (tmps : Array Value) (w : World) {g k : Nat} {x y : Value} (hp : tmps.getD p undef = .pointer (some ⟨g, 0, none⟩)) (hq : tmps.getD q undef = .pointer (some ⟨k, 0, none⟩))
    (hx : (loadVar t ⟨g, 0, none⟩).run P w = .ok x w) (hy : (loadVar u ⟨k, 0, none⟩).run P w = .ok y w) : (results fn tmps).run P w = .ok (.tuple #[x, y]) w := by
  have hp' : tmps[p]?.getD undef = .pointer (some ⟨g, 0, none⟩) := by simpa using hp
  have hq' : tmps[q]?.getD undef = .pointer (some ⟨k, 0, none⟩) := by simpa using hq
  unfold results
  rw [h]
  simp [hp', hq', asAddr, hx, hy]
theorem load22 {w : World} {g : Nat} {x : Value} (h : w.cell? ⟨g, 0, none⟩ = some x) : (loadVar 34 ⟨g, 0, none⟩).run Tryz.prog w = .ok x w := by
  simp [loadVar, isAgg, underlying, Tryz.underlying34, h]
theorem load3 {w : World} {g : Nat} {x : Value} (h : w.cell? ⟨g, 0, none⟩ = some x) : (loadVar 3 ⟨g, 0, none⟩).run Tryz.prog w = .ok x w := by
  simp [loadVar, isAgg, underlying, Tryz.underlying3, h]
theorem GOwn.only {S : List Nat} {base : Nat} {w w' : World} {v : Value} {l : List Tg} (h : GOwn base w v l) (ho : Only S w w') (hS : ∀ k ∈ S, k < base) : GOwn base w' v l := by
  obtain ⟨a, h1, h2, h3⟩ := h.it
  refine ⟨a, h1.only ho fun k hk hm => ?_, h2.only ho fun t ht u hu k hk hm => ?_, h3⟩
  · have := (h1.lt hk).1; have := hS k hm; omega
  · have := (h2.lt t ht u hu k hk).1; have := hS k hm; omega
theorem GOwn.form {base : Nat} {w : World} {v : Value} {l : List Tg} (h : GOwn base w v l) : ∃ a n c, v = .slice a n c := by
  obtain ⟨b, h1, _, _⟩ := h.it
  obtain ⟨a, c, e⟩ := h1.form
  exact ⟨a, _, c, e⟩
/-- the two results' variables -/
structure TwoB (w : World) (G : Nat) (x y : Value) : Prop where
  l : w.heap[G]? = some (.cells #[x] 34 (0, 0))
  a : w.heap[G + 1]? = some (.cells #[y] 3 (0, 0))
theorem TwoB.new (w : World) (x y : Value) : TwoB ((w.alloc (.cells #[x] 34)).alloc (.cells #[y] 3)) w.heap.size x y :=
  ⟨(heap_alloc_old _ _ (by simp)).trans (heap_alloc_new _ _), by have := heap_alloc_new (w.alloc (.cells #[x] 34)) (.cells #[y] 3); simpa using this⟩
theorem TwoB.lt {w : World} {G : Nat} {x y : Value} (h : TwoB w G x y) : G + 1 < w.heap.size := (Array.getElem?_eq_some_iff.1 h.a).1
theorem TwoB.later {w w' : World} {G : Nat} {x y : Value} (h : TwoB w G x y) (hb : Below w.heap.size w w') : TwoB w' G x y :=
  ⟨(hb.block G (by have := h.lt; omega)).trans h.l, (hb.block (G + 1) h.lt).trans h.a⟩
theorem TwoB.set {w : World} {G : Nat} {x y : Value} (h : TwoB w G x y) (x' y' : Value) : TwoB ((w.setCell ⟨G, 0, none⟩ x').setCell ⟨G + 1, 0, none⟩ y') G x' y' := by
  constructor
  · rw [hset_ne _ (by omega), heap_setCell _ _ _ _ h.l]; simp
  · rw [heap_setCell _ _ _ _ ((hset_ne _ (by omega) _ _).trans h.a)]; simp
theorem TwoB.cells {w : World} {G : Nat} {x y : Value} (h : TwoB w G x y) : w.cell? ⟨G, 0, none⟩ = some x ∧ w.cell? ⟨G + 1, 0, none⟩ = some y ∧ w.frozen? ⟨G, 0, none⟩ = false ∧ w.frozen? ⟨G + 1, 0, none⟩ = false := by
  have h1 := h.l
  have h2 := h.a
  exact ⟨by simp [World.cell?, h1], by simp [World.cell?, h2], by simp [World.frozen?, h1], by simp [World.frozen?, h2]⟩
theorem set2_only (w : World) (G : Nat) (x y : Value) : Only [G, G + 1] w ((w.setCell ⟨G, 0, none⟩ x).setCell ⟨G + 1, 0, none⟩ y) :=
  ((Only.set _ _ _ _).mono (by simp)).trans ((Only.set _ _ _ _).mono (by simp))
theorem set2_below {B : Nat} {w w' : World} {G : Nat} (hb : Below B w w') (hG : B ≤ G) (x y : Value) : Below B w ((w'.setCell ⟨G, 0, none⟩ x).setCell ⟨G + 1, 0, none⟩ y) :=
  (hb.setCell (p := ⟨G, 0, none⟩) hG _).setCell (p := ⟨G + 1, 0, none⟩) (by show B ≤ G + 1; omega) _
set_option maxRecDepth 100000 in
set_option maxHeartbeats 4000000 in
theorem parse_any {w : World} (p s : List UInt8) (hE : Ev w) (hp : p.length ≤ 1125899906842624) (hs : s.length ≤ 1125899906842624) :
    Calls Tryz.prog 61 #[.string (bs p), .string (bs s)] w (LsP w (prsM p s)) := by
  have hmf : ∀ (fn : Fn) (first cap : Array Value) (w : World), (Instr.makeFunc fn first cap).run Tryz.prog w = .ok (.func fn first cap) w := fun _ _ _ _ => rfl
  have hz : (bs s).size = s.length := rfl
  have HV : Hid (∀ W : World, Calls Tryz.prog 22 #[.string (bs p)] W fun e w' => e = .returned (.bool (okP p)) ∧ Below W.heap.size W w') := fun W => valid_any p W (by omega)
  obtain ⟨R, hR⟩ : ∃ R, prsM p s = R := ⟨_, rfl⟩
  rw [hR]
  unfold prsM at hR
  obtain ⟨G, hG⟩ : ∃ G, w.heap.size = G := ⟨_, rfl⟩
  obtain ⟨w0, hw0⟩ : ∃ w0, (w.alloc (.cells #[.slice none 0 0] 34)).alloc (.cells #[.int .i64 0] 3) = w0 := ⟨_, rfl⟩
  have T0 : Hid (TwoB w0 G (.slice none 0 0) (.int .i64 0)) := by
    show TwoB w0 G _ _
    rw [← hw0, ← hG]; exact TwoB.new w _ _
  have B0 : Hid (Below w.heap.size w w0) := by show Below w.heap.size w w0; rw [← hw0]; exact bstep (balloc _ _) (balloc _ _)
  have HW : Hid ((w.alloc (.cells #[.slice none 0 0] 34)).alloc (.cells #[.int .i64 0] 3) = w0 ∧ w.heap.size = G) := ⟨hw0, hG⟩
  have hGw : w.heap.size ≤ G := by omega
  have HE0 : Hid (Ev w0) := hE.later B0.out
  clear hw0 hG hE
  cases hok : okP p
  · rw [hok] at HV
    obtain rfl : ([], 0) = R := by rw [← hR, hok]; rfl
    clear hok hR
    go_enter_defers Tryz.func61, Tryz.ntmps61
    go_wp2_with fail
    rw [HW.out.1, HW.out.2]
    refine (HV.out _).mono ?_
    rintro e w1 ⟨rfl, hb⟩
    have T1 : Hid (TwoB w1 G (.slice none 0 0) (.int .i64 0)) := T0.out.later hb
    have B1 : Hid (Below w.heap.size w w1) := bstep B0.out hb
    obtain ⟨c0, c1, f0, f1⟩ := T1.out.cells
    clear hb
    go_wp2_with fail
    obtain ⟨r0, r1, _, _⟩ := (T1.out.set (.slice none 0 0) (.int .i64 0)).cells
    exact ⟨_, results_ll rfl _ _ rfl rfl (load22 r0) (load3 r1), _, rfl, GOwn.nil _ _, set2_below B1.out hGw _ _⟩
  rw [hok, if_pos rfl] at hR
  rw [hok] at HV
  have hp120 : p.length ≤ 120 := (okP_len hok).1
  clear hok
  by_cases hlen : s.length ≤ 4096
  rotate_left
  · rw [if_neg hlen] at hR
    subst hR
    have i1 : (4096 : Int) < (s.length : Int) := by omega
    go_enter_defers Tryz.func61, Tryz.ntmps61
    go_wp2_with fail
    rw [HW.out.1, HW.out.2]
    refine (HV.out _).mono ?_
    rintro e w1 ⟨rfl, hb⟩
    have T1 : Hid (TwoB w1 G (.slice none 0 0) (.int .i64 0)) := T0.out.later hb
    have B1 : Hid (Below w.heap.size w w1) := bstep B0.out hb
    obtain ⟨c0, c1, f0, f1⟩ := T1.out.cells
    clear hb
    go_wp2_with fail
    obtain ⟨r0, r1, _, _⟩ := (T1.out.set (.slice none 0 0) (.int .i64 4096)).cells
    exact ⟨_, results_ll rfl _ _ rfl rfl (load22 r0) (load3 r1), _, rfl, GOwn.nil _ _, set2_below B1.out hGw _ _⟩
  rw [if_pos hlen] at hR
  have i1 : ¬ ((4096 : Int) < (s.length : Int)) := by omega
  have HRd : Hid (∀ W : World, Ev W → Calls Tryz.prog 95 #[.string (bs p), .string (bs s)] W fun e w' => (∃ v ts, e = .returned v ∧ GOwn W.heap.size w' v ts ∧ R = (ts, -1) ∧ Below W.heap.size W w') ∨ (∃ z, e = flt z ∧ R = ([], z) ∧ Below W.heap.size W w')) := fun W hW => mread_any p s hW hp120 hlen hR
  clear hR
  go_enter_defers Tryz.func61, Tryz.ntmps61
  go_wp2_with fail
  rw [HW.out.1, HW.out.2]
  refine (HV.out _).mono ?_
  rintro e w1 ⟨rfl, hb⟩
  have T1 : Hid (TwoB w1 G (.slice none 0 0) (.int .i64 0)) := T0.out.later hb
  have B1 : Hid (Below w.heap.size w w1) := bstep B0.out hb
  have E1 : Hid (Ev w1) := HE0.out.later hb
  have hG1 := T1.out.lt
  clear hb HE0 T0
  go_wp2_with fail
  refine (HRd.out _ E1.out).mono ?_
  rintro e w2 (⟨v, ts, rfl, hO, rfl, hb⟩ | ⟨z, rfl, rfl, hb⟩)
  · have T2 : Hid (TwoB w2 G (.slice none 0 0) (.int .i64 0)) := T1.out.later hb
    have B2 : Hid (Below w.heap.size w w2) := bstep B1.out hb
    obtain ⟨av, nv, cv, hv⟩ := hO.form
    subst hv
    have O2 : Hid (GOwn w1.heap.size w2 (.slice av nv cv) ts) := hO
    obtain ⟨c0, c1, f0, f1⟩ := T2.out.cells
    clear hb hO
    go_wp2_with fail
    refine leaves_cons (f := 93) (args := #[.pointer (some ⟨G, 0, none⟩), .pointer (some ⟨G + 1, 0, none⟩)]) (by simp) (by simp [go_sem]) ?_
    refine (catch_idle G (G + 1) _).mono ?_
    rintro e u' w3 ⟨rfl, rfl, rfl⟩
    obtain ⟨r0, r1, _, _⟩ := (T2.out.set (.slice av nv cv) (.int .i64 (-1))).cells
    refine ⟨_, results_ll rfl _ _ rfl rfl (load22 r0) (load3 r1), _, rfl, ?_, set2_below B2.out hGw _ _⟩
    exact (O2.out.only (set2_only _ _ _ _) (by simp; omega)).mono (by have := B1.out.size; omega)
  · have T2 : Hid (TwoB w2 G (.slice none 0 0) (.int .i64 0)) := T1.out.later hb
    have B2 : Hid (Below w.heap.size w w2) := bstep B1.out hb
    obtain ⟨c0, c1, f0, f1⟩ := T2.out.cells
    have hs2 := hb.size
    refine leaves_cons (f := 93) (args := #[.pointer (some ⟨G, 0, none⟩), .pointer (some ⟨G + 1, 0, none⟩)]) (by simp) (by simp [go_sem]) ?_
    refine (catch_pan G (G + 1) z (E1.out.later hb) c0 c1 f0 f1 (by omega) (by omega) (by omega)).mono ?_
    rintro e u' w3 ⟨rfl, rfl, w4, hb4, rfl⟩
    obtain ⟨r0, r1, _, _⟩ := ((T2.out.later hb4).set (.slice none 0 0) (.int .i64 z)).cells
    exact ⟨_, results_ll rfl _ _ rfl rfl (load22 r0) (load3 r1), _, rfl, GOwn.nil _ _, set2_below (bstep B2.out hb4) hGw _ _⟩
end Go.Proofs.YtddaoloabfkheaaGreatDoor

namespace Go.Proofs.YtddaoloabfkheaaGreatDoor
open Go.ChangeShapes Go.WideShapes Go.ChangeAt Go.RowKit Go.Deep

theorem own9 : ownKnob Tryz.prog.godebug = none := by kernel_rfl
theorem laidOut : laidOutB Tryz.prog = true := by kernel_rfl
theorem bulk_bound {H : Type} {l : List (DataW H)} (hk : Rows.uptoSmall H l = true) : Rows.uptoBulkAll l ≤ 1048576 := of_decide_eq_true hk
theorem g_et : Tryz.prog.globalNamed "errors.errorType" = some 1 := by kernel_rfl
theorem g_rt : (Tryz.prog.cutTypes.find? (·.1 == "internal/reflectlite.rtype")).map (·.2) = some 200 := by kernel_rfl
theorem g_size : ∃ n, Tryz.prog.types.size = n ∧ ((List.range n).filter fun t => Tryz.prog.rowNamed t [101, 114, 114, 111, 114]) = [145] := ⟨_, rfl, by kernel_rfl⟩
theorem int_of_shape {P : Program} {w : World} {g : Nat} {t : TypeId} {zero : Array Value} (h : w.ShapedOpen P) (hg : g < P.globals.size)
    (h0 : ((begin P (fun _ _ => 0) default).world.heap[g]?).bind Obj.row? = some (zero, t)) (hz : zero.size = 1)
    (hb : P.buildable t = true) (hc : P.cellTypes P.depth t = some [t]) (hu : P.underlying t = some (.int .i64)) : ∃ m, w.cell? ⟨g, 0, none⟩ = some (.int .i64 m) := by
  obtain ⟨cs, hh, hs, hr⟩ := h.1 g zero t hg h0
  obtain ⟨ts, hts, _, hall⟩ := hr hb
  rw [hc] at hts
  cases hts
  have h1 : 0 < cs.size := by omega
  obtain ⟨u, hu', hok⟩ := hall 0 cs[0] (by simp [h1])
  have : u = t := by simpa using hu'.symm
  subst this
  have hcell : w.cell? ⟨g, 0, none⟩ = some cs[0] := by simp [World.cell?, hh, h1]
  rw [hcell]
  unfold Cell.ok at hok
  rw [hu] at hok
  cases hv : cs[0] <;> rw [hv] at hok <;> first | (simp at hok; done) | skip
  simp at hok
  obtain ⟨rfl, _⟩ := hok
  exact ⟨_, rfl⟩
/-- what the five rows list -/
noncomputable def laid9 : List (String × DataW Unit) := Rows.cacheAllUptoRow.laid
theorem handle_of_laid {W : World} (h : laidMetH Tryz.prog laid9 W) : W.cell? ⟨1, 0, none⟩ = some hErr := by
  have h' : laidMet Tryz.prog [("unicode/utf8.acceptRanges", Rows.laid_unicode_utf8_acceptRanges), ("unicode/utf8.first", Rows.laid_unicode_utf8_first)] W ∧ handlesMet Tryz.prog [("errors.errorType", Rows.laid_errors_errorType)] W := h
  obtain ⟨name, u, ty, e1, e2, e3, e4, e5⟩ := h'.2 _ (List.mem_singleton.2 rfl)
  have en : name = [101, 114, 114, 111, 114] := (Option.some.inj e1).symm
  subst en
  obtain rfl := Option.some.inj (g_rt.symm.trans e2)
  obtain ⟨n, hn, hone⟩ := g_size
  have hm : ty ∈ (List.range n).filter fun t => Tryz.prog.rowNamed t [101, 114, 114, 111, 114] := List.mem_filter.2 ⟨List.mem_range.2 (by rw [← hn]; exact e3), e4⟩
  rw [hone] at hm
  obtain rfl := List.mem_singleton.1 hm
  have hh : typeHandle Tryz.prog 145 = .pointer (some ⟨4, 145, none⟩) := by kernel_rfl
  rw [hh] at e5
  simpa [hErr] using World.var?_cell g_et e5 0
theorem env_of {W : World} (h : laidMetH Tryz.prog laid9 W) (hsh : W.ShapedOpen Tryz.prog) : Ev W := by
  refine ⟨handle_of_laid h, int_of_shape (g := 0) (t := 3) (zero := #[.int .i64 0]) hsh (of_decide_eq_true (by kernel_rfl)) (by kernel_rfl) rfl (by kernel_rfl) (by kernel_rfl) Tryz.underlying3, ?_⟩
  obtain ⟨zs, hz⟩ : ∃ zs, ((begin Tryz.prog (fun _ _ => 0) default).world.heap[3]?).bind Obj.row? = some (zs, 251) := ⟨Array.replicate 32 (.int .u8 0), by kernel_rfl⟩
  obtain ⟨cs, hh, _, _⟩ := hsh.1 3 zs 251 (of_decide_eq_true (by kernel_rfl)) hz
  have := (Array.getElem?_eq_some_iff.1 hh).1
  omega
end Go.Proofs.YtddaoloabfkheaaGreatDoor

namespace Go.Proofs.YtddaoloabfkheaaGreatDoor
open Go.RowKit

/-- the bytes of a number, the lowest first -/
def le : Nat → Nat → List UInt8
  | 0, _ => []
  | k + 1, v => le k v ++ [UInt8.ofNat (v / 256 ^ k)]
theorem le_length : ∀ k v, (le k v).length = k
  | 0, _ => rfl
  | k + 1, v => by simp [le, le_length k v]
/-- the number in bytes, the lowest first -/
def num : List UInt8 → Nat
  | [] => 0
  | b :: l => b.toNat + 256 * num l
theorem num_lt : ∀ l : List UInt8, num l < 256 ^ l.length
  | [] => by simp [num]
  | b :: l => by
    have h1 := num_lt l
    have h2 : b.toNat < 256 := b.toNat_lt
    simp only [num, List.length_cons, Nat.pow_succ]
    omega
theorem num_append : ∀ a b : List UInt8, num (a ++ b) = num a + 256 ^ a.length * num b
  | [], b => by simp [num]
  | x :: a, b => by
    simp only [List.cons_append, num, num_append a b, List.length_cons, Nat.pow_succ]
    rw [Nat.mul_add, Nat.mul_comm (256 ^ a.length) 256, Nat.mul_assoc]; omega
theorem num_le (k x : Nat) : num (le k x) = x % 256 ^ k := by
  induction k with
  | zero => simp [le, num, Nat.mod_one]
  | succ k ih =>
    rw [le, num_append, ih, le_length]
    have h : num [UInt8.ofNat (x / 256 ^ k)] = x / 256 ^ k % 256 := by simp [num]
    rw [h, Nat.pow_succ, Nat.mod_mul]
theorem num_le4 {x : Nat} (h : x < 4294967296) : num (le 4 x) = x := by
  rw [num_le]; exact Nat.mod_eq_of_lt (by simpa using h)
theorem num_inj : ∀ {a b : List UInt8}, a.length = b.length → num a = num b → a = b
  | [], [], _, _ => rfl
  | x :: a, y :: b, hl, hn => by
    simp only [num] at hn
    have h1 : x.toNat < 256 := x.toNat_lt
    have h2 : y.toNat < 256 := y.toNat_lt
    have e : x = y := UInt8.toNat_inj.1 (by omega)
    subst e
    rw [num_inj (a := a) (b := b) (by simpa using hl) (by omega)]

end Go.Proofs.YtddaoloabfkheaaGreatDoor

namespace Go.Proofs.YtddaoloabfkheaaGreatDoor
open Go.RowKit

/-- a manifest's path? -/
def rgt (p : List UInt8) : Bool := okP p && (base p == wName)
def txB (s : List UInt8) : List UInt8 := le 4 s.length ++ s
def txsB (l : List (List UInt8)) : List UInt8 := le 4 l.length ++ l.flatMap txB
def lbB (d : Lb) : List UInt8 := txB d.pkg ++ txB d.name
def tgB (t : Tg) : List UInt8 := txB t.name ++ txsB t.srcs ++ le 4 t.deps.length ++ t.deps.flatMap lbB ++ txsB t.see
def u64 (z : Int) : Nat := (z % 18446744073709551616).toNat
/-- an entry's bytes, with any targets and place -/
def enB (k : Lb) (R : List Tg × Int) : List UInt8 := txB k.pkg ++ txB k.name ++ le 8 (u64 R.2) ++ le 4 R.1.length ++ R.1.flatMap tgB
def entB (k : Lb) : List UInt8 := enB k (prsM (dir k.pkg) k.name)
def hdW : List UInt8 := [99, 111, 112, 115, 101, 32, 99, 97, 99, 104, 101, 32, 49]
def savB (K : List Lb) : List UInt8 := txB hdW ++ le 4 K.length ++ K.flatMap entB

structure OKK (K : List Lb) : Prop where
  nd : K.Nodup
  rt : ∀ k ∈ K, rgt k.pkg = true
  tx : ∀ k ∈ K, k.name.length ≤ 4096
  len : K.length ≤ 512
theorem OKK.nil : OKK [] := ⟨List.nodup_nil, by simp, by simp, by simp⟩
theorem rgt_len {p : List UInt8} (h : rgt p = true) : p.length ≤ 120 := by
  unfold rgt okP at h
  simp only [Bool.and_eq_true, decide_eq_true_eq] at h
  exact h.1.1.1

/-! ### what is put -/
def putK (K : List Lb) (k : Lb) : List Lb := (if (K.erase k).length = 512 then (K.erase k).drop 1 else K.erase k) ++ [k]
theorem OKK.put {K : List Lb} (h : OKK K) {k : Lb} (hr : rgt k.pkg = true) (ht : k.name.length ≤ 4096) : OKK (putK K k) := by
  have hs : ∀ x ∈ (if (K.erase k).length = 512 then (K.erase k).drop 1 else K.erase k), x ∈ K.erase k := by
    intro x hx
    split at hx
    · exact List.mem_of_mem_drop hx
    · exact hx
  have hn : (K.erase k).Nodup := h.nd.erase k
  have hk : k ∉ K.erase k := fun hk => by rw [h.nd.mem_erase_iff] at hk; exact hk.1 rfl
  have hl : (K.erase k).length ≤ K.length := (List.erase_sublist).length_le
  have hlen := h.len
  refine ⟨?_, ?_, ?_, ?_⟩
  · unfold putK
    rw [List.nodup_append]
    refine ⟨?_, by simp, ?_⟩
    · split
      · exact hn.sublist (List.drop_sublist _ _)
      · exact hn
    · intro a ha b hb
      have : b = k := by simpa using hb
      subst this
      rintro rfl
      exact hk (hs _ ha)
  · intro x hx
    unfold putK at hx
    rcases List.mem_append.1 hx with hx | hx
    · exact h.rt x (List.mem_of_mem_erase (hs x hx))
    · have : x = k := by simpa using hx
      subst this; exact hr
  · intro x hx
    unfold putK at hx
    rcases List.mem_append.1 hx with hx | hx
    · exact h.tx x (List.mem_of_mem_erase (hs x hx))
    · have : x = k := by simpa using hx
      subst this; exact ht
  · unfold putK
    rw [List.length_append, List.length_singleton]
    split
    · rw [List.length_drop]; omega
    · omega

/-! ### what stands behind one another is told apart -/
theorem app_inj {a b x y : List UInt8} (hl : a.length = b.length) (h : a ++ x = b ++ y) : a = b ∧ x = y := List.append_inj h hl
theorem txB_pre {s t x y : List UInt8} (hs : s.length < 4294967296) (ht : t.length < 4294967296) (h : txB s ++ x = txB t ++ y) : s = t ∧ x = y := by
  unfold txB at h
  rw [List.append_assoc, List.append_assoc] at h
  obtain ⟨h1, h2⟩ := app_inj (by rw [le_length, le_length]) h
  have h3 : s.length = t.length := by rw [← num_le4 hs, ← num_le4 ht, h1]
  exact app_inj h3 h2
theorem entB_pre {k k' : Lb} {x y : List UInt8} (hk : rgt k.pkg = true) (hk' : rgt k'.pkg = true) (ht : k.name.length ≤ 4096) (ht' : k'.name.length ≤ 4096) (h : entB k ++ x = entB k' ++ y) : k = k' ∧ x = y := by
  have l1 := rgt_len hk
  have l2 := rgt_len hk'
  have e : k = k' := by
    unfold entB enB at h
    simp only [List.append_assoc] at h
    obtain ⟨h1, h2⟩ := txB_pre (by omega) (by omega) h
    obtain ⟨h3, _⟩ := txB_pre (by omega) (by omega) h2
    obtain ⟨a, b⟩ := k
    obtain ⟨c, d⟩ := k'
    simp only at h1 h3
    rw [h1, h3]
  subst e
  exact ⟨rfl, List.append_cancel_left h⟩
theorem ents_pre : ∀ {K K' : List Lb} {x y : List UInt8}, (∀ k ∈ K, rgt k.pkg = true ∧ k.name.length ≤ 4096) → (∀ k ∈ K', rgt k.pkg = true ∧ k.name.length ≤ 4096) → K.length = K'.length → K.flatMap entB ++ x = K'.flatMap entB ++ y → K = K' ∧ x = y
  | [], [], x, y, _, _, _, h => ⟨rfl, by simpa using h⟩
  | k :: K, k' :: K', x, y, h1, h2, hl, h => by
    simp only [List.flatMap_cons, List.append_assoc] at h
    obtain ⟨e, h⟩ := entB_pre (h1 k (by simp)).1 (h2 k' (by simp)).1 (h1 k (by simp)).2 (h2 k' (by simp)).2 h
    obtain ⟨e2, h⟩ := ents_pre (fun a ha => h1 a (by simp [ha])) (fun a ha => h2 a (by simp [ha])) (by simpa using hl) h
    rw [e, e2]; exact ⟨rfl, h⟩
theorem savB_pre {K K' : List Lb} {x y : List UInt8} (h : OKK K) (h' : OKK K') (e : savB K ++ x = savB K' ++ y) : K = K' ∧ x = y := by
  have l1 := h.len
  have l2 := h'.len
  unfold savB at e
  simp only [List.append_assoc] at e
  have e := List.append_cancel_left e
  obtain ⟨h1, h2⟩ := app_inj (by rw [le_length, le_length]) e
  have h3 : K.length = K'.length := by rw [← num_le4 (x := K.length) (by omega), ← num_le4 (x := K'.length) (by omega), h1]
  exact ents_pre (fun k hk => ⟨h.rt k hk, h.tx k hk⟩) (fun k hk => ⟨h'.rt k hk, h'.tx k hk⟩) h3 h2
theorem savB_inj {K K' : List Lb} (h : OKK K) (h' : OKK K') (e : savB K = savB K') : K = K' := (savB_pre (x := []) (y := []) h h' (by rw [e])).1

/-! ### what stands at a place -/
def nmP (b : List UInt8) (z : Int) : Int := if z < 0 ∨ z + 4 > b.length then -1 else (num ((b.drop z.toNat).take 4) : Int)
def txP (b : List UInt8) (z : Int) : List UInt8 × Int := if nmP b z < 0 ∨ z + 4 + nmP b z > b.length then ([], -1) else ((b.drop (z.toNat + 4)).take (nmP b z).toNat, z + 4 + nmP b z)
theorem nmP_at (a c : List UInt8) {x : Nat} (hx : x < 4294967296) : nmP (a ++ le 4 x ++ c) (a.length : Int) = (x : Int) := by
  unfold nmP
  rw [if_neg (by simp only [List.length_append, le_length]; omega)]
  have e : ((a ++ le 4 x ++ c).drop (a.length : Int).toNat).take 4 = le 4 x := by
    rw [Int.toNat_natCast, List.append_assoc, List.drop_left]
    have := List.take_left (l₁ := le 4 x) (l₂ := c)
    rwa [le_length] at this
  rw [e, num_le4 hx]
theorem txP_at (a s c : List UInt8) (hs : s.length < 4294967296) : txP (a ++ txB s ++ c) (a.length : Int) = (s, ((a ++ txB s).length : Int)) := by
  have e : a ++ txB s ++ c = a ++ le 4 s.length ++ (s ++ c) := by simp [txB]
  unfold txP
  rw [e, nmP_at _ _ hs, if_neg (by simp only [List.length_append, le_length]; omega)]
  have e2 : ((a ++ le 4 s.length ++ (s ++ c)).drop ((a.length : Int).toNat + 4)).take (s.length : Int).toNat = s := by
    rw [Int.toNat_natCast, Int.toNat_natCast]
    have : a.length + 4 = (a ++ le 4 s.length).length := by simp [le_length]
    rw [this, List.drop_left, List.take_left]
  rw [e2]
  simp only [txB, List.length_append, le_length, Prod.mk.injEq, true_and]
  omega
end Go.Proofs.YtddaoloabfkheaaGreatDoor

namespace Go.Proofs.YtddaoloabfkheaaGreatDoor
open Go.RowKit

/-- bytes as cells -/
def bc (l : List UInt8) : List Value := l.map fun b => Value.int .u8 b.toNat
theorem bc_length (l : List UInt8) : (bc l).length = l.length := by simp [bc]
theorem bc_append (a b : List UInt8) : bc (a ++ b) = bc a ++ bc b := by simp [bc]
theorem bc_get (l : List UInt8) (i : Nat) : (bc l)[i]? = (l[i]?).map fun b => Value.int .u8 b.toNat := by simp [bc]
theorem bc_one (l : List UInt8) : ∀ u ∈ bc l, u.oneCell' = true := by
  intro u hu
  obtain ⟨_, _, rfl⟩ := List.mem_map.1 hu
  rfl
/-- A byte slice v reads as l in the world w (whatever lies behind its length). -/
def BS (w : World) (v : Value) (l : List UInt8) : Prop :=
  ((∃ a c, v = .slice a 0 c) ∧ l = []) ∨
  ∃ b off cap, v = .slice (some ⟨b, off, none⟩) l.length cap ∧ l.length ≤ cap ∧ b < w.heap.size ∧ ∀ i u, (bc l)[i]? = some u → w.cell? ⟨b, off + i, none⟩ = some u

/-- Owned bytes: a row of the call's own, from block 'base' on. -/
def OwnB (base : Nat) (w : World) (v : Value) (l : List UInt8) : Prop := w.ownsRow base 5 1 v l.length (bc l)

theorem BS.later {w w' : World} {v : Value} {l : List UInt8} (h : BS w v l) (hb : Below w.heap.size w w') : BS w' v l := by
  rcases h with h | ⟨b, off, cap, rfl, hc, hlt, hcell⟩
  · exact .inl h
  · refine .inr ⟨b, off, cap, rfl, hc, Nat.lt_of_lt_of_le hlt hb.size, fun i u hu => ?_⟩
    rw [hb.cell (p := ⟨b, off + i, none⟩) hlt]; exact hcell i u hu
theorem BS_nil (w : World) : BS w (.slice none 0 0) [] := .inl ⟨⟨_, _, rfl⟩, rfl⟩

theorem OwnB.bs {base : Nat} {w : World} {v : Value} {l : List UInt8} (h : OwnB base w v l) : BS w v l := by
  rcases h.2 with ⟨rfl, h0⟩ | ⟨g, cap, cur, rfl, hb, hg, hn, _⟩
  · exact .inl ⟨⟨_, _, rfl⟩, List.eq_nil_of_length_eq_zero h0⟩
  · refine .inr ⟨g, 0, cap, rfl, hn, (Array.getElem?_eq_some_iff.1 hg).1, fun i u hu => ?_⟩
    have := World.ownsRow.cells h (g := g) rfl i u hu
    rw [add_lit] at this; exact this

theorem OwnB.mono {base base' : Nat} {w : World} {v : Value} {l : List UInt8} (h : OwnB base w v l) (hb : base' ≤ base) : OwnB base' w v l := World.ownsRow.mono h hb

theorem OwnB.nil (base : Nat) (w : World) : OwnB base w (.slice none 0 0) [] := World.ownsRow_nil w base 5 1

/-- what a byte slice yields to an append -/
theorem BS.src {w : World} {v : Value} {l : List UInt8} {P : Program} {tx e' : TypeId} (h : BS w v l) (hk : P.underlying tx = some (.slice e')) : Src P 1 tx v l.length (bc l) w := by
  rcases h with ⟨⟨a, c, rfl⟩, rfl⟩ | ⟨b, off, cap, rfl, hc, hlt, hcell⟩
  · cases a with
    | none => exact Src.ofNil w hk c
    | some a => exact Src.ofSlice w hk a 0 c [] (by simp) (fun j u hu => by simp at hu) (fun u hu => by cases hu)
  · exact Src.ofSlice w hk ⟨b, off, none⟩ l.length cap (bc l) (by simp [bc]) (fun j u hu => by rw [add_lit]; exact hcell j u hu) (bc_one l)

section
variable {P : Program} (w : World)

end

theorem und41 : Tryz.prog.underlying 41 = some (.slice 5) := by kernel_rfl
theorem und5 : Tryz.prog.underlying 5 = some (.int .u8) := by kernel_rfl
theorem info5 : (Tryz.prog.info? 5).map (fun i => (i.zero, i.size, i.bytes)) = some (some (.int .u8 0), 1, 1) := by kernel_rfl

/-- append of bytes onto bytes of the call's own -/
theorem app_bytes {w : World} {base : Nat} {v x : Value} {l k : List UInt8} {tx : TypeId} (hown : OwnB base w v l) (hs : Src Tryz.prog 1 tx x k.length (bc k) w) (hb : l.length + k.length ≤ 140737488355328) (hbase : base ≤ w.heap.size)
    {ops : Array Oper} {rest : List Oper} {o : Oper} {a : Act} {Q : Exit → Act → World → Prop} (hgd : o.guard = none) (s y : Operand) 
    (ho : o.op = .call { callee := .builtin .append, args := #[s, y], argTypes := #[41, tx] }) (hv : a.eval s = v) (hx : a.eval y = x)
    (h : ∀ v' w', OwnB base w' v' (l ++ k) → w.grownBy w' v.ownBlock → (v'.ownBlock = v.ownBlock ∨ v'.ownBlock = some w.heap.size) → wpList Tryz.prog ops Q rest (a.put o.dst v') w') :
    wpList Tryz.prog ops Q (o :: rest) a w := by
  obtain ⟨i0, hi, hz0, hz1, hz2⟩ := info_parts info5
  refine wpList_append_src w hgd s y 41 tx ho base 5 i0 (.int .u8 0) 1 1 und41 hi hz0 hz1 hz2 rfl v l.length (bc l) hv hown x k.length (bc k) hx hs (by simp only [maxLen]; omega) (by omega) hbase ?_
  intro v' w' h1 h2 h3
  exact h v' w' (by unfold OwnB; rw [bc_append, List.length_append]; exact h1) h2 h3

end Go.Proofs.YtddaoloabfkheaaGreatDoor
