/-
  Maps whose keys are texts.
  A range over a map of files.
-/
import Derived.Test.YtfdcfcalbongeaaGreatJWg
import Derived.Test.YtfdcfcalbongeaaGreatJSEq
import Derived.Maps.OwnSet
import Derived.Maps.OwnOps
import Derived.Maps.RangeWalk
import Derived.WideKeyEntry
import Derived.Sort.MapsRangeIn
namespace Go.Proofs.YtfdcfcalbongeaaGreat
open Go.RowKit Go.Maps

def Lk (k : List UInt8) : Prop := k.length ≤ 1000000000000
theorem u9k : Tryz.prog.underlying 9 = some .string := by kernel_rfl
theorem lawM : Keyed Tryz.prog 9 := string_keyed u9k
theorem keyM {k : List UInt8} (h : Lk k) : keyOf Tryz.prog 9 (.string (bs k)) = some (.string k) := WideMaps.keyOf_string_mk u9k (s := bs k) (by unfold Lk at h; rw [bs_size]; unfold maxLen; omega)
theorem isKeyLit (k : List UInt8) : WideAt.IsKeyLit (.string k) := trivial
theorem keyInv {v : Value} {l : Lit} (h : keyOf Tryz.prog 9 v = some l) : ∃ s, v = .string (bs s) ∧ l = .string s := by
  cases v <;> simp [keyOf, mapKey] at h
  rename_i s
  exact ⟨s.data.toList, by rw [bs_of], h.2.symm⟩
/-- how elements lie and read -/
structure Cd (V : Type) where
  R : Value → Option (DataW Unit × List MemPlace)
  enc : V → Value
  d : V → DataW Unit
  z : V
  t : TypeId
  e : TypeId
  hR : ∀ x, R (enc x) = some (d x, [])
  inv : ∀ v y, R v = some y → ∃ x, v = enc x
  inj : ∀ x y, d x = d y → x = y
  und : Tryz.prog.underlying t = some (.map 9 e)
  zero : ∀ w : World, (zeroValue e).run Tryz.prog w = .ok (enc z) w
variable {V : Type} {c : Cd V}
/-- its keys are short -/
def Ks (D : DataW Unit) : Prop := ∀ a : List UInt8, Maps.has D (.string a) = true → Lk a
/-- block b is a map from texts -/
def MP (c : Cd V) (w : World) (b : Nat) (F : List UInt8 → Option V) (cnt : Nat) : Prop :=
  ∃ D, w.ownsMap Tryz.prog 9 c.R b cnt D ∧ Maps.size D = cnt ∧ Ks D ∧ ∀ k : List UInt8, Lk k → Maps.has D (.string k) = (F k).isSome ∧ ∀ x, F k = some x → ∀ zd, D.atKey (.string k) zd = c.d x
theorem MP.lt {w : World} {b cnt : Nat} {F : List UInt8 → Option V} (h : MP c w b F cnt) : b < w.heap.size := by obtain ⟨D, h1, _⟩ := h; exact h1.lt
theorem MP.isMap {w : World} {b cnt : Nat} {F : List UInt8 → Option V} (h : MP c w b F cnt) : ∃ es clock, w.heap[b]? = some (.map es clock) := by obtain ⟨D, ⟨es, clock, hb, _⟩, _⟩ := h; exact ⟨es, clock, hb⟩
theorem MP.congr {w : World} {b cnt : Nat} {F G : List UInt8 → Option V} (h : MP c w b F cnt) (e : ∀ k, Lk k → F k = G k) : MP c w b G cnt := by
  obtain ⟨D, h1, h2, h0, h3⟩ := h
  exact ⟨D, h1, h2, h0, fun k hk => by rw [← e k hk]; exact h3 k hk⟩
theorem MP.block {w w' : World} {b cnt : Nat} {F : List UInt8 → Option V} (h : MP c w b F cnt) (e : w'.heap[b]? = w.heap[b]?) : MP c w' b F cnt := by
  obtain ⟨D, ⟨es, clock, hb, hr⟩, h2⟩ := h
  exact ⟨D, ⟨es, clock, e.trans hb, hr⟩, h2⟩
theorem MP.clone {w w' : World} {b b' cnt : Nat} {F : List UInt8 → Option V} (h : MP c w b F cnt) (e : w'.heap[b']? = w.heap[b]?) : MP c w' b' F cnt := by
  obtain ⟨D, ⟨es, clock, hb, hr⟩, h2⟩ := h
  exact ⟨D, ⟨es, clock, e.trans hb, hr⟩, h2⟩
theorem MP.only {S : List Nat} {w w' : World} {b cnt : Nat} {F : List UInt8 → Option V} (h : MP c w b F cnt) (ho : Only S w w') (hn : b ∉ S) : MP c w' b F cnt := h.block (ho.block b h.lt hn)
theorem MP.later {w w' : World} {b cnt : Nat} {F : List UInt8 → Option V} (h : MP c w b F cnt) (hb : Below w.heap.size w w') : MP c w' b F cnt := h.block (hb.block b h.lt)
theorem MP.new (c : Cd V) (w : World) : MP c (w.alloc (.map #[] 0)) w.heap.size (fun _ => none) 0 :=
  ⟨.map [], World.ownsMap_made w _ _ _, rfl, (fun a h => by cases h), fun _ _ => ⟨rfl, fun a h => by cases h⟩⟩
/-- what is at a key -/
def at_ (c : Cd V) (o : Option V) : V := o.getD c.z
theorem MP.look {w : World} {b cnt : Nat} {F : List UInt8 → Option V} (h : MP c w b F cnt) {k : List UInt8} (hk : Lk k) (q : Bool) :
    (Instr.lookup c.t (.map (some b)) (.string (bs k)) q).run Tryz.prog w = .ok (if q then .tuple #[c.enc (at_ c (F k)), .bool (F k).isSome] else c.enc (at_ c (F k))) w := by
  obtain ⟨D, h1, h2, _, h4⟩ := h
  have hv : ∀ v ps, c.R v = some (D.atKey (.string k) (c.d c.z), ps) → v = c.enc (at_ c (F k)) := by
    intro v ps hv
    obtain ⟨x, rfl⟩ := c.inv _ _ hv
    rw [c.hR] at hv
    simp only [Option.some.injEq, Prod.mk.injEq] at hv
    congr 1
    apply c.inj
    cases e : F k with
    | some y =>
      rw [(h4 k hk).2 y e] at hv
      exact hv.1
    | none =>
      have := (h4 k hk).1
      rw [e] at this
      rw [Maps.atKey_of_not_has this] at hv
      exact hv.1
  cases q
  · obtain ⟨v, ps, hrun, hr⟩ := h1.lookup lawM c.und (c.zero w) (c.hR c.z) (keyM hk)
    rw [hrun, hv v ps hr]; rfl
  · obtain ⟨v, ps, hrun, hr⟩ := h1.look_ok lawM c.und (c.zero w) (c.hR c.z) (keyM hk)
    rw [hrun, hv v ps hr, (h4 k hk).1]; rfl
theorem Only.turned {w w' : World} {b : Nat} (h : w.mapTurned w' b) : Only [b] w w' := by
  have g := h.grown
  exact ⟨g.os, g.tape, g.output, g.size, fun k hk hn => g.block k hk (by simpa using hn)⟩
theorem turned_size {w w' : World} {b : Nat} (h : w.mapTurned w' b) : w'.heap.size = w.heap.size := by
  obtain ⟨_, _, _, _, _, rfl⟩ := h; simp [ChangeMaps.setBlock]
theorem tight {w : World} {R : Value → Option (DataW Unit × List MemPlace)} {b n : Nat} {D : DataW Unit} (h : w.ownsMap Tryz.prog 9 R b n D) : w.ownsMap Tryz.prog 9 R b (Maps.size D) D := by
  obtain ⟨es, clock, hb, F, hs, rfl⟩ := h
  exact ⟨es, clock, hb, F, by simp [Maps.size, length_sorted], rfl⟩
theorem MP.store {w : World} {b cnt : Nat} {F : List UInt8 → Option V} (h : MP c w b F cnt) {k : List UInt8} (hk : Lk k) (hN : cnt < 4611686018427387904) (x : V) :
    ∃ w', (Instr.mapUpdate c.t (.map (some b)) (.string (bs k)) (c.enc x)).run Tryz.prog w = .ok () w' ∧ MP c w' b (fun y => if y = k then some x else F y) (if (F k).isSome then cnt else cnt + 1) ∧ Only [b] w w' ∧ w'.heap.size = w.heap.size := by
  obtain ⟨D, h1, h2, h0, h4⟩ := h
  obtain ⟨w', hrun, h5, h6⟩ := h1.store lawM c.und (by unfold maxLen; omega) (keyM hk) (c.hR x)
  have hs : Maps.size (D.put (.string k) (c.d x)) = if (F k).isSome then cnt else cnt + 1 := by rw [Maps.size_put (h1.tidy lawM), (h4 k hk).1, h2]
  refine ⟨w', hrun, ⟨_, ?_, hs, fun a hh => ?_, fun y hy => ?_⟩, Only.turned h6, turned_size h6⟩
  · have := tight h5
    rw [hs] at this
    exact this
  · by_cases e : a = k
    · subst e; exact hk
    · rw [Maps.has_put_other (fun h => e (Lit.string.inj h))] at hh
      exact h0 a hh
  · simp only []
    by_cases e : y = k
    · subst e
      rw [if_pos rfl, Maps.has_put_same h1.isMap (isKeyLit _)]
      exact ⟨rfl, fun b hb zd => by rw [Maps.atKey_put_same h1.isMap (isKeyLit _)]; cases hb; rfl⟩
    · have hne : Lit.string y ≠ Lit.string k := fun h => e (Lit.string.inj h)
      rw [if_neg e, Maps.has_put_other hne]
      exact ⟨(h4 y hy).1, fun b hb zd => by rw [Maps.atKey_put_other hne]; exact (h4 y hy).2 b hb zd⟩
/-- delete -/
theorem MP.del {w : World} {b cnt : Nat} {F : List UInt8 → Option V} (h : MP c w b F cnt) {k : List UInt8} (hk : Lk k) (ty : TypeId) :
    ∃ w', (Builtin.delete_ #[c.t, 9] ty #[.map (some b), .string (bs k)]).run Tryz.prog w = .ok (.tuple #[]) w' ∧ MP c w' b (fun x => if x = k then none else F x) (if (F k).isSome then cnt - 1 else cnt) ∧ Only [b] w w' ∧ w'.heap.size = w.heap.size := by
  obtain ⟨D, h1, h2, h0, h4⟩ := h
  obtain ⟨w', hrun, h5, h6⟩ := h1.drop lawM c.und (keyM hk) ty
  have hs : Maps.size (D.del (.string k)) = if (F k).isSome then cnt - 1 else cnt := by
    have := Maps.size_del (k := .string k) (h1.tidy lawM)
    rw [(h4 k hk).1] at this
    split at this <;> simp_all <;> omega
  refine ⟨w', hrun, ⟨_, ?_, hs, fun a hh => ?_, fun x hx => ?_⟩, Only.turned h6, turned_size h6⟩
  · have := tight h5
    rw [hs] at this
    exact this
  · by_cases e : a = k
    · subst e; exact hk
    · rw [Maps.has_del_other (fun h => e (Lit.string.inj h))] at hh
      exact h0 a hh
  · simp only []
    by_cases e : x = k
    · subst e
      rw [if_pos rfl, Maps.has_del_same]
      exact ⟨rfl, fun b hb => by cases hb⟩
    · have hne : Lit.string x ≠ Lit.string k := fun h => e (Lit.string.inj h)
      rw [if_neg e, Maps.has_del_other hne]
      exact ⟨(h4 x hx).1, fun b hb zd => by rw [Maps.atKey_del_other hne]; exact (h4 x hx).2 b hb zd⟩
/-! ### files -/
def fR (v : Value) : Option (DataW Unit × List MemPlace) := match v with
  | .agg a => (match a.toList with
    | [.string p, .string t, .int .i64 b, .int .i64 s] => some (.agg [.lit (.string p.data.toList), .lit (.string t.data.toList), .lit (.int .i64 b), .lit (.int .i64 s)], [])
    | _ => none)
  | _ => none
def cF : Cd Fl where
  R := fR
  enc f := f.val
  d f := .agg [.lit (.string f.path), .lit (.string f.text), .lit (.int .i64 f.blob), .lit (.int .i64 f.size)]
  z := ⟨[], [], 0, 0⟩
  t := 69
  e := 30
  hR x := rfl
  inv v y h := by
    unfold fR at h
    split at h
    · rename_i a
      split at h
      · rename_i p t b s e
        refine ⟨⟨p.data.toList, t.data.toList, b, s⟩, ?_⟩
        show Value.agg a = .agg #[.string (bs p.data.toList), .string (bs t.data.toList), .int .i64 b, .int .i64 s]
        congr 1
        apply Array.toList_inj.1
        rw [e]
        rfl
      · cases h
    · cases h
  inj x y h := by
    obtain ⟨a, b, c, d⟩ := x
    obtain ⟨a', b', c', d'⟩ := y
    simpa using h
  und := by kernel_rfl
  zero w := by kernel_rfl
end Go.Proofs.YtfdcfcalbongeaaGreat

namespace Go.Proofs.YtfdcfcalbongeaaGreat
open Go.RowKit Go.Maps

/-- what of a map of files is still to come -/
def RGK (w : World) (b r : Nat) (F : List UInt8 → Option Fl) (N : Nat) (left : List UInt8 → Bool) (cnt : Nat) : Prop :=
  ∃ D lf, w.ranges Tryz.prog 9 cF.R b r N D lf cnt ∧ (∀ k : List UInt8, lf (.string k) = left k) ∧ Ks D ∧ ∀ k : List UInt8, Lk k → Maps.has D (.string k) = (F k).isSome ∧ ∀ x, F k = some x → ∀ zd, D.atKey (.string k) zd = cF.d x
section
variable {w w' : World} {b r N cnt : Nat} {F : List UInt8 → Option Fl} {left : List UInt8 → Bool}
theorem RGK.stay (h : RGK w b r F N left cnt) (hb : w'.heap[b]? = w.heap[b]?) (hr : w'.heap[r]? = w.heap[r]?) : RGK w' b r F N left cnt := by
  obtain ⟨D, lf, ⟨es, clock, since, seen, c0, k1, k2, k3, k4, k5, k6⟩, h3⟩ := h
  exact ⟨D, lf, ⟨es, clock, since, seen, c0, hb.trans k1, k2, k3, k4, hr.trans k5, k6⟩, h3⟩
theorem RGK.iter (h : RGK w b r F N left cnt) : ∃ since seen c0, w.heap[r]? = some (.mapIter (some b) since seen c0) := by
  obtain ⟨D, lf, ⟨es, clock, since, seen, c0, k1, k2, k3, k4, k5, k6⟩, h3⟩ := h
  exact ⟨since, seen, c0, k5⟩
theorem RGK.lt (h : RGK w b r F N left cnt) : r < w.heap.size := by
  obtain ⟨_, _, _, h1⟩ := h.iter
  exact (Array.getElem?_eq_some_iff.1 h1).1
theorem RGK.ltb (h : RGK w b r F N left cnt) : b < w.heap.size := by
  obtain ⟨D, lf, ⟨es, clock, since, seen, c0, k1, k2, k3, k4, k5, k6⟩, h3⟩ := h
  exact (Array.getElem?_eq_some_iff.1 k1).1
theorem RGK.left_eq (h : RGK w b r F N left cnt) : w.rangeLeft b r = cnt := by
  obtain ⟨D, lf, h1, _⟩ := h
  exact h1.left_eq
theorem RGK.later (h : RGK w b r F N left cnt) (hb : Below w.heap.size w w') : RGK w' b r F N left cnt := h.stay (hb.block b h.ltb) (hb.block r h.lt)
/-- an iterator is no row -/
theorem RGK.ne {base : Nat} {v : Value} {l : List (List UInt8)} (h : RGK w b r F N left cnt) (ho : Own base w v l) : v.ownBlock ≠ some r := by
  obtain ⟨_, _, _, h1⟩ := h.iter
  intro e
  rcases ho.2 with ⟨rfl, _⟩ | ⟨g, cap, cur, rfl, _, hg, _⟩
  · cases e
  · simp only [Value.ownBlock, Option.some.injEq] at e
    subst e
    rw [hg] at h1
    cases h1
theorem mp_ne {base b cnt : Nat} {v : Value} {l : List (List UInt8)} {F : List UInt8 → Option Fl} (h : MP cF w b F cnt) (ho : Own base w v l) : v.ownBlock ≠ some b := by
  obtain ⟨es, clock, h1⟩ := h.isMap
  intro e
  rcases ho.2 with ⟨rfl, _⟩ | ⟨g, cap, cur, rfl, _, hg, _⟩
  · cases e
  · simp only [Value.ownBlock, Option.some.injEq] at e
    subst e
    rw [hg] at h1
    cases h1
variable {ops : Array Oper} {rest : List Oper} {o : Oper} {a : Act} {Q : Exit → Act → World → Prop}
/-- range over the map -/
theorem wp_rangeK (h : MP cF w b F N) (hg : o.guard = none) (m : Operand) (hop : o.op = Op.range 69 m) (hm : a.eval m = .map (some b))
    (hK : ∀ w' left, RGK w' b w.heap.size F N left N → (∀ k, left k = true ↔ Lk k ∧ (F k).isSome = true) → Below w.heap.size w w' → w'.heap.size = w.heap.size + 1 → wpList Tryz.prog ops Q rest (a.put o.dst (.pointer (some ⟨w.heap.size, 0, none⟩))) w') :
    wpList Tryz.prog ops Q (o :: rest) a w := by
  obtain ⟨D, h1, h2, h3, h4⟩ := h
  refine wpList_range_own w hg m 69 hop 9 30 lawM cF.und cF.R b N D hm h1 ?_
  intro w' r1 r2 r3
  rw [h2] at r1
  refine hK w' (fun k => Maps.has D (.string k)) ⟨D, _, r1, fun k => rfl, h3, h4⟩ (fun k => ?_) ⟨r2.os, r2.tape, r2.output, r2.size, fun i hi => r2.block i hi (by simp)⟩ r3
  constructor
  · intro hk
    have hl := h3 k hk
    exact ⟨hl, by rw [← (h4 k hl).1]; exact hk⟩
  · rintro ⟨hl, hs⟩
    show Maps.has D (.string k) = true
    rw [(h4 k hl).1]
    exact hs
set_option maxRecDepth 100000 in
/-- the next one -/
theorem wp_nextK (h : RGK w b r F N left cnt) (hg : o.guard = none) (it : Operand) (hop : o.op = Op.next it false) (hit : a.eval it = .pointer (some ⟨r, 0, none⟩))
    (hDone : (∀ k, left k = false) → wpList Tryz.prog ops Q rest (a.put o.dst (.tuple #[.bool false])) w)
    (hMore : ∀ (k : List UInt8) (f : Fl) (w' : World) (cnt' : Nat), left k = true → Lk k → F k = some f → RGK w' b r F N (fun z => left z && !(z == k)) cnt' → cnt' < cnt → w.grownBy w' (some r) → w'.heap.size = w.heap.size →
      (Instr.entry (.pointer (some ⟨r, 0, none⟩))).run Tryz.prog w' = .ok (.tuple #[.string (bs k), .agg #[.string (bs f.path), .string (bs f.text), .int .i64 f.blob, .int .i64 f.size]]) w' →
      wpList Tryz.prog ops Q rest (a.put o.dst (.tuple #[.bool true, .string (bs k), .agg #[.string (bs f.path), .string (bs f.text), .int .i64 f.blob, .int .i64 f.size]])) w') :
    wpList Tryz.prog ops Q (o :: rest) a w := by
  obtain ⟨D, lf, h1, h3, hks, h4⟩ := h
  refine wpList_next_ranges w hg it hop 9 lawM cF.R (fun s : List UInt8 => .string (bs s)) (fun f : Fl => Value.agg #[.string (bs f.path), .string (bs f.text), .int .i64 f.blob, .int .i64 f.size]) (fun key kl hk => by obtain ⟨s, e, _⟩ := keyInv hk; exact ⟨s, e⟩) (fun v y hy => cF.inv v y hy) b r N D lf cnt hit h1 ?_ ?_
  · intro _ hl
    exact hDone (fun k => by rw [← h3 k]; exact hl _)
  · intro k f kl y w' cnt' hkey hl hR hat hrg hlt hgr hsz hen
    obtain ⟨s, e1, e2⟩ := keyInv hkey
    have e1 : k = s := by
      injection e1 with e1
      exact bs_inj.1 e1
    subst e1
    subst e2
    have hh : Maps.has D (.string k) = true := Maps.has_true_of_atKey hat
    have hu := hks k hh
    have hfx : F k = some f := by
      have h5 := (h4 k hu).1
      rw [hh] at h5
      obtain ⟨f', hf'⟩ := Option.isSome_iff_exists.1 h5.symm
      have h6 := (h4 k hu).2 f' hf' y.1
      rw [hat] at h6
      have h7 : cF.R (cF.enc f) = some y := hR
      rw [cF.hR] at h7
      have h8 : cF.d f = y.1 := by injection h7 with h7; rw [← h7]
      rw [hf', cF.inj f f' (h8.trans h6)]
    refine hMore k f w' cnt' (by rw [← h3 k]; exact hl) hu hfx ⟨D, _, hrg, fun q => ?_, hks, h4⟩ hlt hgr hsz hen
    show (lf (.string q) && !(Lit.string q).sameKey (.string k)) = (left q && !(q == k))
    rw [h3 q]
    by_cases e : q = k
    · rw [e, WideAt.sameKey_self (isKeyLit k)]; simp
    · rw [Maps.sameKey_ne (fun h => e (Lit.string.inj h))]; simp [e]
end
end Go.Proofs.YtfdcfcalbongeaaGreat
