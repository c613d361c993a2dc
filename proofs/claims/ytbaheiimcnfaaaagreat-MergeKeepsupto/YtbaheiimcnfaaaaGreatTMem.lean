/-
  Maps from texts to blocks; nodes in memory.
-/
import Derived.Test.YtbaheiimcnfaaaaGreatJNorm
import Derived.Test.YtbaheiimcnfaaaaGreatJTri3
import Derived.Maps.OwnSet
import Derived.Maps.OwnOps
import Derived.Maps.RangeWalk
namespace Go.Proofs.YtbaheiimcnfaaaaGreat
open Go.RowKit Go.Maps

/-- how an element reads: the block that it leads to -/
def ptrR (v : Value) : Option (DataW Unit × List MemPlace) :=
  match v with
  | .pointer (some a) => if a.off = 0 ∧ a.spot = none then some (.lit (.int .i64 a.block), []) else none
  | .pointer none => some (.nil, [])
  | _ => none
/-- a pointer, or nil -/
def pv : Option Nat → Value
  | some a => .pointer (some ⟨a, 0, none⟩)
  | none => .pointer none
theorem ptrR_some (a : Nat) : ptrR (.pointer (some ⟨a, 0, none⟩)) = some (.lit (.int .i64 a), []) := by simp [ptrR]
theorem ptrR_inv {v : Value} {a : Nat} {ps : List MemPlace} (h : ptrR v = some (.lit (.int .i64 a), ps)) : v = .pointer (some ⟨a, 0, none⟩) := by
  unfold ptrR at h
  split at h
  · rename_i x
    split at h
    · rename_i e
      obtain ⟨b, o, s⟩ := x
      simp only at e
      obtain ⟨rfl, rfl⟩ := e
      simp only [Option.some.injEq, Prod.mk.injEq, DataW.lit.injEq, Lit.int.injEq, true_and] at h
      have : b = a := by have := h.1; omega
      subst this; rfl
    · cases h
  · simp at h
  · cases h
theorem ptrR_nil {v : Value} {ps : List MemPlace} (h : ptrR v = some (.nil, ps)) : v = .pointer none := by
  unfold ptrR at h
  split at h
  · split at h <;> simp at h
  · rfl
  · cases h

theorem undM : Tryz.prog.underlying 115 = some (.map 9 109) := by kernel_rfl
theorem zeroP (w : World) : (zeroValue 109).run Tryz.prog w = .ok (.pointer none) w := by kernel_rfl
theorem lawM : Keyed Tryz.prog 9 := string_keyed und9
theorem keyM {k : List UInt8} (h : k.length ≤ 1000000000) : keyOf Tryz.prog 9 (.string (bs k)) = some (.string k) := WideMaps.keyOf_string_mk und9 (s := bs k) (by rw [bs_size]; unfold maxLen; omega)

/-- block b is a map from texts to blocks -/
def MP (w : World) (N b : Nat) (F : List UInt8 → Option Nat) : Prop :=
  ∃ n D, w.ownsMap Tryz.prog 9 ptrR b n D ∧ n ≤ N ∧ IsMap D ∧ ∀ k : List UInt8, Maps.has D (.string k) = (F k).isSome ∧ ∀ a, F k = some a → ∀ zd, D.atKey (.string k) zd = .lit (.int .i64 a)
theorem MP.lt {w : World} {N b : Nat} {F : List UInt8 → Option Nat} (h : MP w N b F) : b < w.heap.size := by obtain ⟨n, D, h1, _⟩ := h; exact h1.lt
theorem MP.mono {w : World} {N N' b : Nat} {F : List UInt8 → Option Nat} (h : MP w N b F) (hn : N ≤ N') : MP w N' b F := by
  obtain ⟨n, D, h1, h2, h3⟩ := h; exact ⟨n, D, h1, by omega, h3⟩
theorem MP.congr {w : World} {N b : Nat} {F G : List UInt8 → Option Nat} (h : MP w N b F) (e : ∀ k, F k = G k) : MP w N b G := by
  have : F = G := funext e
  subst this; exact h
theorem MP.block {w w' : World} {N b : Nat} {F : List UInt8 → Option Nat} (h : MP w N b F) (e : w'.heap[b]? = w.heap[b]?) : MP w' N b F := by
  obtain ⟨n, D, ⟨es, clock, hb, hr⟩, h2⟩ := h
  exact ⟨n, D, ⟨es, clock, e.trans hb, hr⟩, h2⟩
theorem isKeyLit (k : List UInt8) : WideAt.IsKeyLit (.string k) := trivial
theorem MP.new (w : World) : MP (w.alloc (.map #[] 0)) 0 w.heap.size (fun _ => none) :=
  ⟨0, .map [], World.ownsMap_made w _ _ _, Nat.le_refl _, isMap_empty, fun _ => ⟨rfl, fun a h => by cases h⟩⟩
/-- the look-up -/
theorem MP.look {w : World} {N b : Nat} {F : List UInt8 → Option Nat} (h : MP w N b F) {k : List UInt8} (hk : k.length ≤ 1000000000) (c : Bool) :
    (Instr.lookup 115 (.map (some b)) (.string (bs k)) c).run Tryz.prog w = .ok (if c then .tuple #[pv (F k), .bool (F k).isSome] else pv (F k)) w := by
  obtain ⟨n, D, h1, h2, h3, h4⟩ := h
  have hv : ∀ v ps, ptrR v = some (D.atKey (.string k) .nil, ps) → v = pv (F k) := by
    intro v ps hv
    cases e : F k with
    | some a =>
      rw [(h4 k).2 a e] at hv
      exact ptrR_inv hv
    | none =>
      have := (h4 k).1
      rw [e] at this
      rw [Maps.atKey_of_not_has this] at hv
      exact ptrR_nil hv
  cases c
  · obtain ⟨v, ps, hrun, hr⟩ := h1.lookup lawM undM (zeroP w) (zd := .nil) (zp := []) rfl (keyM hk)
    rw [hrun, hv v ps hr]; rfl
  · obtain ⟨v, ps, hrun, hr⟩ := h1.look_ok lawM undM (zeroP w) (zd := .nil) (zp := []) rfl (keyM hk)
    rw [hrun, hv v ps hr, (h4 k).1]; rfl
theorem look_nil (w : World) {k : List UInt8} (hk : k.length ≤ 1000000000) (c : Bool) :
    (Instr.lookup 115 (.map none) (.string (bs k)) c).run Tryz.prog w = .ok (if c then .tuple #[.pointer none, .bool false] else .pointer none) w :=
  Maps.look_nil c lawM undM (zeroP w) (keyM hk)
theorem Only.turned {w w' : World} {b : Nat} (h : w.mapTurned w' b) : Only [b] w w' := by
  have g := h.grown
  exact ⟨g.os, g.tape, g.output, g.size, fun k hk hn => g.block k hk (by simpa using hn)⟩
theorem turned_size {w w' : World} {b : Nat} (h : w.mapTurned w' b) : w'.heap.size = w.heap.size := by
  obtain ⟨_, _, _, _, _, rfl⟩ := h; simp [ChangeMaps.setBlock]
/-- the store -/
theorem MP.store {w : World} {N b : Nat} {F : List UInt8 → Option Nat} (h : MP w N b F) {k : List UInt8} (hk : k.length ≤ 1000000000) (hN : N < 1099511627776) (a : Nat) :
    ∃ w', (Instr.mapUpdate 115 (.map (some b)) (.string (bs k)) (.pointer (some ⟨a, 0, none⟩))).run Tryz.prog w = .ok () w' ∧ MP w' (N + 1) b (fun x => if x = k then some a else F x) ∧ Only [b] w w' ∧ w'.heap.size = w.heap.size := by
  obtain ⟨n, D, h1, h2, h3, h4⟩ := h
  obtain ⟨w', hrun, h5, h6⟩ := h1.store lawM undM (by unfold maxLen; omega) (keyM hk) (ptrR_some a)
  refine ⟨w', hrun, ⟨n + 1, _, h5, by omega, h3.put _ _, fun x => ?_⟩, Only.turned h6, turned_size h6⟩
  simp only []
  by_cases e : x = k
  · subst e
    rw [if_pos rfl, Maps.has_put_same h3 (isKeyLit x)]
    exact ⟨rfl, fun b hb zd => by rw [Maps.atKey_put_same h3 (isKeyLit x)]; cases hb; rfl⟩
  · have hne : Lit.string x ≠ Lit.string k := fun h => e (Lit.string.inj h)
    rw [if_neg e, Maps.has_put_other hne]
    exact ⟨(h4 x).1, fun b hb zd => by rw [Maps.atKey_put_other hne]; exact (h4 x).2 b hb zd⟩
/-- delete -/
theorem MP.del {w : World} {N b : Nat} {F : List UInt8 → Option Nat} (h : MP w N b F) {k : List UInt8} (hk : k.length ≤ 1000000000) (ty : TypeId) :
    ∃ w', (Builtin.delete_ #[115, 9] ty #[.map (some b), .string (bs k)]).run Tryz.prog w = .ok (.tuple #[]) w' ∧ MP w' N b (fun x => if x = k then none else F x) ∧ Only [b] w w' ∧ w'.heap.size = w.heap.size := by
  obtain ⟨n, D, h1, h2, h3, h4⟩ := h
  obtain ⟨w', hrun, h5, h6⟩ := h1.drop lawM undM (keyM hk) ty
  refine ⟨w', hrun, ⟨n, _, h5, h2, h3.del _, fun x => ?_⟩, Only.turned h6, turned_size h6⟩
  simp only []
  by_cases e : x = k
  · subst e
    rw [if_pos rfl, Maps.has_del_same]
    exact ⟨rfl, fun b hb => by cases hb⟩
  · have hne : Lit.string x ≠ Lit.string k := fun h => e (Lit.string.inj h)
    rw [if_neg e, Maps.has_del_other hne]
    exact ⟨(h4 x).1, fun b hb zd => by rw [Maps.atKey_del_other hne]; exact (h4 x).2 b hb zd⟩
/-- clear -/
theorem MP.clear {w : World} {N b : Nat} {F : List UInt8 → Option Nat} (h : MP w N b F) (ty : TypeId) :
    ∃ w', (Builtin.clear_ #[115] ty #[.map (some b)]).run Tryz.prog w = .ok (.tuple #[]) w' ∧ MP w' N b (fun _ => none) ∧ Only [b] w w' ∧ w'.heap.size = w.heap.size := by
  obtain ⟨n, D, ⟨es, clock, hb, F0, hs, hD⟩, h2, h3, h4⟩ := h
  have ht : w.mapTurned (ChangeMaps.setBlock w b (.map #[] clock)) b := ⟨es, clock, #[], clock, hb, rfl⟩
  refine ⟨ChangeMaps.setBlock w b (.map #[] clock), ?_, ⟨0, .map [], ⟨#[], clock, ChangeMaps.heap_setBlock_same hb _, ⟨by simp, MapKept.stamped_empty clock, by simp⟩, Nat.le_refl _, rfl⟩, by omega, isMap_empty, fun _ => ⟨rfl, fun a h => by cases h⟩⟩, Only.turned ht, turned_size ht⟩
  simp [Builtin.clear_, run_underlying undM, MapKept.run_getObj_map hb, MapKept.run_setObj_map _ hb, Result.andThen, ChangeMaps.setBlock]

/-- a node: its map, its count, its sums -/
structure ND (w : World) (g : Nat) (m : Option Nat) (c a o : Nat) : Prop where
  blk : w.heap[g]? = some (.cells #[.map m, .int .i64 c, .int .u64 (a / 18446744073709551616 : Nat), .int .u64 (a % 18446744073709551616 : Nat), .int .u64 (o / 18446744073709551616 : Nat), .int .u64 (o % 18446744073709551616 : Nat)] 120 (0, 0))
theorem ND.lt {w : World} {g : Nat} {m : Option Nat} {c a o : Nat} (h : ND w g m c a o) : g < w.heap.size := (Array.getElem?_eq_some_iff.1 h.blk).1
theorem ND.block {w w' : World} {g : Nat} {m : Option Nat} {c a o : Nat} (h : ND w g m c a o) (e : w'.heap[g]? = w.heap[g]?) : ND w' g m c a o := ⟨e.trans h.blk⟩
theorem ND.ne {w : World} {g b N : Nat} {m : Option Nat} {c a o : Nat} {F : List UInt8 → Option Nat} (h : ND w g m c a o) (k : MP w N b F) : g ≠ b := by
  rintro rfl
  obtain ⟨n, D, ⟨es, clock, hb, _⟩, _⟩ := k
  rw [h.blk] at hb; cases hb

/-- what is there of a tree: A, M: where the nodes and their maps lie; F: blocks of the tree's own; K: what is in a directory -/
structure Hp (w : World) (A M : Q → Nat) (N : Nat) (F : Nat → Prop) (S : Q → Option Nd) (K : Q → List UInt8 → Bool) : Prop where
  dirs : ∀ q c a o, S q = some (.dir c a o) → ND w (A q) (some (M q)) c a o ∧ MP w N (M q) (fun n => if K q n then some (A (q ++ [n])) else none) ∧ F (A q) ∧ F (M q)
  files : ∀ q s, S q = some (.file s) → ND w (A q) none 1 s 0 ∧ F (A q)
  inj : ∀ q q', (S q).isSome = true → (S q').isSome = true → A q = A q' → q = q'
  injM : ∀ q q' c a o c' a' o', S q = some (.dir c a o) → S q' = some (.dir c' a' o') → M q = M q' → q = q'
theorem Hp.node {w : World} {A M : Q → Nat} {N : Nat} {F : Nat → Prop} {S : Q → Option Nd} {K : Q → List UInt8 → Bool} (h : Hp w A M N F S K) {q : Q} (hq : (S q).isSome = true) : A q < w.heap.size ∧ F (A q) := by
  cases e : S q with
  | none => rw [e] at hq; cases hq
  | some d =>
    cases d with
    | dir c a o => exact ⟨(h.dirs q c a o e).1.lt, (h.dirs q c a o e).2.2.1⟩
    | file s => exact ⟨(h.files q s e).1.lt, (h.files q s e).2⟩
theorem Hp.apart {w : World} {A M : Q → Nat} {N : Nat} {F : Nat → Prop} {S : Q → Option Nd} {K : Q → List UInt8 → Bool} (h : Hp w A M N F S K) {q q' : Q} {c a o : Nat} (hq : (S q).isSome = true) (hq' : S q' = some (.dir c a o)) : A q ≠ M q' := by
  have h2 := (h.dirs q' c a o hq').2.1
  cases e : S q with
  | none => rw [e] at hq; cases hq
  | some d =>
    cases d with
    | dir c a o => exact (h.dirs q c a o e).1.ne h2
    | file s => exact (h.files q s e).1.ne h2
/-- while its blocks stay -/
theorem Hp.stay {w w' : World} {A M : Q → Nat} {N : Nat} {F : Nat → Prop} {S : Q → Option Nd} {K : Q → List UInt8 → Bool} (h : Hp w A M N F S K) (hs : ∀ k, k < w.heap.size → F k → w'.heap[k]? = w.heap[k]?) : Hp w' A M N F S K where
  dirs q c a o e := by
    obtain ⟨h1, h2, h3, h4⟩ := h.dirs q c a o e
    exact ⟨h1.block (hs _ h1.lt h3), h2.block (hs _ h2.lt h4), h3, h4⟩
  files q s e := by
    obtain ⟨h1, h2⟩ := h.files q s e
    exact ⟨h1.block (hs _ h1.lt h2), h2⟩
  inj := h.inj
  injM := h.injM
theorem Hp.later {w w' : World} {A M : Q → Nat} {N : Nat} {F : Nat → Prop} {S : Q → Option Nd} {K : Q → List UInt8 → Bool} (h : Hp w A M N F S K) (hb : Below w.heap.size w w') : Hp w' A M N F S K :=
  h.stay (fun k hk _ => hb.block k hk)
/-- less of it -/
theorem Hp.less {w : World} {A M : Q → Nat} {N : Nat} {F : Nat → Prop} {S S' : Q → Option Nd} {K K' : Q → List UInt8 → Bool} (h : Hp w A M N F S K) (hS : ∀ q d, S' q = some d → S q = some d) (hK : ∀ q n, K q n = K' q n) : Hp w A M N F S' K' := by
  have e : K = K' := funext fun q => funext fun n => hK q n
  subst e
  have hs : ∀ q, (S' q).isSome = true → (S q).isSome = true := by
    intro q hq
    obtain ⟨d, hd⟩ := Option.isSome_iff_exists.1 hq
    rw [hS q d hd]; rfl
  exact ⟨fun q c a o e => h.dirs q c a o (hS q _ e), fun q s e => h.files q s (hS q _ e), fun q q' h1 h2 => h.inj q q' (hs q h1) (hs q' h2), fun q q' c a o c' a' o' h1 h2 => h.injM q q' c a o c' a' o' (hS q _ h1) (hS q' _ h2)⟩
theorem Hp.wider {w : World} {A M : Q → Nat} {N N' : Nat} {F F' : Nat → Prop} {S : Q → Option Nd} {K : Q → List UInt8 → Bool} (h : Hp w A M N F S K) (hF : ∀ k, F k → F' k) (hN : N ≤ N') : Hp w A M N' F' S K :=
  ⟨fun q c a o e => ⟨(h.dirs q c a o e).1, (h.dirs q c a o e).2.1.mono hN, hF _ (h.dirs q c a o e).2.2.1, hF _ (h.dirs q c a o e).2.2.2⟩, fun q s e => ⟨(h.files q s e).1, hF _ (h.files q s e).2⟩, h.inj, h.injM⟩
/-- a directory's numbers are written -/
theorem Hp.set {w w' : World} {A M : Q → Nat} {N : Nat} {F : Nat → Prop} {S : Q → Option Nd} {K : Q → List UInt8 → Bool} (h : Hp w A M N F S K) {q : Q} {c a o c' a' o' : Nat} (hq : S q = some (.dir c a o)) (ho : Only [A q] w w') (hn : ND w' (A q) (some (M q)) c' a' o') :
    Hp w' A M N F (upd S q (some (.dir c' a' o'))) K := by
  have hsome : ∀ x, (upd S q (some (.dir c' a' o')) x).isSome = true → (S x).isSome = true := by
    intro x hx
    by_cases e : x = q
    · subst e; rw [hq]; rfl
    · rw [upd_ne _ _ e] at hx; exact hx
  have hdir : ∀ x c a o, upd S q (some (.dir c' a' o')) x = some (.dir c a o) → ∃ c a o, S x = some (.dir c a o) := by
    intro x c1 a1 o1 hx
    by_cases e : x = q
    · subst e; exact ⟨_, _, _, hq⟩
    · rw [upd_ne _ _ e] at hx; exact ⟨_, _, _, hx⟩
  refine ⟨fun x c1 a1 o1 e => ?_, fun x s e => ?_, fun x y hx hy => h.inj x y (hsome x hx) (hsome y hy), fun x y c1 a1 o1 c2 a2 o2 hx hy => ?_⟩
  · by_cases ex : x = q
    · subst ex
      rw [upd_at] at e
      cases e
      obtain ⟨h1, h2, h3, h4⟩ := h.dirs x c a o hq
      exact ⟨hn, h2.block (ho.block _ h2.lt (by simp; exact (h1.ne h2).symm)), h3, h4⟩
    · rw [upd_ne _ _ ex] at e
      obtain ⟨h1, h2, h3, h4⟩ := h.dirs x c1 a1 o1 e
      have n1 : A x ≠ A q := fun e2 => ex (h.inj x q (by rw [e]; rfl) (by rw [hq]; rfl) e2)
      have n2 : M x ≠ A q := (h.apart (by rw [hq]; rfl) e).symm
      exact ⟨h1.block (ho.block _ h1.lt (by simpa using n1)), h2.block (ho.block _ h2.lt (by simpa using n2)), h3, h4⟩
  · have ex : x ≠ q := by rintro rfl; rw [upd_at] at e; cases e
    rw [upd_ne _ _ ex] at e
    obtain ⟨h1, h2⟩ := h.files x s e
    have n1 : A x ≠ A q := fun e2 => ex (h.inj x q (by rw [e]; rfl) (by rw [hq]; rfl) e2)
    exact ⟨h1.block (ho.block _ h1.lt (by simpa using n1)), h2⟩
  · obtain ⟨_, _, _, h1⟩ := hdir x c1 a1 o1 hx
    obtain ⟨_, _, _, h2⟩ := hdir y c2 a2 o2 hy
    exact h.injM x y _ _ _ _ _ _ h1 h2
/-- a directory's map is written -/
theorem Hp.setMap {w w' : World} {A M : Q → Nat} {N : Nat} {F : Nat → Prop} {S : Q → Option Nd} {K K' : Q → List UInt8 → Bool} (h : Hp w A M N F S K) {q : Q} {c a o : Nat} (hq : S q = some (.dir c a o)) (ho : Only [M q] w w')
    (hm : MP w' N (M q) (fun n => if K' q n then some (A (q ++ [n])) else none)) (hK : ∀ x n, x ≠ q → K' x n = K x n) : Hp w' A M N F S K' := by
  refine ⟨fun x c1 a1 o1 e => ?_, fun x s e => ?_, h.inj, h.injM⟩
  · obtain ⟨h1, h2, h3, h4⟩ := h.dirs x c1 a1 o1 e
    have n1 : A x ≠ M q := h.apart (by rw [e]; rfl) hq
    by_cases ex : x = q
    · subst ex
      exact ⟨h1.block (ho.block _ h1.lt (by simpa using n1)), hm, h3, h4⟩
    · have n2 : M x ≠ M q := fun e2 => ex (h.injM x q _ _ _ _ _ _ e hq e2)
      refine ⟨h1.block (ho.block _ h1.lt (by simpa using n1)), (h2.block (ho.block _ h2.lt (by simpa using n2))).congr (fun n => by rw [hK x n ex]), h3, h4⟩
  · obtain ⟨h1, h2⟩ := h.files x s e
    have n1 : A x ≠ M q := h.apart (by rw [e]; rfl) hq
    exact ⟨h1.block (ho.block _ h1.lt (by simpa using n1)), h2⟩
/-- the keys of a tree: what is there -/
def keys (S : Q → Option Nd) (q : Q) (n : List UInt8) : Bool := (S (q ++ [n])).isSome
/-- something new in a directory: its node, and its map if it is a directory -/
theorem Hp.new {w w' : World} {A M : Q → Nat} {N : Nat} {F : Nat → Prop} {S : Q → Option Nd} (h : Hp w A M N F S (keys S)) {q : Q} {n : List UInt8} {c a o : Nat} (hq : S q = some (.dir c a o)) (hnone : S (q ++ [n]) = none) (hbelow : ∀ m, S (q ++ [n] ++ [m]) = none)
    {g b : Nat} {d : Nd} (hg : w.heap.size ≤ g) (hb : w.heap.size ≤ b) (ho : Only [M q] w w') (hm : MP w' (N + 1) (M q) (fun x => if x = n then some g else if keys S q x then some (A (q ++ [x])) else none))
    (hd : (∃ s, d = .file s ∧ ND w' g none 1 s 0) ∨ (∃ c a o, d = .dir c a o ∧ ND w' g (some b) c a o ∧ MP w' N b (fun _ => none))) :
    Hp w' (upd A (q ++ [n]) g) (upd M (q ++ [n]) b) (N + 1) (fun k => F k ∨ w.heap.size ≤ k ∧ k < w'.heap.size) (upd S (q ++ [n]) (some d)) (keys (upd S (q ++ [n]) (some d))) := by
  have hqn : q ≠ q ++ [n] := by
    intro e
    have := congrArg List.length e
    simp at this
  have hold : ∀ x, x ≠ q ++ [n] → (upd S (q ++ [n]) (some d) x).isSome = true → A x < w.heap.size := by
    intro x hx hs
    rw [upd_ne _ _ hx] at hs
    exact (h.node hs).1
  have hgl : g < w'.heap.size := by
    rcases hd with ⟨s, _, h1⟩ | ⟨c, a, o, _, h1, _⟩
    · exact h1.lt
    · exact h1.lt
  refine ⟨fun x c1 a1 o1 e => ?_, fun x s e => ?_, fun x y hx hy e => ?_, fun x y c1 a1 o1 c2 a2 o2 hx hy e => ?_⟩
  · by_cases ex : x = q ++ [n]
    · subst ex
      rw [upd_at] at e
      rw [upd_at, upd_at]
      cases e
      rcases hd with ⟨s, e, _⟩ | ⟨c, a, o, e, h1, h2⟩
      · cases e
      · cases e
        refine ⟨h1, (h2.mono (by omega)).congr (fun m => ?_), .inr ⟨hg, hgl⟩, .inr ⟨hb, h2.lt⟩⟩
        have : keys (upd S (q ++ [n]) (some (.dir c1 a1 o1))) (q ++ [n]) m = false := by
          unfold keys
          rw [upd_ne, hbelow m]
          · rfl
          · intro e
            have := congrArg List.length e
            simp at this
        rw [this]; rfl
    · rw [upd_ne _ _ ex] at e
      rw [upd_ne _ _ ex, upd_ne _ _ ex]
      obtain ⟨h1, h2, h3, h4⟩ := h.dirs x c1 a1 o1 e
      have n1 : A x ≠ M q := h.apart (by rw [e]; rfl) hq
      refine ⟨h1.block (ho.block _ h1.lt (by simpa using n1)), ?_, .inl h3, .inl h4⟩
      by_cases ey : x = q
      · subst ey
        refine hm.congr (fun m => ?_)
        by_cases em : m = n
        · subst em
          rw [if_pos rfl]
          have : keys (upd S (x ++ [m]) (some d)) x m = true := by unfold keys; rw [upd_at]; rfl
          rw [this, upd_at]; rfl
        · have hne : x ++ [m] ≠ x ++ [n] := fun e => em (by simpa using e)
          have : keys (upd S (x ++ [n]) (some d)) x m = keys S x m := by unfold keys; rw [upd_ne _ _ hne]
          rw [if_neg em, this, upd_ne _ _ hne]
      · have n2 : M x ≠ M q := fun e2 => ey (h.injM x q _ _ _ _ _ _ e hq e2)
        refine ((h2.block (ho.block _ h2.lt (by simpa using n2))).mono (by omega)).congr (fun m => ?_)
        have hne : x ++ [m] ≠ q ++ [n] := fun e => ey (List.append_inj_left' e rfl)
        have : keys (upd S (q ++ [n]) (some d)) x m = keys S x m := by unfold keys; rw [upd_ne _ _ hne]
        rw [this, upd_ne _ _ hne]
  · by_cases ex : x = q ++ [n]
    · subst ex
      rw [upd_at] at e
      rw [upd_at]
      cases e
      rcases hd with ⟨s', e, h1⟩ | ⟨c, a, o, e, h1, h2⟩
      · cases e
        exact ⟨h1, .inr ⟨hg, hgl⟩⟩
      · cases e
    · rw [upd_ne _ _ ex] at e
      rw [upd_ne _ _ ex]
      obtain ⟨h1, h2⟩ := h.files x s e
      have n1 : A x ≠ M q := h.apart (by rw [e]; rfl) hq
      exact ⟨h1.block (ho.block _ h1.lt (by simpa using n1)), .inl h2⟩
  · by_cases ex : x = q ++ [n]
    · by_cases ey : y = q ++ [n]
      · rw [ex, ey]
      · have := hold y ey hy
        rw [ex, upd_at, upd_ne _ _ ey] at e; omega
    · by_cases ey : y = q ++ [n]
      · have := hold x ex hx
        rw [ey, upd_at, upd_ne _ _ ex] at e; omega
      · rw [upd_ne _ _ ex, upd_ne _ _ ey] at e
        rw [upd_ne _ _ ex] at hx
        rw [upd_ne _ _ ey] at hy
        exact h.inj x y hx hy e
  · by_cases ex : x = q ++ [n]
    · by_cases ey : y = q ++ [n]
      · rw [ex, ey]
      · rw [upd_ne _ _ ey] at hy
        have := (h.dirs y _ _ _ hy).2.1.lt
        rw [ex, upd_at, upd_ne _ _ ey] at e; omega
    · by_cases ey : y = q ++ [n]
      · rw [upd_ne _ _ ex] at hx
        have := (h.dirs x _ _ _ hx).2.1.lt
        rw [ey, upd_at, upd_ne _ _ ex] at e; omega
      · rw [upd_ne _ _ ex, upd_ne _ _ ey] at e
        rw [upd_ne _ _ ex] at hx
        rw [upd_ne _ _ ey] at hy
        exact h.injM x y _ _ _ _ _ _ hx hy e

/-- What was there has not turned, but for the blocks of F. -/
structure OnlyP (F : Nat → Prop) (w w' : World) : Prop where
  os : w'.os = w.os
  tape : w'.tape = w.tape
  output : w'.output = w.output
  size : w.heap.size ≤ w'.heap.size
  block : ∀ k, k < w.heap.size → ¬ F k → w'.heap[k]? = w.heap[k]?
theorem OnlyP.refl (F : Nat → Prop) (w : World) : OnlyP F w w := ⟨rfl, rfl, rfl, Nat.le_refl _, fun _ _ _ => rfl⟩
theorem OnlyP.of_below {a b : World} (h : Below a.heap.size a b) (F : Nat → Prop) : OnlyP F a b := ⟨h.os, h.tape, h.output, h.size, fun i hi _ => h.block i hi⟩
theorem OnlyP.of_only {S : List Nat} {F : Nat → Prop} {a b : World} (h : Only S a b) (hF : ∀ k, k ∈ S → F k) : OnlyP F a b := ⟨h.os, h.tape, h.output, h.size, fun i hi hn => h.block i hi (fun e => hn (hF i e))⟩
/-- F, or new since a -/
theorem OnlyP.trans {F G : Nat → Prop} {a b c : World} (h : OnlyP F a b) (k : OnlyP G b c) (hG : ∀ i, i < a.heap.size → G i → F i) : OnlyP F a c :=
  ⟨k.os.trans h.os, k.tape.trans h.tape, k.output.trans h.output, Nat.le_trans h.size k.size, fun i hi hn => (k.block i (Nat.lt_of_lt_of_le hi h.size) (fun e => hn (hG i hi e))).trans (h.block i hi hn)⟩
theorem OnlyP.cell {F : Nat → Prop} {a b : World} (h : OnlyP F a b) {p : Addr} (hp : p.block < a.heap.size) (hn : ¬ F p.block) : b.cell? p = a.cell? p := World.cell?_of_block (h.block _ hp hn)

/-- a tree of files, in block t -/
structure TR (w : World) (F : Nat → Prop) (t : Nat) (L : List Fl) (N : Nat) : Prop where
  good : GoodT L
  it : ∃ A M, Hp w A M N F (st L) (keys (st L)) ∧ w.heap[t]? = some (.cells #[.pointer (some ⟨A [], 0, none⟩)] 112 (0, 0))
  own : F t
  lt : ∀ k, F k → k < w.heap.size
theorem TR.stay {w w' : World} {F : Nat → Prop} {t N : Nat} {L : List Fl} (h : TR w F t L N) (hz : w.heap.size ≤ w'.heap.size) (hs : ∀ k, F k → w'.heap[k]? = w.heap[k]?) : TR w' F t L N := by
  obtain ⟨h1, ⟨A, M, h2, h3⟩, h4, h5⟩ := h
  exact ⟨h1, ⟨A, M, h2.stay (fun k _ hk => hs k hk), (hs t h4).trans h3⟩, h4, fun k hk => Nat.lt_of_lt_of_le (h5 k hk) hz⟩
theorem TR.later {w w' : World} {F : Nat → Prop} {t N : Nat} {L : List Fl} (h : TR w F t L N) (hb : Below w.heap.size w w') : TR w' F t L N :=
  h.stay hb.size (fun k hk => hb.block k (h.lt k hk))
theorem TR.only {w w' : World} {F G : Nat → Prop} {t N : Nat} {L : List Fl} (h : TR w F t L N) (hb : OnlyP G w w') (hd : ∀ k, F k → ¬ G k) : TR w' F t L N :=
  h.stay hb.size (fun k hk => hb.block k (h.lt k hk) (hd k hk))
theorem TR.perm {w : World} {F : Nat → Prop} {t N : Nat} {L L' : List Fl} (h : TR w F t L N) (hp : L.Perm L') : TR w F t L' N := by
  obtain ⟨h1, ⟨A, M, h2, h3⟩, h4, h5⟩ := h
  rw [st_perm h1 hp] at h2
  exact ⟨h1.perm hp, ⟨A, M, h2, h3⟩, h4, h5⟩
theorem TR.mono {w : World} {F : Nat → Prop} {t N N' : Nat} {L : List Fl} (h : TR w F t L N) (hN : N ≤ N') : TR w F t L N' := by
  obtain ⟨h1, ⟨A, M, h2, h3⟩, h4, h5⟩ := h
  exact ⟨h1, ⟨A, M, h2.wider (fun _ h => h) hN, h3⟩, h4, h5⟩
end Go.Proofs.YtbaheiimcnfaaaaGreat
