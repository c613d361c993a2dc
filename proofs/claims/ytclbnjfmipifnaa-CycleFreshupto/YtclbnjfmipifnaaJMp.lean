/-
  The order of nodes.
  Maps whose keys are labels.
-/
import Derived.Test.YtclbnjfmipifnaaJLrow
import Derived.Maps.OwnSet
import Derived.Maps.OwnOps
import Derived.Maps.RangeWalk
import Derived.WideKeyEntry
import Derived.DeepKeys4
namespace Go.Proofs.Ytclbnjfmipifnaa
open Go.RowKit

theorem Laid.refl (w : World) : Laid w w := ⟨Below.refl _ _, Nat.le_refl _⟩
theorem Laid.step {a b c : World} (h : Laid a b) (k : Laid b c) : Laid a c := ⟨bstep h.below k.below, Nat.le_trans h.drawn k.drawn⟩
theorem Laid.alloc (w : World) (o : Obj) : Laid w (w.alloc o) := ⟨balloc w o, Nat.le_refl _⟩
theorem Laid.drew (w : World) : Laid w w.drew := ⟨(Below.refl w.heap.size w).drew, Nat.le_succ _⟩
set_option maxHeartbeats 4000000 in
theorem lcmp_laid (a b : Lb) (w : World) (ha : Lm a) (hb : Lm b) : Calls Try.prog 49 #[a.val, b.val] w fun e w' => e = .returned (.int .i64 (cmpL a b)) ∧ Laid w w' := by
  obtain ⟨p, n⟩ := a
  obtain ⟨q, m⟩ := b
  have h1 := ha.pkg
  have h2 := hb.pkg
  simp only at h1 h2
  have HC : Hid (∀ w : World, Calls Try.prog 61 #[.string (bs p), .string (bs q)] w fun e w' => e = .returned (.int .i64 (cmpP (pcs p) (pcs q))) ∧ Laid w w') := fun w => cmp_any p q w (by omega) (by omega)
  have HS : Hid (∀ w : World, Calls Try.prog 50 #[.string (bs n), .string (bs m)] w fun e w' => e = .returned (.int .i64 (Lib.compareBytes n m)) ∧ w' = w) := fun w => compare_any n m w
  clear h1 h2 ha hb
  simp only [Lb.val, cmpL]
  generalize cmpP (pcs p) (pcs q) = x at *
  generalize Lib.compareBytes n m = y at *
  have HO : Hid (∀ w : World, Calls Try.prog 48 #[.slice (some ⟨w.heap.size, 0, none⟩) 2 2] (w.alloc (.cells #[.int .i64 x, .int .i64 y] 3)) fun e w' => e = .returned (.int .i64 (if x = 0 then y else x)) ∧ w' = w.alloc (.cells #[.int .i64 x, .int .i64 y] 3)) := or_new x y
  obtain ⟨r, hr⟩ : ∃ r, (if x = 0 then y else x) = r := ⟨_, rfl⟩
  rw [hr] at HO ⊢
  clear hr
  have HA : Hid (RB ((w.alloc (.cells #[.string (bs p), .string (bs n)] 35)).alloc (.cells #[.string (bs q), .string (bs m)] 35)) w.heap.size ⟨p, n⟩) := (RB.new w ⟨p, n⟩).later (balloc _ _)
  have HB : Hid (RB ((w.alloc (.cells #[.string (bs p), .string (bs n)] 35)).alloc (.cells #[.string (bs q), .string (bs m)] 35)) (w.heap.size + 1) ⟨q, m⟩) := by
    show RB _ _ _
    have := RB.new (w.alloc (.cells #[.string (bs p), .string (bs n)] 35)) ⟨q, m⟩
    simpa using this
  have HB0 : Hid (Laid w ((w.alloc (.cells #[.string (bs p), .string (bs n)] 35)).alloc (.cells #[.string (bs q), .string (bs m)] 35))) := (Laid.alloc w _).step (Laid.alloc _ _)
  go_enter Try.func49, Try.ntmps49
  go_wp2_with fail
  generalize (w.alloc (.cells #[.string (bs p), .string (bs n)] 35)).alloc (.cells #[.string (bs q), .string (bs m)] 35) = w0 at *
  obtain ⟨c0, c1, _, _⟩ := HA.out.cells
  obtain ⟨d0, d1, _, _⟩ := HB.out.cells
  have la := HA.out.lt
  have lb := HB.out.lt
  simp only at c0 c1 d0 d1
  have HL : Hid (w.heap.size < w0.heap.size ∧ w.heap.size + 1 < w0.heap.size) := ⟨la, lb⟩
  clear la lb
  go_region_held3 (fun w' => w'.cell? ⟨w.heap.size, 0, none⟩ = some (.string (bs p)) ∧ w'.cell? ⟨w.heap.size, 1, none⟩ = some (.string (bs n)) ∧ w'.cell? ⟨w.heap.size + 1, 0, none⟩ = some (.string (bs q)) ∧ w'.cell? ⟨w.heap.size + 1, 1, none⟩ = some (.string (bs m))) (first | (with_reducible exact ⟨c0, c1, d0, d1⟩) | (with_reducible exact KS1.out) | go_keep) (first | (go_at_call 61; (with_reducible refine (HC.out _).mono ?_); rintro e w1 ⟨rfl, hb1⟩; have HL1 : Hid (Laid w0 w1) := (Laid.drew w0).step hb1; have KS1 : Hid (w1.cell? ⟨w.heap.size, 0, none⟩ = some (.string (bs p)) ∧ w1.cell? ⟨w.heap.size, 1, none⟩ = some (.string (bs n)) ∧ w1.cell? ⟨w.heap.size + 1, 0, none⟩ = some (.string (bs q)) ∧ w1.cell? ⟨w.heap.size + 1, 1, none⟩ = some (.string (bs m))) := cells4 HL1.out.below HL.out.1 HL.out.2 c0 c1 d0 d1; clear hb1) | (go_at_call 50; (with_reducible refine (HS.out _).mono ?_); rintro e w2 ⟨rfl, rfl⟩) | (go_at_call 48; (with_reducible refine (HO.out _).mono ?_); rintro e w3 ⟨rfl, rfl⟩))
  all_goals (go_wp2_with fail; go_ret)
  all_goals exact ⟨rfl, HB0.out.step (HL1.out.step (Laid.alloc _ _))⟩

theorem ris_or (a b : Lb) : (if cmpL a b = 0 then Lib.compareBytes a.pkg b.pkg else cmpL a b) = cmpL a b := by
  split
  · rename_i h
    have e := (cmpL_zero a b).1 h
    rw [h, e]
    exact cb_refl _
  · rfl
set_option maxHeartbeats 4000000 in
theorem rising_any (a b : Lb) (w : World) (ha : Lm a) (hb : Lm b) : Calls Try.prog 37 #[a.val, b.val] w fun e w' => e = .returned (.int .i64 (cmpL a b)) ∧ Laid w w' := by
  have HC : Hid (∀ w : World, Calls Try.prog 49 #[a.val, b.val] w fun e w' => e = .returned (.int .i64 (cmpL a b)) ∧ Laid w w') := fun w => lcmp_laid a b w ha hb
  have HE : Hid ((if cmpL a b = 0 then Lib.compareBytes a.pkg b.pkg else cmpL a b) = cmpL a b) := ris_or a b
  obtain ⟨p, n⟩ := a
  obtain ⟨q, m⟩ := b
  have HS : Hid (∀ w : World, Calls Try.prog 50 #[.string (bs p), .string (bs q)] w fun e w' => e = .returned (.int .i64 (Lib.compareBytes p q)) ∧ w' = w) := fun w => compare_any p q w
  clear ha hb
  simp only [Lb.val] at *
  generalize cmpL ⟨p, n⟩ ⟨q, m⟩ = x at *
  generalize Lib.compareBytes p q = y at *
  have HO : Hid (∀ w : World, Calls Try.prog 48 #[.slice (some ⟨w.heap.size, 0, none⟩) 2 2] (w.alloc (.cells #[.int .i64 x, .int .i64 y] 3)) fun e w' => e = .returned (.int .i64 (if x = 0 then y else x)) ∧ w' = w.alloc (.cells #[.int .i64 x, .int .i64 y] 3)) := or_new x y
  rw [HE.out] at HO
  clear HE
  have HA : Hid (RB ((w.alloc (.cells #[.string (bs p), .string (bs n)] 35)).alloc (.cells #[.string (bs q), .string (bs m)] 35)) w.heap.size ⟨p, n⟩) := (RB.new w ⟨p, n⟩).later (balloc _ _)
  have HB : Hid (RB ((w.alloc (.cells #[.string (bs p), .string (bs n)] 35)).alloc (.cells #[.string (bs q), .string (bs m)] 35)) (w.heap.size + 1) ⟨q, m⟩) := by
    show RB _ _ _
    have := RB.new (w.alloc (.cells #[.string (bs p), .string (bs n)] 35)) ⟨q, m⟩
    simpa using this
  have HB0 : Hid (Laid w ((w.alloc (.cells #[.string (bs p), .string (bs n)] 35)).alloc (.cells #[.string (bs q), .string (bs m)] 35))) := (Laid.alloc w _).step (Laid.alloc _ _)
  go_enter Try.func37, Try.ntmps37
  go_wp2_with fail
  generalize (w.alloc (.cells #[.string (bs p), .string (bs n)] 35)).alloc (.cells #[.string (bs q), .string (bs m)] 35) = w0 at *
  obtain ⟨c0, c1, _, _⟩ := HA.out.cells
  obtain ⟨d0, d1, _, _⟩ := HB.out.cells
  have la := HA.out.lt
  have lb := HB.out.lt
  simp only at c0 c1 d0 d1
  have HL : Hid (w.heap.size < w0.heap.size ∧ w.heap.size + 1 < w0.heap.size) := ⟨la, lb⟩
  clear la lb
  go_region_held3 (fun w' => w'.cell? ⟨w.heap.size, 0, none⟩ = some (.string (bs p)) ∧ w'.cell? ⟨w.heap.size, 1, none⟩ = some (.string (bs n)) ∧ w'.cell? ⟨w.heap.size + 1, 0, none⟩ = some (.string (bs q)) ∧ w'.cell? ⟨w.heap.size + 1, 1, none⟩ = some (.string (bs m))) (first | (with_reducible exact ⟨c0, c1, d0, d1⟩) | (with_reducible exact KS1.out) | go_keep) (first | (go_at_call 49; (with_reducible refine (HC.out _).mono ?_); rintro e w1 ⟨rfl, hb1⟩; have HL1 : Hid (Laid w0 w1) := (Laid.drew w0).step hb1; have KS1 : Hid (w1.cell? ⟨w.heap.size, 0, none⟩ = some (.string (bs p)) ∧ w1.cell? ⟨w.heap.size, 1, none⟩ = some (.string (bs n)) ∧ w1.cell? ⟨w.heap.size + 1, 0, none⟩ = some (.string (bs q)) ∧ w1.cell? ⟨w.heap.size + 1, 1, none⟩ = some (.string (bs m))) := cells4 HL1.out.below HL.out.1 HL.out.2 c0 c1 d0 d1; clear hb1) | (go_at_call 50; (with_reducible refine (HS.out _).mono ?_); rintro e w2 ⟨rfl, rfl⟩) | (go_at_call 48; (with_reducible refine (HO.out _).mono ?_); rintro e w3 ⟨rfl, rfl⟩))
  all_goals (go_wp2_with fail; go_ret)
  all_goals exact ⟨rfl, HB0.out.step (HL1.out.step (Laid.alloc _ _))⟩
end Go.Proofs.Ytclbnjfmipifnaa

namespace Go.Proofs.Ytclbnjfmipifnaa
open Go.RowKit Go.Maps

/-- the bytes of a key -/
def kb (a : Lb) : List UInt8 := keyBytes [.string a.pkg, .string a.name]
theorem laidOut : laidOutB Try.prog = true := by kernel_rfl
theorem und31 : Try.prog.underlying 35 = some (.struct (Try.prog.fieldsOf 35)) := by kernel_rfl
theorem tsz : Try.prog.types.size = 147 := by kernel_rfl
theorem klaw : WideMaps.KeyLaw Try.prog 35 := deep_law_laid laidOut (m := 3) (by omega) (by rw [tsz]; decide) (by kernel_rfl) (by rw [und31])
theorem lawL : Keyed Try.prog 35 := Keyed.of_law klaw
theorem keyT : Try.prog.keyType 35 = true := by kernel_rfl
theorem flds2 : ∃ A B : Field, (Try.prog.fieldsOf 35).toList = [A, B] ∧ A.type = 9 ∧ A.offset = 0 ∧ B.type = 9 ∧ B.offset = 1 := by
  have h := flds23
  generalize (Try.prog.fieldsOf 35).toList = L at h
  have hl : L.length = 2 := by have := congrArg List.length h; simpa using this
  match L, hl with
  | [A, B], _ =>
    simp only [List.map_cons, List.map_nil, List.cons.injEq, Prod.mk.injEq, and_true] at h
    exact ⟨A, B, rfl, h.1.2.1, h.1.2.2, h.2.2.1, h.2.2.2⟩
theorem hc31 : Try.prog.cellsOf 35 = 2 := by kernel_rfl
theorem hc9 : Try.prog.cellsOf 9 = 1 := by kernel_rfl
theorem hnb31 : (Try.prog.fieldsOf 35).all (fun f => f.name != "_") = true := by kernel_rfl
theorem lits_eq (d : Nat) (cs : List Value) : Try.prog.keyLits (d + 2) 35 cs = if cs.length = 2 then (match Try.prog.keyLits (d + 1) 9 (cs.take 1), Try.prog.keyLits (d + 1) 9 ((cs.drop 1).take 1) with | some x, some y => some (x ++ y) | _, _ => none) else none := by
  obtain ⟨A, B, hf, a1, a2, b1, b2⟩ := flds2
  conv => lhs; unfold Program.keyLits
  rw [und31]
  simp only [hc31, hnb31, and_true, hf, List.mapM_cons, List.mapM_nil, a1, a2, b1, b2, hc9, List.drop_zero]
  split
  · cases Try.prog.keyLits (d + 1) 9 (cs.take 1) with
    | none => rfl
    | some x =>
      cases Try.prog.keyLits (d + 1) 9 ((cs.drop 1).take 1) with
      | none => rfl
      | some y => simp
  · rfl
theorem lits9 (d : Nat) (s : ByteArray) (hs : s.size ≤ maxLen) : Try.prog.keyLits (d + 1) 9 [.string s] = some [.string s.data.toList] := by
  unfold Program.keyLits
  rw [u9]
  simp [hs]
theorem lits9_inv (d : Nat) (c : Value) (x : List Lit) (hx : Try.prog.keyLits (d + 1) 9 [c] = some x) : ∃ s, c = .string s ∧ x = [.string s.data.toList] := by
  unfold Program.keyLits at hx
  rw [u9] at hx
  cases c <;> simp at hx
  exact ⟨_, rfl, hx.2.symm⟩
theorem lits (p n : ByteArray) (hp : p.size ≤ maxLen) (hn : n.size ≤ maxLen) : Try.prog.keyLits (Try.prog.types.size + 1) 35 [.string p, .string n] = some [.string p.data.toList, .string n.data.toList] := by
  rw [tsz]
  refine (lits_eq 146 _).trans ?_
  simp [lits9 146 p hp, lits9 146 n hn]
theorem keyL {a : Lb} (h : Lu a) : keyOf Try.prog 35 a.val = some (.string (kb a)) := by
  obtain ⟨p, n⟩ := a
  have h1 := h.pkg
  have h2 := h.name
  simp only at h1 h2
  unfold keyOf
  rw [und31]
  have hf : (Lb.val ⟨p, n⟩).formed Try.prog 35 = true := by kernel_rfl
  simp only [keyT, hf, Bool.and_self, if_true]
  have := lits (bs p) (bs n) (by rw [bs_size]; unfold maxLen; omega) (by rw [bs_size]; unfold maxLen; omega)
  show (Try.prog.keyLits (Try.prog.types.size + 1) 35 [.string (bs p), .string (bs n)]).map _ = _
  rw [this]
  rfl
set_option maxRecDepth 100000 in
theorem lits_inv (d : Nat) (cs : List Value) (L : List Lit) (h : Try.prog.keyLits (d + 2) 35 cs = some L) : ∃ s t : ByteArray, cs = [.string s, .string t] ∧ L = [.string s.data.toList, .string t.data.toList] := by
  rw [lits_eq] at h
  split at h
  · rename_i hl
    match cs, hl with
    | [c, e], _ =>
      simp only [List.drop_succ_cons, List.drop_zero, List.take_succ_cons, List.take_zero] at h
      cases e0 : Try.prog.keyLits (d + 1) 9 [c] with
      | none => rw [e0] at h; cases h
      | some x =>
        cases e1 : Try.prog.keyLits (d + 1) 9 [e] with
        | none => rw [e0, e1] at h; cases h
        | some y =>
          obtain ⟨s, rfl, rfl⟩ := lits9_inv d c x e0
          obtain ⟨t, rfl, rfl⟩ := lits9_inv d e y e1
          rw [e0, e1] at h
          injection h with h
          exact ⟨s, t, rfl, h.symm⟩
  · cases h
theorem keyInv {v : Value} {l : Lit} (h : keyOf Try.prog 35 v = some l) : ∃ a : Lb, v = a.val ∧ l = .string (kb a) := by
  obtain ⟨xs, L, rfl, h2, rfl⟩ := keyOf_top (P := Try.prog) (k := 35) (by rw [und31]) h
  obtain ⟨d, hd⟩ : ∃ d, Try.prog.types.size + 1 = d + 2 := ⟨146, by rw [tsz]⟩
  rw [hd] at h2
  obtain ⟨s, t, h4, rfl⟩ := lits_inv d _ _ h2
  have h5 : xs = #[.string s, .string t] := Array.toList_inj.1 h4
  subst h5
  exact ⟨⟨s.data.toList, t.data.toList⟩, rfl, rfl⟩
theorem val_inj {a b : Lb} (h : a.val = b.val) : a = b := by
  obtain ⟨p, n⟩ := a
  obtain ⟨q, m⟩ := b
  unfold Lb.val at h
  injection h with h
  have e := congrArg Array.toList h
  injection e with e1 e2
  injection e2 with e2 _
  injection e1 with e1
  injection e2 with e2
  have h1 : p = q := bs_inj.1 e1
  have h2 : n = m := bs_inj.1 e2
  rw [h1, h2]
theorem kb_inj {a b : Lb} (ha : Lu a) (hb : Lu b) (h : kb a = kb b) : a = b := by
  have h1 := keyL ha
  have h2 := keyL hb
  rw [h] at h1
  exact val_inj (lawL.inj h1 h2)
theorem isKeyLit (k : List UInt8) : WideAt.IsKeyLit (.string k) := trivial

/-- how elements lie and read -/
structure Cd (V : Type) where
  R : Value → Option (DataW Unit × List MemPlace)
  enc : V → Value
  d : V → DataW Unit
  z : V
  t : TypeId
  e : TypeId
  hR : ∀ x, R (enc x) = some (d x, [])
  inv : ∀ v y, R v = some y → ∃ x, v = enc x
  inj : ∀ x y, d x = d y → x = y
  und : Try.prog.underlying t = some (.map 35 e)
  zero : ∀ w : World, (zeroValue e).run Try.prog w = .ok (enc z) w
variable {V : Type} {c : Cd V}
/-- its keys are short -/
def Ks (D : DataW Unit) : Prop := ∀ a : Lb, keyOf Try.prog 35 a.val = some (.string (kb a)) → Maps.has D (.string (kb a)) = true → Lu a
/-- block b is a map from labels -/
def MP (c : Cd V) (w : World) (b : Nat) (F : Lb → Option V) (cnt : Nat) : Prop :=
  ∃ D, w.ownsMap Try.prog 35 c.R b cnt D ∧ Maps.size D = cnt ∧ Ks D ∧ ∀ k : Lb, Lu k → Maps.has D (.string (kb k)) = (F k).isSome ∧ ∀ x, F k = some x → ∀ zd, D.atKey (.string (kb k)) zd = c.d x
theorem MP.lt {w : World} {b cnt : Nat} {F : Lb → Option V} (h : MP c w b F cnt) : b < w.heap.size := by obtain ⟨D, h1, _⟩ := h; exact h1.lt
theorem MP.congr {w : World} {b cnt : Nat} {F G : Lb → Option V} (h : MP c w b F cnt) (e : ∀ k, Lu k → F k = G k) : MP c w b G cnt := by
  obtain ⟨D, h1, h2, h0, h3⟩ := h
  exact ⟨D, h1, h2, h0, fun k hk => by rw [← e k hk]; exact h3 k hk⟩
theorem MP.block {w w' : World} {b cnt : Nat} {F : Lb → Option V} (h : MP c w b F cnt) (e : w'.heap[b]? = w.heap[b]?) : MP c w' b F cnt := by
  obtain ⟨D, ⟨es, clock, hb, hr⟩, h2⟩ := h
  exact ⟨D, ⟨es, clock, e.trans hb, hr⟩, h2⟩
theorem MP.only {S : List Nat} {w w' : World} {b cnt : Nat} {F : Lb → Option V} (h : MP c w b F cnt) (ho : Only S w w') (hn : b ∉ S) : MP c w' b F cnt := h.block (ho.block b h.lt hn)
theorem MP.later {w w' : World} {b cnt : Nat} {F : Lb → Option V} (h : MP c w b F cnt) (hb : Below w.heap.size w w') : MP c w' b F cnt := h.block (hb.block b h.lt)
theorem MP.new (c : Cd V) (w : World) : MP c (w.alloc (.map #[] 0)) w.heap.size (fun _ => none) 0 :=
  ⟨.map [], World.ownsMap_made w _ _ _, rfl, (fun a _ h => by cases h), fun _ _ => ⟨rfl, fun a h => by cases h⟩⟩
/-- what is at a key -/
def at_ (c : Cd V) (o : Option V) : V := o.getD c.z
theorem MP.look {w : World} {b cnt : Nat} {F : Lb → Option V} (h : MP c w b F cnt) {k : Lb} (hk : Lu k) (q : Bool) :
    (Instr.lookup c.t (.map (some b)) k.val q).run Try.prog w = .ok (if q then .tuple #[c.enc (at_ c (F k)), .bool (F k).isSome] else c.enc (at_ c (F k))) w := by
  obtain ⟨D, h1, h2, _, h4⟩ := h
  have hv : ∀ v ps, c.R v = some (D.atKey (.string (kb k)) (c.d c.z), ps) → v = c.enc (at_ c (F k)) := by
    intro v ps hv
    obtain ⟨x, rfl⟩ := c.inv _ _ hv
    rw [c.hR] at hv
    simp only [Option.some.injEq, Prod.mk.injEq] at hv
    congr 1
    apply c.inj
    cases e : F k with
    | some y =>
      rw [(h4 k hk).2 y e] at hv
      exact hv.1
    | none =>
      have := (h4 k hk).1
      rw [e] at this
      rw [Maps.atKey_of_not_has this] at hv
      exact hv.1
  cases q
  · obtain ⟨v, ps, hrun, hr⟩ := h1.lookup lawL c.und (c.zero w) (c.hR c.z) (keyL hk)
    rw [hrun, hv v ps hr]; rfl
  · obtain ⟨v, ps, hrun, hr⟩ := h1.look_ok lawL c.und (c.zero w) (c.hR c.z) (keyL hk)
    rw [hrun, hv v ps hr, (h4 k hk).1]; rfl
theorem Only.turned {w w' : World} {b : Nat} (h : w.mapTurned w' b) : Only [b] w w' := by
  have g := h.grown
  exact ⟨g.os, g.tape, g.output, g.size, fun k hk hn => g.block k hk (by simpa using hn)⟩
theorem turned_size {w w' : World} {b : Nat} (h : w.mapTurned w' b) : w'.heap.size = w.heap.size := by
  obtain ⟨_, _, _, _, _, rfl⟩ := h; simp [ChangeMaps.setBlock]
theorem tight {w : World} {R : Value → Option (DataW Unit × List MemPlace)} {b n : Nat} {D : DataW Unit} (h : w.ownsMap Try.prog 35 R b n D) : w.ownsMap Try.prog 35 R b (Maps.size D) D := by
  obtain ⟨es, clock, hb, F, hs, rfl⟩ := h
  exact ⟨es, clock, hb, F, by simp [Maps.size, length_sorted], rfl⟩
theorem put_at {w : World} {b cnt : Nat} {F : Lb → Option V} {D : DataW Unit} (h1 : w.ownsMap Try.prog 35 c.R b cnt D) (h2 : Maps.size D = cnt) (h0 : Ks D) (h4 : ∀ k : Lb, Lu k → Maps.has D (.string (kb k)) = (F k).isSome ∧ ∀ x, F k = some x → ∀ zd, D.atKey (.string (kb k)) zd = c.d x) {k : Lb} (hk : Lu k) (x : V) {w' : World}
    (h5 : w'.ownsMap Try.prog 35 c.R b (cnt + 1) (D.put (.string (kb k)) (c.d x))) : MP c w' b (fun y => if y = k then some x else F y) (if (F k).isSome then cnt else cnt + 1) := by
  have hs : Maps.size (D.put (.string (kb k)) (c.d x)) = if (F k).isSome then cnt else cnt + 1 := by rw [Maps.size_put (h1.tidy lawL), (h4 k hk).1, h2]
  refine ⟨_, ?_, hs, fun a ha hh => ?_, fun y hy => ?_⟩
  rotate_left
  · by_cases e : kb a = kb k
    · have h6 := keyL hk
      rw [e] at ha
      rw [val_inj (lawL.inj ha h6)]
      exact hk
    · rw [Maps.has_put_other (fun h => e (Lit.string.inj h))] at hh
      exact h0 a ha hh
  rotate_left
  · have := tight h5
    rw [hs] at this
    exact this
  · simp only []
    by_cases e : y = k
    · subst e
      rw [if_pos rfl, Maps.has_put_same h1.isMap (isKeyLit _)]
      exact ⟨rfl, fun b hb zd => by rw [Maps.atKey_put_same h1.isMap (isKeyLit _)]; cases hb; rfl⟩
    · have hne : Lit.string (kb y) ≠ Lit.string (kb k) := fun h => e (kb_inj hy hk (Lit.string.inj h))
      rw [if_neg e, Maps.has_put_other hne]
      exact ⟨(h4 y hy).1, fun b hb zd => by rw [Maps.atKey_put_other hne]; exact (h4 y hy).2 b hb zd⟩
theorem MP.store {w : World} {b cnt : Nat} {F : Lb → Option V} (h : MP c w b F cnt) {k : Lb} (hk : Lu k) (hN : cnt < 4611686018427387904) (x : V) :
    ∃ w', (Instr.mapUpdate c.t (.map (some b)) k.val (c.enc x)).run Try.prog w = .ok () w' ∧ MP c w' b (fun y => if y = k then some x else F y) (if (F k).isSome then cnt else cnt + 1) ∧ Only [b] w w' ∧ w'.heap.size = w.heap.size := by
  obtain ⟨D, h1, h2, h0, h4⟩ := h
  obtain ⟨w', hrun, h5, h6⟩ := h1.store lawL c.und (by unfold maxLen; omega) (keyL hk) (c.hR x)
  exact ⟨w', hrun, put_at h1 h2 h0 h4 hk x h5, Only.turned h6, turned_size h6⟩
theorem MP.len {w : World} {b cnt : Nat} {F : Lb → Option V} (h : MP c w b F cnt) (ty : TypeId) : (Builtin.len_ #[c.t] ty #[.map (some b)]).run Try.prog w = .ok (.int .i64 cnt) w := by
  obtain ⟨D, h1, h2, _, h4⟩ := h
  rw [h1.len c.und, h2]
set_option maxRecDepth 100000 in
/-- 'm[k]--': the entry is there -/
theorem MP.entry {w : World} {b cnt : Nat} {F : Lb → Option V} (h : MP c w b F cnt) {k : Lb} (hk : Lu k) (hN : cnt < 4611686018427387904) {y : V} (hy : F k = some y) :
    ∃ (v0 : Value) (st : Nat), (Instr.mapEntry c.t (.map (some b)) k.val).run Try.prog w = .ok (.tuple #[v0, goInt st]) w ∧ ∀ (x : V), ∃ w', (Instr.entryStore c.t (.map (some b)) (goInt st) (c.enc x)).run Try.prog w = .ok () w' ∧ MP c w' b (fun y => if y = k then some x else F y) cnt ∧ Only [b] w w' ∧ w'.heap.size = w.heap.size := by
  obtain ⟨D, h1, h2, h0, h4⟩ := h
  have h1' := h1
  obtain ⟨es, clock, hb, Ft, hs, hD⟩ := h1
  obtain ⟨v0, st, es1, clock1, hm, _, hst⟩ := WideElems.entry_then_store klaw c.und c.zero hb Ft (keyL hk)
  have hstamp := Ft.stamped
  have hhas : Maps.has D (.string (kb k)) = true := by rw [(h4 k hk).1, hy]; rfl
  have hsame : ChangeMaps.setBlock w b (.map es1 clock1) = w := by
    obtain ⟨s1, s2, _⟩ := Ft.stamped
    rcases klaw.find w (keyL hk) es.toList Ft.keys with ⟨f1, f2⟩ | ⟨j, e0, f1, f2, f3⟩
    · exfalso
      rcases Maps.fit_look true lawL c.und (c.zero w) hb Ft (keyL hk) with ⟨_, _, hat⟩ | ⟨e0, y0, hm0, hk0, _⟩
      · rw [← hD] at hat
        rw [Maps.has_false_of_atKey hat] at hhas; cases hhas
      · exact f2 e0 hm0 hk0
    · have hj : es[j]? = some e0 := by simpa using f2
      have hsame : es.modify j (fun e => { e with key := k.val }) = es := by
        apply Array.ext'
        rw [Array.toList_modify, ChangeMaps.modify_eq_set _ _ _ _ f2]
        have : ({ e0 with key := k.val } : MapEntry) = e0 := by rw [← f3]
        rw [this]
        exact WideElems.set_self _ _ _ f2
      have hrun : (Instr.mapEntry c.t (.map (some b)) k.val).run Try.prog w = .ok (.tuple #[e0.val, goInt e0.born]) (ChangeMaps.setBlock w b (.map es clock)) := by
        simp [Instr.mapEntry, run_underlying c.und, MapKept.run_getObj_map hb, klaw.check w false (keyL hk), f1, hj, f3, klaw.stays w (keyL hk), hsame, MapKept.run_setObj_map _ hb, Result.andThen, ChangeMaps.setBlock]
      rw [hm] at hrun
      injection hrun with _ hw
      rw [hw]
      have e : w.heap.setIfInBounds b (.map es clock) = w.heap := by
        apply Array.ext_getElem?
        intro i
        by_cases hi : i = b
        · subst hi
          exact (ChangeMaps.heap_setBlock_same hb _).trans hb.symm
        · exact ChangeMaps.heap_setBlock_other hb _ hi
      unfold ChangeMaps.setBlock
      rw [e]
  rw [hsame] at hm
  refine ⟨v0, st, hm, fun x => ?_⟩
  have hw1 : w.heap[b]? = some (.map es1 clock1) := by
    rw [← hsame]; exact ChangeMaps.heap_setBlock_same hb _
  obtain ⟨es', clock', hrun, hup⟩ := hst w (c.enc x) hw1
  obtain ⟨w', hrun2, h5, h6⟩ := h1'.store lawL c.und (by unfold maxLen; omega) (keyL hk) (c.hR x)
  rw [hup] at hrun2
  injection hrun2 with _ hw
  subst hw
  refine ⟨_, hrun, ?_, Only.turned h6, turned_size h6⟩
  have := put_at h1' h2 h0 h4 hk x h5
  rw [hy] at this
  exact this
end Go.Proofs.Ytclbnjfmipifnaa
