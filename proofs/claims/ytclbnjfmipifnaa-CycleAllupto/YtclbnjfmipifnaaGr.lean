/-
  Graphs in memory.
-/
import Derived.Test.YtclbnjfmipifnaaMp
import Derived.Test.YtclbnjfmipifnaaJGy
import Derived.Test.YtclbnjfmipifnaaIns
namespace Go.Proofs.Ytclbnjfmipifnaa
open Go.RowKit Go.Maps

/-! ### the order -/
def ltL (a b : Lb) : Bool := decide (cmpL a b < 0)
theorem stoL : Gs.Sto ltL where
  irr a := by unfold ltL; rw [(cmpL_zero a a).2 rfl]; rfl
  trans a b c h1 h2 := by
    unfold ltL at *
    simp only [decide_eq_true_eq] at *
    have h3 := cmpL_trans a b c (by omega) (by omega)
    rcases cmpL_range a c with h | h | h
    · omega
    · have e := (cmpL_zero a c).1 h
      subst e
      have := cmpL_neg a b
      omega
    · omega
  tot a b h := by
    unfold ltL
    simp only [decide_eq_true_eq]
    have h1 := cmpL_neg a b
    have h2 : cmpL a b ≠ 0 := fun e => h ((cmpL_zero a b).1 e)
    omega
abbrev UpL (l : List Lb) : Prop := Gs.Ris ltL l
abbrev rs (l : List Lb) : List Lb := Gs.ris ltL l

/-! ### slices as elements -/
def sv : Option (Nat × Nat × Nat) → Value
  | none => .slice none 0 0
  | some (g, n, c) => .slice (some ⟨g, 0, none⟩) n c
def sd : Option (Nat × Nat × Nat) → DataW Unit
  | none => .nil
  | some (g, n, c) => .agg [.lit (.int .i64 g), .lit (.int .i64 n), .lit (.int .i64 c)]
def sR (v : Value) : Option (DataW Unit × List MemPlace) :=
  match v with
  | .slice (some a) n c => if a.off = 0 ∧ a.spot = none then some (sd (some (a.block, n, c)), []) else none
  | .slice none n c => if n = 0 ∧ c = 0 then some (sd none, []) else none
  | _ => none
def cS : Cd (Option (Nat × Nat × Nat)) where
  R := sR
  enc := sv
  d := sd
  z := none
  t := 61
  e := 32
  hR x := by cases x <;> simp [sR, sv]
  inv v y h := by
    unfold sR at h
    split at h
    · rename_i x n c
      split at h
      · rename_i e
        obtain ⟨b, o, s⟩ := x
        simp only at e
        obtain ⟨rfl, rfl⟩ := e
        exact ⟨some (b, n, c), rfl⟩
      · cases h
    · split at h
      · rename_i e
        obtain ⟨rfl, rfl⟩ := e
        exact ⟨none, rfl⟩
      · cases h
    · cases h
  inj x y h := by
    cases x with
    | none => cases y with
      | none => rfl
      | some y => simp [sd] at h
    | some x => cases y with
      | none => simp [sd] at h
      | some y =>
        obtain ⟨a, b, c⟩ := x
        obtain ⟨a', b', c'⟩ := y
        simp only [sd, DataW.agg.injEq, List.cons.injEq, DataW.lit.injEq, Lit.int.injEq, true_and, and_true] at h
        have h1 : a = a' := by omega
        have h2 : b = b' := by omega
        have h3 : c = c' := by omega
        subst h1 h2 h3; rfl
  und := by kernel_rfl
  zero w := by kernel_rfl

/-! ### what stays -/
/-- What was there has not turned, but for the blocks of F. -/
structure OnlyP (F : Nat → Prop) (w w' : World) : Prop where
  os : w'.os = w.os
  tape : w'.tape = w.tape
  output : w'.output = w.output
  size : w.heap.size ≤ w'.heap.size
  block : ∀ k, k < w.heap.size → ¬ F k → w'.heap[k]? = w.heap[k]?
theorem OnlyP.refl (F : Nat → Prop) (w : World) : OnlyP F w w := ⟨rfl, rfl, rfl, Nat.le_refl _, fun _ _ _ => rfl⟩
theorem OnlyP.of_below {a b : World} (h : Below a.heap.size a b) (F : Nat → Prop) : OnlyP F a b := ⟨h.os, h.tape, h.output, h.size, fun i hi _ => h.block i hi⟩
theorem OnlyP.of_only {S : List Nat} {F : Nat → Prop} {a b : World} (h : Only S a b) (hF : ∀ k, k ∈ S → k < a.heap.size → F k) : OnlyP F a b := ⟨h.os, h.tape, h.output, h.size, fun i hi hn => h.block i hi (fun e => hn (hF i e hi))⟩
/-- F, or new since a -/
theorem OnlyP.trans {F G : Nat → Prop} {a b c : World} (h : OnlyP F a b) (k : OnlyP G b c) (hG : ∀ i, i < a.heap.size → G i → F i) : OnlyP F a c :=
  ⟨k.os.trans h.os, k.tape.trans h.tape, k.output.trans h.output, Nat.le_trans h.size k.size, fun i hi hn => (k.block i (Nat.lt_of_lt_of_le hi h.size) (fun e => hn (hG i hi e))).trans (h.block i hi hn)⟩
theorem OnlyP.below {F : Nat → Prop} {a b : World} {B : Nat} (h : OnlyP F a b) (hB : B ≤ a.heap.size) (hF : ∀ k, F k → B ≤ k) : Below B a b :=
  ⟨h.os, h.tape, h.output, h.size, fun i hi => h.block i (by omega) (fun e => by have := hF i e; omega)⟩

/-! ### a graph -/
/-- nodes, and where their edges lead, in block g; F: its blocks -/
structure GR (w : World) (F : Nat → Prop) (g : Nat) (ns : List Lb) (out : Lb → List Lb) : Prop where
  it : ∃ (b : Nat) (A : Lb → Option (Nat × Nat × Nat)), w.heap[g]? = some (.cells #[.map (some b)] 63 (0, 0)) ∧ MP cS w b (fun a => if a ∈ ns then some (A a) else none) ns.length ∧ F b ∧
    (∀ a ∈ ns, OwnL 0 w (sv (A a)) (out a)) ∧ (∀ a ∈ ns, ∀ k, (sv (A a)).ownBlock = some k → F k) ∧ (∀ a ∈ ns, ∀ a' ∈ ns, ∀ k, (sv (A a)).ownBlock = some k → (sv (A a')).ownBlock = some k → a = a')
  own : F g
  lt : ∀ k, F k → k < w.heap.size
  nd : ns.Nodup
  lu : ∀ a ∈ ns, Lu a
  up : ∀ a, UpL (out a)
  sub : ∀ a b, b ∈ out a → a ∈ ns ∧ b ∈ ns
  sz : ns.length ≤ 1000000
theorem GR.stay {w w' : World} {F : Nat → Prop} {g : Nat} {ns : List Lb} {out : Lb → List Lb} (h : GR w F g ns out) (hz : w.heap.size ≤ w'.heap.size) (hs : ∀ k, F k → w'.heap[k]? = w.heap[k]?) : GR w' F g ns out := by
  obtain ⟨⟨b, A, h1, h2, h3, h4, h5, h6⟩, own, lt, nd, lu, up, sub, sz⟩ := h
  refine ⟨⟨b, A, (hs g own).trans h1, h2.block (hs b h3), h3, fun a ha => ?_, h5, h6⟩, own, fun k hk => Nat.lt_of_lt_of_le (lt k hk) hz, nd, lu, up, sub, sz⟩
  have ho := h4 a ha
  rcases ho with ⟨h0, ho | ⟨q, cap, cur, e, hb, hg, hr⟩⟩
  · exact ⟨h0, .inl ho⟩
  · exact ⟨h0, .inr ⟨q, cap, cur, e, hb, (hs q (h5 a ha q (by rw [e]; rfl))).trans hg, hr⟩⟩
theorem GR.later {w w' : World} {F : Nat → Prop} {g : Nat} {ns : List Lb} {out : Lb → List Lb} (h : GR w F g ns out) (hb : Below w.heap.size w w') : GR w' F g ns out :=
  h.stay hb.size (fun k hk => hb.block k (h.lt k hk))
theorem GR.only {w w' : World} {F G : Nat → Prop} {g : Nat} {ns : List Lb} {out : Lb → List Lb} (h : GR w F g ns out) (hb : OnlyP G w w') (hd : ∀ k, F k → ¬ G k) : GR w' F g ns out :=
  h.stay hb.size (fun k hk => hb.block k (h.lt k hk) (hd k hk))
theorem GR.wider {w : World} {F F' : Nat → Prop} {g : Nat} {ns : List Lb} {out : Lb → List Lb} (h : GR w F g ns out) (hF : ∀ k, F k → F' k) (hl : ∀ k, F' k → k < w.heap.size) : GR w F' g ns out := by
  obtain ⟨⟨b, A, h1, h2, h3, h4, h5, h6⟩, own, lt, nd, lu, up, sub, sz⟩ := h
  exact ⟨⟨b, A, h1, h2, hF b h3, h4, fun a ha k hk => hF k (h5 a ha k hk), h6⟩, hF g own, hl, nd, lu, up, sub, sz⟩
theorem GR.glt {w : World} {F : Nat → Prop} {g : Nat} {ns : List Lb} {out : Lb → List Lb} (h : GR w F g ns out) : g < w.heap.size := h.lt g h.own
theorem GR.nout {w : World} {F : Nat → Prop} {g : Nat} {ns : List Lb} {out : Lb → List Lb} (h : GR w F g ns out) {a : Lb} (ha : a ∉ ns) : out a = [] := by
  cases e : out a with
  | nil => rfl
  | cons b r => exact absurd (h.sub a b (by rw [e]; simp)).1 ha
theorem GR.olen {w : World} {F : Nat → Prop} {g : Nat} {ns : List Lb} {out : Lb → List Lb} (h : GR w F g ns out) (a : Lb) : (out a).length ≤ ns.length :=
  Gs.nodup_sub _ _ (Gs.Ris.nodup stoL (h.up a)) (fun b hb => (h.sub a b hb).2)
/-- its map, and a look into it -/
theorem GR.map {w : World} {F : Nat → Prop} {g : Nat} {ns : List Lb} {out : Lb → List Lb} (h : GR w F g ns out) : ∃ b, w.cell? ⟨g, 0, none⟩ = some (.map (some b)) ∧ F b ∧ b < w.heap.size ∧ b ≠ g ∧
    (∀ w' : World, w'.heap[b]? = w.heap[b]? → ∀ ty, (Builtin.len_ #[61] ty #[.map (some b)]).run Try.prog w' = .ok (.int .i64 ns.length) w') ∧
    ∀ a, Lu a → ∃ v, OwnL 0 w v (out a) ∧ (∀ k, v.ownBlock = some k → F k) ∧ ∀ w' : World, w'.heap[b]? = w.heap[b]? → (Instr.lookup 61 (.map (some b)) a.val false).run Try.prog w' = .ok v w' ∧ (Instr.lookup 61 (.map (some b)) a.val true).run Try.prog w' = .ok (.tuple #[v, .bool (decide (a ∈ ns))]) w' := by
  have hlt := h.lt
  have hnone := fun a => h.nout (a := a)
  obtain ⟨⟨b, A, h1, h2, h3, h4, h5, h6⟩, own, lt, nd, lu, up, sub, sz⟩ := h
  refine ⟨b, by simp [World.cell?, h1], h3, hlt b h3, ?_, fun w' hw ty => (h2.block hw).len ty, fun a ha => ?_⟩
  · rintro rfl
    obtain ⟨D, ⟨es, clock, hb, _⟩, _⟩ := h2
    rw [h1] at hb; cases hb
  · by_cases hm : a ∈ ns
    · refine ⟨sv (A a), h4 a hm, h5 a hm, fun w' hw => ⟨?_, ?_⟩⟩
      · simpa [hm, at_, cS] using (h2.block hw).look ha false
      · simpa [hm, at_, cS] using (h2.block hw).look ha true
    · refine ⟨.slice none 0 0, ?_, (fun k hk => by cases hk), fun w' hw => ⟨?_, ?_⟩⟩
      · rw [hnone a hm]; exact OwnL.nil 0 w
      · simpa [hm, at_, cS, sv] using (h2.block hw).look ha false
      · simpa [hm, at_, cS, sv] using (h2.block hw).look ha true
theorem cell_alloc {w : World} {g i : Nat} {v : Value} (o : Obj) (hg : g < w.heap.size) (hc : w.cell? ⟨g, i, none⟩ = some v) : (w.alloc o).cell? ⟨g, i, none⟩ = some v := ((balloc w o).cell (p := ⟨g, i, none⟩) hg).trans hc
end Go.Proofs.Ytclbnjfmipifnaa
