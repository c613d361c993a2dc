/-
  Graphs in memory.
  New, has, Node.
-/
import Derived.Test.YtclbnjfmipifnaaJMp
import Derived.Test.YtclbnjfmipifnaaJGy
import Derived.Test.YtclbnjfmipifnaaIns
import Derived.RegionTactic
import Derived.BigRegion
namespace Go.Proofs.Ytclbnjfmipifnaa
open Go.RowKit Go.Maps

/-! ### the order -/
def ltL (a b : Lb) : Bool := decide (cmpL a b < 0)
theorem stoL : Gs.Sto ltL where
  irr a := by unfold ltL; rw [(cmpL_zero a a).2 rfl]; rfl
  trans a b c h1 h2 := by
    unfold ltL at *
    simp only [decide_eq_true_eq] at *
    have h3 := cmpL_trans a b c (by omega) (by omega)
    rcases cmpL_range a c with h | h | h
    · omega
    · have e := (cmpL_zero a c).1 h
      subst e
      have := cmpL_neg a b
      omega
    · omega
  tot a b h := by
    unfold ltL
    simp only [decide_eq_true_eq]
    have h1 := cmpL_neg a b
    have h2 : cmpL a b ≠ 0 := fun e => h ((cmpL_zero a b).1 e)
    omega
abbrev UpL (l : List Lb) : Prop := Gs.Ris ltL l
abbrev rs (l : List Lb) : List Lb := Gs.ris ltL l

/-! ### slices as elements -/
def sv : Option (Nat × Nat × Nat) → Value
  | none => .slice none 0 0
  | some (g, n, c) => .slice (some ⟨g, 0, none⟩) n c
def sd : Option (Nat × Nat × Nat) → DataW Unit
  | none => .nil
  | some (g, n, c) => .agg [.lit (.int .i64 g), .lit (.int .i64 n), .lit (.int .i64 c)]
def sR (v : Value) : Option (DataW Unit × List MemPlace) :=
  match v with
  | .slice (some a) n c => if a.off = 0 ∧ a.spot = none then some (sd (some (a.block, n, c)), []) else none
  | .slice none n c => if n = 0 ∧ c = 0 then some (sd none, []) else none
  | _ => none
def cS : Cd (Option (Nat × Nat × Nat)) where
  R := sR
  enc := sv
  d := sd
  z := none
  t := 61
  e := 32
  hR x := by cases x <;> simp [sR, sv]
  inv v y h := by
    unfold sR at h
    split at h
    · rename_i x n c
      split at h
      · rename_i e
        obtain ⟨b, o, s⟩ := x
        simp only at e
        obtain ⟨rfl, rfl⟩ := e
        exact ⟨some (b, n, c), rfl⟩
      · cases h
    · split at h
      · rename_i e
        obtain ⟨rfl, rfl⟩ := e
        exact ⟨none, rfl⟩
      · cases h
    · cases h
  inj x y h := by
    cases x with
    | none => cases y with
      | none => rfl
      | some y => simp [sd] at h
    | some x => cases y with
      | none => simp [sd] at h
      | some y =>
        obtain ⟨a, b, c⟩ := x
        obtain ⟨a', b', c'⟩ := y
        simp only [sd, DataW.agg.injEq, List.cons.injEq, DataW.lit.injEq, Lit.int.injEq, true_and, and_true] at h
        have h1 : a = a' := by omega
        have h2 : b = b' := by omega
        have h3 : c = c' := by omega
        subst h1 h2 h3; rfl
  und := by kernel_rfl
  zero w := by kernel_rfl

/-! ### what stays -/
/-- What was there has not turned, but for the blocks of F. -/
structure OnlyP (F : Nat → Prop) (w w' : World) : Prop where
  os : w'.os = w.os
  tape : w'.tape = w.tape
  output : w'.output = w.output
  size : w.heap.size ≤ w'.heap.size
  block : ∀ k, k < w.heap.size → ¬ F k → w'.heap[k]? = w.heap[k]?
theorem OnlyP.refl (F : Nat → Prop) (w : World) : OnlyP F w w := ⟨rfl, rfl, rfl, Nat.le_refl _, fun _ _ _ => rfl⟩
theorem OnlyP.of_below {a b : World} (h : Below a.heap.size a b) (F : Nat → Prop) : OnlyP F a b := ⟨h.os, h.tape, h.output, h.size, fun i hi _ => h.block i hi⟩
theorem OnlyP.of_only {S : List Nat} {F : Nat → Prop} {a b : World} (h : Only S a b) (hF : ∀ k, k ∈ S → k < a.heap.size → F k) : OnlyP F a b := ⟨h.os, h.tape, h.output, h.size, fun i hi hn => h.block i hi (fun e => hn (hF i e hi))⟩
/-- F, or new since a -/
theorem OnlyP.trans {F G : Nat → Prop} {a b c : World} (h : OnlyP F a b) (k : OnlyP G b c) (hG : ∀ i, i < a.heap.size → G i → F i) : OnlyP F a c :=
  ⟨k.os.trans h.os, k.tape.trans h.tape, k.output.trans h.output, Nat.le_trans h.size k.size, fun i hi hn => (k.block i (Nat.lt_of_lt_of_le hi h.size) (fun e => hn (hG i hi e))).trans (h.block i hi hn)⟩
theorem OnlyP.below {F : Nat → Prop} {a b : World} {B : Nat} (h : OnlyP F a b) (hB : B ≤ a.heap.size) (hF : ∀ k, F k → B ≤ k) : Below B a b :=
  ⟨h.os, h.tape, h.output, h.size, fun i hi => h.block i (by omega) (fun e => by have := hF i e; omega)⟩

/-! ### a graph -/
/-- nodes, and where their edges lead, in block g; F: its blocks -/
structure GR (w : World) (F : Nat → Prop) (g : Nat) (ns : List Lb) (out : Lb → List Lb) : Prop where
  it : ∃ (b : Nat) (A : Lb → Option (Nat × Nat × Nat)), w.heap[g]? = some (.cells #[.map (some b)] 63 (0, 0)) ∧ MP cS w b (fun a => if a ∈ ns then some (A a) else none) ns.length ∧ F b ∧
    (∀ a ∈ ns, OwnL 0 w (sv (A a)) (out a)) ∧ (∀ a ∈ ns, ∀ k, (sv (A a)).ownBlock = some k → F k) ∧ (∀ a ∈ ns, ∀ a' ∈ ns, ∀ k, (sv (A a)).ownBlock = some k → (sv (A a')).ownBlock = some k → a = a')
  own : F g
  lt : ∀ k, F k → k < w.heap.size
  nd : ns.Nodup
  lu : ∀ a ∈ ns, Lu a
  up : ∀ a, UpL (out a)
  sub : ∀ a b, b ∈ out a → a ∈ ns ∧ b ∈ ns
  sz : ns.length ≤ 1000000
theorem GR.stay {w w' : World} {F : Nat → Prop} {g : Nat} {ns : List Lb} {out : Lb → List Lb} (h : GR w F g ns out) (hz : w.heap.size ≤ w'.heap.size) (hs : ∀ k, F k → w'.heap[k]? = w.heap[k]?) : GR w' F g ns out := by
  obtain ⟨⟨b, A, h1, h2, h3, h4, h5, h6⟩, own, lt, nd, lu, up, sub, sz⟩ := h
  refine ⟨⟨b, A, (hs g own).trans h1, h2.block (hs b h3), h3, fun a ha => ?_, h5, h6⟩, own, fun k hk => Nat.lt_of_lt_of_le (lt k hk) hz, nd, lu, up, sub, sz⟩
  have ho := h4 a ha
  rcases ho with ⟨h0, ho | ⟨q, cap, cur, e, hb, hg, hr⟩⟩
  · exact ⟨h0, .inl ho⟩
  · exact ⟨h0, .inr ⟨q, cap, cur, e, hb, (hs q (h5 a ha q (by rw [e]; rfl))).trans hg, hr⟩⟩
theorem GR.later {w w' : World} {F : Nat → Prop} {g : Nat} {ns : List Lb} {out : Lb → List Lb} (h : GR w F g ns out) (hb : Below w.heap.size w w') : GR w' F g ns out :=
  h.stay hb.size (fun k hk => hb.block k (h.lt k hk))
theorem GR.only {w w' : World} {F G : Nat → Prop} {g : Nat} {ns : List Lb} {out : Lb → List Lb} (h : GR w F g ns out) (hb : OnlyP G w w') (hd : ∀ k, F k → ¬ G k) : GR w' F g ns out :=
  h.stay hb.size (fun k hk => hb.block k (h.lt k hk) (hd k hk))
theorem GR.wider {w : World} {F F' : Nat → Prop} {g : Nat} {ns : List Lb} {out : Lb → List Lb} (h : GR w F g ns out) (hF : ∀ k, F k → F' k) (hl : ∀ k, F' k → k < w.heap.size) : GR w F' g ns out := by
  obtain ⟨⟨b, A, h1, h2, h3, h4, h5, h6⟩, own, lt, nd, lu, up, sub, sz⟩ := h
  exact ⟨⟨b, A, h1, h2, hF b h3, h4, fun a ha k hk => hF k (h5 a ha k hk), h6⟩, hF g own, hl, nd, lu, up, sub, sz⟩
theorem GR.glt {w : World} {F : Nat → Prop} {g : Nat} {ns : List Lb} {out : Lb → List Lb} (h : GR w F g ns out) : g < w.heap.size := h.lt g h.own
theorem GR.nout {w : World} {F : Nat → Prop} {g : Nat} {ns : List Lb} {out : Lb → List Lb} (h : GR w F g ns out) {a : Lb} (ha : a ∉ ns) : out a = [] := by
  cases e : out a with
  | nil => rfl
  | cons b r => exact absurd (h.sub a b (by rw [e]; simp)).1 ha
theorem GR.olen {w : World} {F : Nat → Prop} {g : Nat} {ns : List Lb} {out : Lb → List Lb} (h : GR w F g ns out) (a : Lb) : (out a).length ≤ ns.length :=
  Gs.nodup_sub _ _ (Gs.Ris.nodup stoL (h.up a)) (fun b hb => (h.sub a b hb).2)
/-- its map, and a look into it -/
theorem GR.map {w : World} {F : Nat → Prop} {g : Nat} {ns : List Lb} {out : Lb → List Lb} (h : GR w F g ns out) : ∃ b, w.cell? ⟨g, 0, none⟩ = some (.map (some b)) ∧ F b ∧ b < w.heap.size ∧ b ≠ g ∧
    (∀ w' : World, w'.heap[b]? = w.heap[b]? → ∀ ty, (Builtin.len_ #[61] ty #[.map (some b)]).run Try.prog w' = .ok (.int .i64 ns.length) w') ∧
    ∀ a, Lu a → ∃ v, OwnL 0 w v (out a) ∧ (∀ k, v.ownBlock = some k → F k) ∧ ∀ w' : World, w'.heap[b]? = w.heap[b]? → (Instr.lookup 61 (.map (some b)) a.val false).run Try.prog w' = .ok v w' ∧ (Instr.lookup 61 (.map (some b)) a.val true).run Try.prog w' = .ok (.tuple #[v, .bool (decide (a ∈ ns))]) w' := by
  have hlt := h.lt
  have hnone := fun a => h.nout (a := a)
  obtain ⟨⟨b, A, h1, h2, h3, h4, h5, h6⟩, own, lt, nd, lu, up, sub, sz⟩ := h
  refine ⟨b, by simp [World.cell?, h1], h3, hlt b h3, ?_, fun w' hw ty => (h2.block hw).len ty, fun a ha => ?_⟩
  · rintro rfl
    obtain ⟨D, ⟨es, clock, hb, _⟩, _⟩ := h2
    rw [h1] at hb; cases hb
  · by_cases hm : a ∈ ns
    · refine ⟨sv (A a), h4 a hm, h5 a hm, fun w' hw => ⟨?_, ?_⟩⟩
      · simpa [hm, at_, cS] using (h2.block hw).look ha false
      · simpa [hm, at_, cS] using (h2.block hw).look ha true
    · refine ⟨.slice none 0 0, ?_, (fun k hk => by cases hk), fun w' hw => ⟨?_, ?_⟩⟩
      · rw [hnone a hm]; exact OwnL.nil 0 w
      · simpa [hm, at_, cS, sv] using (h2.block hw).look ha false
      · simpa [hm, at_, cS, sv] using (h2.block hw).look ha true
theorem cell_alloc {w : World} {g i : Nat} {v : Value} (o : Obj) (hg : g < w.heap.size) (hc : w.cell? ⟨g, i, none⟩ = some v) : (w.alloc o).cell? ⟨g, i, none⟩ = some v := ((balloc w o).cell (p := ⟨g, i, none⟩) hg).trans hc
end Go.Proofs.Ytclbnjfmipifnaa

namespace Go.Proofs.Ytclbnjfmipifnaa
open Go.RowKit Go.Maps

/-- F, and what is new since w -/
abbrev nw (F : Nat → Prop) (w w' : World) : Nat → Prop := fun k => F k ∨ w.heap.size ≤ k ∧ k < w'.heap.size

theorem GR.nw_nw {w w2 w3 : World} {F : Nat → Prop} {g : Nat} {ns : List Lb} {out : Lb → List Lb} (h : GR w3 (nw (nw F w w2) w2 w3) g ns out) (h1 : w.heap.size ≤ w2.heap.size) (h2 : w2.heap.size ≤ w3.heap.size) : GR w3 (nw F w w3) g ns out := by
  have hl := h.lt
  refine h.wider ?_ ?_
  · rintro k ((h | h) | h)
    · exact .inl h
    · exact .inr ⟨h.1, by omega⟩
    · exact .inr ⟨by omega, h.2⟩
  · rintro k (h | h)
    · exact hl k (.inl (.inl h))
    · exact h.2
theorem GR.nw_later {w w2 w3 : World} {F : Nat → Prop} {g : Nat} {ns : List Lb} {out : Lb → List Lb} (h : GR w2 (nw F w w2) g ns out) (hb : Below w2.heap.size w2 w3) : GR w3 (nw F w w3) g ns out := by
  have hl := h.lt
  refine (h.later hb).wider ?_ ?_
  · rintro k (h | h)
    · exact .inl h
    · exact .inr ⟨h.1, Nat.lt_of_lt_of_le h.2 hb.size⟩
  · rintro k (h | h)
    · exact Nat.lt_of_lt_of_le (hl k (.inl h)) hb.size
    · exact h.2
set_option maxHeartbeats 1000000 in
theorem new_any (w : World) : Calls Try.prog 23 #[] w fun e w' => ∃ g, e = .returned (.pointer (some ⟨g, 0, none⟩)) ∧ GR w' (fun k => w.heap.size ≤ k ∧ k < w'.heap.size) g [] (fun _ => []) ∧ Below w.heap.size w w' := by
  have hmm := @run_makeMap Try.prog
  go_enter Try.func23, Try.ntmps23
  go_wp2_with fail
  go_ret
  refine ⟨w.heap.size + 1, rfl, ⟨⟨w.heap.size, fun _ => none, ?_, ?_, ?_, ?_, ?_, ?_⟩, ?_, ?_, List.nodup_nil, by simp, fun _ => List.Pairwise.nil, fun a b h => by simp at h, by simp⟩, ?_⟩
  · have := heap_alloc_new (w.alloc (.map #[] 0)) (.cells #[.map (some w.heap.size)] 63)
    simpa using this
  · exact ((MP.new cS w).later (balloc _ _)).congr (fun k _ => by simp)
  · simp; omega
  · intro a ha; simp at ha
  · intro a ha; simp at ha
  · intro a ha; simp at ha
  · simp
  · intro k hk; exact hk.2
  · exact bstep (balloc _ _) (balloc _ _)

set_option maxRecDepth 100000 in
set_option maxHeartbeats 1000000 in
theorem has_any {w : World} {F : Nat → Prop} {g : Nat} {ns : List Lb} {out : Lb → List Lb} (h : GR w F g ns out) (a : Lb) (ha : Lu a) :
    Calls Try.prog 41 #[.pointer (some ⟨g, 0, none⟩), a.val] w fun e w' => e = .returned (.bool (decide (a ∈ ns))) ∧ Below w.heap.size w w' := by
  have hg := h.glt
  obtain ⟨b, hc, _, hb, _, _, hl⟩ := h.map
  clear h
  obtain ⟨v, _, _, hlook⟩ := hl a ha
  obtain ⟨r, hr⟩ : ∃ r, decide (a ∈ ns) = r := ⟨_, rfl⟩
  rw [hr] at hlook ⊢
  obtain ⟨p, n⟩ := a
  have hl1 : ∀ q, (Instr.lookup 61 (.map (some b)) (.agg #[.string (bs p), .string (bs n)]) true).run Try.prog ((w.alloc (.cells #[.string (bs p), .string (bs n)] 35)).drewN q) = .ok (.tuple #[v, .bool r]) ((w.alloc (.cells #[.string (bs p), .string (bs n)] 35)).drewN q) :=
    fun q => (hlook ((w.alloc (.cells #[.string (bs p), .string (bs n)] 35)).drewN q) (heap_alloc_old w (.cells #[.string (bs p), .string (bs n)] 35) hb)).2
  have hc1 := cell_alloc (.cells #[.string (bs p), .string (bs n)] 35) hg hc
  clear hl hr hb hlook hg hc ha
  simp only [Lb.val]
  go_enter Try.func41, Try.ntmps41
  go_wp2_with fail
  go_quiet (fail)
  go_wp2_with fail
  go_ret
  exact ⟨rfl, bstep (balloc _ _) (bd _ _)⟩

/-- a node more -/
def addN (ns : List Lb) (a : Lb) : List Lb := if a ∈ ns then ns else ns ++ [a]
theorem mem_addN {ns : List Lb} {a x : Lb} : x ∈ addN ns a ↔ x ∈ ns ∨ x = a := by
  unfold addN
  split
  · rename_i h
    constructor
    · exact .inl
    · rintro (h1 | rfl)
      · exact h1
      · exact h
  · simp
theorem addN_nd {ns : List Lb} {a : Lb} (h : ns.Nodup) : (addN ns a).Nodup := by
  unfold addN
  split
  · exact h
  · rename_i hn
    rw [List.nodup_append]
    refine ⟨h, by simp, ?_⟩
    intro x hx y hy
    have : y = a := by simpa using hy
    subst this
    rintro rfl
    exact hn hx
theorem addN_le (ns : List Lb) (a : Lb) : (addN ns a).length ≤ ns.length + 1 := by unfold addN; split <;> simp
/-- stored: a node without edges -/
theorem GR.node {w : World} {F : Nat → Prop} {g : Nat} {ns : List Lb} {out : Lb → List Lb} (h : GR w F g ns out) (a : Lb) (ha : Lu a) (hn : a ∉ ns) (hz : ns.length + 1 ≤ 1000000) : ∃ b, w.cell? ⟨g, 0, none⟩ = some (.map (some b)) ∧ b < w.heap.size ∧ F b ∧
    ∀ w0 : World, Below w.heap.size w w0 → ∃ w1, (Instr.mapUpdate 61 (.map (some b)) a.val (.slice none 0 0)).run Try.prog w0 = .ok () w1 ∧ GR w1 F g (ns ++ [a]) out ∧ OnlyP F w w1 ∧ w1.heap.size = w0.heap.size := by
  have hnone := h.nout hn
  obtain ⟨⟨b, A, h1, h2, h3, h4, h5, h6⟩, own, lt, nd, lu, up, sub, sz⟩ := h
  refine ⟨b, by simp [World.cell?, h1], lt b h3, h3, fun w0 hb => ?_⟩
  obtain ⟨w1, hrun, hm, ho, hsz⟩ := (h2.later hb).store ha (by omega) none
  have hgb : g ≠ b := by
    rintro rfl
    obtain ⟨D, ⟨es, clock, hb, _⟩, _⟩ := h2
    rw [h1] at hb; cases hb
  have hk : ∀ k, F k → k ≠ b → w1.heap[k]? = w.heap[k]? := fun k hk hne => (ho.block k (Nat.lt_of_lt_of_le (lt k hk) hb.size) (by simpa using hne)).trans (hb.block k (lt k hk))
  refine ⟨w1, hrun, ⟨⟨b, fun x => if x = a then none else A x, (hk g own hgb).trans h1, ?_, h3, ?_, ?_, ?_⟩, own, fun k hk => by rw [hsz]; exact Nat.lt_of_lt_of_le (lt k hk) hb.size, ?_, ?_, up, ?_, by simpa using hz⟩, ?_, hsz⟩
  · have e : (if (if a ∈ ns then some (A a) else none).isSome = true then ns.length else ns.length + 1) = (ns ++ [a]).length := by simp [hn]
    rw [e] at hm
    refine hm.congr (fun k _ => ?_)
    by_cases hka : k = a
    · subst hka; simp
    · simp [hka]
  · intro x hx
    by_cases hxa : x = a
    · subst hxa
      simp only [if_true, hnone]
      exact OwnL.nil 0 w1
    · simp only [hxa, if_false]
      have hx' : x ∈ ns := by simpa [hxa] using hx
      have ho2 := h4 x hx'
      rcases ho2 with ⟨h0, ho2 | ⟨q, cap, cur, e, hb2, hg, hr⟩⟩
      · exact ⟨h0, .inl ho2⟩
      · have hqb : q ≠ b := by
          rintro rfl
          obtain ⟨D, ⟨es, clock, hb, _⟩, _⟩ := h2
          rw [hg] at hb; cases hb
        exact ⟨h0, .inr ⟨q, cap, cur, e, hb2, (hk q (h5 x hx' q (by rw [e]; rfl)) hqb).trans hg, hr⟩⟩
  · intro x hx k hk2
    by_cases hxa : x = a
    · subst hxa; simp [sv, Value.ownBlock] at hk2
    · simp only [hxa, if_false] at hk2
      exact h5 x (by simpa [hxa] using hx) k hk2
  · intro x hx y hy k hk1 hk2
    by_cases hxa : x = a
    · subst hxa; simp [sv, Value.ownBlock] at hk1
    · by_cases hya : y = a
      · subst hya; simp [sv, Value.ownBlock] at hk2
      · simp only [hxa, hya, if_false] at hk1 hk2
        exact h6 x (by simpa [hxa] using hx) y (by simpa [hya] using hy) k hk1 hk2
  · have := addN_nd (a := a) nd
    unfold addN at this
    rwa [if_neg hn] at this
  · intro x hx
    rcases List.mem_append.1 hx with hx | hx
    · exact lu x hx
    · have : x = a := by simpa using hx
      rw [this]; exact ha
  · intro x y hxy
    have := sub x y hxy
    exact ⟨by simp [this.1], by simp [this.2]⟩
  · exact (OnlyP.of_below hb F).trans (OnlyP.of_only ho (F := fun k => k = b) (fun k hk _ => by simpa using hk)) (fun i _ e => by subst e; exact h3)

set_option maxRecDepth 100000 in
set_option maxHeartbeats 2000000 in
theorem node_any {w : World} {F : Nat → Prop} {g : Nat} {ns : List Lb} {out : Lb → List Lb} (h : GR w F g ns out) (a : Lb) (ha : Lu a) (hz : ns.length + 1 ≤ 1000000) :
    Calls Try.prog 26 #[.pointer (some ⟨g, 0, none⟩), a.val] w fun e w' => e = .returned (.tuple #[]) ∧ GR w' (nw F w w') g (addN ns a) out ∧ OnlyP F w w' := by
  have H : Hid (GR w F g ns out) := h
  have HA : Hid (Lu a) := ha
  have hg := h.glt
  have HH : Hid (∀ w' : World, Below w.heap.size w w' → Calls Try.prog 41 #[.pointer (some ⟨g, 0, none⟩), a.val] w' fun e w'' => e = .returned (.bool (decide (a ∈ ns))) ∧ Below w'.heap.size w' w'') := fun w' hb => has_any (h.later hb) a ha
  by_cases hn : a ∈ ns
  · have e1 : decide (a ∈ ns) = true := by simp [hn]
    rw [e1] at HH
    have HE : Hid (addN ns a = ns) := by show addN ns a = ns; unfold addN; rw [if_pos hn]
    clear e1 hn h ha hg
    obtain ⟨p, n⟩ := a
    simp only [Lb.val] at HH ⊢
    go_enter Try.func26, Try.ntmps26
    go_wp2_with fail
    refine (HH.out _ (balloc _ _)).mono ?_
    rintro e w1 ⟨rfl, hb1⟩
    have HB : Hid (Below w.heap.size w w1) := bstep (balloc _ _) hb1
    clear hb1
    go_wp2_with fail
    go_end0
    refine ⟨rfl, ?_, OnlyP.of_below HB.out F⟩
    rw [HE.out]
    exact (H.out.later HB.out).wider (fun k hk => .inl hk) (fun k hk => hk.elim (fun h => Nat.lt_of_lt_of_le (H.out.lt k h) HB.out.size) (fun h => h.2))
  · have e1 : decide (a ∈ ns) = false := by simp [hn]
    rw [e1] at HH
    have HE : Hid (addN ns a = ns ++ [a]) := by show addN ns a = ns ++ [a]; unfold addN; rw [if_neg hn]
    obtain ⟨b, hc, hb, _, hst⟩ := h.node a ha hn hz
    have HS : Hid (∀ w0 : World, Below w.heap.size w w0 → ∃ w1, (Instr.mapUpdate 61 (.map (some b)) a.val (.slice none 0 0)).run Try.prog w0 = .ok () w1 ∧ GR w1 F g (ns ++ [a]) out ∧ OnlyP F w w1 ∧ w1.heap.size = w0.heap.size) := hst
    clear hst e1 hn h ha
    have HG : Hid (g < w.heap.size ∧ w.cell? ⟨g, 0, none⟩ = some (.map (some b))) := ⟨hg, hc⟩
    clear hg hc hb
    obtain ⟨p, n⟩ := a
    have HR := RB.new w ⟨p, n⟩
    have HRR : Hid (RB (w.alloc (.cells #[.string (bs p), .string (bs n)] 35)) w.heap.size ⟨p, n⟩) := HR
    clear HR
    simp only [Lb.val] at HH HS ⊢
    go_enter Try.func26, Try.ntmps26
    go_wp2_with fail
    refine (HH.out _ (balloc _ _)).mono ?_
    rintro e w1 ⟨rfl, hb1⟩
    obtain ⟨c0, c1, _, _⟩ := (HRR.out.later hb1).cells
    simp only at c0 c1
    have HB : Hid (Below w.heap.size w w1) := bstep (balloc _ _) hb1
    have hc1 := (HB.out.cell (p := ⟨g, 0, none⟩) HG.out.1).trans HG.out.2
    clear hb1
    obtain ⟨w2, hrun, hgr, hon, hsz⟩ := HS.out w1.drew (bstep HB.out (bd w1 1))
    have HZ : Hid (GR w2 F g (ns ++ [⟨p, n⟩]) out ∧ OnlyP F w w2) := ⟨hgr, hon⟩
    clear hgr hon hsz
    go_wp2_with fail
    go_region
    go_end0
    refine ⟨rfl, ?_, HZ.out.2⟩
    rw [HE.out]
    exact HZ.out.1.wider (fun k hk => .inl hk) (fun k hk => hk.elim (fun h => HZ.out.1.lt k h) (fun h => h.2))
end Go.Proofs.Ytclbnjfmipifnaa
