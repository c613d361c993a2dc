/-
  Loops over iterators: one that keeps what is left in a block of its own; one that ranges over another.
-/
import Derived.Test.YtkopjamednedfaaGreatJQa
import Derived.RangeFuncNested
import Derived.RangeFuncBound
import Derived.RangeFuncCalls
import Derived.RangeFuncLeaves
import Derived.Shelf.RegionOpen
import Derived.OwnWalkIn
import Derived.TacticsInMore
import Derived.LoopNIn
import Derived.LoopIn
namespace Go.Proofs.YtkopjamednedfaaGreat
open Go.RowKit

/-- what is no cells, from m on, lies as it lay -/
def Still (m : Nat) (W W' : World) : Prop := ∀ (k : Nat) (o : Obj), m ≤ k → W.heap[k]? = some o → o.isCells = false → W'.heap[k]? = some o
/-- how a round's body may be left -/
def leftBy {α : Type} (m Bs : Nat) (I : List α → World → Prop) (Ix : World → Prop) (ys : List α) (W : World) : Exit → Act → World → Prop
  | .normal, _, W' => Still m W W' ∧ W'.heap[Bs]? = W.heap[Bs]? ∧ I ys W'
  | .ret, _, W' => Still m W W' ∧ Ix W'
  | _, _, _ => False
/-- an iterator: for every loop that abides the turns of its own block, it gives just these -/
def Gives {α : Type} (P : Program) (n gf : Nat) (lb : Array Value) (encs : α → Array Value) (Bs : Nat) (o : Option Obj) (xs : List α) : Prop :=
  ∀ (l : Nat) (J : List α → World → Prop) (Jx : World → Prop) (W : World),
    (∀ pre A B, J pre A → A.grownBy B (some Bs) → J pre B) → (∀ A B, Jx A → A.grownBy B (some Bs) → Jx B) → W.heap[Bs]? = o →
    (∀ pre x W1, J pre W1 → (∃ r, xs = pre ++ x :: r) → YieldAt Fence.wide (n - 1) P l (encs x) W1 fun e W' =>
      (e = .returned (.bool true) ∧ J (pre ++ [x]) W' ∧ W'.heap[Bs]? = W1.heap[Bs]?) ∨ (e = .returned (.bool false) ∧ Jx W')) →
    J [] W → CallsIn Fence.wide n P gf (#[.func (.yield l) #[] #[]] ++ lb) W fun e W' => (∃ v, e = .returned v) ∧ (J xs W' ∨ Jx W')

set_option maxHeartbeats 1000000 in
theorem range_gives {P : Program} {n : Nat} {α : Type} {g : Operand} {ps : Array Tmp} {assign body : Code} {Q : Exit → Act → World → Prop} {a : Act} {w : World} {gf : Nat} {lb : Array Value}
    (hg : a.eval g = .func (.func gf) #[] lb) (eg : ∀ args w, (callFunc gf args).run P w = .ok (.enter gf args) w)
    {encs : α → Array Value} (hps : ∀ x, (encs x).size = ps.size) {Bs : Nat} (hBs : Bs < w.heap.size) {xs : List α} (hseq : Gives P (n - 1) gf lb encs Bs w.heap[Bs]? xs)
    (I : List α → World → Prop) (Ix : World → Prop) (hI : ∀ pre A B, I pre A → A.grownBy B (some Bs) → I pre B) (hIx : ∀ A B, Ix A → A.grownBy B (some Bs) → Ix B)
    (hJ : ∀ pre (A : World) l (o o' : Obj), I pre A → w.heap.size ≤ l → A.heap[l]? = some o → o.isCells = false → I pre (A.putObj l o'))
    (hJx : ∀ (A : World) l (o o' : Obj), Ix A → w.heap.size ≤ l → A.heap[l]? = some o → o.isCells = false → Ix (A.putObj l o'))
    (h0 : I [] w) (a₁ : α → Act)
    (hassign : ∀ (l : Nat) (x : α) (W : World) (K : Act → World → Prop), K (a₁ x) W →
      assign.wpIn (Fence.wide.inRound l) (n - 1 - 1) P (Exit.then K (fun _ _ _ => False)) { tmps := (ps.zip (encs x)).foldl (fun t (p, v) => t.setIfInBounds p v) a.tmps, defers := [] } W)
    (hbody : ∀ (l : Nat) (pre : List α) (x : α) (W : World), w.heap.size ≤ l → I pre W → (∃ r, xs = pre ++ x :: r) → body.wpIn (Fence.wide.inRound l) (n - 1 - 1) P (leftBy w.heap.size Bs I Ix (pre ++ [x]) W) (a₁ x) W)
    (hdone : ∀ (D : Nat) (W : World), w.heap.size ≤ D → I xs W → W.heap[D]? = some (.deferred (some [])) → Q .normal { a with defers := { target := .collected D, args := #[] } :: a.defers } W)
    (hstop : ∀ (D : Nat) (W : World), w.heap.size ≤ D → Ix W → W.heap[D]? = some (.deferred (some [])) → Code.ret.wpIn Fence.wide n P Q { a with defers := { target := .collected D, args := #[] } :: a.defers } W) :
    (Code.rangeFunc g ps assign body).wpIn Fence.wide n P Q a w := by
  refine wpIn_rangeFunc fun fn hfn => ?_
  let R : LoopState → Option Code → Loop := fun st pe => { state := st, pending := pe, fn, tmps := a.tmps, params := ps, assign, body, defers := w.heap.size }
  let D := w.heap.size
  let l := w.heap.size + 1
  let V := (w.alloc (.deferred (some []))).alloc (.loop (R .ready none))
  have hV : V.heap.size = w.heap.size + 2 := by simp [V]
  have hl : V.heap[l]? = some (.loop (R .ready none)) := by
    have := World.alloc_heap_new (w.alloc (.deferred (some []))) (.loop (R .ready none)); rwa [World.size_alloc] at this
  have hD : V.heap[D]? = some (.deferred (some [])) := (Below.heap_alloc _ _ _ (by simp [D])).trans (World.alloc_heap_new w _)
  have hB : V.heap[Bs]? = w.heap[Bs]? := (Below.heap_alloc _ _ _ (by simp; omega)).trans (Below.heap_alloc _ _ _ hBs)
  have hi : I [] V := hI [] _ _ (hI [] _ _ h0 (World.grownBy_alloc w _ _)) (World.grownBy_alloc _ _ _)
  have away : ∀ {A B : World} {k : Nat} {o : Obj}, A.grownBy B (some Bs) → w.heap.size ≤ k → A.heap[k]? = some o → B.heap[k]? = some o := fun hgr hk ho =>
    (hgr.block _ (Array.getElem?_eq_some_iff.1 ho).1 (fun e => by injection e with e; omega)).trans ho
  refine ⟨l, [{ target := .collected D, args := #[] }], V, { target := .fn (.func gf) lb, args := #[.func (.yield l) #[] #[]] }, V, gf, #[.func (.yield l) #[] #[]] ++ lb, V, run_enterLoop_outer _ _ _ _ _, ?_, fun _ _ => trivial, ?_, (fun h => (by cases h)), ?_⟩
  · simp only [resolve, hg]
    simp [go_sem]
  · simp [invoke, go_sem, eg]
  · refine (hseq l (fun pre W => I pre W ∧ W.heap[l]? = some (.loop (R .ready none)) ∧ W.heap[D]? = some (.deferred (some []))) (fun W => Ix W ∧ W.heap[l]? = some (.loop (R .done (some .ret))) ∧ W.heap[D]? = some (.deferred (some []))) V
      (fun pre A B hs hgr => ⟨hI pre A B hs.1 hgr, away hgr (by simp [l]) hs.2.1, away hgr (Nat.le_refl _) hs.2.2⟩)
      (fun A B hs hgr => ⟨hIx A B hs.1 hgr, away hgr (by simp [l]) hs.2.1, away hgr (Nat.le_refl _) hs.2.2⟩) hB ?_ ⟨hi, hl, hD⟩).mono ?_
    · rintro pre x W ⟨hw, hlw, hdw⟩ hx
      refine ⟨fn, _, assign, body, run_yield hlw (hps x), roundIn_of_wpIn hfn (hassign l x W _ ⟨_, run_beginRound hlw rfl, ?_⟩)⟩
      have hlt : l < W.heap.size := (Array.getElem?_eq_some_iff.1 hlw).1
      obtain ⟨W2, hW2⟩ : ∃ W2, W.putObj l (.loop { R .ready none with state := .busy }) = W2 := ⟨_, rfl⟩
      have hl2 : W2.heap[l]? = some (.loop { R .ready none with state := .busy }) := by rw [← hW2]; exact World.putObj_heap_same hlt
      have hd2 : W2.heap[D]? = some (.deferred (some [])) := by rw [← hW2]; exact (World.putObj_heap_other (by simp [D, l])).trans hdw
      have hb2 : W2.heap[Bs]? = W.heap[Bs]? := by rw [← hW2]; exact World.putObj_heap_other (by simp [l]; omega)
      have hi2 : I pre W2 := by rw [← hW2]; exact hJ pre W l _ _ hw (by simp [l]) hlw rfl
      rw [hW2]
      refine wpIn_mono (hbody l pre x W2 (by simp [l]) hi2 hx) ?_
      rintro e a3 W3 hp
      cases e with
      | normal =>
        obtain ⟨hst, hbs, hi3⟩ := hp
        have hl3 := hst l _ (by simp [l]) hl2 rfl
        have hlt3 : l < W3.heap.size := (Array.getElem?_eq_some_iff.1 hl3).1
        refine ⟨_, _, run_endRound none hl3, .inl ⟨rfl, ⟨hJ _ _ _ _ _ hi3 (by simp [l]) hl3 rfl, World.putObj_heap_same hlt3, (World.putObj_heap_other (by simp [D, l])).trans (hst D _ (Nat.le_refl _) hd2 rfl)⟩, ?_⟩⟩
        rw [World.putObj_heap_other (by simp [l]; omega), hbs, hb2]
      | ret =>
        obtain ⟨hst, hi3⟩ := hp
        have hl3 := hst l _ (by simp [l]) hl2 rfl
        have hlt3 : l < W3.heap.size := (Array.getElem?_eq_some_iff.1 hl3).1
        exact ⟨_, _, run_endRound (some .ret) hl3, .inr ⟨rfl, hJx _ _ _ _ hi3 (by simp [l]) hl3 rfl, World.putObj_heap_same hlt3, (World.putObj_heap_other (by simp [D, l])).trans (hst D _ (Nat.le_refl _) hd2 rfl)⟩⟩
      | exit id => exact hp.elim
      | goto t => exact hp.elim
      | panic ch => exact hp.elim
      | outgrown => exact hp.elim
    · rintro e W2 ⟨⟨v, rfl⟩, ⟨hi2, hl2, hd2⟩ | ⟨hi2, hl2, hd2⟩⟩
      · exact ⟨none, _, run_endLoop hl2 (by simp [R]), hdone D _ (Nat.le_refl _) (hJ _ _ _ _ _ hi2 (by simp [l]) hl2 rfl) ((World.putObj_heap_other (by simp [D, l])).trans hd2)⟩
      · exact ⟨some .ret, _, run_endLoop hl2 (by simp [R]), hstop D _ (Nat.le_refl _) (hJx _ _ _ _ hi2 (by simp [l]) hl2 rfl) ((World.putObj_heap_other (by simp [D, l])).trans hd2)⟩

/-! ### an iterator that may itself range over another -/
/-- for every loop that abides the turns of what is no cells, from the iterator's start on, it gives just these -/
def SeqO {α : Type} (n : Nat) (P : Program) (gf : Nat) (lb : Array Value) (encs : α → Array Value) (Kp : World → World → Prop) (xs : List α) (w : World) : Prop :=
  ∀ (l : Nat) (J : List α → World → Prop) (Jx : World → Prop) (W : World), Below w.heap.size w W → OwnFrom W.heap.size J → OwnFrom W.heap.size (fun (_ : Unit) => Jx) →
    (∀ pre x W1, J pre W1 → (∃ r, xs = pre ++ x :: r) → YieldAt Fence.wide (n - 1) P l (encs x) W1 fun e W' =>
      (e = .returned (.bool true) ∧ J (pre ++ [x]) W' ∧ Kp W1 W') ∨ (e = .returned (.bool false) ∧ Jx W' ∧ KeepsFrom W.heap.size W1 W')) →
    J [] W → CallsIn Fence.wide n P gf (#[.func (.yield l) #[] #[]] ++ lb) W fun e W' => (∃ v, e = .returned v) ∧ (J xs W' ∨ Jx W')
/-- how a round's body may be left -/
def leftO {α : Type} (m : Nat) (Kp : World → World → Prop) (I : List α → World → Prop) (Ix : World → Prop) (ys : List α) (W : World) : Exit → Act → World → Prop
  | .normal, _, W' => KeepsFrom m W W' ∧ Kp W W' ∧ I ys W'
  | .ret, _, W' => KeepsFrom m W W' ∧ Ix W'
  | _, _, _ => False
theorem roundAny {m m' : Nat} {P : Program} {l : Nat} {f : FuncId} {tmps : Array Value} {assign body : Code} {w : World} {R : Ending → World → Prop}
    (h : RoundIn Fence.wide m P l f tmps assign body w R) : RoundIn Fence.wide m' P l f tmps assign body w R := ⟨h.1, fun c cs _ => h.2 c cs (fun d hd => by cases hd)⟩
theorem yieldAny {m : Nat} (m' : Nat) {P : Program} {l : Nat} {args : Array Value} {W : World} {R : Ending → World → Prop} (h : YieldAt Fence.wide m P l args W R) : YieldAt Fence.wide m' P l args W R := by
  obtain ⟨fn, tmps, assign, body, hy, hR⟩ := h
  exact ⟨fn, tmps, assign, body, hy, roundAny hR⟩

set_option maxHeartbeats 1000000 in
theorem range_own {P : Program} {n : Nat} {α : Type} {g : Operand} {ps : Array Tmp} {assign body : Code} {Q : Exit → Act → World → Prop} {a : Act} {w : World} {gf : Nat} {lb : Array Value}
    (hg : a.eval g = .func (.func gf) #[] lb) (eg : ∀ args w, (callFunc gf args).run P w = .ok (.enter gf args) w)
    {encs : α → Array Value} (hps : ∀ x, (encs x).size = ps.size) {Kp : World → World → Prop} {xs : List α} {w0 : World} (hseq : SeqO (n - 1) P gf lb encs Kp xs w0) (hb0 : Below w0.heap.size w0 w)
    (hKr : ∀ (W1 W3 : World) (l : Nat) (r r' : Loop), w.heap.size ≤ l → W1.heap[l]? = some (.loop r) → Kp (W1.putObj l (.loop r')) W3 → W3.heap[l]? = some (.loop r') → Kp W1 (W3.putObj l (.loop r)))
    (I : List α → World → Prop) (Ix : World → Prop) (hI : OwnFrom w.heap.size I) (hIx : OwnFrom w.heap.size (fun (_ : Unit) => Ix))
    (h0 : I [] w) (a₁ : α → Act)
    (hassign : ∀ (l : Nat) (x : α) (W : World) (K : Act → World → Prop), K (a₁ x) W →
      assign.wpIn (Fence.wide.inRound l) (n - 1 - 1) P (Exit.then K (fun _ _ _ => False)) { tmps := (ps.zip (encs x)).foldl (fun t (p, v) => t.setIfInBounds p v) a.tmps, defers := [] } W)
    (hbody : ∀ (l : Nat) (pre : List α) (x : α) (W : World), w.heap.size ≤ l → I pre W → (∃ r, xs = pre ++ x :: r) → body.wpIn (Fence.wide.inRound l) (n - 1 - 1) P (leftO w.heap.size Kp I Ix (pre ++ [x]) W) (a₁ x) W)
    (hdone : ∀ (D : Nat) (W : World), w.heap.size ≤ D → I xs W → W.heap[D]? = some (.deferred (some [])) → Q .normal { a with defers := { target := .collected D, args := #[] } :: a.defers } W)
    (hstop : ∀ (D : Nat) (W : World), w.heap.size ≤ D → Ix W → W.heap[D]? = some (.deferred (some [])) → Code.ret.wpIn Fence.wide n P Q { a with defers := { target := .collected D, args := #[] } :: a.defers } W) :
    (Code.rangeFunc g ps assign body).wpIn Fence.wide n P Q a w := by
  refine wpIn_rangeFunc fun fn hfn => ?_
  let R : LoopState → Option Code → Loop := fun st pe => { state := st, pending := pe, fn, tmps := a.tmps, params := ps, assign, body, defers := w.heap.size }
  let D := w.heap.size
  let l := w.heap.size + 1
  let V := (w.alloc (.deferred (some []))).alloc (.loop (R .ready none))
  have hV : V.heap.size = w.heap.size + 2 := by simp [V]
  have hl : V.heap[l]? = some (.loop (R .ready none)) := by
    have := World.alloc_heap_new (w.alloc (.deferred (some []))) (.loop (R .ready none)); rwa [World.size_alloc] at this
  have hD : V.heap[D]? = some (.deferred (some [])) := (Below.heap_alloc _ _ _ (by simp [D])).trans (World.alloc_heap_new w _)
  have hbV : Below w0.heap.size w0 V := below_trans hb0 (below_mono (bstep (balloc w _) (balloc _ _)) hb0.size)
  have hi : I [] V := hI.alloc _ (hI.alloc _ h0)
  have away : ∀ {A B : World} {row : Option Nat} {k : Nat} {o : Obj}, A.grownBy B row → (∀ r, row = some r → V.heap.size ≤ r ∧ ∃ o : Obj, A.heap[r]? = some o ∧ o.isCells = false) → k < V.heap.size → A.heap[k]? = some o → B.heap[k]? = some o := fun hgr hr hk ho =>
    (hgr.block _ (Array.getElem?_eq_some_iff.1 ho).1 (fun e => by have := (hr _ e.symm).1; omega)).trans ho
  have more : ∀ {A : World} {row : Option Nat}, (∀ r, row = some r → V.heap.size ≤ r ∧ ∃ o : Obj, A.heap[r]? = some o ∧ o.isCells = false) → (∀ r, row = some r → w.heap.size ≤ r ∧ ∃ o : Obj, A.heap[r]? = some o ∧ o.isCells = false) := fun hr r e => ⟨by have := (hr r e).1; omega, (hr r e).2⟩
  refine ⟨l, [{ target := .collected D, args := #[] }], V, { target := .fn (.func gf) lb, args := #[.func (.yield l) #[] #[]] }, V, gf, #[.func (.yield l) #[] #[]] ++ lb, V, run_enterLoop_outer _ _ _ _ _, ?_, fun _ _ => trivial, ?_, (fun h => (by cases h)), ?_⟩
  · simp only [resolve, hg]
    simp [go_sem]
  · simp [invoke, go_sem, eg]
  · refine (hseq l (fun pre W => I pre W ∧ W.heap[l]? = some (.loop (R .ready none)) ∧ W.heap[D]? = some (.deferred (some []))) (fun W => Ix W ∧ W.heap[l]? = some (.loop (R .done (some .ret))) ∧ W.heap[D]? = some (.deferred (some []))) V hbV
      (fun pre A B row hs hgr hr => ⟨hI pre A B row hs.1 hgr (more hr), away hgr hr (by simp [l, hV]) hs.2.1, away hgr hr (by simp [D, hV]) hs.2.2⟩)
      (fun u A B row hs hgr hr => ⟨hIx u A B row hs.1 hgr (more hr), away hgr hr (by simp [l, hV]) hs.2.1, away hgr hr (by simp [D, hV]) hs.2.2⟩) ?_ ⟨hi, hl, hD⟩).mono ?_
    · rintro pre x W ⟨hw, hlw, hdw⟩ hx
      refine ⟨fn, _, assign, body, run_yield hlw (hps x), roundIn_of_wpIn hfn (hassign l x W _ ⟨_, run_beginRound hlw rfl, ?_⟩)⟩
      have hlt : l < W.heap.size := (Array.getElem?_eq_some_iff.1 hlw).1
      obtain ⟨W2, hW2⟩ : ∃ W2, W.putObj l (.loop { R .ready none with state := .busy }) = W2 := ⟨_, rfl⟩
      have hl2 : W2.heap[l]? = some (.loop { R .ready none with state := .busy }) := by rw [← hW2]; exact World.putObj_heap_same hlt
      have hd2 : W2.heap[D]? = some (.deferred (some [])) := by rw [← hW2]; exact (World.putObj_heap_other (by simp [D, l])).trans hdw
      have hi2 : I pre W2 := by rw [← hW2]; exact hI.putObj _ hw (by simp [l]) hlw rfl
      have hk2 : KeepsFrom V.heap.size W W2 := by
        rw [← hW2]
        exact ⟨by simp, fun k o hk ho _ => (World.putObj_heap_other (by rw [hV] at hk; simp [l]; omega)).trans ho⟩
      have hkp : ∀ W3, Kp W2 W3 → Kp (W.putObj l (.loop { R .ready none with state := .busy })) W3 := fun W3 h => by rw [hW2]; exact h
      rw [hW2]
      refine wpIn_mono (hbody l pre x W2 (by simp [l]) hi2 hx) ?_
      have last : ∀ (W3 : World) (o' : Obj), KeepsFrom w.heap.size W2 W3 → KeepsFrom V.heap.size W (W3.putObj l o') := fun W3 o' h3 =>
        hk2.trans ⟨by simp; exact h3.size, fun k o hk ho hc => (World.putObj_heap_other (by rw [hV] at hk; simp [l]; omega)).trans (h3.same k o (by rw [hV] at hk; omega) ho hc)⟩
      rintro e a3 W3 hp
      cases e with
      | normal =>
        obtain ⟨hst, hkk, hi3⟩ := hp
        have hl3 := hst.same l _ (by simp [l]) hl2 rfl
        have hlt3 : l < W3.heap.size := (Array.getElem?_eq_some_iff.1 hl3).1
        refine ⟨_, _, run_endRound none hl3, .inl ⟨rfl, ⟨hI.putObj _ hi3 (by simp [l]) hl3 rfl, World.putObj_heap_same hlt3, (World.putObj_heap_other (by simp [D, l])).trans (hst.same D _ (Nat.le_refl _) hd2 rfl)⟩, ?_⟩⟩
        exact hKr W W3 l _ _ (by simp [l]) hlw (hkp _ hkk) hl3
      | ret =>
        obtain ⟨hst, hi3⟩ := hp
        have hl3 := hst.same l _ (by simp [l]) hl2 rfl
        have hlt3 : l < W3.heap.size := (Array.getElem?_eq_some_iff.1 hl3).1
        exact ⟨_, _, run_endRound (some .ret) hl3, .inr ⟨rfl, ⟨hIx.putObj (s := ()) _ hi3 (by simp [l]) hl3 rfl, World.putObj_heap_same hlt3, (World.putObj_heap_other (by simp [D, l])).trans (hst.same D _ (Nat.le_refl _) hd2 rfl)⟩, last _ _ hst⟩⟩
      | exit id => exact hp.elim
      | goto t => exact hp.elim
      | panic ch => exact hp.elim
      | outgrown => exact hp.elim
    · rintro e W2 ⟨⟨v, rfl⟩, ⟨hi2, hl2, hd2⟩ | ⟨hi2, hl2, hd2⟩⟩
      · exact ⟨none, _, run_endLoop hl2 (by simp [R]), hdone D _ (Nat.le_refl _) (hI.putObj _ hi2 (by simp [l]) hl2 rfl) ((World.putObj_heap_other (by simp [D, l])).trans hd2)⟩
      · exact ⟨some .ret, _, run_endLoop hl2 (by simp [R]), hstop D _ (Nat.le_refl _) (hIx.putObj (s := ()) _ hi2 (by simp [l]) hl2 rfl) ((World.putObj_heap_other (by simp [D, l])).trans hd2)⟩
end Go.Proofs.YtkopjamednedfaaGreat
