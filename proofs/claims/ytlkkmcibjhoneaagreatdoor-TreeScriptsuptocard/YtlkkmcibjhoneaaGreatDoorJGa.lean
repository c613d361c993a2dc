/-
  A stopped tree and one that is not, plain: TreeStops; what stays: TreeSound.
  Rows of steps of the call's own.
  What TreeSound asks, plain.
  What TreeSound asks: among, in; a tree beside what it has told.
  TreeFresh: what stays, whatever is written into what was answered.
-/
import Derived.Test.YtlkkmcibjhoneaaGreatDoorJTr
import Derived.Test.YtlkkmcibjhoneaaGreatDoorTa1
import Derived.Test.YtlkkmcibjhoneaaGreatDoorJFd
import Derived.Test.YtlkkmcibjhoneaaGreatDoorJCuts
namespace Go.Proofs.YtlkkmcibjhoneaaGreatDoor

/-- what is told of them is alike -/
structure Al (T U : TT) : Prop where
  fs : T.fs = U.fs
  ds : T.ds = U.ds
  jl : T.jl = U.jl
  st : T.st = U.st
theorem Al.refl (T : TT) : Al T T := ⟨rfl, rfl, rfl, rfl⟩
end Go.Proofs.YtlkkmcibjhoneaaGreatDoor

namespace Go.Proofs.YtlkkmcibjhoneaaGreatDoor
open Go.RowKit

def Opp.cs (o : Opp) (u : Value) : List Value := [.int .i64 o.kind, .string (bs o.p), .string (bs o.f.path), .string (bs o.f.text), .int .i64 o.f.blob, .int .i64 o.f.size, u, .int .i64 o.n]
def oc : List (Opp × Value) → List Value
  | [] => []
  | (o, u) :: r => o.cs u ++ oc r
theorem oc_get : ∀ (l : List (Opp × Value)) (k : Nat) (h : k < l.length), ∀ j, j < 8 → (oc l)[k * 8 + j]? = (l[k].1.cs l[k].2)[j]?
  | (o, u) :: r, 0, _, j, hj => by
    show (o.cs u ++ oc r)[0 * 8 + j]? = _
    rw [List.getElem?_append_left (by simp [Opp.cs]; omega)]
    simp
  | (o, u) :: r, k + 1, h, j, hj => by
    have ih := oc_get r k (by simpa using h) j hj
    show (o.cs u ++ oc r)[(k + 1) * 8 + j]? = _
    rw [List.getElem?_append_right (by simp [Opp.cs]; omega)]
    simp only [List.getElem_cons_succ]
    rw [← ih]
    congr 1
    simp [Opp.cs]; omega
def OwnO (base : Nat) (w : World) (v : Value) (l : List (Opp × Value)) : Prop := w.ownsRow base 34 8 v l.length (oc l)
theorem OwnO.nil (base : Nat) (w : World) : OwnO base w (.slice none 0 0) [] := World.ownsRow_nil w base 34 8
theorem OwnO.lt {base : Nat} {w : World} {v : Value} {l : List (Opp × Value)} (h : OwnO base w v l) {k : Nat} (hk : v.ownBlock = some k) : base ≤ k ∧ k < w.heap.size := World.ownsRow.lt h k hk
theorem OwnO.form {base : Nat} {w : World} {v : Value} {l : List (Opp × Value)} (h : OwnO base w v l) : ∃ a c, v = .slice a l.length c ∧ l.length ≤ c := by
  rcases h.2 with ⟨rfl, h0⟩ | ⟨g, cap, cur, rfl, hb, hg, hn, _⟩
  · exact ⟨none, 0, by rw [h0], by omega⟩
  · exact ⟨_, cap, rfl, hn⟩
/-- a row of the call's own is a script -/
theorem OwnO.os {base : Nat} {w : World} {v : Value} {l : List (Opp × Value)} {P : Nat → Prop} (h : OwnO base w v l) (hP : ∀ k, P k → k < w.heap.size) (hv : ∀ k, v.ownBlock = some k → P k)
    (hb : ∀ x ∈ l, BS w x.2 x.1.b ∧ (x.1.b ≠ [] → ∀ j, x.2.ownBlock = some j → P j)) : OS P w v (l.map Prod.fst) := by
  rcases h.2 with ⟨rfl, h0⟩ | ⟨g, cap, cur, rfl, hg0, hg, hn, _⟩
  · have : l = [] := List.eq_nil_of_length_eq_zero h0
    subst this
    exact ⟨hP, _, _, rfl, fun k hk => by simp at hk⟩
  · have hc : ∀ i u, (oc l)[i]? = some u → w.cell? ⟨g, i, none⟩ = some u := fun i u hu => by
      have := World.ownsRow.cells h (g := g) rfl i u hu
      rw [add_lit, Nat.zero_add] at this
      exact this
    refine ⟨hP, _, cap, by rw [List.length_map], fun k hk => ?_⟩
    rw [List.length_map] at hk
    have e := oc_get l k hk
    obtain ⟨h1, h2⟩ := hb l[k] (List.getElem_mem _)
    have c : ∀ j, (hj : j < 8) → ∀ u, (l[k].1.cs l[k].2)[j]? = some u → w.cell? ⟨g, 0 + k * 8 + j, none⟩ = some u := fun j hj u hu => by
      rw [Nat.zero_add]
      exact hc _ _ ((e j hj).trans hu)
    refine ⟨g, 0, l[k].2, rfl, hv g rfl, ?_, by rw [List.getElem_map]; exact h2⟩
    rw [List.getElem_map]
    exact ⟨c 0 (by omega) _ rfl, c 1 (by omega) _ rfl, c 2 (by omega) _ rfl, c 3 (by omega) _ rfl, c 4 (by omega) _ rfl, c 5 (by omega) _ rfl, c 6 (by omega) _ rfl, c 7 (by omega) _ rfl, h1⟩
end Go.Proofs.YtlkkmcibjhoneaaGreatDoor

namespace Go.Proofs.YtlkkmcibjhoneaaGreatDoor

theorem TOk.op {T : TT} (h : TOk T) (o : Opp) : TOk (opR o T).1 := by
  unfold opR
  split
  · exact h.mk' _
  · split
    · exact h.wr _
    · split
      · exact h.dl _
      · split
        · exact h.rm _
        · split
          · exact h.ap _
          · split
            · exact h.cl
            · exact h
theorem TOk.run : ∀ (l : List Opp) {T : TT}, TOk T → TOk (runT T l)
  | [], _, h => h
  | o :: l, _, h => TOk.run l (h.op o)
theorem dir_ne {p : List UInt8} (h : p ≠ []) : dir p ≠ p := fun e => by
  have := dir_lt h
  rw [e] at this
  omega
end Go.Proofs.YtlkkmcibjhoneaaGreatDoor

namespace Go.Proofs.YtlkkmcibjhoneaaGreatDoor
open Go.RowKit

theorem FS.stay {w w' : World} {v : Value} {l : List Fl} (h : FS w v l) (hz : w.heap.size ≤ w'.heap.size) (hs : ∀ k, v.ownBlock = some k → w'.heap[k]? = w.heap[k]?) : FS w' v l := by
  rcases h with h | ⟨b, off, cap, rfl, hc, hlt, hcell⟩
  · exact .inl h
  · exact .inr ⟨b, off, cap, rfl, hc, Nat.lt_of_lt_of_le hlt hz, fun i u hu => (cell_stay (hs b rfl) _).trans (hcell i u hu)⟩
theorem SS.stay {w w' : World} {v : Value} {l : List (List UInt8)} (h : SS w v l) (hz : w.heap.size ≤ w'.heap.size) (hs : ∀ k, v.ownBlock = some k → w'.heap[k]? = w.heap[k]?) : SS w' v l := by
  rcases h with h | ⟨b, off, cap, rfl, hc, hlt, hcell⟩
  · exact .inl h
  · exact .inr ⟨b, off, cap, rfl, hc, Nat.lt_of_lt_of_le hlt hz, fun i u hu => (cell_stay (hs b rfl) _).trans (hcell i u hu)⟩
/-- a tree, and beside it the files and directories that it has told -/
def SX (TA : World → (Nat → Prop) → Nat → TT → Prop) (w W : World) (c : Nat) (T : TT) (vf : Value) (fl : List Fl) (vd : Value) (D : List (List UInt8)) : Prop :=
  ∃ F, TA W F c T ∧ Below w.heap.size w W ∧ w.heap.size ≤ W.heap.size ∧ (∀ k, F k → w.heap.size ≤ k) ∧ FS W vf fl ∧ SS W vd D ∧
    (∀ k, vf.ownBlock = some k → ¬ F k ∧ k < W.heap.size) ∧ (∀ k, vd.ownBlock = some k → ¬ F k ∧ k < W.heap.size)
section
variable {TA : World → (Nat → Prop) → Nat → TT → Prop} {w W W' : World} {c : Nat} {T R : TT} {vf vd : Value} {fl : List Fl} {D : List (List UInt8)}
theorem SX.fs (h : SX TA w W c T vf fl vd D) : FS W vf fl := by
  obtain ⟨_, _, _, _, _, h, _⟩ := h
  exact h
theorem SX.ss (h : SX TA w W c T vf fl vd D) : SS W vd D := by
  obtain ⟨_, _, _, _, _, _, h, _⟩ := h
  exact h
theorem SX.bel (h : SX TA w W c T vf fl vd D) : Below w.heap.size w W := by
  obtain ⟨_, _, h, _⟩ := h
  exact h
theorem SX.later (C : TcP TA) (h : SX TA w W c T vf fl vd D) (hb : Below W.heap.size W W') : SX TA w W' c T vf fl vd D := by
  obtain ⟨F, h1, h2, h3, h4, h5, h6, h7, h8⟩ := h
  exact ⟨F, C.later h1 hb, h2.trans (below_mono hb h3), Nat.le_trans h3 hb.size, h4, h5.later hb, h6.later hb, fun k hk => ⟨(h7 k hk).1, Nat.lt_of_lt_of_le (h7 k hk).2 hb.size⟩, fun k hk => ⟨(h8 k hk).1, Nat.lt_of_lt_of_le (h8 k hk).2 hb.size⟩⟩
end
end Go.Proofs.YtlkkmcibjhoneaaGreatDoor

namespace Go.Proofs.YtlkkmcibjhoneaaGreatDoor
open Go.RowKit

theorem ownB_set {base : Nat} {w : World} {g n cap : Nat} {l : List UInt8} (h : OwnB base w (.slice (some ⟨g, 0, none⟩) n cap) l) (i : Nat) (u : UInt8) :
    OwnB base (w.setCell ⟨g, i, none⟩ (.int .u8 u.toNat)) (.slice (some ⟨g, 0, none⟩) n cap) (l.set i u) := by
  rcases h.2 with ⟨e, _⟩ | ⟨g', cap', cur, e, hbg, hg, hn, hcm, hcs, htake⟩
  · cases e
  · injection e with e1 e2 e3
    injection e1 with e1
    injection e1 with e1 _ _
    subst e1
    subst e3
    refine ⟨by rw [bc_length, List.length_set, Nat.mul_one], .inr ⟨g, cap, _, by rw [List.length_set, e2], hbg, heap_setCell w g _ _ hg, by rw [List.length_set]; exact hn, hcm, by simpa using hcs, ?_⟩⟩
    rw [show bc (l.set i u) = (bc l).set i (.int .u8 u.toNat) by simp [bc, List.map_set], ← htake]
    simp [Array.toList_setIfInBounds, List.take_set, List.length_set]
theorem ownB_cell {base : Nat} {w : World} {g n cap : Nat} {l : List UInt8} (h : OwnB base w (.slice (some ⟨g, 0, none⟩) n cap) l) (i : Nat) (hi : i < l.length) :
    w.cell? ⟨g, i, none⟩ = some (.int .u8 (l[i]).toNat) ∧ w.frozen? ⟨g, i, none⟩ = false := by
  constructor
  · have := World.ownsRow.cells h (g := g) rfl i (.int .u8 (l[i]).toNat) (by rw [bc_get, List.getElem?_eq_getElem hi]; rfl)
    rw [add_lit, Nat.zero_add] at this
    exact this
  · rcases h.2 with ⟨e, _⟩ | ⟨g', cap', cur, e, hbg, hg, hn, hcm, hcs, htake⟩
    · cases e
    · injection e with e1 e2 e3
      injection e1 with e1
      injection e1 with e1 _ _
      subst e1
      simp [World.frozen?, hg]
theorem OwnB.lt {base : Nat} {w : World} {v : Value} {l : List UInt8} (h : OwnB base w v l) {k : Nat} (hk : v.ownBlock = some k) : base ≤ k ∧ k < w.heap.size := World.ownsRow.lt h k hk
theorem OwnB.only {S : List Nat} {base : Nat} {w w' : World} {v : Value} {l : List UInt8} (h : OwnB base w v l) (ho : Only S w w') (hn : ∀ k, v.ownBlock = some k → k ∉ S) : OwnB base w' v l := by
  refine ⟨h.1, ?_⟩
  rcases h.2 with ⟨rfl, h0⟩ | ⟨g, cap, cur, rfl, hb, hg, hr⟩
  · exact .inl ⟨rfl, h0⟩
  · exact .inr ⟨g, cap, cur, rfl, hb, by rw [ho.block g (Array.getElem?_eq_some_iff.1 hg).1 (hn g rfl)]; exact hg, hr⟩
theorem OwnB.later {base : Nat} {w w' : World} {v : Value} {l : List UInt8} (h : OwnB base w v l) (hb : Below w.heap.size w w') : OwnB base w' v l :=
  h.only (Only.of_below hb []) (by simp)
theorem OwnB.form' {base : Nat} {w : World} {v : Value} {l : List UInt8} (h : OwnB base w v l) : (v = .slice none 0 0 ∧ l = []) ∨ ∃ g c, v = .slice (some ⟨g, 0, none⟩) l.length c ∧ l.length ≤ c ∧ base ≤ g ∧ g < w.heap.size := by
  rcases h.2 with ⟨rfl, h0⟩ | ⟨g, cap, cur, rfl, hb, hg, hn, _⟩
  · exact .inl ⟨rfl, List.eq_nil_of_length_eq_zero h0⟩
  · exact .inr ⟨g, cap, rfl, hn, hb, (Array.getElem?_eq_some_iff.1 hg).1⟩
/-- files and bytes lie in other blocks -/
theorem fb_ne {A B : Nat} {w : World} {v x : Value} {l : List Fl} {m : List UInt8} (h : OwnF A w v l) (k : OwnB B w x m) : ∀ j, v.ownBlock = some j → x.ownBlock ≠ some j := by
  intro j h1 h2
  rcases h.2 with ⟨rfl, _⟩ | ⟨g, cap, cur, rfl, _, hg, _⟩
  · simp [Value.ownBlock] at h1
  · rcases k.2 with ⟨rfl, _⟩ | ⟨g', cap', cur', rfl, _, hg', _⟩
    · simp [Value.ownBlock] at h2
    · have e1 : g = j := by simpa [Value.ownBlock] using h1
      have e2 : g' = j := by simpa [Value.ownBlock] using h2
      subst e1
      subst e2
      rw [hg] at hg'
      simp at hg'
/-- what stays: the tree, the second files, the second bytes, the texts that were lent; all in blocks of G -/
structure FrX (TA : World → (Nat → Prop) → Nat → TT → Prop) (G : Nat → Prop) (w W : World) (t : Nat) (T : TT) (b : List UInt8) (vy vk vw : Value) : Prop where
  bel : Below w.heap.size w W
  low : ∀ k, k < w.heap.size → G k
  lt : ∀ k, G k → k < W.heap.size
  tr : ∃ F, TA W F t T ∧ ∀ k, F k → G k ∧ w.heap.size ≤ k
  ys : FS W vy T.fs ∧ ∀ k, vy.ownBlock = some k → G k
  ks : BS W vk b ∧ ∀ k, vk.ownBlock = some k → G k
  ws : SS W vw T.ds ∧ ∀ k, vw.ownBlock = some k → G k
  big : 4 ≤ w.heap.size
section
variable {TA : World → (Nat → Prop) → Nat → TT → Prop} {G : Nat → Prop} {w W W' : World} {t : Nat} {T : TT} {b : List UInt8} {vy vk vw : Value}
theorem FrX.only (C : TcP TA) (h : FrX TA G w W t T b vy vk vw) (ho : OnlyP (fun k => ¬ G k) W W') : FrX TA G w W' t T b vy vk vw := by
  have hz := h.bel.size
  have hs : ∀ k, G k → W'.heap[k]? = W.heap[k]? := fun k hk => ho.block k (h.lt k hk) (fun hn => hn hk)
  obtain ⟨F, h1, h2⟩ := h.tr
  refine ⟨h.bel.trans (ho.below hz (fun k hk => ?_)), h.low, fun k hk => Nat.lt_of_lt_of_le (h.lt k hk) ho.size, ⟨F, C.stay h1 ho.size (fun k hk => hs k (h2 k hk).1) ((C.ev h1).below (ho.below hz (fun k hk => Nat.le_of_not_lt fun hl => hk (h.low k hl))) h.big), h2⟩,
    ⟨h.ys.1.stay ho.size (fun k hk => hs k (h.ys.2 k hk)), h.ys.2⟩, ⟨h.ks.1.stay ho.size (fun _ k hk => hs k (h.ks.2 k hk)), h.ks.2⟩, ⟨h.ws.1.stay ho.size (fun k hk => hs k (h.ws.2 k hk)), h.ws.2⟩, h.big⟩
  exact Nat.le_of_not_lt fun hl => hk (h.low k hl)
theorem FrX.later (C : TcP TA) (h : FrX TA G w W t T b vy vk vw) (hb : Below W.heap.size W W') : FrX TA G w W' t T b vy vk vw := h.only C (OnlyP.of_below hb _)
end
theorem ss_ne2 {A B : Nat} {w : World} {v x : Value} {l : List Fl} {m : List (List UInt8)} (h : OwnF A w v l) (k : Own B w x m) : ∀ j, v.ownBlock = some j → x.ownBlock ≠ some j := by
  intro j h1 h2
  rcases h.2 with ⟨rfl, _⟩ | ⟨g, cap, cur, rfl, _, hg, _⟩
  · simp [Value.ownBlock] at h1
  · rcases k.2 with ⟨rfl, _⟩ | ⟨g', cap', cur', rfl, _, hg', _⟩
    · simp [Value.ownBlock] at h2
    · have e1 : g = j := by simpa [Value.ownBlock] using h1
      have e2 : g' = j := by simpa [Value.ownBlock] using h2
      subst e1
      subst e2
      rw [hg] at hg'
      simp at hg'
theorem bs_ne2 {A B : Nat} {w : World} {v x : Value} {l : List UInt8} {m : List (List UInt8)} (h : OwnB A w v l) (k : Own B w x m) : ∀ j, v.ownBlock = some j → x.ownBlock ≠ some j := by
  intro j h1 h2
  rcases h.2 with ⟨rfl, _⟩ | ⟨g, cap, cur, rfl, _, hg, _⟩
  · simp [Value.ownBlock] at h1
  · rcases k.2 with ⟨rfl, _⟩ | ⟨g', cap', cur', rfl, _, hg', _⟩
    · simp [Value.ownBlock] at h2
    · have e1 : g = j := by simpa [Value.ownBlock] using h1
      have e2 : g' = j := by simpa [Value.ownBlock] using h2
      subst e1
      subst e2
      rw [hg] at hg'
      simp at hg'
theorem ss_ne2w {A B : Nat} {w : World} {v x : Value} {l : List Fl} {m : List (List UInt8)} (h : OwnF A w v l) (k : Oww B w x m) : ∀ j, v.ownBlock = some j → x.ownBlock ≠ some j := by
  intro j h1 h2
  rcases h.2 with ⟨rfl, _⟩ | ⟨g, cap, cur, rfl, _, hg, _⟩
  · simp [Value.ownBlock] at h1
  · rcases k with ⟨rfl, _⟩ | ⟨g', off', cap', cur', rfl, _, hg', _⟩
    · simp [Value.ownBlock] at h2
    · have e1 : g = j := by simpa [Value.ownBlock] using h1
      have e2 : g' = j := by simpa [Value.ownBlock] using h2
      subst e1
      subst e2
      rw [hg] at hg'
      simp at hg'
theorem bs_ne2w {A B : Nat} {w : World} {v x : Value} {l : List UInt8} {m : List (List UInt8)} (h : OwnB A w v l) (k : Oww B w x m) : ∀ j, v.ownBlock = some j → x.ownBlock ≠ some j := by
  intro j h1 h2
  rcases h.2 with ⟨rfl, _⟩ | ⟨g, cap, cur, rfl, _, hg, _⟩
  · simp [Value.ownBlock] at h1
  · rcases k with ⟨rfl, _⟩ | ⟨g', off', cap', cur', rfl, _, hg', _⟩
    · simp [Value.ownBlock] at h2
    · have e1 : g = j := by simpa [Value.ownBlock] using h1
      have e2 : g' = j := by simpa [Value.ownBlock] using h2
      subst e1
      subst e2
      rw [hg] at hg'
      simp at hg'
end Go.Proofs.YtlkkmcibjhoneaaGreatDoor
