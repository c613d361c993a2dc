/-
  TreeFresh: what stays, whatever is written into what was answered.
  The document's tree in memory; a step is counted; a file, a directory is looked for.
  The landed tree in memory; a step counted; what is there at a path.
-/
import Derived.Test.YtlkkmcibjhoneaaGreatDoorJMf
import Derived.Test.YtlkkmcibjhoneaaGreatDoorTn
import Derived.Test.YtlkkmcibjhoneaaGreatDoorJLent
import Derived.Test.YtlkkmcibjhoneaaGreatDoorLm
import Derived.Test.YtlkkmcibjhoneaaGreatDoorJWa
namespace Go.Proofs.YtlkkmcibjhoneaaGreatDoor
open Go.RowKit

theorem ownB_set {base : Nat} {w : World} {g n cap : Nat} {l : List UInt8} (h : OwnB base w (.slice (some ⟨g, 0, none⟩) n cap) l) (i : Nat) (u : UInt8) :
    OwnB base (w.setCell ⟨g, i, none⟩ (.int .u8 u.toNat)) (.slice (some ⟨g, 0, none⟩) n cap) (l.set i u) := by
  rcases h.2 with ⟨e, _⟩ | ⟨g', cap', cur, e, hbg, hg, hn, hcm, hcs, htake⟩
  · cases e
  · injection e with e1 e2 e3
    injection e1 with e1
    injection e1 with e1 _ _
    subst e1
    subst e3
    refine ⟨by rw [bc_length, List.length_set, Nat.mul_one], .inr ⟨g, cap, _, by rw [List.length_set, e2], hbg, heap_setCell w g _ _ hg, by rw [List.length_set]; exact hn, hcm, by simpa using hcs, ?_⟩⟩
    rw [show bc (l.set i u) = (bc l).set i (.int .u8 u.toNat) by simp [bc, List.map_set], ← htake]
    simp [Array.toList_setIfInBounds, List.take_set, List.length_set]
theorem ownB_cell {base : Nat} {w : World} {g n cap : Nat} {l : List UInt8} (h : OwnB base w (.slice (some ⟨g, 0, none⟩) n cap) l) (i : Nat) (hi : i < l.length) :
    w.cell? ⟨g, i, none⟩ = some (.int .u8 (l[i]).toNat) ∧ w.frozen? ⟨g, i, none⟩ = false := by
  constructor
  · have := World.ownsRow.cells h (g := g) rfl i (.int .u8 (l[i]).toNat) (by rw [bc_get, List.getElem?_eq_getElem hi]; rfl)
    rw [add_lit, Nat.zero_add] at this
    exact this
  · rcases h.2 with ⟨e, _⟩ | ⟨g', cap', cur, e, hbg, hg, hn, hcm, hcs, htake⟩
    · cases e
    · injection e with e1 e2 e3
      injection e1 with e1
      injection e1 with e1 _ _
      subst e1
      simp [World.frozen?, hg]
theorem OwnB.lt {base : Nat} {w : World} {v : Value} {l : List UInt8} (h : OwnB base w v l) {k : Nat} (hk : v.ownBlock = some k) : base ≤ k ∧ k < w.heap.size := World.ownsRow.lt h k hk
theorem OwnB.only {S : List Nat} {base : Nat} {w w' : World} {v : Value} {l : List UInt8} (h : OwnB base w v l) (ho : Only S w w') (hn : ∀ k, v.ownBlock = some k → k ∉ S) : OwnB base w' v l := by
  refine ⟨h.1, ?_⟩
  rcases h.2 with ⟨rfl, h0⟩ | ⟨g, cap, cur, rfl, hb, hg, hr⟩
  · exact .inl ⟨rfl, h0⟩
  · exact .inr ⟨g, cap, cur, rfl, hb, by rw [ho.block g (Array.getElem?_eq_some_iff.1 hg).1 (hn g rfl)]; exact hg, hr⟩
theorem OwnB.later {base : Nat} {w w' : World} {v : Value} {l : List UInt8} (h : OwnB base w v l) (hb : Below w.heap.size w w') : OwnB base w' v l :=
  h.only (Only.of_below hb []) (by simp)
theorem OwnB.form' {base : Nat} {w : World} {v : Value} {l : List UInt8} (h : OwnB base w v l) : (v = .slice none 0 0 ∧ l = []) ∨ ∃ g c, v = .slice (some ⟨g, 0, none⟩) l.length c ∧ l.length ≤ c ∧ base ≤ g ∧ g < w.heap.size := by
  rcases h.2 with ⟨rfl, h0⟩ | ⟨g, cap, cur, rfl, hb, hg, hn, _⟩
  · exact .inl ⟨rfl, List.eq_nil_of_length_eq_zero h0⟩
  · exact .inr ⟨g, cap, rfl, hn, hb, (Array.getElem?_eq_some_iff.1 hg).1⟩
/-- files and bytes lie in other blocks -/
theorem fb_ne {A B : Nat} {w : World} {v x : Value} {l : List Fl} {m : List UInt8} (h : OwnF A w v l) (k : OwnB B w x m) : ∀ j, v.ownBlock = some j → x.ownBlock ≠ some j := by
  intro j h1 h2
  rcases h.2 with ⟨rfl, _⟩ | ⟨g, cap, cur, rfl, _, hg, _⟩
  · simp [Value.ownBlock] at h1
  · rcases k.2 with ⟨rfl, _⟩ | ⟨g', cap', cur', rfl, _, hg', _⟩
    · simp [Value.ownBlock] at h2
    · have e1 : g = j := by simpa [Value.ownBlock] using h1
      have e2 : g' = j := by simpa [Value.ownBlock] using h2
      subst e1
      subst e2
      rw [hg] at hg'
      simp at hg'
theorem OnlyP.of_only {S : List Nat} {w w' : World} {Z : Nat → Prop} (h : Only S w w') (hS : ∀ k ∈ S, Z k) : OnlyP Z w w' :=
  ⟨h.os, h.tape, h.output, h.size, fun k hk hn => h.block k hk (fun hm => hn (hS k hm))⟩
/-- what stays: the tree, the second files, the second bytes, the texts that were lent; all in blocks of G -/
structure FrX (TA : World → (Nat → Prop) → Nat → TT → Prop) (G : Nat → Prop) (w W : World) (t : Nat) (T : TT) (b : List UInt8) (vy vk vw : Value) : Prop where
  bel : Below w.heap.size w W
  low : ∀ k, k < w.heap.size → G k
  lt : ∀ k, G k → k < W.heap.size
  tr : ∃ F, TA W F t T ∧ ∀ k, F k → G k ∧ w.heap.size ≤ k
  ys : FS W vy T.fs ∧ ∀ k, vy.ownBlock = some k → G k
  ks : BS W vk b ∧ ∀ k, vk.ownBlock = some k → G k
  ws : SS W vw T.ds ∧ ∀ k, vw.ownBlock = some k → G k
  big : 4 ≤ w.heap.size
section
variable {TA : World → (Nat → Prop) → Nat → TT → Prop} {G : Nat → Prop} {w W W' : World} {t : Nat} {T : TT} {b : List UInt8} {vy vk vw : Value}
theorem FrX.only (C : TcP TA) (h : FrX TA G w W t T b vy vk vw) (ho : OnlyP (fun k => ¬ G k) W W') : FrX TA G w W' t T b vy vk vw := by
  have hz := h.bel.size
  have hs : ∀ k, G k → W'.heap[k]? = W.heap[k]? := fun k hk => ho.block k (h.lt k hk) (fun hn => hn hk)
  obtain ⟨F, h1, h2⟩ := h.tr
  refine ⟨h.bel.trans (ho.below hz (fun k hk => ?_)), h.low, fun k hk => Nat.lt_of_lt_of_le (h.lt k hk) ho.size, ⟨F, C.stay h1 ho.size (fun k hk => hs k (h2 k hk).1) ((C.ev h1).below (ho.below hz (fun k hk => Nat.le_of_not_lt fun hl => hk (h.low k hl))) h.big), h2⟩,
    ⟨h.ys.1.stay ho.size (fun k hk => hs k (h.ys.2 k hk)), h.ys.2⟩, ⟨h.ks.1.stay ho.size (fun _ k hk => hs k (h.ks.2 k hk)), h.ks.2⟩, ⟨h.ws.1.stay ho.size (fun k hk => hs k (h.ws.2 k hk)), h.ws.2⟩, h.big⟩
  exact Nat.le_of_not_lt fun hl => hk (h.low k hl)
theorem FrX.later (C : TcP TA) (h : FrX TA G w W t T b vy vk vw) (hb : Below W.heap.size W W') : FrX TA G w W' t T b vy vk vw := h.only C (OnlyP.of_below hb _)
theorem FrX.tb (h : FrX TA G w W t T b vy vk vw) : Tb TA w.heap.size w W t T := by
  obtain ⟨F, h1, h2⟩ := h.tr
  exact ⟨F, h1, h.bel, h.bel.size, fun k hk => (h2 k hk).2⟩
end
theorem ss_ne2w {A B : Nat} {w : World} {v x : Value} {l : List Fl} {m : List (List UInt8)} (h : OwnF A w v l) (k : Oww B w x m) : ∀ j, v.ownBlock = some j → x.ownBlock ≠ some j := by
  intro j h1 h2
  rcases h.2 with ⟨rfl, _⟩ | ⟨g, cap, cur, rfl, _, hg, _⟩
  · simp [Value.ownBlock] at h1
  · rcases k with ⟨rfl, _⟩ | ⟨g', off', cap', cur', rfl, _, hg', _⟩
    · simp [Value.ownBlock] at h2
    · have e1 : g = j := by simpa [Value.ownBlock] using h1
      have e2 : g' = j := by simpa [Value.ownBlock] using h2
      subst e1
      subst e2
      rw [hg] at hg'
      simp at hg'
theorem bs_ne2w {A B : Nat} {w : World} {v x : Value} {l : List UInt8} {m : List (List UInt8)} (h : OwnB A w v l) (k : Oww B w x m) : ∀ j, v.ownBlock = some j → x.ownBlock ≠ some j := by
  intro j h1 h2
  rcases h.2 with ⟨rfl, _⟩ | ⟨g, cap, cur, rfl, _, hg, _⟩
  · simp [Value.ownBlock] at h1
  · rcases k with ⟨rfl, _⟩ | ⟨g', off', cap', cur', rfl, _, hg', _⟩
    · simp [Value.ownBlock] at h2
    · have e1 : g = j := by simpa [Value.ownBlock] using h1
      have e2 : g' = j := by simpa [Value.ownBlock] using h2
      subst e1
      subst e2
      rw [hg] at hg'
      simp at hg'
end Go.Proofs.YtlkkmcibjhoneaaGreatDoor

namespace Go.Proofs.YtlkkmcibjhoneaaGreatDoor
open Go.RowKit

theorem row_stay {w w' : World} {base n : Nat} {ty : TypeId} {v : Value} {len : Nat} {cs : List Value} (h : w.ownsRow base ty n v len cs) (hs : ∀ k, v.ownBlock = some k → w'.heap[k]? = w.heap[k]?) : w'.ownsRow base ty n v len cs := by
  refine ⟨h.1, ?_⟩
  rcases h.2 with h0 | ⟨g, cap, cur, rfl, hb, hg, hr⟩
  · exact .inl h0
  · exact .inr ⟨g, cap, cur, rfl, hb, by rw [hs g rfl]; exact hg, hr⟩
section
variable {w w' : World} {c : Nat} {vf vd vj vt u : Value} {st sp st' : Int} {dn dn' : Bool}
end
theorem set_other (w : World) (c i : Nat) (v : Value) {k : Nat} (h : k ≠ c) : (w.setCell ⟨c, i, none⟩ v).heap[k]? = w.heap[k]? := by
  simp [World.setCell, Array.getElem?_modify, Ne.symm h]
theorem size_set (w : World) (c i : Nat) (v : Value) : (w.setCell ⟨c, i, none⟩ v).heap.size = w.heap.size := by simp [World.setCell]
theorem OnlyP.set {F : Nat → Prop} (w : World) (c i : Nat) (v : Value) (h : F c) : OnlyP F w (w.setCell ⟨c, i, none⟩ v) :=
  ⟨rfl, rfl, rfl, by rw [size_set]; exact Nat.le_refl _, fun k _ hn => set_other w c i v (fun e => hn (e ▸ h))⟩

theorem OwnB.len {base : Nat} {w : World} {v : Value} {l : List UInt8} (h : OwnB base w v l) : ∃ a c, v = .slice a l.length c := by
  rcases h.form' with ⟨rfl, rfl⟩ | ⟨g, c, e, _⟩
  · exact ⟨_, _, rfl⟩
  · exact ⟨_, c, e⟩
end Go.Proofs.YtlkkmcibjhoneaaGreatDoor

namespace Go.Proofs.YtlkkmcibjhoneaaGreatDoor
open Go.RowKit Go.Maps

theorem Ev.only {S : List Nat} {w w' : World} (h : Ev w) (hb : Only S w w') (hS : ∀ k ∈ S, 4 ≤ k) : Ev w' := h.below (hb.below h.big hS) (Nat.le_refl _)
/-- what left and down say -/
def LF (sp : Int) (dn : Bool) (lf : Int) : Prop := -9223372036854775808 ≤ lf ∧ lf ≤ 9223372036854775807 ∧ (dn = true → lf = 0 ∧ sp = 1) ∧ (dn = false → lf < 1 ∧ sp = 0 ∨ 1 ≤ lf ∧ sp = lf)
structure LX (w : World) (c mf md : Nat) (vj vt : Value) (lf : Int) (T : TT) : Prop where
  blk : w.heap[c]? = some (.cells #[.map (some mf), .map (some md), vj, .int .i64 T.st, .int .i64 lf, .bool T.dn, vt] 73 (0, 0))
  fl : MP cF w mf (fF T.fs) T.fs.length
  dr : MP cI w md (dF T.fs T.ds) (T.ds.length + 1)
  jo : OwnB 0 w vj T.jl
  ton : OwnB 0 w vt T.tn
  rel : LF T.sp T.dn lf
  low : 4 ≤ c ∧ 4 ≤ mf ∧ 4 ≤ md ∧ ∀ k, vj.ownBlock = some k → 4 ≤ k
  nm : mf ≠ md
  nj : ∀ k, vj.ownBlock = some k → vt.ownBlock ≠ some k
  ok : TOk T
  ev : Ev w
/-- the blocks of a tree -/
abbrev LB (c mf md : Nat) (vj vt : Value) (k : Nat) : Prop := k = c ∨ k = mf ∨ k = md ∨ vj.ownBlock = some k ∨ vt.ownBlock = some k
section
variable {w w' : World} {c mf md : Nat} {vj vt : Value} {lf : Int} {T : TT}
theorem LX.clt (h : LX w c mf md vj vt lf T) : c < w.heap.size := (Array.getElem?_eq_some_iff.1 h.blk).1
theorem LX.cm (h : LX w c mf md vj vt lf T) : c ≠ mf ∧ c ≠ md := by
  obtain ⟨es, ck, e⟩ := h.fl.isMap
  obtain ⟨es', ck', e'⟩ := h.dr.isMap
  refine ⟨?_, ?_⟩
  · rintro rfl; rw [h.blk] at e; cases e
  · rintro rfl; rw [h.blk] at e'; cases e'
theorem ownB_cells {base : Nat} {v : Value} {l : List UInt8} (h : OwnB base w v l) {k : Nat} (hk : v.ownBlock = some k) : ∃ a, w.heap[k]? = some (.cells a 5 (0, 0)) ∧ k < w.heap.size := by
  obtain ⟨b, off, cap, rfl⟩ | e : (∃ b off cap, v = .slice (some ⟨b, off, none⟩) l.length cap) ∨ v.ownBlock = none := by
    rcases h.2 with ⟨rfl, _⟩ | ⟨g, cap, cur, rfl, _⟩
    · exact .inr rfl
    · exact .inl ⟨_, _, _, rfl⟩
  · rcases h.2 with ⟨e, _⟩ | ⟨g, cap', cur, e, hb, hg, _⟩
    · cases e
    · injection e with e _ _
      injection e with e
      simp only [Value.ownBlock, Option.some.injEq] at hk
      have : k = g := by rw [← hk]; exact congrArg Addr.block e
      subst this
      exact ⟨_, hg, (Array.getElem?_eq_some_iff.1 hg).1⟩
  · rw [e] at hk; cases hk
theorem LX.blt (h : LX w c mf md vj vt lf T) : ∀ k, LB c mf md vj vt k → k < w.heap.size := by
  rintro k (rfl | rfl | rfl | hk | hk)
  · exact h.clt
  · exact h.fl.lt
  · exact h.dr.lt
  · obtain ⟨a, _, e⟩ := ownB_cells h.jo hk; exact e
  · obtain ⟨a, _, e⟩ := ownB_cells h.ton hk; exact e
/-- a row of bytes lies apart from all else of the tree -/
theorem LX.row_ne (h : LX w c mf md vj vt lf T) {base : Nat} {v : Value} {l : List UInt8} (ho : OwnB base w v l) : ∀ k, v.ownBlock = some k → k ≠ c ∧ k ≠ mf ∧ k ≠ md := by
  intro k hk
  obtain ⟨a, e, _⟩ := ownB_cells ho hk
  obtain ⟨es, ck, e1⟩ := h.fl.isMap
  obtain ⟨es', ck', e2⟩ := h.dr.isMap
  refine ⟨?_, ?_, ?_⟩
  · rintro rfl; rw [h.blk] at e; cases e
  · rintro rfl; rw [e1] at e; cases e
  · rintro rfl; rw [e2] at e; cases e
theorem LX.stay (h : LX w c mf md vj vt lf T) (hs : ∀ k, LB c mf md vj vt k → w'.heap[k]? = w.heap[k]?) (hev : Ev w') : LX w' c mf md vj vt lf T :=
  ⟨(hs c (.inl rfl)).trans h.blk, h.fl.block (hs mf (.inr (.inl rfl))), h.dr.block (hs md (.inr (.inr (.inl rfl)))), row_stay h.jo (fun k hk => hs k (.inr (.inr (.inr (.inl hk))))), row_stay h.ton (fun k hk => hs k (.inr (.inr (.inr (.inr hk))))), h.rel, h.low, h.nm, h.nj, h.ok, hev⟩
theorem LX.later (h : LX w c mf md vj vt lf T) (hb : Below w.heap.size w w') : LX w' c mf md vj vt lf T := h.stay (fun k hk => hb.block k (h.blt k hk)) (h.ev.later hb)
/-- the tree's own block is written anew -/
theorem LX.put (h : LX w c mf md vj vt lf T) {T' : TT} {lf' : Int} (ho : Only [c] w w') (hb : w'.heap[c]? = some (.cells #[.map (some mf), .map (some md), vj, .int .i64 T'.st, .int .i64 lf', .bool T'.dn, vt] 73 (0, 0)))
    (e1 : T'.fs = T.fs) (e2 : T'.ds = T.ds) (e3 : T'.jl = T.jl) (e4 : T'.tn = T.tn) (hr : LF T'.sp T'.dn lf') (hok : TOk T') : LX w' c mf md vj vt lf' T' := by
  have hs : ∀ k, LB c mf md vj vt k → k ≠ c → w'.heap[k]? = w.heap[k]? := fun k hk hn => ho.block k (h.blt k hk) (by simpa using hn)
  have ⟨n1, n2⟩ := h.cm
  refine ⟨hb, ?_, ?_, ?_, ?_, hr, h.low, h.nm, h.nj, hok, h.ev.only ho (by simpa using h.low.1)⟩
  · rw [e1]; exact h.fl.block (hs mf (.inr (.inl rfl)) (Ne.symm n1))
  · rw [e1, e2]; exact h.dr.block (hs md (.inr (.inr (.inl rfl))) (Ne.symm n2))
  · rw [e3]; exact row_stay h.jo (fun k hk => hs k (.inr (.inr (.inr (.inl hk)))) (h.row_ne h.jo k hk).1)
  · rw [e4]; exact row_stay h.ton (fun k hk => hs k (.inr (.inr (.inr (.inr hk)))) (h.row_ne h.ton k hk).1)
theorem cellsC {a b d e f g i : Value} {t : TypeId} (h : w.heap[c]? = some (.cells #[a, b, d, e, f, g, i] t (0, 0))) : w.cell? ⟨c, 0, none⟩ = some a ∧ w.cell? ⟨c, 1, none⟩ = some b ∧ w.cell? ⟨c, 2, none⟩ = some d ∧ w.cell? ⟨c, 3, none⟩ = some e ∧ w.cell? ⟨c, 4, none⟩ = some f ∧ w.cell? ⟨c, 5, none⟩ = some g ∧ w.cell? ⟨c, 6, none⟩ = some i := by
  simp [World.cell?, h]
theorem frzC {a : Array Value} {t : TypeId} (h : w.heap[c]? = some (.cells a t (0, 0))) (i : Nat) : w.frozen? ⟨c, i, none⟩ = false := by
  simp [World.frozen?, h]
theorem LX.cells (h : LX w c mf md vj vt lf T) : w.cell? ⟨c, 0, none⟩ = some (.map (some mf)) ∧ w.cell? ⟨c, 1, none⟩ = some (.map (some md)) ∧ w.cell? ⟨c, 2, none⟩ = some vj ∧ w.cell? ⟨c, 3, none⟩ = some (.int .i64 T.st) ∧ w.cell? ⟨c, 4, none⟩ = some (.int .i64 lf) ∧ w.cell? ⟨c, 5, none⟩ = some (.bool T.dn) ∧ w.cell? ⟨c, 6, none⟩ = some vt := cellsC h.blk
theorem LX.soft (h : LX w c mf md vj vt lf T) (i : Nat) : w.frozen? ⟨c, i, none⟩ = false := frzC h.blk i
end
end Go.Proofs.YtlkkmcibjhoneaaGreatDoor
