/-
  What stands through the law of sums: the tree, the files that the law keeps itself; steps of a script.
-/
import Derived.Test.YtceoelclnnfhhadDown
import Derived.Test.YtceoelclnnfhhadKnown
import Derived.Test.YtceoelclnnfhhadDrop
import Derived.Deep.DeepCutAuto
namespace Go.Proofs.Ytceoelclnnfhhad
open Go.RowKit

/-- does a statement begin with this region? -/
def beg (n : Nat) : Code → Bool
  | .region m _ _ => m == n
  | .seq a _ => beg n a
  | .block _ c => beg n c
  | .loop c => beg n c
  | .scope c => beg n c
  | _ => false
/-- what stands from there on -/
def suff (n : Nat) : Code → Code
  | .seq a b => if beg n a then .seq a b else suff n b
  | c => c
/-- what the law answers -/
def GoodE (w : World) (e : Ending) (w' : World) : Prop := e = .returned (.bool true) ∧ Below w.heap.size w w'

/-- a step -/
structure Stp where
  kind : Int
  f : Fl
  p : List UInt8
def stc : List Stp → List Value
  | [] => []
  | s :: r => .int .i64 s.kind :: .string (bs s.f.path) :: .string (bs s.f.text) :: .int .i64 s.f.blob :: .int .i64 s.f.size :: .string (bs s.p) :: stc r
theorem stc_length : ∀ l, (stc l).length = l.length * 6
  | [] => rfl
  | f :: r => by simp only [stc, List.length_cons, stc_length r]; omega
theorem stc_get : ∀ (l : List Stp) (k : Nat) (h : k < l.length), (stc l)[k * 6]? = some (.int .i64 l[k].kind) ∧ (stc l)[k * 6 + 1]? = some (.string (bs l[k].f.path)) ∧ (stc l)[k * 6 + 2]? = some (.string (bs l[k].f.text)) ∧ (stc l)[k * 6 + 3]? = some (.int .i64 l[k].f.blob) ∧ (stc l)[k * 6 + 4]? = some (.int .i64 l[k].f.size) ∧ (stc l)[k * 6 + 5]? = some (.string (bs l[k].p))
  | f :: r, 0, _ => ⟨rfl, rfl, rfl, rfl, rfl, rfl⟩
  | f :: r, k + 1, h => by
    have ih := stc_get r k (by simpa using h)
    rw [show (k + 1) * 6 = k * 6 + 6 by omega]
    simp only [stc, List.getElem_cons_succ]
    exact ⟨ih.1, ih.2.1, ih.2.2.1, ih.2.2.2.1, ih.2.2.2.2.1, ih.2.2.2.2.2⟩
/-- a slice of steps reads as a list -/
def TS6 (w : World) (v : Value) (l : List Stp) : Prop :=
  ((∃ a c, v = .slice a 0 c) ∧ l = []) ∨
  ∃ b off cap, v = .slice (some ⟨b, off, none⟩) l.length cap ∧ l.length ≤ cap ∧ b < w.heap.size ∧ ∀ i u, (stc l)[i]? = some u → w.cell? ⟨b, off + i, none⟩ = some u
theorem TS6.later {w w' : World} {v : Value} {l : List Stp} (h : TS6 w v l) (hb : Below w.heap.size w w') : TS6 w' v l := by
  rcases h with h | ⟨b, off, cap, rfl, hc, hlt, hcell⟩
  · exact .inl h
  · refine .inr ⟨b, off, cap, rfl, hc, Nat.lt_of_lt_of_le hlt hb.size, fun i u hu => ?_⟩
    rw [hb.cell (p := ⟨b, off + i, none⟩) hlt]; exact hcell i u hu
theorem TS6.form {w : World} {v : Value} {l : List Stp} (h : TS6 w v l) : ∃ a c, v = .slice a l.length c := by
  rcases h with ⟨⟨a, c, rfl⟩, rfl⟩ | ⟨b, off, cap, rfl, hc, hlt, hcell⟩
  · exact ⟨a, c, rfl⟩
  · exact ⟨_, cap, rfl⟩
theorem TS6.at {w : World} {a : Option Addr} {c n : Nat} {l : List Stp} (h : TS6 w (.slice a n c) l) {wr : World} (hb : Below w.heap.size w wr) {k : Nat} (hk : k < l.length) : ∃ b off, a = some ⟨b, off, none⟩ ∧ b < w.heap.size ∧
    wr.cell? ⟨b, off + k * 6, none⟩ = some (.int .i64 l[k].kind) ∧ wr.cell? ⟨b, off + k * 6 + 1, none⟩ = some (.string (bs l[k].f.path)) ∧ wr.cell? ⟨b, off + k * 6 + 2, none⟩ = some (.string (bs l[k].f.text)) ∧ wr.cell? ⟨b, off + k * 6 + 3, none⟩ = some (.int .i64 l[k].f.blob) ∧ wr.cell? ⟨b, off + k * 6 + 4, none⟩ = some (.int .i64 l[k].f.size) ∧ wr.cell? ⟨b, off + k * 6 + 5, none⟩ = some (.string (bs l[k].p)) := by
  rcases h.later hb with ⟨_, rfl⟩ | ⟨b, off, cap, e, hc, hlt, hcell⟩
  · simp at hk
  · injection e with e1 e2 e3
    rcases h with ⟨_, rfl⟩ | ⟨b', off', cap', e', hc', hlt', _⟩
    · simp at hk
    · injection e' with e1' _ _
      rw [e1] at e1'
      injection e1' with e1'
      injection e1' with e4 e5 e6
      subst e4
      obtain ⟨c0, c1, c2, c3, c4, c5⟩ := stc_get l k hk
      exact ⟨b, off, e1, hlt', hcell _ _ c0, by rw [Nat.add_assoc]; exact hcell _ _ c1, by rw [Nat.add_assoc]; exact hcell _ _ c2, by rw [Nat.add_assoc]; exact hcell _ _ c3, by rw [Nat.add_assoc]; exact hcell _ _ c4, by rw [Nat.add_assoc]; exact hcell _ _ c5⟩
/-- what a machine has -/
structure SSm (l : List Stp) : Prop where
  len : l.length ≤ 140737488355328
  each : ∀ s ∈ l, Fok s.f ∧ s.p.length ≤ 140737488355328 ∧ -9223372036854775808 ≤ s.kind ∧ s.kind ≤ 9223372036854775807

/-- the tree of T, the law's own list O -/
structure AS (w wc : World) (t N : Nat) (T : List Fl) (v : Value) (O : List Fl) : Prop where
  tr : ∃ F, TR wc F t T N ∧ (∀ i, F i → w.heap.size ≤ i) ∧ ∀ k, v.ownBlock = some k → ¬ F k
  own : OwnF w.heap.size wc v O
  below : Below w.heap.size w wc
  fok : (∀ f ∈ T, Fok f) ∧ ∀ f ∈ O, Fok f
theorem AS.later {w wc wd : World} {t N : Nat} {T O : List Fl} {v : Value} (h : AS w wc t N T v O) (hb : Below wc.heap.size wc wd) : AS w wd t N T v O := by
  obtain ⟨F, h1, h2, h3⟩ := h.tr
  exact ⟨⟨F, h1.later hb, h2, h3⟩, h.own.later hb, bstep h.below hb, h.fok⟩
theorem AS.mono {w wc : World} {t N N' : Nat} {T O : List Fl} {v : Value} (h : AS w wc t N T v O) (hN : N ≤ N') : AS w wc t N' T v O := by
  obtain ⟨F, h1, h2, h3⟩ := h.tr
  exact ⟨⟨F, h1.mono hN, h2, h3⟩, h.own, h.below, h.fok⟩
theorem AS.good {w wc : World} {t N : Nat} {T O : List Fl} {v : Value} (h : AS w wc t N T v O) : Good T := by
  obtain ⟨F, h1, _⟩ := h.tr; exact h1.good
theorem AS.szs {w wc : World} {t N : Nat} {T O : List Fl} {v : Value} (h : AS w wc t N T v O) : Szs T := szs_all h.good h.fok.1
theorem AS.perm {w wc : World} {t N : Nat} {T T' O : List Fl} {v : Value} (h : AS w wc t N T v O) (hp : T.Perm T') : AS w wc t N T' v O := by
  obtain ⟨F, h1, h2, h3⟩ := h.tr
  exact ⟨⟨F, h1.perm hp, h2, h3⟩, h.own, h.below, fun f hf => h.fok.1 f (hp.mem_iff.2 hf), h.fok.2⟩
theorem Left.as {w wc wd : World} {t N N' : Nat} {T T' O : List Fl} {v : Value} {F : Nat → Prop} (h : AS w wc t N T v O) (h2 : ∀ i, F i → w.heap.size ≤ i) (h3 : ∀ k, v.ownBlock = some k → ¬ F k) (hl : Left wc wd F t T' N') (hf : ∀ f ∈ T', Fok f) : AS w wd t N' T' v O := by
  have hs := hl.op.size
  have hs2 := h.below.size
  refine ⟨⟨_, hl.tr, fun i hi => ?_, fun k hk hi => ?_⟩, h.own.ak hl.ak, below_trans h.below (hl.op.toBelow hs2 h2), hf, h.fok.2⟩
  · rcases hi with hi | hi
    · exact h2 i hi
    · omega
  · rcases hi with hi | hi
    · exact h3 k hk hi
    · have := (h.own.lt hk).2; omega
theorem as_add {w wc : World} {t N : Nat} {T O : List Fl} {v : Value} (h : AS w wc t N T v O) {p tx : List UInt8} {bl s : Int} (hf : Fok ⟨p, tx, bl, s⟩) (hN : N + 20 < 4611686018427387904) :
    Calls Try.prog 6 #[.pointer (some ⟨t, 0, none⟩), .agg #[.string (bs p), .string (bs tx), .int .i64 bl, .int .i64 s]] wc fun e wd => e = .returned (.int .i64 (addE T ⟨p, tx, bl, s⟩)) ∧ AS w wd t (N + 20) (addL T ⟨p, tx, bl, s⟩) v O ∧ AK wc wd := by
  obtain ⟨F, h1, h2, h3⟩ := h.tr
  refine (add_any h1 h.szs ⟨p, tx, bl, s⟩ hf hN).mono ?_
  rintro e wd ⟨rfl, hl⟩
  refine ⟨rfl, hl.as h h2 h3 (fun f hm => ?_), hl.ak⟩
  unfold addL at hm
  split at hm
  · rcases List.mem_cons.1 hm with rfl | hm
    · exact hf
    · exact h.fok.1 f hm
  · exact h.fok.1 f hm
theorem as_drop {w wc : World} {t N : Nat} {T O : List Fl} {v : Value} (h : AS w wc t N T v O) (p : List UInt8) (hp : p.length ≤ 140737488355328) :
    Calls Try.prog 7 #[.pointer (some ⟨t, 0, none⟩), .string (bs p)] wc fun e wd => e = .returned (.int .i64 (dropE T p)) ∧ AS w wd t N (outF p T) v O ∧ AK wc wd := by
  obtain ⟨F, h1, h2, h3⟩ := h.tr
  refine (drop_any h1 h.szs p hp).mono ?_
  rintro e wd ⟨rfl, hl⟩
  exact ⟨rfl, hl.as h h2 h3 (fun f hm => h.fok.1 f (List.mem_filter.1 hm).1), hl.ak⟩
/-- the law's list has grown -/
theorem AS.grown {w wc wd : World} {t N : Nat} {T O O' : List Fl} {v v' : Value} (h : AS w wc t N T v O) (ho : OwnF w.heap.size wd v' O') (hg : wc.grownBy wd v.ownBlock) (hv : v'.ownBlock = v.ownBlock ∨ v'.ownBlock = some wc.heap.size) (hf : ∀ f ∈ O', Fok f) : AS w wd t N T v' O' := by
  obtain ⟨F, h1, h2, h3⟩ := h.tr
  refine ⟨⟨F, h1.stay hg.size (fun k hk => hg.block k (h1.lt k hk) (fun e => h3 k e.symm hk)), h2, fun k hk hi => ?_⟩, ho, h.below.grown hg h.below.size (fun j hj => (h.own.lt hj).1), h.fok.1, hf⟩
  rcases hv with e | e
  · rw [e] at hk; exact h3 k hk hi
  · rw [e] at hk
    injection hk with hk
    have := h1.lt k hi
    omega
/-- another list in its place -/
theorem AS.swap {w wc : World} {t N B : Nat} {T O O' : List Fl} {v v' : Value} (h : AS w wc t N T v O) (ho : OwnF B wc v' O') (hB : w.heap.size ≤ B) (hF : ∃ F, TR wc F t T N ∧ (∀ i, F i → w.heap.size ≤ i) ∧ ∀ i, F i → i < B) (hf : ∀ f ∈ O', Fok f) : AS w wc t N T v' O' := by
  obtain ⟨F, h1, h2, h3⟩ := hF
  exact ⟨⟨F, h1, h2, fun k hk hi => by have := h3 k hi; have := (ho.lt hk).1; omega⟩, ho.mono hB, h.below, h.fok.1, hf⟩
theorem AS.bound {w wc : World} {t N : Nat} {T O : List Fl} {v : Value} (h : AS w wc t N T v O) : ∃ F, TR wc F t T N ∧ (∀ i, F i → w.heap.size ≤ i) ∧ ∀ i, F i → i < wc.heap.size := by
  obtain ⟨F, h1, h2, _⟩ := h.tr
  exact ⟨F, h1, h2, h1.lt⟩

/-- a boxed step -/
structure X6 (w : World) (g : Nat) (k : Int) (p tx : List UInt8) (bl s : Int) (q : List UInt8) : Prop where
  blk : w.heap[g]? = some (.cells #[.int .i64 k, .string (bs p), .string (bs tx), .int .i64 bl, .int .i64 s, .string (bs q)] 32 (0, 0))
theorem X6.lt {w : World} {g : Nat} {k : Int} {p tx : List UInt8} {bl s : Int} {q : List UInt8} (h : X6 w g k p tx bl s q) : g < w.heap.size := (Array.getElem?_eq_some_iff.1 h.blk).1
theorem X6.ak {w w' : World} {g : Nat} {k : Int} {p tx : List UInt8} {bl s : Int} {q : List UInt8} (h : X6 w g k p tx bl s q) (a : AK w w') : X6 w' g k p tx bl s q := ⟨(a.block _ _ _ _ h.blk (by decide)).trans h.blk⟩
theorem X6.cells {w : World} {g : Nat} {k : Int} {p tx : List UInt8} {bl s : Int} {q : List UInt8} (h : X6 w g k p tx bl s q) : w.cell? ⟨g, 0, none⟩ = some (.int .i64 k) ∧ w.cell? ⟨g, 1, none⟩ = some (.string (bs p)) ∧ w.cell? ⟨g, 2, none⟩ = some (.string (bs tx)) ∧ w.cell? ⟨g, 3, none⟩ = some (.int .i64 bl) ∧ w.cell? ⟨g, 4, none⟩ = some (.int .i64 s) ∧ w.cell? ⟨g, 5, none⟩ = some (.string (bs q)) := by
  refine ⟨?_, ?_, ?_, ?_, ?_, ?_⟩ <;> simp [World.cell?, h.blk]
theorem X6.later {w w' : World} {g : Nat} {k : Int} {p tx : List UInt8} {bl s : Int} {q : List UInt8} (h : X6 w g k p tx bl s q) (hb : Below w.heap.size w w') : X6 w' g k p tx bl s q := ⟨(hb.block g h.lt).trans h.blk⟩
/-- an append onto files leaves it -/
theorem X6.grown {w w' : World} {g base : Nat} {k : Int} {p tx : List UInt8} {bl s : Int} {q : List UInt8} {v : Value} {O : List Fl} (h : X6 w g k p tx bl s q) (ho : OwnF base w v O) (hg : w.grownBy w' v.ownBlock) : X6 w' g k p tx bl s q := by
  refine ⟨(hg.block g h.lt (fun e => ?_)).trans h.blk⟩
  rcases ho with ⟨_, ⟨rfl, _⟩ | ⟨g2, cap, cur, rfl, _, hg2, _⟩⟩
  · cases e
  · have : g = g2 := by simpa [Value.ownBlock] using e
    subst this
    have := hg2.symm.trans h.blk
    simp at this
/-- files behind files -/
theorem snoc_perm (f : Fl) (L : List Fl) : (f :: L).Perm (L ++ [f]) := (List.perm_append_singleton f L).symm
theorem outF_len {L : List Fl} (h : Good L) {p : List UInt8} (hd : dropE L p = 0) : (outF p L).length + 1 = L.length := by
  unfold dropE at hd
  split at hd
  · rename_i hs
    obtain ⟨s, hs⟩ := Option.isSome_iff_exists.1 hs
    obtain ⟨f, hf, hp, _⟩ := fileAt_some hs
    have e : f.path = p := pcs_inj hp
    have := (outF_perm h.apart hf).length_eq
    rw [e] at this
    simp at this; omega
  · simp at hd
theorem outF_same {L : List Fl} {p : List UInt8} (hd : dropE L p ≠ 0) : outF p L = L := by
  unfold dropE at hd
  split at hd
  · exact absurd rfl hd
  · rename_i hs
    exact (dropE_none (by simpa using hs)).2
theorem dropE_cases (L : List Fl) (p : List UInt8) : dropE L p = 0 ∨ dropE L p = 20 := by
  unfold dropE; split
  · exact .inl rfl
  · exact .inr rfl
end Go.Proofs.Ytceoelclnnfhhad
