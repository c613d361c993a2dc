/-
  Two graphs on each side.
-/
import Derived.Test.YtjohhmfncemknaaJSp
import Derived.Test.YtjohhmfncemknaaDk
namespace Go.Proofs.Ytjohhmfncemknaa
open Go.RowKit Go.Maps

theorem OnlyP.mono {F G : Nat → Prop} {w w' : World} (h : OnlyP F w w') (hF : ∀ k, F k → G k) : OnlyP G w w' := ⟨h.os, h.tape, h.output, h.size, fun k hk hn => h.block k hk (fun hf => hn (hF k hf))⟩
theorem addN_leq (N : List Lb) (a : Lb) : (addN N a).length ≤ N.length + 1 := by unfold addN; split <;> simp
/-- both graphs, in blocks of X -/
structure Pr (w : World) (X : Nat → Prop) (g d c : Nat) : Prop where
  it : ∃ F D ns out N E, Bt w F g ns out D d N E ∧ (∀ k, F k → ¬ D k) ∧ (∀ k, F k → X k) ∧ (∀ k, D k → X k) ∧ N.length ≤ 2 * c ∧ E.length ≤ c
section
variable {w w' W : World} {X Y : Nat → Prop} {g d c : Nat}
theorem Bt.nlen {F D : Nat → Prop} {ns N : List Lb} {out : Lb → List Lb} {E : List Ee} (h : Bt w F g ns out D d N E) : ns.length ≤ N.length := Gs.nodup_sub _ _ h.gr.nd (fun b hb => (h.lk.nm b).1 hb)
theorem Pr.later (h : Pr w X g d c) (hb : Below w.heap.size w w') : Pr w' X g d c := by
  obtain ⟨F, D, ns, out, N, E, h1, h2⟩ := h
  exact ⟨F, D, ns, out, N, E, h1.later hb, h2⟩
theorem Pr.stay (h : Pr w X g d c) (hz : w.heap.size ≤ w'.heap.size) (hs : ∀ k, X k → k < w.heap.size → w'.heap[k]? = w.heap[k]?) : Pr w' X g d c := by
  obtain ⟨F, D, ns, out, N, E, h1, h2, h3, h4, h5⟩ := h
  exact ⟨F, D, ns, out, N, E, ⟨h1.gr.stay hz (fun k hk => hs k (h3 k hk) (h1.gr.lt k hk)), h1.dg.stay hz (fun k hk => hs k (h4 k hk) (h1.dg.lt k hk)), h1.lk, h1.sz⟩, h2, h3, h4, h5⟩
theorem Pr.only (h : Pr w X g d c) (hb : OnlyP Y w w') (hd : ∀ k, X k → ¬ Y k) : Pr w' X g d c := h.stay hb.size (fun k hk hl => hb.block k hl (hd k hk))
theorem Pr.wider (h : Pr w X g d c) (hX : ∀ k, X k → Y k) : Pr w Y g d c := by
  obtain ⟨F, D, ns, out, N, E, h1, h2, h3, h4, h5⟩ := h
  exact ⟨F, D, ns, out, N, E, h1, h2, fun k hk => hX k (h3 k hk), fun k hk => hX k (h4 k hk), h5⟩
theorem Pr.more (h : Pr w X g d c) : Pr w X g d (c + 1) := by
  obtain ⟨F, D, ns, out, N, E, h1, h2, h3, h4, h5, h6⟩ := h
  exact ⟨F, D, ns, out, N, E, h1, h2, h3, h4, by omega, by omega⟩
theorem Pr.edge (h : Pr w X g d c) (a b : Lb) (ha : Lu a) (hb : Lu b) (hc : c ≤ 1000) :
    Calls Try.prog 9 #[.pointer (some ⟨g, 0, none⟩), a.val, b.val] w fun e w1 => e = .returned (.tuple #[]) ∧ OnlyP X w w1 ∧ ∀ W, Below w1.heap.size w1 W →
      Calls Try.prog 16 #[.pointer (some ⟨d, 0, none⟩), a.val, b.val] W fun e w2 => e = .returned (.tuple #[]) ∧ OnlyP X W w2 ∧ Pr w2 (nw X w w2) g d (c + 1) := by
  obtain ⟨F, D, ns, out, N, E, bt, dis, hF, hD, hn, he⟩ := h
  have hln := bt.nlen
  refine (edge_any bt.gr a b ha hb (by omega)).mono fun e w1 ⟨k1, k2, k3⟩ => ⟨k1, k3.mono hF, fun W hW => ?_⟩
  have dg1 : DG W D d N E := (bt.dg.only k3 (fun k hk hf => dis k hf hk)).later hW
  refine (dedge_any dg1 a b ha hb (by omega) (by omega)).mono fun e w2 ⟨m1, m2, m3⟩ => ⟨m1, m3.mono hD, ?_⟩
  have hs1 := k3.size
  have hs2 := hW.size
  have hs3 := m3.size
  have hfl := bt.gr.lt
  have hdl := bt.dg.lt
  have l1 := addN_leq ns a
  have l2 := addN_leq (addN ns a) b
  have l3 := addN_leq N a
  have l4 := addN_leq (addN N a) b
  have l5 := addE_len E (a, b)
  refine ⟨nw F w w1, nw D W w2, _, _, _, _, ⟨(k2.later hW).only m3 ?_, m2, bt.lk.edge a b, by omega⟩, ?_, ?_, ?_, by omega, by omega⟩
  · rintro k (hk | hk) hd
    · exact dis k hk hd
    · have := hdl k hd; omega
  · rintro k (hk | hk) (hd | hd)
    · exact dis k hk hd
    · have := hfl k hk; omega
    · have := hdl k hd; omega
    · omega
  · rintro k (hk | hk)
    · exact .inl (hF k hk)
    · exact .inr (by omega)
  · rintro k (hk | hk)
    · exact .inl (hD k hk)
    · exact .inr (by omega)
theorem Pr.node (h : Pr w X g d c) (a : Lb) (ha : Lu a) (hc : c ≤ 1000) :
    Calls Try.prog 8 #[.pointer (some ⟨g, 0, none⟩), a.val] w fun e w1 => e = .returned (.tuple #[]) ∧ OnlyP X w w1 ∧ ∀ W, Below w1.heap.size w1 W →
      Calls Try.prog 17 #[.pointer (some ⟨d, 0, none⟩), a.val] W fun e w2 => e = .returned (.tuple #[]) ∧ OnlyP X W w2 ∧ Pr w2 (nw X w w2) g d (c + 1) := by
  obtain ⟨F, D, ns, out, N, E, bt, dis, hF, hD, hn, he⟩ := h
  have hln := bt.nlen
  refine (node_any bt.gr a ha (by omega)).mono fun e w1 ⟨k1, k2, k3⟩ => ⟨k1, k3.mono hF, fun W hW => ?_⟩
  have dg1 : DG W D d N E := (bt.dg.only k3 (fun k hk hf => dis k hf hk)).later hW
  refine (dnode_any dg1 a ha (by omega)).mono fun e w2 ⟨m1, m2, m3⟩ => ⟨m1, m3.mono hD, ?_⟩
  have hs1 := k3.size
  have hs2 := hW.size
  have hs3 := m3.size
  have hfl := bt.gr.lt
  have hdl := bt.dg.lt
  have l1 := addN_leq ns a
  have l3 := addN_leq N a
  refine ⟨nw F w w1, nw D W w2, _, _, _, _, ⟨(k2.later hW).only m3 ?_, m2, bt.lk.node a, by omega⟩, ?_, ?_, ?_, by omega, by omega⟩
  · rintro k (hk | hk) hd
    · exact dis k hk hd
    · have := hdl k hd; omega
  · rintro k (hk | hk) (hd | hd)
    · exact dis k hk hd
    · have := hfl k hk; omega
    · have := hdl k hd; omega
    · omega
  · rintro k (hk | hk)
    · exact .inl (hF k hk)
    · exact .inr (by omega)
  · rintro k (hk | hk)
    · exact .inl (hD k hk)
    · exact .inr (by omega)
theorem Pr.back (h : Pr w X g d c) (hc : c ≤ 1000) :
    Calls Try.prog 10 #[.pointer (some ⟨g, 0, none⟩)] w fun e w1 => ∃ gb, e = .returned (.pointer (some ⟨gb, 0, none⟩)) ∧ Below w.heap.size w w1 ∧ ∀ W, w1.heap.size ≤ W.heap.size → (∀ k, (X k ∨ w.heap.size ≤ k) → k < w1.heap.size → W.heap[k]? = w1.heap[k]?) →
      Calls Try.prog 18 #[.pointer (some ⟨d, 0, none⟩)] W fun e w2 => ∃ d2, e = .returned (.pointer (some ⟨d2, 0, none⟩)) ∧ Below W.heap.size W w2 ∧ Pr w2 (fun k => w.heap.size ≤ k ∧ k < w2.heap.size) gb d2 c := by
  obtain ⟨F, D, ns, out, N, E, bt, dis, hF, hD, hn, he⟩ := h
  have hln := bt.nlen
  refine (back_any bt.gr bt.sz).mono fun e w1 ⟨gb, Fb, nsb, outb, k1, k2, k3, k4, k5, k6⟩ => ⟨gb, k1, k6, fun W hz hW => ?_⟩
  have hdl := bt.dg.lt
  have hs1 := k6.size
  have dg1 : DG W D d N E := (bt.dg.later k6).stay hz (fun k hk => hW k (.inl (hD k hk)) (by have := hdl k hk; omega))
  refine (dback_any dg1).mono fun e w2 ⟨m1, m2, m3⟩ => ⟨_, m1, m3, ?_⟩
  have hs3 := m3.size
  have hfl := k2.lt
  have lk := bt.lk.back k4 k5
  refine ⟨Fb, _, nsb, outb, N, Gs.flp E, ⟨(k2.stay hz (fun k hk => hW k (.inr (k3 k hk)) (hfl k hk))).later m3, m2, lk, ?_⟩, ?_, ?_, ?_, hn, by rw [flp_len]; exact he⟩
  · have : nsb.length ≤ N.length := Gs.nodup_sub _ _ k2.nd (fun b hb => (lk.nm b).1 hb)
    omega
  · intro k hk hd
    have := hfl k hk; omega
  · intro k hk
    have := hfl k hk
    exact ⟨k3 k hk, by omega⟩
  · intro k hk
    exact ⟨by omega, hk.2⟩
end
end Go.Proofs.Ytjohhmfncemknaa
