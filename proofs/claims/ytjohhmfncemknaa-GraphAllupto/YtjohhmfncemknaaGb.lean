/-
  Two graphs on each side, behind two arrays.
-/
import Derived.Test.YtjohhmfncemknaaJOb
namespace Go.Proofs.Ytjohhmfncemknaa
open Go.RowKit Go.Maps

/-- what is newer than w stays, and what is older than S -/
structure Kp (S : Nat) (w W w' : World) : Prop where
  below : Below S W w'
  new : ∀ j, w.heap.size ≤ j → j < W.heap.size → w'.heap[j]? = W.heap[j]?
theorem OB.kp {S : Nat} {w W w' : World} {o : Nat} {kd wh : Int} {a b : Lb} (h : OB W o kd wh a b) (k : Kp S w W w') (ho : w.heap.size ≤ o) : OB w' o kd wh a b := ⟨(k.new o ho h.lt).trans h.blk⟩
structure LP (S : Nat) (w : World) (ga qa c g0 g1 d0 d1 : Nat) : Prop where
  ag : w.heap[ga]? = some (.cells #[.pointer (some ⟨g0, 0, none⟩), .pointer (some ⟨g1, 0, none⟩)] 44 (0, 0))
  aq : w.heap[qa]? = some (.cells #[.pointer (some ⟨d0, 0, none⟩), .pointer (some ⟨d1, 0, none⟩)] 49 (0, 0))
  it : ∃ X0 X1, Pr w X0 g0 d0 c ∧ Pr w X1 g1 d1 c ∧ (∀ k, X0 k → ¬ X1 k) ∧ (∀ k, X0 k ∨ X1 k → k ≠ ga ∧ k ≠ qa ∧ S ≤ k ∧ k < w.heap.size)
  ge : S ≤ ga ∧ S ≤ qa
section
variable {S : Nat} {w w' W : World} {ga qa c g0 g1 d0 d1 : Nat}
theorem LP.gl (h : LP S w ga qa c g0 g1 d0 d1) : ga < w.heap.size := (Array.getElem?_eq_some_iff.1 h.ag).1
theorem LP.ql (h : LP S w ga qa c g0 g1 d0 d1) : qa < w.heap.size := (Array.getElem?_eq_some_iff.1 h.aq).1
theorem LP.ne (h : LP S w ga qa c g0 g1 d0 d1) : ga ≠ qa := by
  rintro rfl
  have h1 := h.ag
  rw [h.aq] at h1
  injection h1 with h1
  injection h1 with _ h1 _
  exact absurd h1 (by decide)
theorem LP.later (h : LP S w ga qa c g0 g1 d0 d1) (hb : Below w.heap.size w w') : LP S w' ga qa c g0 g1 d0 d1 := by
  obtain ⟨X0, X1, p0, p1, dis, hX⟩ := h.it
  have hs := hb.size
  exact ⟨(hb.block _ h.gl).trans h.ag, (hb.block _ h.ql).trans h.aq, ⟨X0, X1, p0.later hb, p1.later hb, dis, fun k hk => by obtain ⟨h1, h2, h3, h4⟩ := hX k hk; exact ⟨h1, h2, h3, by omega⟩⟩, h.ge⟩
theorem LP.more (h : LP S w ga qa c g0 g1 d0 d1) : LP S w ga qa (c + 1) g0 g1 d0 d1 := by
  obtain ⟨X0, X1, p0, p1, dis, hX⟩ := h.it
  exact ⟨h.ag, h.aq, ⟨X0, X1, p0.more, p1.more, dis, hX⟩, h.ge⟩
theorem LP.cells (h : LP S w ga qa c g0 g1 d0 d1) : w.cell? ⟨ga, 0, none⟩ = some (.pointer (some ⟨g0, 0, none⟩)) ∧ w.cell? ⟨ga, 1, none⟩ = some (.pointer (some ⟨g1, 0, none⟩)) ∧ w.cell? ⟨qa, 0, none⟩ = some (.pointer (some ⟨d0, 0, none⟩)) ∧ w.cell? ⟨qa, 1, none⟩ = some (.pointer (some ⟨d1, 0, none⟩)) := by
  have h1 := h.ag
  have h2 := h.aq
  exact ⟨by simp [World.cell?, h1], by simp [World.cell?, h1], by simp [World.cell?, h2], by simp [World.cell?, h2]⟩
/-- a step on one of them -/
theorem kp_of {X : Nat → Prop} (h : OnlyP X W w') (hX : ∀ k, X k → S ≤ k ∧ k < w.heap.size) (hS : S ≤ W.heap.size) : Kp S w W w' :=
  ⟨h.below hS (fun k hk => (hX k hk).1), fun j h1 h2 => h.block j h2 (fun e => by have := (hX j e).2; omega)⟩

theorem LP.edge0 (h : LP S w ga qa c g0 g1 d0 d1) (a b : Lb) (ha : Lu a) (hb : Lu b) (hc : c ≤ 1000) (hW : Below w.heap.size w W) :
    Calls Try.prog 9 #[.pointer (some ⟨g0, 0, none⟩), a.val, b.val] W fun e w1 => e = .returned (.tuple #[]) ∧ Kp S w W w1 ∧ w1.cell? ⟨ga, 0, none⟩ = some (.pointer (some ⟨g0, 0, none⟩)) ∧ w1.cell? ⟨qa, 0, none⟩ = some (.pointer (some ⟨d0, 0, none⟩)) ∧ ∀ W1, Below w1.heap.size w1 W1 →
      Calls Try.prog 16 #[.pointer (some ⟨d0, 0, none⟩), a.val, b.val] W1 fun e w2 => e = .returned (.tuple #[]) ∧ Kp S w W1 w2 ∧ LP S w2 ga qa (c + 1) g0 g1 d0 d1 := by
  obtain ⟨X0, X1, p0, p1, dis, hX⟩ := h.it
  have hs := hW.size
  have hgl := h.gl
  have hql := h.ql
  have hge := h.ge
  have hXi : ∀ k, X0 k → S ≤ k ∧ k < w.heap.size := fun k hk => (hX k (.inl hk)).2.2
  have nq : ¬ X0 qa := fun hk => (hX qa (.inl hk)).2.1 rfl
  have ng : ¬ X0 ga := fun hk => (hX ga (.inl hk)).1 rfl
  refine ((p0.later hW).edge a b ha hb hc).mono fun e w1 ⟨k1, k2, k3⟩ => ⟨k1, kp_of k2 hXi (by omega), ?_, ?_, fun W1 hW1 => ?_⟩
  · have h2 : w1.heap[ga]? = _ := (k2.block ga (by omega) ng).trans ((hW.block ga hgl).trans h.ag)
    simp [World.cell?, h2]
  · have h2 : w1.heap[qa]? = _ := (k2.block qa (by omega) nq).trans ((hW.block qa hql).trans h.aq)
    simp [World.cell?, h2]
  have hs1 := k2.size
  have hs2 := hW1.size
  refine (k3 W1 hW1).mono fun e w2 ⟨m1, m2, m3⟩ => ⟨m1, kp_of m2 hXi (by omega), ?_⟩
  have hs3 := m2.size
  have st : ∀ k, k < w.heap.size → ¬ X0 k → w2.heap[k]? = w.heap[k]? := fun k hk hn => (m2.block k (by omega) hn).trans ((hW1.block k (by omega)).trans ((k2.block k (by omega) hn).trans (hW.block k hk)))
  refine ⟨(st ga hgl ng).trans h.ag, (st qa hql nq).trans h.aq, ⟨nw X0 W w2, X1, m3, (p1.stay (by omega) (fun k hk hl => st k hl (fun h0 => dis k h0 hk))).more, ?_, ?_⟩, hge⟩
  · rintro k (hk | hk) h1
    · exact dis k hk h1
    · have := (hX k (.inr h1)).2.2.2; omega
  · rintro k ((hk | hk) | hk)
    · obtain ⟨z1, z2, z3, z4⟩ := hX k (.inl hk); exact ⟨z1, z2, z3, by omega⟩
    · exact ⟨by omega, by omega, by omega, hk.2⟩
    · obtain ⟨z1, z2, z3, z4⟩ := hX k (.inr hk); exact ⟨z1, z2, z3, by omega⟩
theorem LP.edge1 (h : LP S w ga qa c g0 g1 d0 d1) (a b : Lb) (ha : Lu a) (hb : Lu b) (hc : c ≤ 1000) (hW : Below w.heap.size w W) :
    Calls Try.prog 9 #[.pointer (some ⟨g1, 0, none⟩), a.val, b.val] W fun e w1 => e = .returned (.tuple #[]) ∧ Kp S w W w1 ∧ w1.cell? ⟨ga, 1, none⟩ = some (.pointer (some ⟨g1, 0, none⟩)) ∧ w1.cell? ⟨qa, 1, none⟩ = some (.pointer (some ⟨d1, 0, none⟩)) ∧ ∀ W1, Below w1.heap.size w1 W1 →
      Calls Try.prog 16 #[.pointer (some ⟨d1, 0, none⟩), a.val, b.val] W1 fun e w2 => e = .returned (.tuple #[]) ∧ Kp S w W1 w2 ∧ LP S w2 ga qa (c + 1) g0 g1 d0 d1 := by
  obtain ⟨X0, X1, p0, p1, dis, hX⟩ := h.it
  have hs := hW.size
  have hgl := h.gl
  have hql := h.ql
  have hge := h.ge
  have hXi : ∀ k, X1 k → S ≤ k ∧ k < w.heap.size := fun k hk => (hX k (.inr hk)).2.2
  have nq : ¬ X1 qa := fun hk => (hX qa (.inr hk)).2.1 rfl
  have ng : ¬ X1 ga := fun hk => (hX ga (.inr hk)).1 rfl
  refine ((p1.later hW).edge a b ha hb hc).mono fun e w1 ⟨k1, k2, k3⟩ => ⟨k1, kp_of k2 hXi (by omega), ?_, ?_, fun W1 hW1 => ?_⟩
  · have h2 : w1.heap[ga]? = _ := (k2.block ga (by omega) ng).trans ((hW.block ga hgl).trans h.ag)
    simp [World.cell?, h2]
  · have h2 : w1.heap[qa]? = _ := (k2.block qa (by omega) nq).trans ((hW.block qa hql).trans h.aq)
    simp [World.cell?, h2]
  have hs1 := k2.size
  have hs2 := hW1.size
  refine (k3 W1 hW1).mono fun e w2 ⟨m1, m2, m3⟩ => ⟨m1, kp_of m2 hXi (by omega), ?_⟩
  have hs3 := m2.size
  have st : ∀ k, k < w.heap.size → ¬ X1 k → w2.heap[k]? = w.heap[k]? := fun k hk hn => (m2.block k (by omega) hn).trans ((hW1.block k (by omega)).trans ((k2.block k (by omega) hn).trans (hW.block k hk)))
  refine ⟨(st ga hgl ng).trans h.ag, (st qa hql nq).trans h.aq, ⟨X0, nw X1 W w2, (p0.stay (by omega) (fun k hk hl => st k hl (fun h0 => dis k hk h0))).more, m3, ?_, ?_⟩, hge⟩
  · rintro k hk (h1 | h1)
    · exact dis k hk h1
    · have := (hX k (.inl hk)).2.2.2; omega
  · rintro k (hk | (hk | hk))
    · obtain ⟨z1, z2, z3, z4⟩ := hX k (.inl hk); exact ⟨z1, z2, z3, by omega⟩
    · obtain ⟨z1, z2, z3, z4⟩ := hX k (.inr hk); exact ⟨z1, z2, z3, by omega⟩
    · exact ⟨by omega, by omega, by omega, hk.2⟩
theorem LP.node0 (h : LP S w ga qa c g0 g1 d0 d1) (a : Lb) (ha : Lu a) (hc : c ≤ 1000) (hW : Below w.heap.size w W) :
    Calls Try.prog 8 #[.pointer (some ⟨g0, 0, none⟩), a.val] W fun e w1 => e = .returned (.tuple #[]) ∧ Kp S w W w1 ∧ w1.cell? ⟨ga, 0, none⟩ = some (.pointer (some ⟨g0, 0, none⟩)) ∧ w1.cell? ⟨qa, 0, none⟩ = some (.pointer (some ⟨d0, 0, none⟩)) ∧ ∀ W1, Below w1.heap.size w1 W1 →
      Calls Try.prog 17 #[.pointer (some ⟨d0, 0, none⟩), a.val] W1 fun e w2 => e = .returned (.tuple #[]) ∧ Kp S w W1 w2 ∧ LP S w2 ga qa (c + 1) g0 g1 d0 d1 := by
  obtain ⟨X0, X1, p0, p1, dis, hX⟩ := h.it
  have hs := hW.size
  have hgl := h.gl
  have hql := h.ql
  have hge := h.ge
  have hXi : ∀ k, X0 k → S ≤ k ∧ k < w.heap.size := fun k hk => (hX k (.inl hk)).2.2
  have nq : ¬ X0 qa := fun hk => (hX qa (.inl hk)).2.1 rfl
  have ng : ¬ X0 ga := fun hk => (hX ga (.inl hk)).1 rfl
  refine ((p0.later hW).node a ha hc).mono fun e w1 ⟨k1, k2, k3⟩ => ⟨k1, kp_of k2 hXi (by omega), ?_, ?_, fun W1 hW1 => ?_⟩
  · have h2 : w1.heap[ga]? = _ := (k2.block ga (by omega) ng).trans ((hW.block ga hgl).trans h.ag)
    simp [World.cell?, h2]
  · have h2 : w1.heap[qa]? = _ := (k2.block qa (by omega) nq).trans ((hW.block qa hql).trans h.aq)
    simp [World.cell?, h2]
  have hs1 := k2.size
  have hs2 := hW1.size
  refine (k3 W1 hW1).mono fun e w2 ⟨m1, m2, m3⟩ => ⟨m1, kp_of m2 hXi (by omega), ?_⟩
  have hs3 := m2.size
  have st : ∀ k, k < w.heap.size → ¬ X0 k → w2.heap[k]? = w.heap[k]? := fun k hk hn => (m2.block k (by omega) hn).trans ((hW1.block k (by omega)).trans ((k2.block k (by omega) hn).trans (hW.block k hk)))
  refine ⟨(st ga hgl ng).trans h.ag, (st qa hql nq).trans h.aq, ⟨nw X0 W w2, X1, m3, (p1.stay (by omega) (fun k hk hl => st k hl (fun h0 => dis k h0 hk))).more, ?_, ?_⟩, hge⟩
  · rintro k (hk | hk) h1
    · exact dis k hk h1
    · have := (hX k (.inr h1)).2.2.2; omega
  · rintro k ((hk | hk) | hk)
    · obtain ⟨z1, z2, z3, z4⟩ := hX k (.inl hk); exact ⟨z1, z2, z3, by omega⟩
    · exact ⟨by omega, by omega, by omega, hk.2⟩
    · obtain ⟨z1, z2, z3, z4⟩ := hX k (.inr hk); exact ⟨z1, z2, z3, by omega⟩
theorem LP.node1 (h : LP S w ga qa c g0 g1 d0 d1) (a : Lb) (ha : Lu a) (hc : c ≤ 1000) (hW : Below w.heap.size w W) :
    Calls Try.prog 8 #[.pointer (some ⟨g1, 0, none⟩), a.val] W fun e w1 => e = .returned (.tuple #[]) ∧ Kp S w W w1 ∧ w1.cell? ⟨ga, 1, none⟩ = some (.pointer (some ⟨g1, 0, none⟩)) ∧ w1.cell? ⟨qa, 1, none⟩ = some (.pointer (some ⟨d1, 0, none⟩)) ∧ ∀ W1, Below w1.heap.size w1 W1 →
      Calls Try.prog 17 #[.pointer (some ⟨d1, 0, none⟩), a.val] W1 fun e w2 => e = .returned (.tuple #[]) ∧ Kp S w W1 w2 ∧ LP S w2 ga qa (c + 1) g0 g1 d0 d1 := by
  obtain ⟨X0, X1, p0, p1, dis, hX⟩ := h.it
  have hs := hW.size
  have hgl := h.gl
  have hql := h.ql
  have hge := h.ge
  have hXi : ∀ k, X1 k → S ≤ k ∧ k < w.heap.size := fun k hk => (hX k (.inr hk)).2.2
  have nq : ¬ X1 qa := fun hk => (hX qa (.inr hk)).2.1 rfl
  have ng : ¬ X1 ga := fun hk => (hX ga (.inr hk)).1 rfl
  refine ((p1.later hW).node a ha hc).mono fun e w1 ⟨k1, k2, k3⟩ => ⟨k1, kp_of k2 hXi (by omega), ?_, ?_, fun W1 hW1 => ?_⟩
  · have h2 : w1.heap[ga]? = _ := (k2.block ga (by omega) ng).trans ((hW.block ga hgl).trans h.ag)
    simp [World.cell?, h2]
  · have h2 : w1.heap[qa]? = _ := (k2.block qa (by omega) nq).trans ((hW.block qa hql).trans h.aq)
    simp [World.cell?, h2]
  have hs1 := k2.size
  have hs2 := hW1.size
  refine (k3 W1 hW1).mono fun e w2 ⟨m1, m2, m3⟩ => ⟨m1, kp_of m2 hXi (by omega), ?_⟩
  have hs3 := m2.size
  have st : ∀ k, k < w.heap.size → ¬ X1 k → w2.heap[k]? = w.heap[k]? := fun k hk hn => (m2.block k (by omega) hn).trans ((hW1.block k (by omega)).trans ((k2.block k (by omega) hn).trans (hW.block k hk)))
  refine ⟨(st ga hgl ng).trans h.ag, (st qa hql nq).trans h.aq, ⟨X0, nw X1 W w2, (p0.stay (by omega) (fun k hk hl => st k hl (fun h0 => dis k hk h0))).more, m3, ?_, ?_⟩, hge⟩
  · rintro k hk (h1 | h1)
    · exact dis k hk h1
    · have := (hX k (.inl hk)).2.2.2; omega
  · rintro k (hk | (hk | hk))
    · obtain ⟨z1, z2, z3, z4⟩ := hX k (.inl hk); exact ⟨z1, z2, z3, by omega⟩
    · obtain ⟨z1, z2, z3, z4⟩ := hX k (.inr hk); exact ⟨z1, z2, z3, by omega⟩
    · exact ⟨by omega, by omega, by omega, hk.2⟩
theorem LP.back0 (h : LP S w ga qa c g0 g1 d0 d1) (hc : c ≤ 1000) (hW : Below w.heap.size w W) :
    Calls Try.prog 10 #[.pointer (some ⟨g0, 0, none⟩)] W fun e w1 => ∃ gb, e = .returned (.pointer (some ⟨gb, 0, none⟩)) ∧ w1.cell? ⟨ga, 1, none⟩ = some (.pointer (some ⟨g1, 0, none⟩)) ∧ w1.frozen? ⟨ga, 1, none⟩ = false ∧
      (w1.setCell ⟨ga, 1, none⟩ (.pointer (some ⟨gb, 0, none⟩))).cell? ⟨qa, 0, none⟩ = some (.pointer (some ⟨d0, 0, none⟩)) ∧
      Hid (Calls Try.prog 18 #[.pointer (some ⟨d0, 0, none⟩)] (w1.setCell ⟨ga, 1, none⟩ (.pointer (some ⟨gb, 0, none⟩))) fun e w2 => ∃ d2, e = .returned (.pointer (some ⟨d2, 0, none⟩)) ∧ w2.cell? ⟨qa, 1, none⟩ = some (.pointer (some ⟨d1, 0, none⟩)) ∧ w2.frozen? ⟨qa, 1, none⟩ = false ∧
        Hid (Kp S w W (w2.setCell ⟨qa, 1, none⟩ (.pointer (some ⟨d2, 0, none⟩))) ∧ LP S (w2.setCell ⟨qa, 1, none⟩ (.pointer (some ⟨d2, 0, none⟩))) ga qa (c + 1) g0 gb d0 d2)) := by
  obtain ⟨X0, X1, p0, p1, dis, hX⟩ := h.it
  have hs := hW.size
  have hgl := h.gl
  have hql := h.ql
  have hge := h.ge
  have hne := h.ne
  have hXi : ∀ k, X0 k → k ≠ ga ∧ k ≠ qa ∧ S ≤ k ∧ k < w.heap.size := fun k hk => hX k (.inl hk)
  refine ((p0.later hW).back hc).mono fun e w1 ⟨gb, k1, k2, k3⟩ => ?_
  have hs1 := k2.size
  have a1 : w1.heap[ga]? = _ := (k2.block ga (by omega)).trans ((hW.block ga hgl).trans h.ag)
  have q1 : w1.heap[qa]? = _ := (k2.block qa (by omega)).trans ((hW.block qa hql).trans h.aq)
  obtain ⟨W2, hW2⟩ : ∃ W2, w1.setCell ⟨ga, 1, none⟩ (.pointer (some ⟨gb, 0, none⟩)) = W2 := ⟨_, rfl⟩
  have hsz2 : W2.heap.size = w1.heap.size := by rw [← hW2, wide_size]
  have st2 : ∀ k, k ≠ ga → k < w1.heap.size → W2.heap[k]? = w1.heap[k]? := fun k hk hl => by rw [← hW2]; exact (Only.set w1 ga 1 _).block k hl (by simpa using hk)
  have on2 : Only [ga] w1 W2 := by rw [← hW2]; exact Only.set w1 ga 1 _
  have a2 : W2.heap[ga]? = some (.cells #[.pointer (some ⟨g0, 0, none⟩), .pointer (some ⟨gb, 0, none⟩)] 44 (0, 0)) := by
    rw [← hW2, heap_setCell _ _ _ _ a1]; simp
  have q2 : W2.heap[qa]? = _ := (st2 qa (Ne.symm hne) (by omega)).trans q1
  have k4 := k3 W2 (by omega) (fun k hk hl => st2 k (by
    rcases hk with hk | hk
    · exact (hXi k hk).1
    · omega) hl)
  refine ⟨gb, k1, by simp [World.cell?, a1], by simp [World.frozen?, a1], by rw [hW2]; simp [World.cell?, q2], ?_⟩
  rw [hW2]
  refine k4.mono fun e w2 ⟨d2, m1, m2, m3⟩ => ?_
  have hs3 := m2.size
  have a3 : w2.heap[ga]? = _ := (m2.block ga (by omega)).trans a2
  have q3 : w2.heap[qa]? = _ := (m2.block qa (by omega)).trans q2
  obtain ⟨W4, hW4⟩ : ∃ W4, w2.setCell ⟨qa, 1, none⟩ (.pointer (some ⟨d2, 0, none⟩)) = W4 := ⟨_, rfl⟩
  have hsz4 : W4.heap.size = w2.heap.size := by rw [← hW4, wide_size]
  have on4 : Only [qa] w2 W4 := by rw [← hW4]; exact Only.set w2 qa 1 _
  have st4 : ∀ k, k ≠ qa → k < w2.heap.size → W4.heap[k]? = w2.heap[k]? := fun k hk hl => on4.block k hl (by simpa using hk)
  have a4 : W4.heap[ga]? = _ := (st4 ga hne (by omega)).trans a3
  have q4 : W4.heap[qa]? = some (.cells #[.pointer (some ⟨d0, 0, none⟩), .pointer (some ⟨d2, 0, none⟩)] 49 (0, 0)) := by
    rw [← hW4, heap_setCell _ _ _ _ q3]; simp
  have st : ∀ k, k < W.heap.size → k ≠ ga → k ≠ qa → W4.heap[k]? = W.heap[k]? := fun k hk h1 h2 => (st4 k h2 (by omega)).trans ((m2.block k (by omega)).trans ((st2 k h1 (by omega)).trans (k2.block k hk)))
  refine ⟨d2, m1, by simp [World.cell?, q3], by simp [World.frozen?, q3], ?_⟩
  rw [hW4]
  have ok : OnlyP (fun k => k = ga ∨ k = qa) W W4 :=
    ((OnlyP.of_below k2 _).trans (OnlyP.of_only (F := fun k => k = ga ∨ k = qa) on2 (fun k hk _ => .inl (by simpa using hk))) (fun _ _ e => e)).trans ((OnlyP.of_below m2 _).trans (OnlyP.of_only (F := fun k => k = ga ∨ k = qa) on4 (fun k hk _ => .inr (by simpa using hk))) (fun _ _ e => e)) (fun _ _ e => e)
  refine ⟨kp_of ok (fun k hk => ?_) (by omega), a4, q4, ⟨X0, (fun k => W.heap.size ≤ k ∧ k < w2.heap.size), (p0.stay (by omega) (fun k hk hl => (st k (by omega) (hXi k hk).1 (hXi k hk).2.1).trans (hW.block k hl))).more, (m3.stay (by omega) (fun k hk hl => st4 k (by omega) hl)).more, ?_, ?_⟩, hge⟩
  · rcases hk with rfl | rfl
    · exact ⟨hge.1, hgl⟩
    · exact ⟨hge.2, hql⟩
  · intro k hk h1
    have := (hXi k hk).2.2.2; omega
  · rintro k (hk | hk)
    · obtain ⟨z1, z2, z3, z4⟩ := hXi k hk; exact ⟨z1, z2, z3, by omega⟩
    · exact ⟨by omega, by omega, by omega, by omega⟩
theorem LP.back1 (h : LP S w ga qa c g0 g1 d0 d1) (hc : c ≤ 1000) (hW : Below w.heap.size w W) :
    Calls Try.prog 10 #[.pointer (some ⟨g1, 0, none⟩)] W fun e w1 => ∃ gb, e = .returned (.pointer (some ⟨gb, 0, none⟩)) ∧ w1.cell? ⟨ga, 0, none⟩ = some (.pointer (some ⟨g0, 0, none⟩)) ∧ w1.frozen? ⟨ga, 0, none⟩ = false ∧
      (w1.setCell ⟨ga, 0, none⟩ (.pointer (some ⟨gb, 0, none⟩))).cell? ⟨qa, 1, none⟩ = some (.pointer (some ⟨d1, 0, none⟩)) ∧
      Hid (Calls Try.prog 18 #[.pointer (some ⟨d1, 0, none⟩)] (w1.setCell ⟨ga, 0, none⟩ (.pointer (some ⟨gb, 0, none⟩))) fun e w2 => ∃ d2, e = .returned (.pointer (some ⟨d2, 0, none⟩)) ∧ w2.cell? ⟨qa, 0, none⟩ = some (.pointer (some ⟨d0, 0, none⟩)) ∧ w2.frozen? ⟨qa, 0, none⟩ = false ∧
        Hid (Kp S w W (w2.setCell ⟨qa, 0, none⟩ (.pointer (some ⟨d2, 0, none⟩))) ∧ LP S (w2.setCell ⟨qa, 0, none⟩ (.pointer (some ⟨d2, 0, none⟩))) ga qa (c + 1) gb g1 d2 d1)) := by
  obtain ⟨X0, X1, p0, p1, dis, hX⟩ := h.it
  have hs := hW.size
  have hgl := h.gl
  have hql := h.ql
  have hge := h.ge
  have hne := h.ne
  have hXi : ∀ k, X1 k → k ≠ ga ∧ k ≠ qa ∧ S ≤ k ∧ k < w.heap.size := fun k hk => hX k (.inr hk)
  refine ((p1.later hW).back hc).mono fun e w1 ⟨gb, k1, k2, k3⟩ => ?_
  have hs1 := k2.size
  have a1 : w1.heap[ga]? = _ := (k2.block ga (by omega)).trans ((hW.block ga hgl).trans h.ag)
  have q1 : w1.heap[qa]? = _ := (k2.block qa (by omega)).trans ((hW.block qa hql).trans h.aq)
  obtain ⟨W2, hW2⟩ : ∃ W2, w1.setCell ⟨ga, 0, none⟩ (.pointer (some ⟨gb, 0, none⟩)) = W2 := ⟨_, rfl⟩
  have hsz2 : W2.heap.size = w1.heap.size := by rw [← hW2, wide_size]
  have st2 : ∀ k, k ≠ ga → k < w1.heap.size → W2.heap[k]? = w1.heap[k]? := fun k hk hl => by rw [← hW2]; exact (Only.set w1 ga 0 _).block k hl (by simpa using hk)
  have on2 : Only [ga] w1 W2 := by rw [← hW2]; exact Only.set w1 ga 0 _
  have a2 : W2.heap[ga]? = some (.cells #[.pointer (some ⟨gb, 0, none⟩), .pointer (some ⟨g1, 0, none⟩)] 44 (0, 0)) := by
    rw [← hW2, heap_setCell _ _ _ _ a1]; simp
  have q2 : W2.heap[qa]? = _ := (st2 qa (Ne.symm hne) (by omega)).trans q1
  have k4 := k3 W2 (by omega) (fun k hk hl => st2 k (by
    rcases hk with hk | hk
    · exact (hXi k hk).1
    · omega) hl)
  refine ⟨gb, k1, by simp [World.cell?, a1], by simp [World.frozen?, a1], by rw [hW2]; simp [World.cell?, q2], ?_⟩
  rw [hW2]
  refine k4.mono fun e w2 ⟨d2, m1, m2, m3⟩ => ?_
  have hs3 := m2.size
  have a3 : w2.heap[ga]? = _ := (m2.block ga (by omega)).trans a2
  have q3 : w2.heap[qa]? = _ := (m2.block qa (by omega)).trans q2
  obtain ⟨W4, hW4⟩ : ∃ W4, w2.setCell ⟨qa, 0, none⟩ (.pointer (some ⟨d2, 0, none⟩)) = W4 := ⟨_, rfl⟩
  have hsz4 : W4.heap.size = w2.heap.size := by rw [← hW4, wide_size]
  have on4 : Only [qa] w2 W4 := by rw [← hW4]; exact Only.set w2 qa 0 _
  have st4 : ∀ k, k ≠ qa → k < w2.heap.size → W4.heap[k]? = w2.heap[k]? := fun k hk hl => on4.block k hl (by simpa using hk)
  have a4 : W4.heap[ga]? = _ := (st4 ga hne (by omega)).trans a3
  have q4 : W4.heap[qa]? = some (.cells #[.pointer (some ⟨d2, 0, none⟩), .pointer (some ⟨d1, 0, none⟩)] 49 (0, 0)) := by
    rw [← hW4, heap_setCell _ _ _ _ q3]; simp
  have st : ∀ k, k < W.heap.size → k ≠ ga → k ≠ qa → W4.heap[k]? = W.heap[k]? := fun k hk h1 h2 => (st4 k h2 (by omega)).trans ((m2.block k (by omega)).trans ((st2 k h1 (by omega)).trans (k2.block k hk)))
  refine ⟨d2, m1, by simp [World.cell?, q3], by simp [World.frozen?, q3], ?_⟩
  rw [hW4]
  have ok : OnlyP (fun k => k = ga ∨ k = qa) W W4 :=
    ((OnlyP.of_below k2 _).trans (OnlyP.of_only (F := fun k => k = ga ∨ k = qa) on2 (fun k hk _ => .inl (by simpa using hk))) (fun _ _ e => e)).trans ((OnlyP.of_below m2 _).trans (OnlyP.of_only (F := fun k => k = ga ∨ k = qa) on4 (fun k hk _ => .inr (by simpa using hk))) (fun _ _ e => e)) (fun _ _ e => e)
  refine ⟨kp_of ok (fun k hk => ?_) (by omega), a4, q4, ⟨(fun k => W.heap.size ≤ k ∧ k < w2.heap.size), X1, (m3.stay (by omega) (fun k hk hl => st4 k (by omega) hl)).more, (p1.stay (by omega) (fun k hk hl => (st k (by omega) (hXi k hk).1 (hXi k hk).2.1).trans (hW.block k hl))).more, ?_, ?_⟩, hge⟩
  · rcases hk with rfl | rfl
    · exact ⟨hge.1, hgl⟩
    · exact ⟨hge.2, hql⟩
  · intro k hk h1
    have := (hXi k h1).2.2.2; omega
  · rintro k (hk | hk)
    · exact ⟨by omega, by omega, by omega, by omega⟩
    · obtain ⟨z1, z2, z3, z4⟩ := hXi k hk; exact ⟨z1, z2, z3, by omega⟩
end
end Go.Proofs.Ytjohhmfncemknaa
