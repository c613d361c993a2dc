/-
  What follows of the parts: plain lists.
  The parts of a ring and of a chain: plain lists.
  Two graphs of the program beside each other; the ring and the chain that the law makes.
-/
import Derived.Test.YtclbnjfmipifnaaJHe
namespace Go.Proofs.Ytclbnjfmipifnaa
open Go.RowKit Go.Maps

section
variable {N : List Lb} {E : List Ee} {P : List (List Lb)}
theorem pts_flp (h : Gs.Pts ltL N (Gs.flp E) P) : Gs.Pts ltL N E P :=
  ⟨h.up, h.ne, h.hd, h.cov, fun p hp x hx => ⟨(h.one p hp x hx).1, fun y => by rw [(h.one p hp x hx).2 y, Gs.mut_flp]⟩⟩
theorem hd_lt (h : Gs.Pts ltL N E P) {i j : Nat} (hij : i < j) (hj : j < P.length) {a b : Lb} (ha : (P[i]'(by omega)).head? = some a) (hb : P[j].head? = some b) : ltL a b = true :=
  (List.pairwise_iff_getElem.1 h.hd) i j (by omega) hj hij a b ha hb
theorem pts_disj' (h : Gs.Pts ltL N E P) {i j : Nat} (hij : i < j) (hj : j < P.length) {x : Lb} (hx : x ∈ P[i]'(by omega)) (hy : x ∈ P[j]) : False := by
  have hi : i < P.length := by omega
  have mi := List.getElem_mem hi
  have mj := List.getElem_mem hj
  have e : P[i] = P[j] := Gs.ris_ext stoL (h.up _ mi) (h.up _ mj) (fun y => by rw [(h.one _ mi x hx).2 y, (h.one _ mj x hy).2 y])
  cases hc : P[j] with
  | nil => exact h.ne _ mj hc
  | cons a r =>
    have h1 := hd_lt h hij hj (a := a) (b := a) (by rw [e, hc]; rfl) (by rw [hc]; rfl)
    rw [stoL.irr] at h1
    cases h1
theorem pts_disj (h : Gs.Pts ltL N E P) {i j : Nat} (hi : i < P.length) (hj : j < P.length) {x : Lb} (hx : x ∈ P[i]) (hy : x ∈ P[j]) : i = j := by
  rcases Nat.lt_trichotomy i j with e | e | e
  · exact (pts_disj' h e hj hx hy).elim
  · exact e
  · exact (pts_disj' h e hi hy hx).elim
theorem pts_mut (h : Gs.Pts ltL N E P) {i j : Nat} (hi : i < P.length) (hj : j < P.length) {x y : Lb} (hx : x ∈ P[i]) (hy : y ∈ P[j]) : Gs.Mut E x y ↔ i = j := by
  have h1 := (h.one _ (List.getElem_mem hi) x hx).2 y
  have h2 := (h.one _ (List.getElem_mem hj) y hy).1
  constructor
  · intro hm
    exact pts_disj h hi hj (h1.2 ⟨h2, hm⟩) hy
  · rintro rfl
    exact (h1.1 hy).2
theorem crc_iff {p : List Lb} (hp : p ≠ []) : crcB E p = true ↔ Gs.Crc E p := by
  unfold crcB Gs.Crc
  cases p with
  | nil => exact absurd rfl hp
  | cons a r =>
    simp only [Bool.or_eq_true, decide_eq_true_eq, List.length_cons, List.mem_cons]
    constructor
    · rintro (h | h)
      · left; omega
      · exact .inr ⟨a, .inl rfl, h⟩
    · rintro (h | ⟨b, h1, h2⟩)
      · left; omega
      · rcases h1 with rfl | h1
        · exact .inr h2
        · left
          have := List.length_pos_of_mem h1
          omega
theorem frs_isSome (h : Gs.Pts ltL N E P) : (frs E P).isSome = false ↔ ∀ p ∈ P, ¬ Gs.Crc E p := by
  unfold frs
  constructor
  · intro hn p hp hc
    have h1 := (crc_iff (E := E) (h.ne p hp)).2 hc
    cases hf : P.find? (crcB E) with
    | none =>
      have := (List.find?_eq_none.1 hf) p hp
      exact this h1
    | some q => rw [hf] at hn; cases hn
  · intro hn
    cases hf : P.find? (crcB E) with
    | none => rfl
    | some q =>
      have h1 := List.find?_some hf
      exact absurd ((crc_iff (h.ne q (List.mem_of_find?_eq_some hf))).1 h1) (hn q (List.mem_of_find?_eq_some hf))
end
end Go.Proofs.Ytclbnjfmipifnaa

namespace Go.Proofs.Ytclbnjfmipifnaa
open Go.RowKit Go.Maps

section
variable {N : List Lb} {E : List Ee} {P : List (List Lb)}
/-- where every node reaches every other there is one part -/
theorem whole_pts (h : Gs.Pts ltL N E P) (hn : N.Nodup) (hne : N ≠ []) (hall : ∀ a ∈ N, ∀ b ∈ N, Gs.Way E a b) : P.length = 1 ∧ ∀ p ∈ P, p.length = N.length := by
  have hm : ∀ p ∈ P, ∀ x ∈ N, x ∈ p := fun p hp x hx => by
    cases hc : p with
    | nil => exact absurd hc (h.ne p hp)
    | cons a r =>
      have ha : a ∈ p := by rw [hc]; simp
      have h1 := (h.one p hp a ha).1
      have h2 := ((h.one p hp a ha).2 x).2 ⟨hx, hall a h1 x hx, hall x hx a h1⟩
      rw [hc] at h2
      exact h2
  have hl : ∀ p ∈ P, p.length = N.length := fun p hp => Nat.le_antisymm (Gs.nodup_sub p N (Gs.Ris.nodup stoL (h.up p hp)) (fun x hx => (h.one p hp x hx).1)) (Gs.nodup_sub N p hn (hm p hp))
  refine ⟨?_, hl⟩
  obtain ⟨x, hx⟩ := List.exists_mem_of_ne_nil N hne
  obtain ⟨p, hp, _⟩ := h.cov x hx
  have h0 := List.length_pos_of_mem hp
  rcases Nat.lt_or_ge 1 P.length with h2 | h2
  · have := pts_disj h (i := 0) (j := 1) (by omega) h2 (hm _ (List.getElem_mem _) x hx) (hm _ (List.getElem_mem _) x hx)
    omega
  · omega
/-- where the edges rise every node is a part, and none holds a circle -/
theorem rising_pts (h : Gs.Pts ltL N E P) (hn : N.Nodup) (r : Lb → Nat) (hr : ∀ a b, (a, b) ∈ E → r a < r b) : P.length = N.length ∧ ∀ p ∈ P, ¬ Gs.Crc E p := by
  have hw : ∀ {a b : Lb}, Gs.Way E a b → a = b ∨ r a < r b := fun hw => by
    induction hw with
    | refl => exact .inl rfl
    | step _ hm ih =>
      have h1 := hr _ _ hm
      rcases ih with rfl | ih
      · exact .inr h1
      · exact .inr (by omega)
  have hmu : ∀ {a b : Lb}, Gs.Mut E a b → a = b := fun hm => by
    rcases hw hm.1 with e | h1
    · exact e
    · rcases hw hm.2 with e | h2
      · exact e.symm
      · omega
  refine ⟨Nat.le_antisymm (pts_len h).1 ?_, fun p hp hc => ?_⟩
  · refine Nat.le_trans (Gs.nodup_sub N (P.filterMap List.head?) hn (fun x hx => ?_)) (List.length_filterMap_le _ _)
    obtain ⟨p, hp, hxp⟩ := h.cov x hx
    refine List.mem_filterMap.2 ⟨p, hp, ?_⟩
    cases hc : p with
    | nil => rw [hc] at hxp; cases hxp
    | cons a q =>
      have ha : a ∈ p := by rw [hc]; simp
      rw [← hmu (((h.one p hp x hxp).2 a).1 ha).2]
      rfl
  · rcases hc with hc | ⟨a, _, ha⟩
    · match p, hp, hc with
      | a :: b :: q, hp, _ =>
        have e := hmu (((h.one _ hp a (by simp)).2 b).1 (by simp)).2
        have hd := Gs.Ris.nodup stoL (h.up _ hp)
        rw [e] at hd
        simp at hd
    · have := hr a a ha
      omega
theorem ring_up {nm : Nat → Lb} {s : Nat} (h1 : ∀ i, i + 1 < s → (nm i, nm (i + 1)) ∈ E) (i : Nat) : ∀ d, i + d < s → Gs.Way E (nm i) (nm (i + d))
  | 0, _ => .refl _
  | d + 1, h => .step (ring_up h1 i d (by omega)) (h1 (i + d) (by omega))
theorem ring_way {nm : Nat → Lb} {s : Nat} (h1 : ∀ i, i + 1 < s → (nm i, nm (i + 1)) ∈ E) (h2 : (nm (s - 1), nm 0) ∈ E) {i j : Nat} (hi : i < s) (hj : j < s) : Gs.Way E (nm i) (nm j) := by
  have a1 := ring_up h1 i (s - 1 - i) (by omega)
  rw [show i + (s - 1 - i) = s - 1 by omega] at a1
  have a2 := ring_up h1 0 j (by omega)
  rw [Nat.zero_add] at a2
  exact (Gs.Way.step a1 h2).trans a2
/-- the first part that holds a circle, where there is one part of two nodes or more -/
theorem frs_one {p : List Lb} (hp : 2 ≤ p.length) : frs E [p] = some p := by
  have hc : crcB E p = true := (crc_iff (by intro e; rw [e] at hp; simp at hp)).2 (.inl hp)
  unfold frs
  simp [hc]
end
end Go.Proofs.Ytclbnjfmipifnaa

namespace Go.Proofs.Ytclbnjfmipifnaa
open Go.RowKit Go.Maps

/-- two graphs, in blocks of their own from B on -/
structure Tw (B : Nat) (w : World) (g h : Nat) (N : List Lb) (E : List Ee) (M : List Lb) (D : List Ee) : Prop where
  it : ∃ F G ns out ms uot, GR w F g ns out ∧ Lnk ns out N E ∧ GR w G h ms uot ∧ Lnk ms uot M D ∧ (∀ k, F k → ¬ G k) ∧ (∀ k, F k → B ≤ k) ∧ (∀ k, G k → B ≤ k)
  s1 : ∀ e ∈ E, e.1 ∈ N ∧ e.2 ∈ N
  s2 : ∀ e ∈ D, e.1 ∈ M ∧ e.2 ∈ M
section
variable {B : Nat} {w w' : World} {g h : Nat} {N M : List Lb} {E D : List Ee}
theorem Tw.left (t : Tw B w g h N E M D) : PG B w g N E := by
  obtain ⟨⟨F, G, ns, out, ms, uot, h1, h2, h3, h4, h5, h6, h7⟩, a, b⟩ := t
  exact ⟨⟨F, ns, out, h1, h2, h6⟩, a⟩
theorem Tw.swap (t : Tw B w g h N E M D) : Tw B w h g M D N E := by
  obtain ⟨⟨F, G, ns, out, ms, uot, h1, h2, h3, h4, h5, h6, h7⟩, a, b⟩ := t
  exact ⟨⟨G, F, ms, uot, ns, out, h3, h4, h1, h2, fun k x y => h5 k y x, h7, h6⟩, b, a⟩
theorem Tw.right (t : Tw B w g h N E M D) : PG B w h M D := t.swap.left
theorem Tw.later (t : Tw B w g h N E M D) (hb : Below w.heap.size w w') : Tw B w' g h N E M D := by
  obtain ⟨⟨F, G, ns, out, ms, uot, h1, h2, h3, h4, h5, h6, h7⟩, a, b⟩ := t
  exact ⟨⟨F, G, ns, out, ms, uot, h1.later hb, h2, h3.later hb, h4, h5, h6, h7⟩, a, b⟩
theorem Tw.new (p : PG B w g N E) (hB : B ≤ w.heap.size) : Calls Try.prog 23 #[] w fun e w' => ∃ h, e = .returned (.pointer (some ⟨h, 0, none⟩)) ∧ Tw B w' g h N E [] [] ∧ Below w.heap.size w w' := by
  obtain ⟨⟨F, ns, out, h1, h2, h3⟩, h4⟩ := p
  refine (new_any w).mono fun _ _ ⟨h, k1, k2, k3⟩ => ⟨h, k1, ⟨⟨F, _, ns, out, _, _, h1.later k3, h2, k2, Lnk.new, fun k hk hg => ?_, h3, fun k hk => Nat.le_trans hB hk.1⟩, h4, by simp⟩, k3⟩
  have := h1.lt k hk
  have := hg.1
  omega
theorem Tw.edge (t : Tw B w g h N E M D) (hB : B ≤ w.heap.size) (a b : Lb) (ha : Lu a) (hb : Lu b) (hz : N.length + 2 ≤ 1000000) :
    Calls Try.prog 24 #[.pointer (some ⟨g, 0, none⟩), a.val, b.val] w fun e w' => e = .returned (.tuple #[]) ∧ Tw B w' g h (addN (addN N a) b) (addE E (a, b)) M D ∧ Below B w w' := by
  obtain ⟨⟨F, G, ns, out, ms, uot, h1, h2, h3, h4, h5, h6, h7⟩, q1, q2⟩ := t
  have hl := h1.nlen h2
  refine (edge_any h1 a b ha hb (by omega)).mono fun e w' ⟨k1, k2, k3⟩ => ⟨k1, ⟨⟨_, G, _, _, ms, uot, k2, h2.edge a b, h3.only k3 (fun k x y => h5 k y x), h4, fun k hk hg => ?_, fun k hk => ?_, h7⟩, fun e he => ?_, q2⟩, k3.below hB h6⟩
  · rcases hk with hk | hk
    · exact h5 k hk hg
    · have := h3.lt k hg
      have := hk.1
      omega
  · rcases hk with hk | hk
    · exact h6 k hk
    · exact Nat.le_trans hB hk.1
  · rw [mem_addN, mem_addN, mem_addN, mem_addN]
    rcases mem_addE.1 he with he | he
    · exact ⟨.inl (.inl (q1 e he).1), .inl (.inl (q1 e he).2)⟩
    · subst he
      exact ⟨.inl (.inr rfl), .inr rfl⟩
end

/-- the law's names -/
def nmN (i : Nat) : Lb := ⟨[112], [97 + UInt8.ofNat (i / 256), 97 + UInt8.ofNat (i / 16 % 16), 97 + UInt8.ofNat (i % 16)]⟩
def rkN (x : Lb) : Nat := match x.name with
  | [a, b, c] => (a.toNat - 97) * 256 + (b.toNat - 97) * 16 + (c.toNat - 97)
  | _ => 0
theorem u8_up {m : Nat} (h : m < 16) : ((97 : UInt8) + UInt8.ofNat m).toNat = 97 + m := by
  simp [UInt8.toNat_add]; omega
theorem rk_nm {i : Nat} (h : i < 4096) : rkN (nmN i) = i := by
  unfold rkN nmN
  simp only
  rw [u8_up (by omega), u8_up (by omega), u8_up (by omega)]
  omega
theorem nm_inj {i j : Nat} (hi : i < 4096) (hj : j < 4096) (h : nmN i = nmN j) : i = j := by
  rw [← rk_nm hi, ← rk_nm hj, h]
theorem addE_leq (E : List Ee) (e : Ee) : (addE E e).length ≤ E.length + 1 := by unfold addE; split <;> simp

/-- the nodes so far -/
structure NF (s : Nat) (N : List Lb) : Prop where
  nd : N.Nodup
  inn : ∀ x ∈ N, ∃ k, k < s ∧ x = nmN k
theorem NF.len {s : Nat} {N : List Lb} (h : NF s N) : N.length ≤ s := by
  have := Gs.nodup_sub N ((List.range s).map nmN) h.nd (fun x hx => by
    obtain ⟨k, hk, rfl⟩ := h.inn x hx
    exact List.mem_map.2 ⟨k, List.mem_range.2 hk, rfl⟩)
  simpa using this
theorem NF.add {s : Nat} {N : List Lb} (h : NF s N) {k : Nat} (hk : k < s) : NF s (addN N (nmN k)) :=
  ⟨addN_nd h.nd, fun x hx => by
    rcases mem_addN.1 hx with hx | rfl
    · exact h.inn x hx
    · exact ⟨k, hk, rfl⟩⟩
theorem NF.full {s : Nat} {N : List Lb} (h : NF s N) (hs : s ≤ 4096) (hall : ∀ k, k < s → nmN k ∈ N) : N.length = s := by
  refine Nat.le_antisymm h.len ?_
  have hn : ((List.range s).map nmN).Nodup := by
    rw [List.nodup_iff_pairwise_ne, List.pairwise_map]
    refine List.Pairwise.imp_of_mem ?_ List.nodup_range
    intro a b ha hb hab e
    exact hab (nm_inj (by have := List.mem_range.1 ha; omega) (by have := List.mem_range.1 hb; omega) e)
  have := Gs.nodup_sub _ N hn (fun x hx => by
    obtain ⟨k, hk, rfl⟩ := List.mem_map.1 hx
    exact hall k (List.mem_range.1 hk))
  simpa using this
/-- the ring, when i edges are laid -/
structure RF (s i : Nat) (N : List Lb) (E : List Ee) : Prop where
  nf : NF s N
  has : ∀ k, k < i → (nmN k, nmN ((k + 1) % s)) ∈ E
  el : E.length ≤ i
/-- the chain, when i rounds are done -/
structure CF (s i : Nat) (N : List Lb) (E : List Ee) : Prop where
  nf : NF s N
  has : ∀ k, k < i → k + 1 < s → (nmN k, nmN (k + 1)) ∈ E
  only : ∀ a b, (a, b) ∈ E → ∃ k, k + 1 < s ∧ a = nmN k ∧ b = nmN (k + 1)
  el : E.length ≤ i
section
variable {s i : Nat} {N : List Lb} {E : List Ee} {P : List (List Lb)}
theorem RF.nil (s : Nat) : RF s 0 [] [] := ⟨⟨List.nodup_nil, by simp⟩, by simp, by simp⟩
theorem CF.nil (s : Nat) : CF s 0 [] [] := ⟨⟨List.nodup_nil, by simp⟩, by simp, by simp, by simp⟩
theorem RF.step (h : RF s i N E) (hi : i < s) : RF s (i + 1) (addN (addN N (nmN i)) (nmN ((i + 1) % s))) (addE E (nmN i, nmN ((i + 1) % s))) := by
  refine ⟨(h.nf.add hi).add (Nat.mod_lt _ (by omega)), fun k hk => ?_, ?_⟩
  · rw [mem_addE]
    rcases Nat.lt_or_ge k i with h1 | h1
    · exact .inl (h.has k h1)
    · obtain rfl : k = i := by omega
      exact .inr rfl
  · have := addE_leq E (nmN i, nmN ((i + 1) % s))
    have := h.el
    omega
theorem CF.step (h : CF s i N E) (hi : i + 1 < s) : CF s (i + 1) (addN (addN N (nmN i)) (nmN (i + 1))) (addE E (nmN i, nmN (i + 1))) := by
  refine ⟨(h.nf.add (by omega)).add hi, fun k hk hs => ?_, fun a b hab => ?_, ?_⟩
  · rw [mem_addE]
    rcases Nat.lt_or_ge k i with h1 | h1
    · exact .inl (h.has k h1 hs)
    · obtain rfl : k = i := by omega
      exact .inr rfl
  · rcases mem_addE.1 hab with h1 | h1
    · exact h.only a b h1
    · injection h1 with h1 h2
      exact ⟨i, hi, h1, h2⟩
  · have := addE_leq E (nmN i, nmN (i + 1))
    have := h.el
    omega
theorem CF.skip (h : CF s i N E) (hi : s ≤ i + 1) : CF s (i + 1) N E :=
  ⟨h.nf, fun k hk hs => h.has k (by omega) hs, h.only, Nat.le_succ_of_le h.el⟩
theorem RF.done (h : RF s s N E) (hs : 2 ≤ s) (hs2 : s ≤ 4096) (hsub : ∀ e ∈ E, e.1 ∈ N ∧ e.2 ∈ N) (hp : Gs.Pts ltL N E P) : N.length = s ∧ P.length = 1 ∧ ∃ p, P = [p] ∧ p.length = s ∧ frs E P = some p := by
  have hall : ∀ k, k < s → nmN k ∈ N := fun k hk => (hsub _ (h.has k hk)).1
  have hl := h.nf.full hs2 hall
  have hne : N ≠ [] := by intro e; rw [e] at hl; simp at hl; omega
  have h1 : ∀ k, k + 1 < s → (nmN k, nmN (k + 1)) ∈ E := fun k hk => by
    have := h.has k (by omega)
    rwa [Nat.mod_eq_of_lt hk] at this
  have h2 : (nmN (s - 1), nmN 0) ∈ E := by
    have := h.has (s - 1) (by omega)
    rwa [show s - 1 + 1 = s by omega, Nat.mod_self] at this
  obtain ⟨w1, w2⟩ := whole_pts hp h.nf.nd hne (fun a ha b hb => by
    obtain ⟨i, hi, rfl⟩ := h.nf.inn a ha
    obtain ⟨j, hj, rfl⟩ := h.nf.inn b hb
    exact ring_way h1 h2 hi hj)
  refine ⟨hl, w1, ?_⟩
  match P, w1, w2 with
  | [p], _, w2 =>
    have hpl : p.length = s := (w2 p (by simp)).trans hl
    exact ⟨p, rfl, hpl, frs_one (by omega)⟩
theorem CF.done (h : CF s s N E) (hs : 2 ≤ s) (hs2 : s ≤ 4096) (hsub : ∀ e ∈ E, e.1 ∈ N ∧ e.2 ∈ N) (hp : Gs.Pts ltL N E P) : N.length = s ∧ P.length = s ∧ (frs E P).isSome = false := by
  have hall : ∀ k, k < s → nmN k ∈ N := fun k hk => by
    rcases Nat.lt_or_ge (k + 1) s with h1 | h1
    · exact (hsub _ (h.has k hk h1)).1
    · have h2 := (hsub _ (h.has (s - 2) (by omega) (by omega))).2
      rwa [show s - 2 + 1 = k by omega] at h2
  have hl := h.nf.full hs2 hall
  obtain ⟨w1, w2⟩ := rising_pts hp h.nf.nd rkN (fun a b hab => by
    obtain ⟨k, hk, rfl, rfl⟩ := h.only a b hab
    rw [rk_nm (by omega), rk_nm (by omega)]
    omega)
  exact ⟨hl, w1.trans hl, (frs_isSome hp).2 w2⟩
end
end Go.Proofs.Ytclbnjfmipifnaa
