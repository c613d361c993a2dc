/-
  The law ProfileFresh.
-/
import Derived.Test.YtkopjamednedfaaGreatQd
import Derived.Test.YtkopjamednedfaaGreatJQf
import Derived.Test.YtkopjamednedfaaGreatMrkd
import Derived.Deep.Cut
namespace Go.Proofs.YtkopjamednedfaaGreat
open Go.RowKit Go.Maps
attribute [local go_sem] Oper.semAt_some

theorem own_zero (w : World) : Own w.heap.size (w.alloc (.cells #[] 9)) (.slice (some ⟨w.heap.size, 0, none⟩) 0 0) [] :=
  ⟨rfl, .inr ⟨w.heap.size, 0, #[], rfl, Nat.le_refl _, heap_alloc_new w _, Nat.le_refl _, by decide, rfl, rfl⟩⟩
def one2 : List (List UInt8) := [[111, 110, 101], [116, 119, 111]]
theorem src_two (w : World) : Src Tryz.prog 1 22 (.slice (some ⟨w.heap.size, 0, none⟩) 2 2) one2.length (sc one2) (w.alloc (.cells #[.string ⟨#[111, 110, 101]⟩, .string ⟨#[116, 119, 111]⟩] 9)) :=
  (ss_lit w one2 2 rfl).src und70
theorem own_some {B : Nat} {W : World} {v : Value} {L : List (List UInt8)} (h : Own B W v L) (hn : L ≠ []) : ∃ g cap, v = .slice (some ⟨g, 0, none⟩) L.length cap ∧ L.length ≤ cap ∧ B ≤ g ∧ g < W.heap.size := by
  rcases own_formS h with ⟨_, e⟩ | h
  · exact absurd e hn
  · exact h
theorem mark4_any {B : Nat} {wc : World} {v0 v1 v2 v3 : Value} {l0 l1 l2 l3 : List (List UInt8)} {b1 b2 b3 : Nat} (o0 : Own B wc v0 l0) (o1 : Own b1 wc v1 l1) (o2 : Own b2 wc v2 l2) (o3 : Own b3 wc v3 l3)
    (h0 : ∀ g, v0.ownBlock = some g → g < b1) (h1 : ∀ g, v1.ownBlock = some g → g < b2) (h2 : ∀ g, v2.ownBlock = some g → g < b3) (hb1 : B ≤ b1) (hb2 : b1 ≤ b2) (hb3 : b2 ≤ b3) (hz : b3 ≤ wc.heap.size)
    (n0 : l0.length ≤ 100000000) (n1 : l1.length ≤ 100000000) (n2 : l2.length ≤ 100000000) (n3 : l3.length ≤ 100000000) :
    Calls Tryz.prog 16 #[.slice (some ⟨wc.heap.size, 0, none⟩) 4 4] (wc.alloc (.cells #[v0, v1, v2, v3] 22)) fun e w' => e = .returned (.bool true) ∧ Below B wc w' := by
  have hal := balloc wc (.cells #[v0, v1, v2, v3] 22)
  have hs : (wc.alloc (.cells #[v0, v1, v2, v3] 22)).heap.size = wc.heap.size + 1 := by simp
  have four : ∀ {p : Nat → Prop}, p 0 → p 1 → p 2 → p 3 → ∀ i, i < 4 → p i := fun {p} a b c d i hi => by
    have : i = 0 ∨ i = 1 ∨ i = 2 ∨ i = 3 := by omega
    rcases this with rfl | rfl | rfl | rfl
    · exact a
    · exact b
    · exact c
    · exact d
  let V : Nat → Value := fun i => if i = 0 then v0 else if i = 1 then v1 else if i = 2 then v2 else v3
  let LL : Nat → List (List UInt8) := fun i => if i = 0 then l0 else if i = 1 then l1 else if i = 2 then l2 else l3
  let D : Nat → Nat → Prop := fun i g => (i = 0 ∧ v0.ownBlock = some g) ∨ (i = 1 ∧ v1.ownBlock = some g) ∨ (i = 2 ∧ v2.ownBlock = some g) ∨ (i = 3 ∧ v3.ownBlock = some g)
  have hQ : Q5 B (wc.alloc (.cells #[v0, v1, v2, v3] 22)) (wc.alloc (.cells #[v0, v1, v2, v3] 22)) wc.heap.size V LL D := by
    refine ⟨?_, ?_, ?_, ?_, ?_, by omega, by omega, Below.refl _ _⟩
    · refine four ?_ ?_ ?_ ?_ <;> simp [V]
    · refine four ?_ ?_ ?_ ?_
      · exact o0.later hal
      · exact (o1.later hal).mono (by omega)
      · exact (o2.later hal).mono (by omega)
      · exact (o3.later hal).mono (by omega)
    · refine four ?_ ?_ ?_ ?_
      · intro g hg; exact .inl ⟨rfl, hg⟩
      · intro g hg; exact .inr (.inl ⟨rfl, hg⟩)
      · intro g hg; exact .inr (.inr (.inl ⟨rfl, hg⟩))
      · intro g hg; exact .inr (.inr (.inr ⟨rfl, hg⟩))
    · rintro i j g (⟨rfl, a⟩ | ⟨rfl, a⟩ | ⟨rfl, a⟩ | ⟨rfl, a⟩) (⟨rfl, b⟩ | ⟨rfl, b⟩ | ⟨rfl, b⟩ | ⟨rfl, b⟩) <;> first | rfl | (exfalso; first | (have x1 := h0 g a; have x2 := (o1.lt b).1; omega) | (have x1 := h0 g a; have x2 := (o2.lt b).1; omega) | (have x1 := h0 g a; have x2 := (o3.lt b).1; omega) | (have x1 := h1 g a; have x2 := (o2.lt b).1; omega) | (have x1 := h1 g a; have x2 := (o3.lt b).1; omega) | (have x1 := h2 g a; have x2 := (o3.lt b).1; omega) | (have x1 := h0 g b; have x2 := (o1.lt a).1; omega) | (have x1 := h0 g b; have x2 := (o2.lt a).1; omega) | (have x1 := h0 g b; have x2 := (o3.lt a).1; omega) | (have x1 := h1 g b; have x2 := (o2.lt a).1; omega) | (have x1 := h1 g b; have x2 := (o3.lt a).1; omega) | (have x1 := h2 g b; have x2 := (o3.lt a).1; omega))
    · rintro i g (⟨rfl, a⟩ | ⟨rfl, a⟩ | ⟨rfl, a⟩ | ⟨rfl, a⟩)
      · have := o0.lt a; omega
      · have := o1.lt a; omega
      · have := o2.lt a; omega
      · have := o3.lt a; omega
  refine (marked_any hQ (four n0 n1 n2 n3)).mono ?_
  rintro e w' ⟨h1, h2⟩
  exact ⟨h1, below_trans (below_mono hal (by omega)) h2⟩
/-- the longer list, the cones that came in -/
structure FR (w W : World) (g n N2 cap : Nat) (ad : Option Addr) (c : Nat) (k : List (List UInt8)) : Prop where
  room : Own w.heap.size W (.slice (some ⟨g, 0, none⟩) N2 cap) (k ++ one2)
  orig : SS W (.slice ad n c) k
  below : Below w.heap.size w W
theorem FR.later {w W W' : World} {g n N2 cap : Nat} {ad : Option Addr} {c : Nat} {k : List (List UInt8)} (h : FR w W g n N2 cap ad c k) (hb : Below W.heap.size W W') : FR w W' g n N2 cap ad c k := ⟨h.room.later hb, h.orig.later hb, bstep h.below hb⟩
theorem FR.front {w W : World} {g n N2 cap : Nat} {ad : Option Addr} {c : Nat} {k : List (List UInt8)} (h : FR w W g n N2 cap ad c k) (hn : k.length = n) : SS W (.slice (some ⟨g, 0, none⟩) n cap) k := by
  have := (h.room.cut n (by rw [List.length_append]; omega)).bs
  rw [List.take_left' hn] at this
  exact this
theorem FR.at {w W : World} {g n N2 cap : Nat} {ad : Option Addr} {c : Nat} {k : List (List UInt8)} (h : FR w W g n N2 cap ad c k) (hn : k.length = n) : W.cell? ⟨g, n, none⟩ = some (.string ⟨#[111, 110, 101]⟩) ∧ W.cell? ⟨g, n + 1, none⟩ = some (.string ⟨#[116, 119, 111]⟩) ∧ g < W.heap.size := by
  obtain ⟨h1, _, _, h4⟩ := own_cellS h.room n (by rw [List.length_append]; simp [one2]; omega)
  obtain ⟨h2, _⟩ := own_cellS h.room (n + 1) (by rw [List.length_append]; simp [one2]; omega)
  refine ⟨?_, ?_, (h.room.lt rfl).2⟩
  · rw [h1]
    congr 3
    subst hn
    simp [one2]
  · rw [h2]
    congr 3
    subst hn
    simp [one2]
theorem wr_iK (i j : Nat) (h : i ≤ 100000000) (hj : i + 1 = j) : IntKind.i64.wrap ((i : Int) + 1) = (j : Int) ∧ wrap64 ((i : Int) + 1) = (j : Int) ∧ (0 : Int) ≤ (j : Int) := by
  refine ⟨by rw [IntKind.wrap_i64]; omega, by unfold wrap64; omega, by omega⟩
theorem wr_qK (q j : Nat) (h : q ≤ 100000000) (hj : j + 1 = q) : IntKind.i64.wrap ((q : Int) - 1) = (j : Int) ∧ wrap64 ((q : Int) - 1) = (j : Int) ∧ (0 : Int) ≤ (j : Int) ∧ (j : Int) < (q : Int) := by
  refine ⟨by rw [IntKind.wrap_i64]; omega, by unfold wrap64; omega, by omega, by omega⟩
theorem fr_start {w w1 w2 : World} {v1 : Value} {g n N2 cap : Nat} {ad : Option Addr} {c : Nat} {k : List (List UInt8)} {o : Obj} (h : SS w (.slice ad n c) k) (ho1 : Own w.heap.size w1 v1 ([] ++ k)) (hg1 : (w.alloc (.cells #[] 9)).grownBy w1 (Value.slice (some ⟨w.heap.size, 0, none⟩) 0 0).ownBlock)
    (ho2 : Own w.heap.size w2 (.slice (some ⟨g, 0, none⟩) N2 cap) ([] ++ k ++ one2)) (hg2 : (w1.alloc o).grownBy w2 v1.ownBlock) : FR w w2 g n N2 cap ad c k := by
  have hb1 : Below w.heap.size w w1 := ((Below.refl _ _).alloc (Nat.le_refl _) _).grown hg1 (by simp) (fun j e => by simp only [Value.ownBlock, Option.some.injEq] at e; omega)
  have hz := hb1.size
  have hb2 : Below w.heap.size w w2 := (hb1.alloc hz o).grown hg2 (by simp; omega) (fun j e => (ho1.lt e).1)
  exact ⟨ho2, h.later hb2, hb2⟩
set_option maxRecDepth 100000 in
set_option maxHeartbeats 8000000 in
theorem fresh_law {w : World} {u : Value} {k : List (List UInt8)} (x : List UInt8) (h : SS w u k) (sm : Sm k) (hx : x.length ≤ 1000000000) : Calls Tryz.prog 6 #[u, .string (bs x)] w fun e w' => e = .returned (.bool true) ∧ Below w.heap.size w w' := by
  have H := hid_of (And.intro h sm)
  obtain ⟨ad, c, hv⟩ := h.len2
  obtain ⟨n, hn⟩ : ∃ n, k.length = n := ⟨_, rfl⟩
  rw [hn] at hv
  subst hv
  have hnb : n ≤ 4000000 := by rw [← hn]; exact sm.len
  have HN := hid_of hn
  have HS1 : Hid (Src Tryz.prog 1 22 (.slice ad n c) k.length (sc k) (w.alloc (.cells #[] 9))) := (h.later (balloc _ _)).src und70
  have HZ := hid_of (own_zero w)
  clear h sm hn
  go_enter Tryz.func6, Tryz.ntmps6
  go_wp2_with (first | (at_builtin; refine app_strs (base := w.heap.size) (l := []) (k := k) HZ.out HS1.out (by have := HN.out; simp; omega) (by simp) rfl _ _ rfl rfl rfl ?_; intro v1 w1 ho1 hg1 hk1; have HO1 := hid_of (And.intro ho1 hg1); clear ho1 hg1 hk1) | (at_builtin; refine app_strs (base := w.heap.size) (l := [] ++ k) (k := one2) (HO1.out.1.later (balloc _ _)) (src_two w1) (by have := HN.out; simp [one2]; omega) (by have := HO1.out.2.size; simp at this ⊢; omega) rfl _ _ rfl rfl rfl ?_; intro v2 w2 ho2 hg2 hk2; obtain ⟨g, cap, ev, hcap, hgB, hgl⟩ := own_some ho2 (by simp [one2]); obtain ⟨N2, hN2⟩ : ∃ N2, ([] ++ k ++ one2).length = N2 := ⟨_, rfl⟩; rw [hN2] at ev hcap; subst ev; have HF2 : Hid (FR w w2 g n N2 cap ad c k) := fr_start H.out.1 HO1.out.1 HO1.out.2 ho2 hg2; have HN2 : Hid (N2 = n + 2) := (by show N2 = n + 2; rw [← hN2, ← HN.out]; simp [one2]); have hn2 : n ≤ cap := (by have := HN2.out; omega); clear ho2 hg2 hk2 hN2 HO1 hgB hgl hcap; have c1 : (n : Int) ≤ (cap : Int) := (by omega); have c2 : (0 : Int) ≤ (n : Int) := (by omega)))
  obtain ⟨t, ht⟩ : ∃ t, (pwr k).1 = t := ⟨_, rfl⟩
  obtain ⟨z, hz⟩ : ∃ z, (pwr k).2 = z := ⟨_, rfl⟩
  have HP : Hid (pwr k = (t, z)) := by show _ = _; rw [← ht, ← hz]
  have HWP : Hid (∀ W, FR w W g n N2 cap ad c k → Calls Tryz.prog 7 #[.slice (some ⟨g, 0, none⟩) n cap] W fun e w' => e = .returned (.tuple #[.string (bs t), .int .i64 z]) ∧ Below W.heap.size W w') := fun W hW => by
    have := write_any (hW.front HN.out) H.out.2 (by have := H.out.2.len; omega)
    rw [ht, hz] at this
    exact this
  have tt : (bs t).toList = t := bs_toList _
  have tq : (t == t) = true := by simp
  clear ht hz HS1 HZ
  refine (HWP.out _ HF2.out).mono ?_
  rintro e w3 ⟨rfl, hb3⟩
  have HF3 := hid_of (HF2.out.later hb3)
  clear hb3 HF2
  go_wp2_with fail
  refine (known_any w3).mono ?_
  rintro e w4 ⟨rfl, hb4⟩
  have HF4 := hid_of (HF3.out.later hb4)
  clear hb4 HF3
  have HSM : Hid (∀ W, FR w W g n N2 cap ad c k → Calls Tryz.prog 14 #[.slice (some ⟨g, 0, none⟩) n cap, .slice ad n c] W fun e w' => e = .returned (.bool true) ∧ FR w w' g n N2 cap ad c k) := fun W hW => by
    have := same_any (hW.front HN.out) hW.orig (by have := H.out.2.len; omega)
    rw [decide_eq_true (rfl : k = k)] at this
    refine this.mono ?_
    rintro e w' ⟨h1, q, rfl⟩
    exact ⟨h1, hW.later (bd _ _)⟩
  go_wp2_with fail
  refine (HSM.out _ HF4.out).mono ?_
  rintro e w5 ⟨rfl, hf5⟩
  have HF5 := hid_of hf5
  obtain ⟨e1, e2, hgl⟩ := hf5.at HN.out
  obtain ⟨m, hm⟩ : ∃ m, n + 1 = m := ⟨_, rfl⟩
  rw [hm] at e2
  have i1 : (n : Int) < (N2 : Int) := by have := HN2.out; omega
  have i2 : (m : Int) < (N2 : Int) := by have := HN2.out; omega
  have i3 : (0 : Int) ≤ (m : Int) := by omega
  have HM := hid_of hm
  obtain ⟨j1, j2, -⟩ := wr_iK n m (by omega) hm
  clear hf5 HF4 hm
  by_cases hz0 : z = 0
  · subst hz0
    have hzz : ((0 : Int) == 0) = true := rfl
    go_wp2_with fail
    clear j1 j2 e1 e2
    have hok := pwr_ok HP.out
    have htl : t.length ≤ 65536 := hok.2.2
    have HK := hid_of hok.1
    have HRT : Hid (∀ W, Calls Tryz.prog 13 #[.string (bs t)] W fun e w' => ∃ a c', e = .returned (.tuple #[.slice a n c', .int .i64 0]) ∧ Own W.heap.size w' (.slice a n c') k ∧ Below W.heap.size W w') := fun W => by
      have := read_any t W (by omega)
      rw [prd_wrt HP.out] at this
      refine this.mono ?_
      rintro e w' ⟨v, h1, h2, h3⟩
      obtain ⟨a, c', ev, -⟩ := h2.bs.form
      rw [HN.out] at ev
      subst ev
      exact ⟨a, c', h1, h2, h3⟩
    obtain ⟨kx, hkx⟩ : ∃ kx, (prd x).1 = kx := ⟨_, rfl⟩
    obtain ⟨zx, hzx⟩ : ∃ zx, (prd x).2 = zx := ⟨_, rfl⟩
    obtain ⟨nx, hnx⟩ : ∃ nx, kx.length = nx := ⟨_, rfl⟩
    have HNX := hid_of hnx
    have hnxb : nx ≤ 4000000 := by
      rw [← hnx, ← hkx, prd_lo]
      split
      · rename_i h9
        exact (lo_sm x h9.1).len
      · simp
    have HRX : Hid (∀ W, Calls Tryz.prog 13 #[.string (bs x)] W fun e w' => ∃ a c', e = .returned (.tuple #[.slice a nx c', .int .i64 zx]) ∧ Own W.heap.size w' (.slice a nx c') kx ∧ Below W.heap.size W w') := fun W => by
      have := read_any x W (by omega)
      rw [hkx, hzx] at this
      refine this.mono ?_
      rintro e w' ⟨v, h1, h2, h3⟩
      obtain ⟨a, c', ev, -⟩ := h2.bs.form
      rw [hnx] at ev
      subst ev
      exact ⟨a, c', h1, h2, h3⟩
    clear hok hkx hzx hnx htl
    refine (HRT.out _).mono ?_
    rintro e w6 ⟨a1, q1, rfl, ho6, hb6⟩
    have H6 : Hid (Own w5.heap.size w6 (.slice a1 n q1) k ∧ FR w w6 g n N2 cap ad c k ∧ Below w5.heap.size w5 w6) := ⟨ho6, HF5.out.later hb6, hb6⟩
    clear ho6 hb6
    go_wp2_with fail
    refine (HRT.out _).mono ?_
    rintro e w7 ⟨a2, q2, rfl, ho7, hb7⟩
    have H7 : Hid (Own w6.heap.size w7 (.slice a2 n q2) k ∧ Own w5.heap.size w7 (.slice a1 n q1) k ∧ FR w w7 g n N2 cap ad c k ∧ Below w6.heap.size w6 w7) := ⟨ho7, H6.out.1.later hb7, H6.out.2.1.later hb7, hb7⟩
    clear ho7 hb7
    go_wp2_with fail
    refine (HRX.out _).mono ?_
    rintro e w8 ⟨a3, q3, rfl, ho8, hb8⟩
    have H8 : Hid (Own w7.heap.size w8 (.slice a3 nx q3) kx ∧ Own w6.heap.size w8 (.slice a2 n q2) k ∧ Own w5.heap.size w8 (.slice a1 n q1) k ∧ FR w w8 g n N2 cap ad c k ∧ Below w7.heap.size w7 w8) := ⟨ho8, H7.out.1.later hb8, H7.out.2.1.later hb8, H7.out.2.2.1.later hb8, hb8⟩
    clear ho8 hb8
    go_wp2_with fail
    refine (HRT.out _).mono ?_
    rintro e w9 ⟨a4, q4, rfl, ho9, hb9⟩
    have H9 : Hid (Own w8.heap.size w9 (.slice a4 n q4) k ∧ Own w7.heap.size w9 (.slice a3 nx q3) kx ∧ Own w6.heap.size w9 (.slice a2 n q2) k ∧ Own w5.heap.size w9 (.slice a1 n q1) k ∧ FR w w9 g n N2 cap ad c k ∧ Below w8.heap.size w8 w9) := ⟨ho9, H8.out.1.later hb9, H8.out.2.1.later hb9, H8.out.2.2.1.later hb9, H8.out.2.2.2.1.later hb9, hb9⟩
    clear ho9 hb9
    have HSZ : Hid (w5.heap.size ≤ w6.heap.size ∧ w6.heap.size ≤ w7.heap.size ∧ w7.heap.size ≤ w8.heap.size ∧ w8.heap.size ≤ w9.heap.size) := ⟨H6.out.2.2.size, H7.out.2.2.2.size, H8.out.2.2.2.2.size, H9.out.2.2.2.2.2.size⟩
    have HBK : Hid ((∀ j, (Value.slice a1 n q1).ownBlock = some j → j < w6.heap.size) ∧ (∀ j, (Value.slice a2 n q2).ownBlock = some j → j < w7.heap.size) ∧ (∀ j, (Value.slice a3 nx q3).ownBlock = some j → j < w8.heap.size)) := ⟨fun j hj => (H6.out.1.lt hj).2, fun j hj => (H7.out.1.lt hj).2, fun j hj => (H8.out.1.lt hj).2⟩
    have HS2 : Hid (∀ W (a : Option Addr) (q : Nat), SS W (.slice a n q) k → SS W (.slice ad n c) k → Calls Tryz.prog 14 #[.slice a n q, .slice ad n c] W fun e w' => e = .returned (.bool true) ∧ Below W.heap.size W w') := fun W a q h1 h2 => by
      have := same_any h1 h2 (by have := H.out.2.len; omega)
      rw [decide_eq_true (rfl : k = k)] at this
      refine this.mono ?_
      rintro e w' ⟨h1, q, rfl⟩
      exact ⟨h1, bd _ _⟩
    have HB59 : Hid (Below w5.heap.size w5 w9) := bstep (bstep (bstep H6.out.2.2 H7.out.2.2.2) H8.out.2.2.2.2) H9.out.2.2.2.2.2
    clear H6 H7 H8
    go_wp2_with fail
    refine (HS2.out _ _ _ H9.out.2.2.2.1.bs H9.out.2.2.2.2.1.orig).mono ?_
    rintro e z1 ⟨rfl, hc1⟩
    have J1 := hid_of hc1
    clear hc1
    go_wp2_with fail
    refine (HS2.out _ _ _ (H9.out.2.2.1.later J1.out).bs (H9.out.2.2.2.2.1.later J1.out).orig).mono ?_
    rintro e z2 ⟨rfl, hc2⟩
    have J2 := hid_of (bstep J1.out hc2)
    clear hc2 J1
    go_wp2_with fail
    refine (HS2.out _ _ _ (H9.out.1.later J2.out).bs (H9.out.2.2.2.2.1.later J2.out).orig).mono ?_
    rintro e z3 ⟨rfl, hc3⟩
    have J3 := hid_of (bstep J2.out hc3)
    clear hc3 J2
    have HMK := hid_of (mark4_any (H9.out.2.2.2.1.later J3.out) (H9.out.2.2.1.later J3.out) (H9.out.2.1.later J3.out) (H9.out.1.later J3.out) HBK.out.1 HBK.out.2.1 HBK.out.2.2 HSZ.out.1 HSZ.out.2.1 HSZ.out.2.2.1 (by have := HSZ.out; have := J3.out.size; omega) (by have := HN.out; omega) (by have := HN.out; omega) (by have := HNX.out; omega) (by have := HN.out; omega))
    go_wp2_with fail
    refine HMK.out.mono ?_
    rintro e y1 ⟨rfl, hd1⟩
    have HY1 : Hid (FR w y1 g n N2 cap ad c k) := HF5.out.later ((bstep HB59.out J3.out).trans hd1)
    clear hd1 HMK H9 J3 HBK HSZ
    go_wp2_with fail
    refine (HRT.out _).mono ?_
    rintro e y2 ⟨a5, q5, rfl, ho2, hb2⟩
    have HY2 : Hid (SS y2 (.slice a5 n q5) k ∧ FR w y2 g n N2 cap ad c k) := ⟨ho2.bs, HY1.out.later hb2⟩
    clear ho2 hb2 HY1
    go_wp2_with fail
    refine (HWP.out _ HY2.out.2).mono ?_
    rintro e y3 ⟨rfl, hb3⟩
    have HY3 : Hid (SS y3 (.slice a5 n q5) k ∧ FR w y3 g n N2 cap ad c k) := ⟨HY2.out.1.later hb3, HY2.out.2.later hb3⟩
    clear hb3 HY2
    go_wp2_with fail
    refine (HS2.out _ _ _ HY3.out.1 HY3.out.2.orig).mono ?_
    rintro e y4 ⟨rfl, hb4⟩
    have HY4 : Hid (SS y4 (.slice a5 n q5) k ∧ FR w y4 g n N2 cap ad c k) := ⟨HY3.out.1.later hb4, HY3.out.2.later hb4⟩
    clear hb4 HY3
    by_cases hn0 : n = 0
    · have hnn : ((n : Int) == 0) = true := by simp [hn0]
      clear hn0
      go_wp2_with fail
      refine (HS2.out _ _ _ HY4.out.1 HY4.out.2.orig).mono ?_
      rintro e y5 ⟨rfl, hb5⟩
      have HY5 := hid_of (HY4.out.2.later hb5)
      clear hb5
      go_wp2_with fail
      go_ret
      exact ⟨rfl, HY5.out.below⟩
    · have hnn : ((n : Int) == 0) = false := by rw [beq_eq_false_iff_ne]; omega
      obtain ⟨l, hl⟩ : ∃ l, l + 1 = n := ⟨n - 1, by omega⟩
      have hlk : l < k.length := by have := HN.out; omega
      have hyl : (k[l]'hlk).length ≤ 120 := (okP_len ((coneB_iff.1 (coneE_zero.1 HK.out)).1 _ (List.getElem_mem hlk))).1
      obtain ⟨y, hy⟩ : ∃ y, k[l]'hlk = y := ⟨_, rfl⟩
      rw [hy] at hyl
      obtain ⟨cl, fl, hgB, hgl4⟩ := own_cellS HY4.out.2.room l (by rw [List.length_append]; omega)
      have hcl : y4.cell? ⟨g, l, none⟩ = some (.string (bs y)) := by
        rw [cl]
        congr 3
        rw [List.getElem_append_left hlk]
        exact hy
      have hcat : bs y ++ ByteArray.mk #[122] = bs (y ++ [122]) := by rw [show ByteArray.mk #[122] = bs [122] from rfl, bs_cat]
      have zy : (bs y).size = y.length := rfl
      have HST : Hid (SS (y4.setCell ⟨g, l, none⟩ (.string (bs (y ++ [122])))) (.slice (some ⟨g, 0, none⟩) n cap) (k.set l (y ++ [122])) ∧ Below w.heap.size w (y4.setCell ⟨g, l, none⟩ (.string (bs (y ++ [122]))))) := by
        have h1 := own_setS HY4.out.2.room l (y ++ [122])
        have h2 := (h1.cut n (by rw [List.length_set, List.length_append]; have := HN.out; omega)).bs
        refine ⟨?_, HY4.out.2.below.setCell (p := ⟨g, l, none⟩) hgB _⟩
        have e9 : ((k ++ one2).set l (y ++ [122])).take n = k.set l (y ++ [122]) := by
          rw [List.set_append_left _ _ hlk]
          exact List.take_left' (by rw [List.length_set]; exact HN.out)
        rw [e9] at h2
        exact h2
      have HSM2 : Hid (Sm (k.set l (y ++ [122]))) := ⟨by rw [List.length_set]; exact H.out.2.len, fun v hv => by
        rcases List.mem_or_eq_of_mem_set hv with h9 | h9
        · exact H.out.2.each v h9
        · rw [h9]; simp; omega⟩
      have l1 : (l : Int) < (N2 : Int) := by have := HN2.out; omega
      have l2 : (0 : Int) ≤ (l : Int) := by omega
      have HL := hid_of hl
      obtain ⟨p1, p2, -, -⟩ := wr_qK n l (by omega) hl
      clear cl hlk hy hl
      go_wp2_with fail
      clear p1 p2 hcl fl
      generalize y4.setCell ⟨g, l, none⟩ (.string (bs (y ++ [122]))) = y5 at HST ⊢
      obtain ⟨t2, ht2⟩ : ∃ t2, (pwr (k.set l (y ++ [122]))).1 = t2 := ⟨_, rfl⟩
      obtain ⟨z2, hz2⟩ : ∃ z2, (pwr (k.set l (y ++ [122]))).2 = z2 := ⟨_, rfl⟩
      have HW2 := hid_of (rwr_any HST.out.1 HSM2.out)
      have HW3 := hid_of (fun W (hW : Below y5.heap.size y5 W) => write_any (HST.out.1.later hW) HSM2.out (by have := HSM2.out.len; omega))
      rw [ht2, hz2] at HW2 HW3
      have u1 : (bs t2).toList = t2 := bs_toList _
      have u2 : (t2 == t2) = true := by simp
      have u3 : (z2 == z2) = true := by simp
      clear ht2 hz2
      refine HW2.out.mono ?_
      rintro e y6 ⟨rfl, hb6⟩
      have HY6 := hid_of hb6
      clear hb6
      go_wp2_with fail
      refine (HW3.out _ HY6.out).mono ?_
      rintro e y7 ⟨rfl, hb7⟩
      have HY7 := hid_of (bstep HST.out.2 (bstep HY6.out hb7))
      clear hb7
      go_wp2_with fail
      go_ret
      exact ⟨rfl, HY7.out⟩
  · have hzz : (z == 0) = false := by simpa using hz0
    have HT0 : Hid (t = []) := by
      have := HP.out
      unfold pwr at this
      show t = []
      split at this
      · split at this
        · injection this with _ h2; exact absurd h2.symm hz0
        · injection this with h1 _; exact h1.symm
      · injection this with h1 _; exact h1.symm
    have hte : t.isEmpty = true := by rw [HT0.out]; rfl
    clear hz0
    go_wp2_with fail
    go_ret
    exact ⟨rfl, HF5.out.below⟩
end Go.Proofs.YtkopjamednedfaaGreat
