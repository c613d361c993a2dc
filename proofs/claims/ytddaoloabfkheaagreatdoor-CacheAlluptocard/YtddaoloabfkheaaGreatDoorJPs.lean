/-
  A cache of the program's and one of the document's, with the same keys.
  A step that gets, one that asks for nothing.
  A step that saves and loads.
-/
import Derived.Test.YtddaoloabfkheaaGreatDoorJLw
namespace Go.Proofs.YtddaoloabfkheaaGreatDoor
open Go.RowKit

/-- a step -/
structure Stp where
  sec : Bool
  kind : Int
  p : List UInt8
  t : List UInt8
def Stp.val (s : Stp) : Value := .agg #[.bool s.sec, .int .i64 s.kind, .string (bs s.p), .string (bs s.t)]
/-- a step in a block of its own -/
structure SB (w : World) (g : Nat) (s : Stp) : Prop where
  blk : w.heap[g]? = some (.cells #[.bool s.sec, .int .i64 s.kind, .string (bs s.p), .string (bs s.t)] 40 (0, 0))
theorem SB.lt {w : World} {g : Nat} {s : Stp} (h : SB w g s) : g < w.heap.size := (Array.getElem?_eq_some_iff.1 h.blk).1
theorem SB.new (w : World) (s : Stp) : SB (w.alloc (.cells #[.bool s.sec, .int .i64 s.kind, .string (bs s.p), .string (bs s.t)] 40)) w.heap.size s := ⟨heap_alloc_new _ _⟩
theorem SB.only {F : Nat → Prop} {w w' : World} {g : Nat} {s : Stp} (h : SB w g s) (ho : OnlyP F w w') (hg : ¬ F g) : SB w' g s := ⟨(ho.block g h.lt hg).trans h.blk⟩
theorem SB.cells {w : World} {g : Nat} {s : Stp} (h : SB w g s) : w.cell? ⟨g, 1, none⟩ = some (.int .i64 s.kind) ∧ w.cell? ⟨g, 2, none⟩ = some (.string (bs s.p)) ∧ w.cell? ⟨g, 3, none⟩ = some (.string (bs s.t)) := by
  have hb := h.blk
  exact ⟨by simp [World.cell?, hb], by simp [World.cell?, hb], by simp [World.cell?, hb]⟩

/-- both caches, in blocks of X -/
structure Pq (CA : World → (Nat → Prop) → Nat → List Lb → Prop) (w : World) (X : Nat → Prop) (x : Nat) : Prop where
  it : ∃ F D c r K, w.heap[x]? = some (.cells #[.pointer (some ⟨c, 0, none⟩), .pointer (some ⟨r, 0, none⟩)] 60 (0, 0)) ∧ CA w F c K ∧ RC w D r K ∧ (∀ k, F k → ¬ D k) ∧ ¬ F x ∧ ¬ D x ∧ (∀ k, F k → X k) ∧ (∀ k, D k → X k)
  own : X x
  lt : ∀ k, X k → k < w.heap.size
section
variable {CA : World → (Nat → Prop) → Nat → List Lb → Prop} {w w' : World} {X Y : Nat → Prop} {x : Nat}
theorem Pq.stay (C : CcP CA) (h : Pq CA w X x) (hz : w.heap.size ≤ w'.heap.size) (hs : ∀ k, X k → w'.heap[k]? = w.heap[k]?) : Pq CA w' X x := by
  obtain ⟨⟨F, D, c, r, K, h1, h2, h3, h4, h5, h6, h7, h8⟩, own, lt⟩ := h
  exact ⟨⟨F, D, c, r, K, (hs x own).trans h1, C.stay h2 hz (fun k hk => hs k (h7 k hk)), h3.stay hz (fun k hk => hs k (h8 k hk)), h4, h5, h6, h7, h8⟩, own, fun k hk => Nat.lt_of_lt_of_le (lt k hk) hz⟩
theorem Pq.later (C : CcP CA) (h : Pq CA w X x) (hb : Below w.heap.size w w') : Pq CA w' X x := h.stay C hb.size (fun k hk => hb.block k (h.lt k hk))
theorem Pq.only (C : CcP CA) (h : Pq CA w X x) (hb : OnlyP Y w w') (hd : ∀ k, X k → ¬ Y k) : Pq CA w' X x := h.stay C hb.size (fun k hk => hb.block k (h.lt k hk) (hd k hk))
theorem Pq.wider (h : Pq CA w X x) (hX : ∀ k, X k → Y k) (hl : ∀ k, Y k → k < w.heap.size) : Pq CA w Y x := by
  obtain ⟨⟨F, D, c, r, K, h1, h2, h3, h4, h5, h6, h7, h8⟩, own, lt⟩ := h
  exact ⟨⟨F, D, c, r, K, h1, h2, h3, h4, h5, h6, fun k hk => hX k (h7 k hk), fun k hk => hX k (h8 k hk)⟩, hX x own, hl⟩
end
/-- what a step leaves -/
def StP (CA : World → (Nat → Prop) → Nat → List Lb → Prop) (w : World) (X : Nat → Prop) (x : Nat) (e : Ending) (w' : World) : Prop := e = .returned (.bool true) ∧ Pq CA w' (nwF X w w') x ∧ OnlyP X w w'
theorem Pq.nwF_later {CA : World → (Nat → Prop) → Nat → List Lb → Prop} (C : CcP CA) {w w' : World} {X : Nat → Prop} {x : Nat} (h : Pq CA w X x) (hb : Below w.heap.size w w') : Pq CA w' (nwF X w w') x ∧ OnlyP X w w' := by
  have h2 := h.later C hb
  exact ⟨h2.wider (fun k hk => .inl hk) (fun k hk => hk.elim (fun e => h2.lt k e) (fun e => e.2)), OnlyP.of_below hb X⟩
theorem Ev.onlyP {X : Nat → Prop} {w w' : World} (h : Ev w) (ho : OnlyP X w w') (hX : ∀ k, X k → 4 ≤ k) : Ev w' := by
  obtain ⟨S, h1, h2⟩ := ho.toOnly
  exact h.only h1 (fun k hk => hX k (h2 k hk).1)

set_option maxRecDepth 100000 in
set_option maxHeartbeats 8000000 in
theorem step_put {CA : World → (Nat → Prop) → Nat → List Lb → Prop} (C : CcP CA) {w : World} {X : Nat → Prop} {x : Nat} (h : Pq CA w X x) (E : Ev w) (hX : ∀ k, X k → 4 ≤ k) (s : Stp) (hk : s.kind = 0) (hp : s.p.length ≤ 1000000000) (ht : s.t.length ≤ 1000000000) :
    Calls Tryz.prog 21 #[.pointer (some ⟨x, 0, none⟩), s.val] w (StP CA w X x) := by
  obtain ⟨⟨F, D, c, r, K, h1, h2, h3, h4, h5, h6, h7, h8⟩, own, lt⟩ := h
  have hxl : x < w.heap.size := lt x own
  obtain ⟨sc, kd, p, t⟩ := s
  simp only at hk hp ht
  subst hk
  have H : Hid (CA w F c K ∧ RC w D r K ∧ (∀ k, F k → ¬ D k) ∧ ¬ F x ∧ ¬ D x ∧ (∀ k, F k → X k) ∧ (∀ k, D k → X k) ∧ X x ∧ (∀ k, X k → k < w.heap.size) ∧ w.heap[x]? = some (.cells #[.pointer (some ⟨c, 0, none⟩), .pointer (some ⟨r, 0, none⟩)] 60 (0, 0))) := ⟨h2, h3, h4, h5, h6, h7, h8, own, lt, h1⟩
  have HE : Hid (Ev w ∧ ∀ k, X k → 4 ≤ k) := ⟨E, hX⟩
  obtain ⟨G, hG⟩ : ∃ G, w.heap.size = G := ⟨_, rfl⟩
  obtain ⟨wA, hwA⟩ : ∃ wA, w.alloc (.cells #[.bool sc, .int .i64 0, .string (bs p), .string (bs t)] 40) = wA := ⟨_, rfl⟩
  have HA : Hid (SB wA G ⟨sc, 0, p, t⟩ ∧ Below w.heap.size w wA) := by rw [← hwA, ← hG]; exact ⟨SB.new w ⟨sc, 0, p, t⟩, balloc _ _⟩
  -- what is there at any world where F and D alone changed
  have HCs : Hid (∀ W, OnlyP (fun k => F k ∨ D k) wA W → (W.cell? ⟨x, 0, none⟩ = some (.pointer (some ⟨c, 0, none⟩)) ∧ W.cell? ⟨x, 1, none⟩ = some (.pointer (some ⟨r, 0, none⟩)) ∧ W.cell? ⟨G, 2, none⟩ = some (.string (bs p)) ∧ W.cell? ⟨G, 3, none⟩ = some (.string (bs t)))) := fun W hW => by
    have hx : W.heap[x]? = some (.cells #[.pointer (some ⟨c, 0, none⟩), .pointer (some ⟨r, 0, none⟩)] 60 (0, 0)) := (hW.block x (Nat.lt_of_lt_of_le hxl HA.out.2.size) (fun e => e.elim h5 h6)).trans ((HA.out.2.block x hxl).trans h1)
    have hg := (HA.out.1.only hW (fun e => e.elim (fun e => absurd (lt _ (h7 _ e)) (by omega)) (fun e => absurd (lt _ (h8 _ e)) (by omega)))).cells
    exact ⟨by simp [World.cell?, hx], by simp [World.cell?, hx], hg.2.1, hg.2.2⟩
  obtain ⟨x0, x1, s2, s3⟩ := HCs.out wA (OnlyP.refl _ _)
  have s1 := HA.out.1.cells.1
  simp only at s1
  clear h1 h2 h3 h4 h5 h6 h7 h8 own lt hxl E hX
  simp only [Stp.val]
  go_enter Tryz.func21, Tryz.ntmps21
  go_wp2_with fail
  go_region_held3 (fun w' => w'.cell? ⟨x, 0, none⟩ = some (.pointer (some ⟨c, 0, none⟩)) ∧ w'.cell? ⟨x, 1, none⟩ = some (.pointer (some ⟨r, 0, none⟩)) ∧ w'.cell? ⟨G, 2, none⟩ = some (.string (bs p)) ∧ w'.cell? ⟨G, 3, none⟩ = some (.string (bs t))) (first | (with_reducible exact ⟨x0, x1, s2, s3⟩) | (with_reducible exact KA.out) | (with_reducible exact KB.out) | go_keep) (first
    | (go_at_call 50; (with_reducible refine (rcput_any O1.out.2.2.1 p t hp ht).mono ?_); rintro e w2 ⟨rfl, hr2, ho2⟩; have O2 : Hid (CA w2 (nwF F wA.drew w1) c (putA K p t) ∧ RC w2 (nwF D w1 w2) r (putA K p t) ∧ OnlyP (fun k => F k ∨ D k) wA w2 ∧ wA.heap.size ≤ w1.heap.size ∧ w1.heap.size ≤ w2.heap.size) := ⟨C.only O1.out.1 ho2 (fun k hk hd => hk.elim (fun e => H.out.2.2.1 k e hd) (fun e => by have a1 := H.out.2.1.lt k hd; have a2 := HA.out.2.size; have a3 : wA.drew.heap.size = wA.heap.size := rfl; omega)), hr2, O1.out.2.1.trans (ho2.mono (fun k hk => .inr hk)) (fun _ _ e => e), O1.out.2.1.size, ho2.size⟩; have KB : Hid (w2.cell? ⟨x, 0, none⟩ = some (.pointer (some ⟨c, 0, none⟩)) ∧ w2.cell? ⟨x, 1, none⟩ = some (.pointer (some ⟨r, 0, none⟩)) ∧ w2.cell? ⟨G, 2, none⟩ = some (.string (bs p)) ∧ w2.cell? ⟨G, 3, none⟩ = some (.string (bs t))) := HCs.out w2 O2.out.2.2.1; clear hr2 ho2)
    | (go_at_call 10; (with_reducible refine (C.put (C.later H.out.1 (bstep HA.out.2 (Below.refl _ _).drew)) (HE.out.1.later (bstep HA.out.2 (Below.refl _ _).drew)) p t hp ht).mono ?_); rintro e w1 ⟨rfl, hc1, ho1⟩; have O1 : Hid (CA w1 (nwF F wA.drew w1) c (putA K p t) ∧ OnlyP (fun k => F k ∨ D k) wA w1 ∧ RC w1 D r K ∧ Ev w1) := ⟨hc1, (OnlyP.of_below (Below.refl _ _).drew _).trans (ho1.mono (fun k hk => .inl hk)) (fun _ _ e => e), (H.out.2.1.later (bstep HA.out.2 (Below.refl _ _).drew)).only ho1 (fun k hd hf => H.out.2.2.1 k hf hd), (HE.out.1.later (bstep HA.out.2 (Below.refl _ _).drew)).onlyP ho1 (fun k hk => HE.out.2 k (H.out.2.2.2.2.2.1 k hk))⟩; have KA : Hid (w1.cell? ⟨x, 0, none⟩ = some (.pointer (some ⟨c, 0, none⟩)) ∧ w1.cell? ⟨x, 1, none⟩ = some (.pointer (some ⟨r, 0, none⟩)) ∧ w1.cell? ⟨G, 2, none⟩ = some (.string (bs p)) ∧ w1.cell? ⟨G, 3, none⟩ = some (.string (bs t))) := HCs.out w1 O1.out.2.1; clear hc1 ho1))
  go_wp2_with fail
  go_ret
  refine ⟨by simp, ?_, ?_⟩
  · have z1 := HA.out.2.size
    have z2 := O2.out.2.2.2.1
    have z3 := O2.out.2.2.2.2
    have z4 : wA.drew.heap.size = wA.heap.size := rfl
    have hfl := H.out.2.2.2.2.2.2.2.2.1
    have hx : w2.heap[x]? = some (.cells #[.pointer (some ⟨c, 0, none⟩), .pointer (some ⟨r, 0, none⟩)] 60 (0, 0)) := (O2.out.2.2.1.block x (Nat.lt_of_lt_of_le (hfl x H.out.2.2.2.2.2.2.2.1) z1) (fun e => e.elim H.out.2.2.2.1 H.out.2.2.2.2.1)).trans ((HA.out.2.block x (hfl x H.out.2.2.2.2.2.2.2.1)).trans H.out.2.2.2.2.2.2.2.2.2)
    have hxl := hfl x H.out.2.2.2.2.2.2.2.1
    refine ⟨⟨nwF F wA.drew w1, nwF D w1 w2, c, r, putA K p t, hx, O2.out.1, O2.out.2.1, ?_, ?_, ?_, ?_, ?_⟩, .inl H.out.2.2.2.2.2.2.2.1, ?_⟩
    · rintro k (e | e) (d | d)
      · exact H.out.2.2.1 k e d
      · have := hfl k (H.out.2.2.2.2.2.1 k e); omega
      · have := hfl k (H.out.2.2.2.2.2.2.1 k d); omega
      · omega
    · rintro (e | e)
      · exact H.out.2.2.2.1 e
      · omega
    · rintro (e | e)
      · exact H.out.2.2.2.2.1 e
      · omega
    · rintro k (e | e)
      · exact .inl (H.out.2.2.2.2.2.1 k e)
      · exact .inr (by omega)
    · rintro k (e | e)
      · exact .inl (H.out.2.2.2.2.2.2.1 k e)
      · exact .inr (by omega)
    · rintro k (e | e)
      · have := hfl k e; omega
      · exact e.2
  · exact (OnlyP.of_below HA.out.2 X).trans (O2.out.2.2.1.mono (fun k e => e.elim (H.out.2.2.2.2.2.1 k) (H.out.2.2.2.2.2.2.1 k))) (fun _ _ e => e)
end Go.Proofs.YtddaoloabfkheaaGreatDoor

namespace Go.Proofs.YtddaoloabfkheaaGreatDoor
open Go.RowKit

set_option maxRecDepth 100000 in
set_option maxHeartbeats 8000000 in
theorem step_get {CA : World → (Nat → Prop) → Nat → List Lb → Prop} (C : CcP CA) {w : World} {X : Nat → Prop} {x : Nat} (h : Pq CA w X x) (E : Ev w) (hX : ∀ k, X k → 4 ≤ k) (s : Stp) (hk : s.kind = 1) (hp : s.p.length ≤ 1000000000) (ht : s.t.length ≤ 1000000000) :
    Calls Tryz.prog 21 #[.pointer (some ⟨x, 0, none⟩), s.val] w (StP CA w X x) := by
  obtain ⟨⟨F, D, c, r, K, h1, h2, h3, h4, h5, h6, h7, h8⟩, own, lt⟩ := h
  have hxl : x < w.heap.size := lt x own
  obtain ⟨sc, kd, p, t⟩ := s
  simp only at hk hp ht
  subst hk
  have H : Hid (CA w F c K ∧ RC w D r K ∧ (∀ k, F k → ¬ D k) ∧ ¬ F x ∧ ¬ D x ∧ (∀ k, F k → X k) ∧ (∀ k, D k → X k) ∧ X x ∧ (∀ k, X k → k < w.heap.size) ∧ w.heap[x]? = some (.cells #[.pointer (some ⟨c, 0, none⟩), .pointer (some ⟨r, 0, none⟩)] 60 (0, 0))) := ⟨h2, h3, h4, h5, h6, h7, h8, own, lt, h1⟩
  have HE : Hid (Ev w ∧ ∀ k, X k → 4 ≤ k) := ⟨E, hX⟩
  obtain ⟨G, hG⟩ : ∃ G, w.heap.size = G := ⟨_, rfl⟩
  obtain ⟨wA, hwA⟩ : ∃ wA, w.alloc (.cells #[.bool sc, .int .i64 1, .string (bs p), .string (bs t)] 40) = wA := ⟨_, rfl⟩
  have HA : Hid (SB wA G ⟨sc, 1, p, t⟩ ∧ Below w.heap.size w wA) := by rw [← hwA, ← hG]; exact ⟨SB.new w ⟨sc, 1, p, t⟩, balloc _ _⟩
  -- what is there at any world where F and D alone changed
  have HCs : Hid (∀ W, OnlyP (fun k => F k ∨ D k) wA W → (W.cell? ⟨x, 0, none⟩ = some (.pointer (some ⟨c, 0, none⟩)) ∧ W.cell? ⟨x, 1, none⟩ = some (.pointer (some ⟨r, 0, none⟩)) ∧ W.cell? ⟨G, 2, none⟩ = some (.string (bs p)) ∧ W.cell? ⟨G, 3, none⟩ = some (.string (bs t)))) := fun W hW => by
    have hx : W.heap[x]? = some (.cells #[.pointer (some ⟨c, 0, none⟩), .pointer (some ⟨r, 0, none⟩)] 60 (0, 0)) := (hW.block x (Nat.lt_of_lt_of_le hxl HA.out.2.size) (fun e => e.elim h5 h6)).trans ((HA.out.2.block x hxl).trans h1)
    have hg := (HA.out.1.only hW (fun e => e.elim (fun e => absurd (lt _ (h7 _ e)) (by omega)) (fun e => absurd (lt _ (h8 _ e)) (by omega)))).cells
    exact ⟨by simp [World.cell?, hx], by simp [World.cell?, hx], hg.2.1, hg.2.2⟩
  obtain ⟨x0, x1, s2, s3⟩ := HCs.out wA (OnlyP.refl _ _)
  have s1 := HA.out.1.cells.1
  simp only at s1
  clear h1 h2 h3 h4 h5 h6 h7 h8 own lt hxl E hX
  simp only [Stp.val]
  have HG1 : Hid (∀ W, Below wA.heap.size wA W → Calls Tryz.prog 13 #[.pointer (some ⟨c, 0, none⟩), .string (bs p), .string (bs t)] W (LsG W (gtK K p t))) := fun W hW => C.get (C.later H.out.1 (bstep HA.out.2 hW)) (HE.out.1.later (bstep HA.out.2 hW)) p t hp ht
  have HG2 : Hid (∀ W, Below wA.heap.size wA W → Calls Tryz.prog 51 #[.pointer (some ⟨r, 0, none⟩), .string (bs p), .string (bs t)] W (LsG W (gtK K p t))) := fun W hW => rcget_any (H.out.2.1.later (bstep HA.out.2 hW)) p t hp ht
  have HSm : Hid (GSm (gtK K p t).1) := gtK_sm K p t
  have HCb : Hid (∀ W, Below wA.heap.size wA W → (W.cell? ⟨x, 0, none⟩ = some (.pointer (some ⟨c, 0, none⟩)) ∧ W.cell? ⟨x, 1, none⟩ = some (.pointer (some ⟨r, 0, none⟩)) ∧ W.cell? ⟨G, 2, none⟩ = some (.string (bs p)) ∧ W.cell? ⟨G, 3, none⟩ = some (.string (bs t)))) := fun W hW => HCs.out W (OnlyP.of_below hW _)
  obtain ⟨⟨A, z, q⟩, hR⟩ : ∃ R, gtK K p t = R := ⟨_, rfl⟩
  rw [hR] at HG1 HG2 HSm
  simp only at HSm
  clear hR
  go_enter Tryz.func21, Tryz.ntmps21
  go_wp2_with fail
  go_region_held3 (fun w' => w'.cell? ⟨x, 0, none⟩ = some (.pointer (some ⟨c, 0, none⟩)) ∧ w'.cell? ⟨x, 1, none⟩ = some (.pointer (some ⟨r, 0, none⟩)) ∧ w'.cell? ⟨G, 2, none⟩ = some (.string (bs p)) ∧ w'.cell? ⟨G, 3, none⟩ = some (.string (bs t))) (first | (with_reducible exact ⟨x0, x1, s2, s3⟩) | (with_reducible exact KA.out) | go_keep) (first
    | (go_at_call 13; (with_reducible refine (HG1.out _ (Below.refl _ _).drew).mono ?_); rintro e w1 ⟨v1, rfl, ho1, hb1⟩; have O1 : Hid (GR w1 v1 A ∧ Below wA.heap.size wA w1) := ⟨ho1.read, bstep (Below.refl _ _).drew hb1⟩; have KA : Hid (w1.cell? ⟨x, 0, none⟩ = some (.pointer (some ⟨c, 0, none⟩)) ∧ w1.cell? ⟨x, 1, none⟩ = some (.pointer (some ⟨r, 0, none⟩)) ∧ w1.cell? ⟨G, 2, none⟩ = some (.string (bs p)) ∧ w1.cell? ⟨G, 3, none⟩ = some (.string (bs t))) := HCb.out w1 O1.out.2; clear ho1 hb1))
  obtain ⟨y0, y1, r2, r3⟩ := KA.out
  clear x0 x1 s2 s3 s1 KA
  go_wp2_with fail
  go_region_held3 (fun w' => w'.cell? ⟨x, 0, none⟩ = some (.pointer (some ⟨c, 0, none⟩)) ∧ w'.cell? ⟨x, 1, none⟩ = some (.pointer (some ⟨r, 0, none⟩)) ∧ w'.cell? ⟨G, 2, none⟩ = some (.string (bs p)) ∧ w'.cell? ⟨G, 3, none⟩ = some (.string (bs t))) (first | (with_reducible exact ⟨y0, y1, r2, r3⟩) | (with_reducible exact KB.out) | go_keep) (first
    | (go_at_call 51; (with_reducible refine (HG2.out _ (bstep O1.out.2 (Below.refl _ _).drew)).mono ?_); rintro e w2 ⟨v2, rfl, ho2, hb2⟩; have O2 : Hid (GR w2 v1 A ∧ GR w2 v2 A ∧ Below wA.heap.size wA w2) := ⟨O1.out.1.later (bstep (Below.refl _ _).drew hb2), ho2.read, bstep O1.out.2 (bstep (Below.refl _ _).drew hb2)⟩; have KB : Hid (w2.cell? ⟨x, 0, none⟩ = some (.pointer (some ⟨c, 0, none⟩)) ∧ w2.cell? ⟨x, 1, none⟩ = some (.pointer (some ⟨r, 0, none⟩)) ∧ w2.cell? ⟨G, 2, none⟩ = some (.string (bs p)) ∧ w2.cell? ⟨G, 3, none⟩ = some (.string (bs t))) := HCb.out w2 O2.out.2.2; clear ho2 hb2))
  clear y0 y1 r2 r3 KB
  go_wp2_with fail
  refine (same_any O2.out.1 O2.out.2.1 HSm.out HSm.out).mono ?_
  rintro e w3 ⟨rfl, nd, rfl⟩
  rw [decide_eq_true (rfl : A = A)]
  go_wp2_with fail
  go_ret
  have hb : Below w.heap.size w (w2.drewN nd) := bstep HA.out.2 (bstep O2.out.2.2 (bd _ _))
  have hq : Pq CA w X x := ⟨⟨F, D, c, r, K, H.out.2.2.2.2.2.2.2.2.2, H.out.1, H.out.2.1, H.out.2.2.1, H.out.2.2.2.1, H.out.2.2.2.2.1, H.out.2.2.2.2.2.1, H.out.2.2.2.2.2.2.1⟩, H.out.2.2.2.2.2.2.2.1, H.out.2.2.2.2.2.2.2.2.1⟩
  exact ⟨by cases q <;> simp, hq.nwF_later C hb⟩

set_option maxRecDepth 100000 in
set_option maxHeartbeats 8000000 in
theorem step_len {CA : World → (Nat → Prop) → Nat → List Lb → Prop} (C : CcP CA) {w : World} {X : Nat → Prop} {x : Nat} (h : Pq CA w X x) (E : Ev w) (hX : ∀ k, X k → 4 ≤ k) (s : Stp) (hk0 : s.kind ≠ 0) (hk1 : s.kind ≠ 1) (hk2 : s.kind ≠ 2) :
    Calls Tryz.prog 21 #[.pointer (some ⟨x, 0, none⟩), s.val] w (StP CA w X x) := by
  obtain ⟨⟨F, D, c, r, K, h1, h2, h3, h4, h5, h6, h7, h8⟩, own, lt⟩ := h
  have hxl : x < w.heap.size := lt x own
  obtain ⟨sc, kd, p, t⟩ := s
  simp only at hk0 hk1 hk2
  have H : Hid (CA w F c K ∧ RC w D r K ∧ (∀ k, F k → ¬ D k) ∧ ¬ F x ∧ ¬ D x ∧ (∀ k, F k → X k) ∧ (∀ k, D k → X k) ∧ X x ∧ (∀ k, X k → k < w.heap.size) ∧ w.heap[x]? = some (.cells #[.pointer (some ⟨c, 0, none⟩), .pointer (some ⟨r, 0, none⟩)] 60 (0, 0))) := ⟨h2, h3, h4, h5, h6, h7, h8, own, lt, h1⟩
  have HE : Hid (Ev w ∧ ∀ k, X k → 4 ≤ k) := ⟨E, hX⟩
  obtain ⟨G, hG⟩ : ∃ G, w.heap.size = G := ⟨_, rfl⟩
  obtain ⟨wA, hwA⟩ : ∃ wA, w.alloc (.cells #[.bool sc, .int .i64 kd, .string (bs p), .string (bs t)] 40) = wA := ⟨_, rfl⟩
  have HA : Hid (SB wA G ⟨sc, kd, p, t⟩ ∧ Below w.heap.size w wA) := by rw [← hwA, ← hG]; exact ⟨SB.new w ⟨sc, kd, p, t⟩, balloc _ _⟩
  -- what is there at any world where F and D alone changed
  have HCs : Hid (∀ W, OnlyP (fun k => F k ∨ D k) wA W → (W.cell? ⟨x, 0, none⟩ = some (.pointer (some ⟨c, 0, none⟩)) ∧ W.cell? ⟨x, 1, none⟩ = some (.pointer (some ⟨r, 0, none⟩)) ∧ W.cell? ⟨G, 2, none⟩ = some (.string (bs p)) ∧ W.cell? ⟨G, 3, none⟩ = some (.string (bs t)))) := fun W hW => by
    have hx : W.heap[x]? = some (.cells #[.pointer (some ⟨c, 0, none⟩), .pointer (some ⟨r, 0, none⟩)] 60 (0, 0)) := (hW.block x (Nat.lt_of_lt_of_le hxl HA.out.2.size) (fun e => e.elim h5 h6)).trans ((HA.out.2.block x hxl).trans h1)
    have hg := (HA.out.1.only hW (fun e => e.elim (fun e => absurd (lt _ (h7 _ e)) (by omega)) (fun e => absurd (lt _ (h8 _ e)) (by omega)))).cells
    exact ⟨by simp [World.cell?, hx], by simp [World.cell?, hx], hg.2.1, hg.2.2⟩
  obtain ⟨x0, x1, s2, s3⟩ := HCs.out wA (OnlyP.refl _ _)
  have s1 := HA.out.1.cells.1
  simp only at s1
  clear h1 h2 h3 h4 h5 h6 h7 h8 own lt hxl E hX
  have q0 : (kd == 0) = false := by simpa using hk0
  have q1 : (kd == 1) = false := by simpa using hk1
  have q2 : (kd == 2) = false := by simpa using hk2
  simp only [Stp.val]
  have HLn : Hid (∀ W, Below wA.heap.size wA W → Calls Tryz.prog 12 #[.pointer (some ⟨c, 0, none⟩)] W fun e w' => e = .returned (.int .i64 K.length) ∧ Below W.heap.size W w') := fun W hW => C.len (C.later H.out.1 (bstep HA.out.2 hW))
  obtain ⟨av, cv, hcr, _, _⟩ := (H.out.2.1.later HA.out.2).row
  have hrl := (H.out.2.1.later HA.out.2).glt
  have HCr : Hid (∀ W, Below wA.heap.size wA W → (W.cell? ⟨x, 0, none⟩ = some (.pointer (some ⟨c, 0, none⟩)) ∧ W.cell? ⟨x, 1, none⟩ = some (.pointer (some ⟨r, 0, none⟩)) ∧ W.cell? ⟨r, 0, none⟩ = some (.slice av K.length cv))) := fun W hW => ⟨(HCs.out W (OnlyP.of_below hW _)).1, (HCs.out W (OnlyP.of_below hW _)).2.1, (hW.cell (p := ⟨r, 0, none⟩) hrl).trans hcr⟩
  clear hrl s2 s3
  generalize K.length = n at *
  go_enter Tryz.func21, Tryz.ntmps21
  go_wp2_with fail
  go_region_held3 (fun w' => w'.cell? ⟨x, 0, none⟩ = some (.pointer (some ⟨c, 0, none⟩)) ∧ w'.cell? ⟨x, 1, none⟩ = some (.pointer (some ⟨r, 0, none⟩)) ∧ w'.cell? ⟨r, 0, none⟩ = some (.slice av n cv)) (first | (with_reducible exact ⟨x0, x1, hcr⟩) | (with_reducible exact KA.out) | go_keep) (first
    | (go_at_call 12; (with_reducible refine (HLn.out _ (Below.refl _ _).drew).mono ?_); rintro e w1 ⟨rfl, hb1⟩; have O1 : Hid (Below wA.heap.size wA w1) := bstep (Below.refl _ _).drew hb1; have KA : Hid (w1.cell? ⟨x, 0, none⟩ = some (.pointer (some ⟨c, 0, none⟩)) ∧ w1.cell? ⟨x, 1, none⟩ = some (.pointer (some ⟨r, 0, none⟩)) ∧ w1.cell? ⟨r, 0, none⟩ = some (.slice av n cv)) := HCr.out w1 O1.out; clear hb1))
  go_wp2_with fail
  go_ret
  have hb : Below w.heap.size w w1 := bstep HA.out.2 O1.out
  have hq : Pq CA w X x := ⟨⟨F, D, c, r, K, H.out.2.2.2.2.2.2.2.2.2, H.out.1, H.out.2.1, H.out.2.2.1, H.out.2.2.2.1, H.out.2.2.2.2.1, H.out.2.2.2.2.2.1, H.out.2.2.2.2.2.2.1⟩, H.out.2.2.2.2.2.2.2.1, H.out.2.2.2.2.2.2.2.2.1⟩
  exact ⟨by simp, hq.nwF_later C hb⟩
end Go.Proofs.YtddaoloabfkheaaGreatDoor

namespace Go.Proofs.YtddaoloabfkheaaGreatDoor
open Go.RowKit
attribute [local go_sem] Oper.semAt_some

set_option maxRecDepth 100000 in
set_option maxHeartbeats 16000000 in
theorem step_save {CA : World → (Nat → Prop) → Nat → List Lb → Prop} (C : CcP CA) {w : World} {X : Nat → Prop} {x : Nat} (h : Pq CA w X x) (E : Ev w) (hX : ∀ k, X k → 4 ≤ k) (s : Stp) (hk : s.kind = 2) :
    Calls Tryz.prog 21 #[.pointer (some ⟨x, 0, none⟩), s.val] w (StP CA w X x) := by
  obtain ⟨⟨F, D, c, r, K, h1, h2, h3, h4, h5, h6, h7, h8⟩, own, lt⟩ := h
  have hxl : x < w.heap.size := lt x own
  obtain ⟨sc, kd, p, t⟩ := s
  simp only at hk
  subst hk
  have H : Hid (CA w F c K ∧ RC w D r K ∧ (∀ k, F k → ¬ D k) ∧ ¬ F x ∧ ¬ D x ∧ (∀ k, F k → X k) ∧ (∀ k, D k → X k) ∧ X x ∧ (∀ k, X k → k < w.heap.size) ∧ w.heap[x]? = some (.cells #[.pointer (some ⟨c, 0, none⟩), .pointer (some ⟨r, 0, none⟩)] 60 (0, 0))) := ⟨h2, h3, h4, h5, h6, h7, h8, own, lt, h1⟩
  have HE : Hid (Ev w ∧ ∀ k, X k → 4 ≤ k) := ⟨E, hX⟩
  obtain ⟨G, hG⟩ : ∃ G, w.heap.size = G := ⟨_, rfl⟩
  obtain ⟨wA, hwA⟩ : ∃ wA, w.alloc (.cells #[.bool sc, .int .i64 2, .string (bs p), .string (bs t)] 40) = wA := ⟨_, rfl⟩
  have HA : Hid (SB wA G ⟨sc, 2, p, t⟩ ∧ Below w.heap.size w wA) := by rw [← hwA, ← hG]; exact ⟨SB.new w ⟨sc, 2, p, t⟩, balloc _ _⟩
  -- what is there at any world where F and D alone changed
  have HCs : Hid (∀ W, OnlyP (fun k => F k ∨ D k) wA W → (W.cell? ⟨x, 0, none⟩ = some (.pointer (some ⟨c, 0, none⟩)) ∧ W.cell? ⟨x, 1, none⟩ = some (.pointer (some ⟨r, 0, none⟩)) ∧ W.cell? ⟨G, 2, none⟩ = some (.string (bs p)) ∧ W.cell? ⟨G, 3, none⟩ = some (.string (bs t)))) := fun W hW => by
    have hx : W.heap[x]? = some (.cells #[.pointer (some ⟨c, 0, none⟩), .pointer (some ⟨r, 0, none⟩)] 60 (0, 0)) := (hW.block x (Nat.lt_of_lt_of_le hxl HA.out.2.size) (fun e => e.elim h5 h6)).trans ((HA.out.2.block x hxl).trans h1)
    have hg := (HA.out.1.only hW (fun e => e.elim (fun e => absurd (lt _ (h7 _ e)) (by omega)) (fun e => absurd (lt _ (h8 _ e)) (by omega)))).cells
    exact ⟨by simp [World.cell?, hx], by simp [World.cell?, hx], hg.2.1, hg.2.2⟩
  obtain ⟨x0, x1, s2, s3⟩ := HCs.out wA (OnlyP.refl _ _)
  have s1 := HA.out.1.cells.1
  simp only at s1
  clear h1 h2 h3 h4 h5 h6 h7 h8 own lt hxl E hX
  simp only [Stp.val]
  have HSv : Hid (∀ W, Below wA.heap.size wA W → Calls Tryz.prog 14 #[.pointer (some ⟨c, 0, none⟩)] W fun e w' => ∃ v', e = .returned v' ∧ OwnB W.heap.size w' v' (savB K) ∧ Below W.heap.size W w') := fun W hW => C.save (C.later H.out.1 (bstep HA.out.2 hW)) (HE.out.1.later (bstep HA.out.2 hW))
  have HSr : Hid (∀ W, Below wA.heap.size wA W → Calls Tryz.prog 52 #[.pointer (some ⟨r, 0, none⟩)] W fun e w' => ∃ v', e = .returned v' ∧ OwnB W.heap.size w' v' (savB K) ∧ Below W.heap.size W w') := fun W hW => rsave_any (H.out.2.1.later (bstep HA.out.2 hW))
  have HCb : Hid (∀ W, Below wA.heap.size wA W → (W.cell? ⟨x, 0, none⟩ = some (.pointer (some ⟨c, 0, none⟩)) ∧ W.cell? ⟨x, 1, none⟩ = some (.pointer (some ⟨r, 0, none⟩)))) := fun W hW => ⟨(HCs.out W (OnlyP.of_below hW _)).1, (HCs.out W (OnlyP.of_below hW _)).2.1⟩
  have HOk : Hid (OKK K ∧ (savB K).length ≤ 4000000000) := ⟨H.out.2.1.ok, savB_le H.out.2.1.ok⟩
  obtain ⟨b, hb⟩ : ∃ b, savB K = b := ⟨_, rfl⟩
  rw [hb] at HSv HSr HOk
  have HB : Hid (savB K = b) := hb
  clear hb s2 s3
  go_enter Tryz.func21, Tryz.ntmps21
  go_wp2_with fail
  refine (HSv.out _ (Below.refl _ _)).mono ?_
  rintro e w1 ⟨v1, rfl, ho1, hb1⟩
  obtain ⟨y0, y1⟩ := HCb.out w1 hb1
  have H1 : Hid (BS w1 v1 b ∧ Below wA.heap.size wA w1) := ⟨ho1.bs, hb1⟩
  have HS2 : Hid (∀ W, Below w1.heap.size w1 W → Calls Tryz.prog 52 #[.pointer (some ⟨r, 0, none⟩)] W fun e w' => ∃ v', e = .returned v' ∧ OwnB W.heap.size w' v' b ∧ Below W.heap.size W w') := fun W hW => HSr.out W (bstep H1.out.2 hW)
  have HC1 : Hid (∀ W, Below w1.heap.size w1 W → W.cell? ⟨x, 1, none⟩ = some (.pointer (some ⟨r, 0, none⟩)) ∧ (convert 41 9 v1).run Tryz.prog W = .ok (.string (bs b)) W) := fun W hW => ⟨(HCb.out W (bstep H1.out.2 hW)).2, conv_bs (H1.out.1.later hW)⟩
  have hq1 : ((bs b).toList == (bs b).toList) = true := by simp
  clear ho1 hb1 x0 x1 s1
  go_wp2_with fail
  refine wp_region_noPanic ?_
  refine wp_region_held_drew (S := fun W' => W'.cell? ⟨x, 1, none⟩ = some (.pointer (some ⟨r, 0, none⟩)) ∧ (convert 41 9 v1).run Tryz.prog W' = .ok (.string (bs b)) W') (by kernel_rfl) (by exact HC1.out _ (bd1 w1)) (fun hHeld => ?_)
  refine wpAnyH_take (i := 0) (oi := { dst := some 85, op := _, type := _, pos := _, after := _, guard := _ }) (v := ?vx1) rfl (by kernel_rfl) (by kernel_rfl) (by kernel_rfl) (fun _ _ _ h => h) (Or.inl ⟨by rfl, ?hyx1⟩) (by assumption) ?restx1
  case hyx1 => (intro w hSw; (try dsimp only at hSw); go_simp; try with_reducible rfl)
  try simp only [Act.put, List.setIfInBounds_toArray, List.set_cons_zero, List.set_cons_succ]
  refine wpAnyH_take (i := 1) (oi := { dst := some 86, op := _, type := _, pos := _, after := _, guard := _ }) (v := ?vx2) rfl (by kernel_rfl) (by kernel_rfl) (by kernel_rfl) (fun _ _ _ h => h) (Or.inl ⟨by rfl, ?hyx2⟩) (by assumption) ?restx2
  case hyx2 => (intro w hSw; (try dsimp only at hSw); go_simp; try with_reducible rfl)
  try simp only [Act.put, List.setIfInBounds_toArray, List.set_cons_zero, List.set_cons_succ]
  refine wpAnyH_take (i := 2) (oi := { dst := some 87, op := _, type := _, pos := _, after := _, guard := _ }) (v := ?vx3) rfl (by kernel_rfl) (by kernel_rfl) (by kernel_rfl) (fun _ _ _ h => h) (Or.inl ⟨by rfl, ?hyx3⟩) (by assumption) ?restx3
  case hyx3 => (intro w hSw; (try dsimp only at hSw); go_simp; try with_reducible rfl)
  try simp only [Act.put, List.setIfInBounds_toArray, List.set_cons_zero, List.set_cons_succ]
  refine wpAnyH_take (i := 3) (oi := { dst := some 88, op := _, type := _, pos := _, after := _, guard := _ }) (v := ?vx4) rfl (by kernel_rfl) (by kernel_rfl) (by kernel_rfl) (fun _ _ _ h => h) (Or.inl ⟨by rfl, ?hyx4⟩) (by assumption) ?restx4
  case hyx4 => (intro w hSw; (try dsimp only at hSw); go_simp; try with_reducible rfl)
  try simp only [Act.put, List.setIfInBounds_toArray, List.set_cons_zero, List.set_cons_succ]
  refine wpAnyH_take (i := 4) (oi := { dst := some 89, op := _, type := _, pos := _, after := _, guard := _ }) (v := ?vx5) rfl (by kernel_rfl) (by kernel_rfl) (by kernel_rfl) (fun _ _ _ h => h) (Or.inl ⟨by rfl, ?hyx5⟩) (by assumption) ?restx5
  case hyx5 => (intro w hSw; (try dsimp only at hSw); go_simp; try with_reducible rfl)
  try simp only [Act.put, List.setIfInBounds_toArray, List.set_cons_zero, List.set_cons_succ]
  refine wpAnyH_take (i := 5) (oi := { dst := some 90, op := _, type := _, pos := _, after := _, guard := _ }) (v := ?vx6) rfl (by kernel_rfl) (by kernel_rfl) (by kernel_rfl) (fun _ _ _ h => h) (Or.inl ⟨by rfl, ?hyx6⟩) (by assumption) ?restx6
  case hyx6 => (intro w hSw; (try dsimp only at hSw); go_simp; try with_reducible rfl)
  try simp only [Act.put, List.setIfInBounds_toArray, List.set_cons_zero, List.set_cons_succ]
  refine wpAnyH_ready (rs := [6]) (by kernel_rfl) (by simp) ?_
  refine AllReadyH.cons (o := { dst := some 91, op := _, type := _, pos := _, after := _, guard := _ }) rfl (fun K hK => ?_) AllReadyH.nil
  go_simp
  with_reducible refine (HS2.out w1.drew (bd1 w1)).mono ?_
  rintro e w2 ⟨v2, rfl, ho2, hb2⟩
  have O2 : Hid (Below w1.heap.size w1 w2) := bstep (bd1 w1) hb2
  have hv2 : (convert 41 9 v2).run Tryz.prog w2 = .ok (.string (bs b)) w2 := conv_bs ho2.bs
  clear hb2 ho2
  refine hK.out _ _ (HC1.out w2 O2.out) (fun hHeld => ?_)
  clear hK K
  try simp only [List.setIfInBounds_toArray, List.set_cons_zero, List.set_cons_succ]
  refine wpAnyH_ready (rs := [7]) (by kernel_rfl) (by simp) ?_
  refine AllReadyH.cons (o := { dst := some 92, op := _, type := _, pos := _, after := _, guard := _ }) rfl (fun K hK => ?_) AllReadyH.nil
  go_simp
  refine hK.out _ _ (HC1.out w2 O2.out) (fun hHeld => ?_)
  clear hK K
  try simp only [List.setIfInBounds_toArray, List.set_cons_zero, List.set_cons_succ]
  refine wpAnyH_take (i := 8) (oi := { dst := some 93, op := _, type := _, pos := _, after := _, guard := _ }) (v := ?vx7) rfl (by kernel_rfl) (by kernel_rfl) (by kernel_rfl) (fun _ _ _ h => h) (Or.inl ⟨by rfl, ?hyx7⟩) (by assumption) ?restx7
  case hyx7 => (intro w hSw; (try dsimp only at hSw); go_simp; try with_reducible rfl)
  try simp only [Act.put, List.setIfInBounds_toArray, List.set_cons_zero, List.set_cons_succ]
  refine wpAnyH_done (by kernel_rfl) ?_ _
  refine NoPanic.normal ?_
  clear hHeld
  go_wp2_with fail
  refine (C.load (H1.out.1.later O2.out) (HE.out.1.later (bstep HA.out.2 (bstep H1.out.2 O2.out))) HOk.out.2).mono ?_
  rintro e w3 ⟨hb3, ⟨K3, g3, ok3, e3, rfl, hc3⟩ | ⟨hno, _⟩⟩
  · obtain rfl : K3 = K := savB_inj ok3 HOk.out.1 (e3.trans HB.out.symm)
    have O3 : Hid (CA w3 (fun k => w2.heap.size ≤ k ∧ k < w3.heap.size) g3 K3 ∧ Below w.heap.size w w3 ∧ w.heap.size ≤ w2.heap.size ∧ w.heap.size < w2.heap.size) := ⟨hc3, bstep HA.out.2 (bstep H1.out.2 (bstep O2.out hb3)), (bstep HA.out.2 (bstep H1.out.2 O2.out)).size, Nat.lt_of_lt_of_le (by have := HA.out.1.lt; rw [← hG] at this; exact this) (bstep H1.out.2 O2.out).size⟩
    clear hb3 hc3 ok3 e3
    have hxw := H.out.2.2.2.2.2.2.2.2.1 x H.out.2.2.2.2.2.2.2.1
    have hx3 : w3.heap[x]? = some (.cells #[.pointer (some ⟨c, 0, none⟩), .pointer (some ⟨r, 0, none⟩)] 60 (0, 0)) := (O3.out.2.1.block x hxw).trans H.out.2.2.2.2.2.2.2.2.2
    have z0 : w3.cell? ⟨x, 0, none⟩ = some (.pointer (some ⟨c, 0, none⟩)) := by simp [World.cell?, hx3]
    have zf : w3.frozen? ⟨x, 0, none⟩ = false := by simp [World.frozen?, hx3]
    obtain ⟨w4, hw4⟩ : ∃ w4, w3.setCell ⟨x, 0, none⟩ (.pointer (some ⟨g3, 0, none⟩)) = w4 := ⟨_, rfl⟩
    have hse := Only.set w3 x 0 (.pointer (some ⟨g3, 0, none⟩))
    have hx4 : w4.heap[x]? = some (.cells #[.pointer (some ⟨g3, 0, none⟩), .pointer (some ⟨r, 0, none⟩)] 60 (0, 0)) := by rw [← hw4, heap_setCell _ _ _ _ hx3]; simp
    rw [hw4] at hse
    have hsz : w4.heap.size = w3.heap.size := by rw [← hw4]; simp [World.setCell]
    have ho4 : OnlyP X w w4 := (OnlyP.of_below O3.out.2.1 X).trans (OnlyP.of_only (F := X) hse (fun k hk _ => by have e : k = x := (by simpa using hk); rw [e]; exact H.out.2.2.2.2.2.2.2.1)) (fun _ _ e => e)
    have hq4 : Pq CA w4 (nwF X w w4) x := by
      have hl := H.out.2.2.2.2.2.2.2.2.1
      refine ⟨⟨(fun k => w2.heap.size ≤ k ∧ k < w3.heap.size), D, g3, r, K3, hx4, ?_, ?_, ?_, ?_, H.out.2.2.2.2.1, ?_, fun k hk => .inl (H.out.2.2.2.2.2.2.1 k hk)⟩, .inl H.out.2.2.2.2.2.2.2.1, ?_⟩
      · refine C.stay O3.out.1 (by rw [hsz]; exact Nat.le_refl _) (fun k hk => hse.block k hk.2 ?_)
        have := O3.out.2.2.1
        simp; omega
      · refine (H.out.2.1.later O3.out.2.1).stay (by rw [hsz]; exact Nat.le_refl _) (fun k hk => hse.block k (Nat.lt_of_lt_of_le (hl k (H.out.2.2.2.2.2.2.1 k hk)) O3.out.2.1.size) (fun e => ?_))
        have e : k = x := by simpa using e
        rw [e] at hk; exact H.out.2.2.2.2.1 hk
      · rintro k ⟨h1, _⟩ h2
        have := hl k (H.out.2.2.2.2.2.2.1 k h2)
        have := O3.out.2.2.1
        omega
      · rintro ⟨h1, _⟩
        have := O3.out.2.2.1
        omega
      · rintro k ⟨h1, h2⟩
        have := O3.out.2.2.1
        exact .inr ⟨by omega, by rw [hsz]; exact h2⟩
      · rintro k (e | e)
        · rw [hsz]; exact Nat.lt_of_lt_of_le (hl k e) O3.out.2.1.size
        · exact e.2
    have Q4 : Hid (Pq CA w4 (nwF X w w4) x ∧ OnlyP X w w4) := ⟨hq4, ho4⟩
    have hc4 : CA w4 (fun k => w2.heap.size ≤ k ∧ k < w3.heap.size) g3 K3 := by
      refine C.stay O3.out.1 (by rw [hsz]; exact Nat.le_refl _) (fun k hk => hse.block k hk.2 ?_)
      have := O3.out.2.2.1
      simp; omega
    have hrc4 : RC w4 D r K3 := by
      refine (H.out.2.1.later O3.out.2.1).stay (by rw [hsz]; exact Nat.le_refl _) (fun k hk => hse.block k (Nat.lt_of_lt_of_le (H.out.2.2.2.2.2.2.2.2.1 k (H.out.2.2.2.2.2.2.1 k hk)) O3.out.2.1.size) (fun e => ?_))
      have e : k = x := by simpa using e
      rw [e] at hk; exact H.out.2.2.2.2.1 hk
    obtain ⟨av, cv, hcr, _, _⟩ := hrc4.row
    have HLn : Hid (∀ W, Below w4.heap.size w4 W → Calls Tryz.prog 12 #[.pointer (some ⟨g3, 0, none⟩)] W fun e w' => e = .returned (.int .i64 K3.length) ∧ Below W.heap.size W w') := fun W hW => C.len (C.later hc4 hW)
    have hx4l : x < w4.heap.size := (Array.getElem?_eq_some_iff.1 hx4).1
    have HCr : Hid (∀ W, Below w4.heap.size w4 W → (W.cell? ⟨x, 0, none⟩ = some (.pointer (some ⟨g3, 0, none⟩)) ∧ W.cell? ⟨x, 1, none⟩ = some (.pointer (some ⟨r, 0, none⟩)) ∧ W.cell? ⟨r, 0, none⟩ = some (.slice av K3.length cv))) := fun W hW => ⟨(hW.cell (p := ⟨x, 0, none⟩) hx4l).trans (by simp [World.cell?, hx4]), (hW.cell (p := ⟨x, 1, none⟩) hx4l).trans (by simp [World.cell?, hx4]), (hW.cell (p := ⟨r, 0, none⟩) hrc4.glt).trans hcr⟩
    obtain ⟨x0, x1, _⟩ := HCr.out w4 (Below.refl _ _)
    clear hse hsz ho4 hq4 hc4 hrc4 hx4 hx4l hx3 hxw
    generalize K3.length = n at *
    go_wp2_with fail
    go_region_held3 (fun w' => w'.cell? ⟨x, 0, none⟩ = some (.pointer (some ⟨g3, 0, none⟩)) ∧ w'.cell? ⟨x, 1, none⟩ = some (.pointer (some ⟨r, 0, none⟩)) ∧ w'.cell? ⟨r, 0, none⟩ = some (.slice av n cv)) (first | (with_reducible exact ⟨x0, x1, hcr⟩) | (with_reducible exact KA.out) | go_keep) (first
      | (go_at_call 12; (with_reducible refine (HLn.out _ (Below.refl _ _).drew).mono ?_); rintro e w5 ⟨rfl, hb5⟩; have O5 : Hid (Below w4.heap.size w4 w5) := bstep (Below.refl _ _).drew hb5; have KA : Hid (w5.cell? ⟨x, 0, none⟩ = some (.pointer (some ⟨g3, 0, none⟩)) ∧ w5.cell? ⟨x, 1, none⟩ = some (.pointer (some ⟨r, 0, none⟩)) ∧ w5.cell? ⟨r, 0, none⟩ = some (.slice av n cv)) := HCr.out w5 O5.out; clear hb5))
    go_wp2_with fail
    go_ret
    have hz4 := Q4.out.1.lt
    have hs5 := O5.out.size
    have hs4 := Q4.out.2.size
    refine ⟨by simp, (Q4.out.1.later C O5.out).wider (fun k e => e.elim (fun e => .inl e) (fun e => .inr ⟨e.1, by omega⟩)) ?_, Q4.out.2.trans (OnlyP.of_below O5.out X) (fun _ _ e => e)⟩
    rintro k (e | e)
    · exact Nat.lt_of_lt_of_le (hz4 k (.inl e)) hs5
    · exact e.2
  · exact absurd HB.out (fun e => hno _ HOk.out.1 e)
/-- a step, whatever it is -/
theorem step_any {CA : World → (Nat → Prop) → Nat → List Lb → Prop} (C : CcP CA) {w : World} {X : Nat → Prop} {x : Nat} (h : Pq CA w X x) (E : Ev w) (hX : ∀ k, X k → 4 ≤ k) (s : Stp) (hp : s.p.length ≤ 1000000000) (ht : s.t.length ≤ 1000000000) :
    Calls Tryz.prog 21 #[.pointer (some ⟨x, 0, none⟩), s.val] w (StP CA w X x) := by
  by_cases h0 : s.kind = 0
  · exact step_put C h E hX s h0 hp ht
  · by_cases h1 : s.kind = 1
    · exact step_get C h E hX s h1 hp ht
    · by_cases h2 : s.kind = 2
      · exact step_save C h E hX s h2
      · exact step_len C h E hX s h0 h1 h2
end Go.Proofs.YtddaoloabfkheaaGreatDoor
