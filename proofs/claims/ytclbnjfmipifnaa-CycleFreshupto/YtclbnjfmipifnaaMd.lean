/-
  Edges as they come in; the graphs that are made of them.
-/
import Derived.Test.YtclbnjfmipifnaaDf2
import Derived.Test.YtclbnjfmipifnaaJCt
namespace Go.Proofs.Ytclbnjfmipifnaa
open Go.RowKit Go.Maps

/-- an edge, or a node alone -/
structure Ein where
  a : Lb
  b : Lb
  alone : Bool
def eic : List Ein → List Value
  | [] => []
  | s :: r => .string (bs s.a.pkg) :: .string (bs s.a.name) :: .string (bs s.b.pkg) :: .string (bs s.b.name) :: .bool s.alone :: eic r
theorem eic_length : ∀ l, (eic l).length = l.length * 5
  | [] => rfl
  | f :: r => by simp only [eic, List.length_cons, eic_length r]; omega
theorem eic_get : ∀ (l : List Ein) (k : Nat) (h : k < l.length), (eic l)[k * 5]? = some (.string (bs l[k].a.pkg)) ∧ (eic l)[k * 5 + 1]? = some (.string (bs l[k].a.name)) ∧ (eic l)[k * 5 + 2]? = some (.string (bs l[k].b.pkg)) ∧ (eic l)[k * 5 + 3]? = some (.string (bs l[k].b.name)) ∧ (eic l)[k * 5 + 4]? = some (.bool l[k].alone)
  | f :: r, 0, _ => ⟨rfl, rfl, rfl, rfl, rfl⟩
  | f :: r, k + 1, h => by
    have ih := eic_get r k (by simpa using h)
    rw [show (k + 1) * 5 = k * 5 + 5 by omega]
    simp only [eic, List.getElem_cons_succ]
    exact ⟨ih.1, ih.2.1, ih.2.2.1, ih.2.2.2.1, ih.2.2.2.2⟩
/-- a slice of them reads as a list -/
def TE (w : World) (v : Value) (l : List Ein) : Prop :=
  ((∃ a c, v = .slice a 0 c) ∧ l = []) ∨
  ∃ b off cap, v = .slice (some ⟨b, off, none⟩) l.length cap ∧ l.length ≤ cap ∧ b < w.heap.size ∧ ∀ i u, (eic l)[i]? = some u → w.cell? ⟨b, off + i, none⟩ = some u
theorem TE.later {w w' : World} {v : Value} {l : List Ein} (h : TE w v l) (hb : Below w.heap.size w w') : TE w' v l := by
  rcases h with h | ⟨b, off, cap, rfl, hc, hlt, hcell⟩
  · exact .inl h
  · exact .inr ⟨b, off, cap, rfl, hc, Nat.lt_of_lt_of_le hlt hb.size, fun i u hu => (hb.cell (p := ⟨b, off + i, none⟩) hlt).trans (hcell i u hu)⟩
theorem TE.form {w : World} {v : Value} {l : List Ein} (h : TE w v l) : ∃ a c, v = .slice a l.length c := by
  rcases h with ⟨⟨a, c, rfl⟩, rfl⟩ | ⟨b, off, cap, rfl, _⟩
  · exact ⟨_, _, rfl⟩
  · exact ⟨_, _, rfl⟩
theorem TE.at {w : World} {a : Option Addr} {c n : Nat} {l : List Ein} (h : TE w (.slice a n c) l) {k : Nat} (hk : k < l.length) : ∃ b off, a = some ⟨b, off, none⟩ ∧ b < w.heap.size ∧ ∀ wr, Below w.heap.size w wr →
    wr.cell? ⟨b, off + k * 5, none⟩ = some (.string (bs l[k].a.pkg)) ∧ wr.cell? ⟨b, off + k * 5 + 1, none⟩ = some (.string (bs l[k].a.name)) ∧ wr.cell? ⟨b, off + k * 5 + 2, none⟩ = some (.string (bs l[k].b.pkg)) ∧ wr.cell? ⟨b, off + k * 5 + 3, none⟩ = some (.string (bs l[k].b.name)) ∧ wr.cell? ⟨b, off + k * 5 + 4, none⟩ = some (.bool l[k].alone) := by
  rcases h with ⟨_, rfl⟩ | ⟨b, off, cap, e, hc, hlt, hcell⟩
  · simp at hk
  · injection e with e1 e2 e3
    subst e1
    refine ⟨b, off, rfl, hlt, fun wr hb => ?_⟩
    have hr : ∀ o, wr.cell? ⟨b, o, none⟩ = w.cell? ⟨b, o, none⟩ := fun o => hb.cell (p := ⟨b, o, none⟩) hlt
    obtain ⟨c0, c1, c2, c3, c4⟩ := eic_get l k hk
    simp only [hr, Nat.add_assoc]
    exact ⟨hcell _ _ c0, hcell _ _ c1, hcell _ _ c2, hcell _ _ c3, hcell _ _ c4⟩
/-- what a machine has -/
structure EEm (l : List Ein) : Prop where
  len : l.length ≤ 4194304
  each : ∀ s ∈ l, Lu s.a ∧ Lu s.b
/-- the nodes and the edges -/
def estp (p : List Lb × List Ee) (e : Ein) : List Lb × List Ee := if e.alone then (addN p.1 e.a, p.2) else (addN (addN p.1 e.a) e.b, addE p.2 (e.a, e.b))
def mg (l : List Ein) : List Lb × List Ee := l.foldl estp ([], [])
theorem mg_snoc (l : List Ein) (e : Ein) : mg (l ++ [e]) = estp (mg l) e := by simp [mg]
theorem addN_leq (N : List Lb) (a : Lb) : (addN N a).length ≤ N.length + 1 := by unfold addN; split <;> simp
theorem OnlyP.mono {F G : Nat → Prop} {w w' : World} (h : OnlyP F w w') (hF : ∀ k, F k → G k) : OnlyP G w w' := ⟨h.os, h.tape, h.output, h.size, fun k hk hn => h.block k hk (fun hf => hn (hF k hf))⟩
/-- both graphs, in blocks from B on -/
structure Pz (B : Nat) (w : World) (g d : Nat) (N : List Lb) (E : List Ee) : Prop where
  it : ∃ F D ns out, Bt w F g ns out D d N E ∧ (∀ k, F k → ¬ D k) ∧ (∀ k, F k → B ≤ k) ∧ (∀ k, D k → B ≤ k)
section
variable {B : Nat} {w w' : World} {g d : Nat} {N : List Lb} {E : List Ee}
theorem Pz.later (h : Pz B w g d N E) (hb : Below w.heap.size w w') : Pz B w' g d N E := by
  obtain ⟨F, D, ns, out, h1, h2⟩ := h
  exact ⟨F, D, ns, out, h1.later hb, h2⟩
theorem Pz.pg (h : Pz B w g d N E) : PG B w g N E := by
  obtain ⟨F, D, ns, out, h1, h2, h3, h4⟩ := h
  exact ⟨⟨F, ns, out, h1.gr, h1.lk, h3⟩, h1.dg.sub⟩
theorem Pz.dg (h : Pz B w g d N E) : ∃ D, DG w D d N E ∧ ∀ k, D k → B ≤ k := by
  obtain ⟨F, D, ns, out, h1, h2, h3, h4⟩ := h
  exact ⟨D, h1.dg, h4⟩
theorem Bt.nlen {F D : Nat → Prop} {ns : List Lb} {out : Lb → List Lb} (h : Bt w F g ns out D d N E) : ns.length ≤ N.length := Gs.nodup_sub _ _ h.gr.nd (fun b hb => (h.lk.nm b).1 hb)
theorem Pz.edge (h : Pz B w g d N E) (hB : B ≤ w.heap.size) (a b : Lb) (ha : Lu a) (hb : Lu b) (hn : N.length ≤ 10000) (he : E.length ≤ 10000) :
    Calls Try.prog 24 #[.pointer (some ⟨g, 0, none⟩), a.val, b.val] w fun e w1 => e = .returned (.tuple #[]) ∧ Below B w w1 ∧ ∀ W, Below w1.heap.size w1 W →
      Calls Try.prog 28 #[.pointer (some ⟨d, 0, none⟩), a.val, b.val] W fun e w2 => e = .returned (.tuple #[]) ∧ Below B W w2 ∧ Pz B w2 g d (addN (addN N a) b) (addE E (a, b)) := by
  obtain ⟨F, D, ns, out, bt, dis, hF, hD⟩ := h
  have hln := bt.nlen
  refine (edge_any bt.gr a b ha hb (by omega)).mono fun e w1 ⟨k1, k2, k3⟩ => ⟨k1, k3.below hB hF, fun W hW => ?_⟩
  have dg1 : DG W D d N E := (bt.dg.only k3 (fun k hk hf => dis k hf hk)).later hW
  have hs1 := k3.size
  have hs2 := hW.size
  refine (dedge_any dg1 a b ha hb (by omega) (by omega)).mono fun e w2 ⟨m1, m2, m3⟩ => ⟨m1, m3.below (by omega) hD, ?_⟩
  have hs3 := m3.size
  have hfl := bt.gr.lt
  have hdl := bt.dg.lt
  have l1 := addN_leq ns a
  have l2 := addN_leq (addN ns a) b
  refine ⟨nw F w w1, nw D W w2, _, _, ⟨(k2.later hW).only m3 ?_, m2, bt.lk.edge a b, by omega⟩, ?_, ?_, ?_⟩
  · rintro k (hk | hk) hd
    · exact dis k hk hd
    · have := hdl k hd; omega
  · rintro k (hk | hk) (hd | hd)
    · exact dis k hk hd
    · have := hfl k hk; omega
    · have := hdl k hd; omega
    · omega
  · rintro k (hk | hk)
    · exact hF k hk
    · omega
  · rintro k (hk | hk)
    · exact hD k hk
    · omega
theorem Pz.node (h : Pz B w g d N E) (hB : B ≤ w.heap.size) (a : Lb) (ha : Lu a) (hn : N.length ≤ 10000) :
    Calls Try.prog 26 #[.pointer (some ⟨g, 0, none⟩), a.val] w fun e w1 => e = .returned (.tuple #[]) ∧ Below B w w1 ∧ ∀ W, Below w1.heap.size w1 W →
      Calls Try.prog 27 #[.pointer (some ⟨d, 0, none⟩), a.val] W fun e w2 => e = .returned (.tuple #[]) ∧ Below B W w2 ∧ Pz B w2 g d (addN N a) E := by
  obtain ⟨F, D, ns, out, bt, dis, hF, hD⟩ := h
  have hln := bt.nlen
  refine (node_any bt.gr a ha (by omega)).mono fun e w1 ⟨k1, k2, k3⟩ => ⟨k1, k3.below hB hF, fun W hW => ?_⟩
  have dg1 : DG W D d N E := (bt.dg.only k3 (fun k hk hf => dis k hf hk)).later hW
  have hs1 := k3.size
  have hs2 := hW.size
  refine (dnode_any dg1 a ha (by omega)).mono fun e w2 ⟨m1, m2, m3⟩ => ⟨m1, m3.below (by omega) hD, ?_⟩
  have hs3 := m3.size
  have hfl := bt.gr.lt
  have hdl := bt.dg.lt
  have l1 := addN_leq ns a
  refine ⟨nw F w w1, nw D W w2, _, _, ⟨(k2.later hW).only m3 ?_, m2, bt.lk.node a, by omega⟩, ?_, ?_, ?_⟩
  · rintro k (hk | hk) hd
    · exact dis k hk hd
    · have := hdl k hd; omega
  · rintro k (hk | hk) (hd | hd)
    · exact dis k hk hd
    · have := hfl k hk; omega
    · have := hdl k hd; omega
    · omega
  · rintro k (hk | hk)
    · exact hF k hk
    · omega
  · rintro k (hk | hk)
    · exact hD k hk
    · omega
end
set_option maxRecDepth 100000 in
set_option maxHeartbeats 8000000 in
theorem made_any {w : World} {v : Value} {l : List Ein} (h : TE w v l) (hm : EEm l) :
    Calls Try.prog 7 #[v] w fun e w' => ∃ g d, e = .returned (.tuple #[.pointer (some ⟨g, 0, none⟩), .pointer (some ⟨d, 0, none⟩)]) ∧ Pz w.heap.size w' g d (mg (l.take 60)).1 (mg (l.take 60)).2 ∧ (mg (l.take 60)).1.length ≤ 120 ∧ (mg (l.take 60)).2.length ≤ 60 ∧ Below w.heap.size w w' := by
  have H : Hid (TE w v l ∧ EEm l) := ⟨h, hm⟩
  obtain ⟨n, hn⟩ : ∃ n, l.length = n := ⟨_, rfl⟩
  obtain ⟨av, cv, hvv⟩ := h.form
  rw [hn] at hvv
  subst hvv
  have HN : Hid (l.length = n) := hn
  have hnz : n ≤ 4194304 := by rw [← hn]; exact hm.len
  have HNEW : Hid (Calls Try.prog 23 #[] w fun e w' => ∃ g, e = .returned (.pointer (some ⟨g, 0, none⟩)) ∧ GR w' (fun k => w.heap.size ≤ k ∧ k < w'.heap.size) g [] (fun _ => []) ∧ Below w.heap.size w w') := new_any w
  clear h hm hn
  go_enter Try.func7, Try.ntmps7
  go_wp2_with fail
  refine HNEW.out.mono ?_
  rintro e w1 ⟨g, rfl, hg, hb1⟩
  have HZ : Hid (Pz w.heap.size (w1.alloc (.cells #[.slice none 0 0, .slice none 0 0] 43)) g w1.heap.size [] [] ∧ Below w.heap.size w (w1.alloc (.cells #[.slice none 0 0, .slice none 0 0] 43))) := by
    refine ⟨⟨_, _, [], fun _ => [], ⟨hg.later (balloc _ _), DG.new w1, Lnk.new, by simp⟩, fun k hk e => ?_, fun k hk => hk.1, fun k hk => ?_⟩, bstep hb1 (balloc _ _)⟩
    · have : k = w1.heap.size := e
      omega
    · have : k = w1.heap.size := hk
      have := hb1.size
      omega
  clear hg hb1 HNEW
  have hn0 : (0 : Int) ≤ (n : Int) := by omega
  go_wp2_with fail
  obtain ⟨d, hd⟩ : ∃ d, w1.heap.size = d := ⟨_, rfl⟩
  rw [hd] at HZ ⊢
  clear hd
  go_loopw [6] (fun s6 wr => ∃ k : Nat, s6 = .int .i64 (k : Int) ∧ k ≤ n ∧ k ≤ 60 ∧ Pz w.heap.size wr g d (mg (l.take k)).1 (mg (l.take k)).2 ∧ (mg (l.take k)).1.length ≤ 2 * k ∧ (mg (l.take k)).2.length ≤ k ∧ Below w.heap.size w wr) (fun s6 _ => n - (intOf s6).toNat)
  case atStart => exact ⟨0, rfl, by omega, by omega, by simpa [mg] using HZ.out.1, by simp [mg], by simp [mg], HZ.out.2⟩
  case round =>
    clear HZ
    obtain ⟨k, rfl, hk, hk6, hP, hl1, hl2, hb⟩ := hrel
    have HX : Hid (Pz w.heap.size wr g d (mg (l.take k)).1 (mg (l.take k)).2 ∧ (mg (l.take k)).1.length ≤ 2 * k ∧ (mg (l.take k)).2.length ≤ k ∧ Below w.heap.size w wr) := ⟨hP, hl1, hl2, hb⟩
    clear hP hl1 hl2 hb
    by_cases hlt : k < n
    · by_cases h60 : k < 60
      · have hkl : k < l.length := by rw [HN.out]; exact hlt
        obtain ⟨b, off, ea, hbw, hc⟩ := TE.at H.out.1 hkl
        subst ea
        obtain ⟨x, hx⟩ : ∃ x, l[k] = x := ⟨_, rfl⟩
        rw [hx] at hc
        have HC : Hid (∀ wr, Below w.heap.size w wr → wr.cell? ⟨b, off + k * 5, none⟩ = some (.string (bs x.a.pkg)) ∧ wr.cell? ⟨b, off + k * 5 + 1, none⟩ = some (.string (bs x.a.name)) ∧ wr.cell? ⟨b, off + k * 5 + 2, none⟩ = some (.string (bs x.b.pkg)) ∧ wr.cell? ⟨b, off + k * 5 + 3, none⟩ = some (.string (bs x.b.name)) ∧ wr.cell? ⟨b, off + k * 5 + 4, none⟩ = some (.bool x.alone)) := hc
        have HU : Hid (Lu x.a ∧ Lu x.b) := by
          have h9 := H.out.2.each x (by rw [← hx]; exact List.getElem_mem hkl)
          exact h9
        have HT : Hid (mg (l.take (k + 1)) = estp (mg (l.take k)) x) := by
          show mg (l.take (k + 1)) = _
          rw [List.take_succ_eq_append_getElem hkl, mg_snoc, hx]
        obtain ⟨c0, c1, c2, c3, c4⟩ := hc wr HX.out.2.2.2
        have g1 : (k : Int) < (n : Int) := by omega
        have g2 : (k : Int) < 60 := by omega
        have g3 : decide ((k : Int) < (n : Int)) = true := by simp; omega
        have g0 : (0 : Int) ≤ (k : Int) := by omega
        clear hc hx
        obtain ⟨⟨p, m⟩, ⟨q, r⟩, al⟩ := x
        simp only at c0 c1 c2 c3 c4 HC HU HT
        cases al with
        | true =>
          have HND : Hid (Calls Try.prog 26 #[.pointer (some ⟨g, 0, none⟩), .agg #[.string (bs p), .string (bs m)]] wr fun e w1 => e = .returned (.tuple #[]) ∧ Below w.heap.size wr w1 ∧ ∀ W, Below w1.heap.size w1 W → Calls Try.prog 27 #[.pointer (some ⟨d, 0, none⟩), .agg #[.string (bs p), .string (bs m)]] W fun e w2 => e = .returned (.tuple #[]) ∧ Below w.heap.size W w2 ∧ Pz w.heap.size w2 g d (addN (mg (l.take k)).1 ⟨p, m⟩) (mg (l.take k)).2) := HX.out.1.node HX.out.2.2.2.size ⟨p, m⟩ HU.out.1 (by have := HX.out.2.1; omega)
          go_wp2_with fail
          refine HND.out.mono ?_
          rintro e w2 ⟨rfl, hb2, hnx⟩
          have HB2 : Hid (Below w.heap.size w w2) := below_trans HX.out.2.2.2 hb2
          have HNX : Hid (Calls Try.prog 27 #[.pointer (some ⟨d, 0, none⟩), .agg #[.string (bs p), .string (bs m)]] w2 fun e w3 => e = .returned (.tuple #[]) ∧ Below w.heap.size w2 w3 ∧ Pz w.heap.size w3 g d (addN (mg (l.take k)).1 ⟨p, m⟩) (mg (l.take k)).2) := hnx w2 (Below.refl _ _)
          clear hb2 hnx HND c0 c1 c2 c3 c4
          obtain ⟨c0, c1, _, _, _⟩ := HC.out w2 HB2.out
          go_wp2_with fail
          refine HNX.out.mono ?_
          rintro e w3 ⟨rfl, hb3, hz3⟩
          have HB3 : Hid (Below w.heap.size w w3 ∧ Pz w.heap.size w3 g d (mg (l.take (k + 1))).1 (mg (l.take (k + 1))).2 ∧ (mg (l.take (k + 1))).1.length ≤ 2 * (k + 1) ∧ (mg (l.take (k + 1))).2.length ≤ k + 1) := by
            rw [HT.out]
            refine ⟨below_trans HB2.out hb3, hz3, ?_, ?_⟩
            · have h9 := addN_leq (mg (l.take k)).1 ⟨p, m⟩
              have := HX.out.2.1
              show (addN (mg (l.take k)).1 ⟨p, m⟩).length ≤ _
              omega
            · have := HX.out.2.2.1
              show (mg (l.take k)).2.length ≤ _
              omega
          clear hb3 hz3 HNX
          go_wp2_with fail
          go_roundw
          case rel => exact ⟨k + 1, by go_num, by omega, by omega, HB3.out.2.1, HB3.out.2.2.1, HB3.out.2.2.2, HB3.out.1⟩
          case measure => simp [intOf]; omega
        | false =>
          have HND : Hid (∀ W, Below wr.heap.size wr W → Calls Try.prog 24 #[.pointer (some ⟨g, 0, none⟩), .agg #[.string (bs p), .string (bs m)], .agg #[.string (bs q), .string (bs r)]] W fun e w1 => e = .returned (.tuple #[]) ∧ Below w.heap.size W w1 ∧ ∀ W', Below w1.heap.size w1 W' → Calls Try.prog 28 #[.pointer (some ⟨d, 0, none⟩), .agg #[.string (bs p), .string (bs m)], .agg #[.string (bs q), .string (bs r)]] W' fun e w2 => e = .returned (.tuple #[]) ∧ Below w.heap.size W' w2 ∧ Pz w.heap.size w2 g d (addN (addN (mg (l.take k)).1 ⟨p, m⟩) ⟨q, r⟩) (addE (mg (l.take k)).2 (⟨p, m⟩, ⟨q, r⟩))) := fun W hW => (HX.out.1.later hW).edge (bstep HX.out.2.2.2 hW).size ⟨p, m⟩ ⟨q, r⟩ HU.out.1 HU.out.2 (by have := HX.out.2.1; omega) (by have := HX.out.2.2.1; omega)
          go_wp2_with fail
          go_region_held3 (fun w' => (w'.cell? ⟨b, off + k * 5, none⟩ = some (.string (bs p)) ∧ w'.cell? ⟨b, off + k * 5 + 1, none⟩ = some (.string (bs m)) ∧ w'.cell? ⟨b, off + k * 5 + 2, none⟩ = some (.string (bs q)) ∧ w'.cell? ⟨b, off + k * 5 + 3, none⟩ = some (.string (bs r)))) (first | (with_reducible exact ⟨c0, c1, c2, c3⟩) | (with_reducible exact KS1.out) | go_keep) (first | (go_at_call 24; (with_reducible refine (HND.out _ (by first | exact Below.refl _ _ | exact (Below.refl _ _).drew)).mono ?_); rintro e w2 ⟨rfl, hb2, hnx⟩; have HB2 : Hid (Below w.heap.size w w2) := below_trans HX.out.2.2.2 ⟨hb2.os, hb2.tape, hb2.output, hb2.size, hb2.block⟩; have KS1 : Hid (w2.cell? ⟨b, off + k * 5, none⟩ = some (.string (bs p)) ∧ w2.cell? ⟨b, off + k * 5 + 1, none⟩ = some (.string (bs m)) ∧ w2.cell? ⟨b, off + k * 5 + 2, none⟩ = some (.string (bs q)) ∧ w2.cell? ⟨b, off + k * 5 + 3, none⟩ = some (.string (bs r))) := ⟨(HC.out w2 HB2.out).1, (HC.out w2 HB2.out).2.1, (HC.out w2 HB2.out).2.2.1, (HC.out w2 HB2.out).2.2.2.1⟩; have HNX : Hid (∀ W', Below w2.heap.size w2 W' → Calls Try.prog 28 #[.pointer (some ⟨d, 0, none⟩), .agg #[.string (bs p), .string (bs m)], .agg #[.string (bs q), .string (bs r)]] W' fun e w3 => e = .returned (.tuple #[]) ∧ Below w.heap.size W' w3 ∧ Pz w.heap.size w3 g d (addN (addN (mg (l.take k)).1 ⟨p, m⟩) ⟨q, r⟩) (addE (mg (l.take k)).2 (⟨p, m⟩, ⟨q, r⟩))) := hnx; clear hb2 hnx))
          all_goals
            clear c0 c1 c2 c3 c4
            obtain ⟨c0, c1, c2, c3⟩ := KS1.out
            clear KS1 HND
            go_wp2_with fail
            go_region_held3 (fun w' => (w'.cell? ⟨b, off + k * 5, none⟩ = some (.string (bs p)) ∧ w'.cell? ⟨b, off + k * 5 + 1, none⟩ = some (.string (bs m)) ∧ w'.cell? ⟨b, off + k * 5 + 2, none⟩ = some (.string (bs q)) ∧ w'.cell? ⟨b, off + k * 5 + 3, none⟩ = some (.string (bs r)))) (first | (with_reducible exact ⟨c0, c1, c2, c3⟩) | (with_reducible exact KS2.out) | go_keep) (first | (go_at_call 28; (with_reducible refine (HNX.out _ (by first | exact Below.refl _ _ | exact (Below.refl _ _).drew)).mono ?_); rintro e w3 ⟨rfl, hb3, hz3⟩; have HB3 : Hid (Below w.heap.size w w3) := below_trans HB2.out ⟨hb3.os, hb3.tape, hb3.output, hb3.size, hb3.block⟩; have KS2 : Hid (w3.cell? ⟨b, off + k * 5, none⟩ = some (.string (bs p)) ∧ w3.cell? ⟨b, off + k * 5 + 1, none⟩ = some (.string (bs m)) ∧ w3.cell? ⟨b, off + k * 5 + 2, none⟩ = some (.string (bs q)) ∧ w3.cell? ⟨b, off + k * 5 + 3, none⟩ = some (.string (bs r))) := ⟨(HC.out w3 HB3.out).1, (HC.out w3 HB3.out).2.1, (HC.out w3 HB3.out).2.2.1, (HC.out w3 HB3.out).2.2.2.1⟩; have HZ3 : Hid (Pz w.heap.size w3 g d (addN (addN (mg (l.take k)).1 ⟨p, m⟩) ⟨q, r⟩) (addE (mg (l.take k)).2 (⟨p, m⟩, ⟨q, r⟩))) := hz3; clear hb3 hz3))
            all_goals
              clear KS2 c0 c1 c2 c3
              have HB4 : Hid (Below w.heap.size w w3 ∧ Pz w.heap.size w3 g d (mg (l.take (k + 1))).1 (mg (l.take (k + 1))).2 ∧ (mg (l.take (k + 1))).1.length ≤ 2 * (k + 1) ∧ (mg (l.take (k + 1))).2.length ≤ k + 1) := by
                rw [HT.out]
                refine ⟨HB3.out, HZ3.out, ?_, ?_⟩
                · have h9 := addN_leq (mg (l.take k)).1 ⟨p, m⟩
                  have h8 := addN_leq (addN (mg (l.take k)).1 ⟨p, m⟩) ⟨q, r⟩
                  have := HX.out.2.1
                  show (addN (addN (mg (l.take k)).1 ⟨p, m⟩) ⟨q, r⟩).length ≤ _
                  omega
                · have h9 := addE_len (mg (l.take k)).2 (⟨p, m⟩, ⟨q, r⟩)
                  have := HX.out.2.2.1
                  show (addE (mg (l.take k)).2 (⟨p, m⟩, ⟨q, r⟩)).length ≤ _
                  omega
              go_wp2_with fail
              go_roundw
              case rel => exact ⟨k + 1, by go_num, by omega, by omega, HB4.out.2.1, HB4.out.2.2.1, HB4.out.2.2.2, HB4.out.1⟩
              case measure => simp [intOf]; omega
      · obtain rfl : k = 60 := by omega
        have g2 : ¬ ((60 : Nat) : Int) < 60 := by omega
        have g1 : ((60 : Nat) : Int) < (n : Int) := by omega
        have g3 : decide (((60 : Nat) : Int) < (n : Int)) = true := by simp; omega
        go_wp2_with fail
        go_returns
        exact ⟨g, d, rfl, HX.out.1, HX.out.2.1, HX.out.2.2.1, HX.out.2.2.2⟩
    · obtain rfl : n = k := by omega
      have g3 : decide ((n : Int) < (n : Int)) = false := by simp
      have HE : Hid (l.take 60 = l.take n) := by
        show l.take 60 = l.take n
        rw [List.take_of_length_le (by rw [HN.out]; omega), List.take_of_length_le (by rw [HN.out]; exact Nat.le_refl _)]
      go_wp2_with fail
      go_returns
      rw [HE.out]
      have := HX.out.2.1
      have := HX.out.2.2.1
      exact ⟨g, d, rfl, HX.out.1, by omega, by omega, HX.out.2.2.2⟩
end Go.Proofs.Ytclbnjfmipifnaa
