/-
  told: both graphs tell the same.
  The program's graph alone, by nodes and edges as plain lists.
-/
import Derived.Test.YtjohhmfncemknaaTp
import Derived.Test.YtjohhmfncemknaaJSp
namespace Go.Proofs.Ytjohhmfncemknaa
open Go.RowKit Go.Maps

set_option maxRecDepth 100000 in
set_option maxHeartbeats 8000000 in
theorem told_any {w : World} {F D : Nat → Prop} {g d : Nat} {ns N : List Lb} {out : Lb → List Lb} {E : List Ee} (h : Bt w F g ns out D d N E) (kd wh : Int) (a b : Lb) (ha : Lu a) (hb : Lu b) :
    Calls Try.prog 19 #[.pointer (some ⟨g, 0, none⟩), .pointer (some ⟨d, 0, none⟩), opv kd wh a b] w fun e w' => e = .returned (.bool true) ∧ Below w.heap.size w w' := by
  obtain ⟨an, cn, _, _, h0, _, _, _, hoN, _⟩ := h.dg.rows
  obtain ⟨nl, hnl⟩ : ∃ nl, N.length = nl := ⟨_, rfl⟩
  rw [hnl] at h0 hoN
  have H : Hid (Bt w F g ns out D d N E ∧ w.cell? ⟨d, 0, none⟩ = some (.slice an nl cn) ∧ LS w (.slice an nl cn) N ∧ N.length = nl ∧ d < w.heap.size ∧ Lu a ∧ Lu b) := ⟨h, h0, hoN.rs, hnl, h.dg.dlt, ha, hb⟩
  clear h h0 hoN hnl ha hb
  obtain ⟨w0, hw0⟩ : ∃ w0, w.alloc (.cells #[.int .i64 kd, .int .i64 wh, .string (bs a.pkg), .string (bs a.name), .string (bs b.pkg), .string (bs b.name)] 51) = w0 := ⟨_, rfl⟩
  have HO : Hid (OB w0 w.heap.size kd wh a b ∧ Below w.heap.size w w0) := by rw [← hw0]; exact ⟨⟨heap_alloc_new _ _⟩, balloc _ _⟩
  obtain ⟨L, hL⟩ : ∃ L, H.out.1.lens = L := ⟨_, rfl⟩
  have HLN : Hid (((Gs.ord (rs N) E).getD []).length ≤ 100000000 ∧ (rs N).length ≤ 100000000 ∧ (∀ a, (rs (oE E a)).length ≤ 100000000) ∧ ∀ fr, (RS N E fr).length ≤ 100000000) := H.out.1.lens
  clear hL L
  have CA : Hid (∀ W, Below w.heap.size w W → Gv2 14 #[.pointer (some ⟨g, 0, none⟩)] W ((Gs.ord (rs N) E).getD []) (Gs.ord (rs N) E).isSome) := fun W hW => (H.out.1.later hW).order
  have CB : Hid (∀ W, Below w.heap.size w W → Gv2 20 #[.pointer (some ⟨d, 0, none⟩)] W ((Gs.ord (rs N) E).getD []) (Gs.ord (rs N) E).isSome) := fun W hW => (H.out.1.later hW).dorder
  generalize Gs.ord (rs N) E = O at CA CB HLN
  obtain ⟨ok, hok⟩ : ∃ ok, O.isSome = ok := ⟨_, rfl⟩
  rw [hok] at CA CB
  clear hok
  have CN : Hid (∀ W, Below w.heap.size w W → Gv 15 #[.pointer (some ⟨g, 0, none⟩)] W (rs N)) := fun W hW => (H.out.1.later hW).nodes
  have CR : Hid (∀ W, Below w.heap.size w W → Gv 21 #[.slice an nl cn] W (rs N)) := fun W hW => (drising_any (H.out.2.2.1.later hW) H.out.1.dg.nz H.out.1.dg.lu).mono fun _ _ ⟨v, h1, h2, h3⟩ => ⟨v, h1, h2.rs, h3⟩
  have CO : Hid (∀ W, Below w.heap.size w W → ∀ x, Lu x → Gv 13 #[.pointer (some ⟨g, 0, none⟩), x.val] W (rs (oE E x))) := fun W hW x hx => (H.out.1.later hW).outs x hx
  have CP : Hid (∀ W, Below w.heap.size w W → ∀ x, Gv 22 #[.pointer (some ⟨d, 0, none⟩), x.val] W (rs (oE E x))) := fun W hW x => (H.out.1.later hW).dout x
  have CX : Hid (∀ W, Below w.heap.size w W → ∀ fv fr, LS W fv fr → fr.length ≤ 4000000 → (∀ x ∈ fr, Lu x) → Gv 12 #[.pointer (some ⟨g, 0, none⟩), fv] W (RS N E fr)) := fun W hW _ _ h1 h2 h3 => (H.out.1.later hW).reach h1 h2 h3
  have CY : Hid (∀ W, Below w.heap.size w W → ∀ fv fr, LS W fv fr → fr.length ≤ 4000000 → Gv 23 #[.pointer (some ⟨d, 0, none⟩), fv] W (RS N E fr)) := fun W hW _ _ h1 h2 => (H.out.1.later hW).dreach h1 h2
  obtain ⟨p, n⟩ := a
  obtain ⟨q, m⟩ := b
  simp only [Lb.val, opv] at *
  go_enter Try.func19, Try.ntmps19
  have HB0 : Hid (Below w.heap.size w w0) := HO.out.2
  have HOB0 : Hid (OB w0 w.heap.size kd wh ⟨p, n⟩ ⟨q, m⟩) := HO.out.1
  go_wp2_with fail
  refine (CA.out w0 HB0.out).mono ?_
  rintro e w1 ⟨va, rfl, hl, hb⟩
  have HB1 : Hid (Below w.heap.size w w1) := bstep HB0.out hb
  have Hva1 : Hid (LS w1 va (O.getD [])) := hl
  have HOB1 : Hid (OB w1 w.heap.size kd wh ⟨p, n⟩ ⟨q, m⟩) := HOB0.out.later hb
  clear hl hb
  go_wp2_with fail
  refine (CB.out w1 HB1.out).mono ?_
  rintro e w2 ⟨vb, rfl, hl, hb⟩
  have HB2 : Hid (Below w.heap.size w w2) := bstep HB1.out hb
  have Hva2 : Hid (LS w2 va (O.getD [])) := Hva1.out.later hb
  have Hvb2 : Hid (LS w2 vb (O.getD [])) := hl
  have HOB2 : Hid (OB w2 w.heap.size kd wh ⟨p, n⟩ ⟨q, m⟩) := HOB1.out.later hb
  clear hl hb
  have X : Hid (TX w g d w.heap.size an nl cn N E kd wh p n q m (O.getD []) ok) := by
    refine ⟨HLN.out, CN.out, CR.out, fun W hW => CO.out W hW ⟨p, n⟩ H.out.2.2.2.2.2.1, fun W hW => CO.out W hW ⟨q, m⟩ H.out.2.2.2.2.2.2, fun W hW => CP.out W hW ⟨p, n⟩, fun W hW => CP.out W hW ⟨q, m⟩, CX.out, CY.out, ?_, ?_, fun W hW hO => ⟨(hW.cell (p := ⟨d, 0, none⟩) H.out.2.2.2.2.1).trans H.out.2.1, hO.cells⟩⟩
    · intro x hx
      rcases List.mem_cons.1 hx with rfl | hx
      · exact H.out.2.2.2.2.2.2
      · have e : x = ⟨p, n⟩ := by simpa using hx
        rw [e]; exact H.out.2.2.2.2.2.1
    · intro x hx
      have e : x = ⟨p, n⟩ := by simpa using hx
      rw [e]; exact H.out.2.2.2.2.2.1
  have HB3 : Hid (Below w.heap.size w w2.drew) := bstep HB2.out (bd w2 1)
  have HOB3 : Hid (OB w2.drew w.heap.size kd wh ⟨p, n⟩ ⟨q, m⟩) := HOB2.out.later (bd w2 1)
  have Hva3 : Hid (LS w2.drew va (O.getD [])) := Hva2.out.later (bd w2 1)
  have Hvb3 : Hid (LS w2.drew vb (O.getD [])) := Hvb2.out.later (bd w2 1)
  go_wp2_with fail
  refine wp_region_noPanic ?_
  refine wp_region_held_drew (S := fun W => W.cell? ⟨d, 0, none⟩ = some (.slice an nl cn) ∧ W.cell? ⟨w.heap.size, 2, none⟩ = some (.string (bs p)) ∧ W.cell? ⟨w.heap.size, 3, none⟩ = some (.string (bs n)) ∧ W.cell? ⟨w.heap.size, 4, none⟩ = some (.string (bs q)) ∧ W.cell? ⟨w.heap.size, 5, none⟩ = some (.string (bs m))) (by kernel_rfl) (X.out.sd _ HB3.out HOB3.out) (fun hHeld => ?_)
  refine wpAnyH_cast (ops' := opsT) (fuel' := 71) (listed' := #[false, false, false, false, false, false, false, false, false, false, false, false, false, false, false, false, false, false, false, false, false, false, false, false, false, false, false, false, false, false, false, false, false, false, false, false, false, false, false, false, false, false, false, false, false, false, false, false, false, false, false, false, false, false, false, false, false, false, false, false, false, false, false, false, false, false, false, false, false, false, false]) (by kernel_rfl) (by kernel_rfl) (by kernel_rfl) ?_
  refine told_a X HB3 HOB3 Hva3 Hvb3 ?_
  intro x21 x22 x23 x24 x25 x26 x27 x28 x29 x30 x31 x32 x33 x34 x35 x36 x37 x38 x39 x40 x41 x42 x43 x44 x45 x46 x47 x48 x49 x50 x51 x52 x53 x54 x55 x56 x57 x58 x59 x60 x61 x62 x63 x64 x65 x66 x67 x68 x69 x70 x71 x72 x73 x74 x75 x76 x77 x78 x79 x80 x81 x82 x83 x84 x85 x86 x87 x88 x89 x90 W' hB
  go_wp2_with fail
  go_ret
  exact ⟨rfl, hB⟩
end Go.Proofs.Ytjohhmfncemknaa

namespace Go.Proofs.Ytjohhmfncemknaa
open Go.RowKit Go.Maps

/-- the program's graph at g, its blocks from B on -/
structure PG (B : Nat) (w : World) (g : Nat) (N : List Lb) (E : List Ee) : Prop where
  it : ∃ F ns out, GR w F g ns out ∧ Lnk ns out N E ∧ (∀ k, F k → B ≤ k)
  sub : ∀ e ∈ E, e.1 ∈ N ∧ e.2 ∈ N
/-- a call that gives a new list -/
abbrev Ow (f : FuncId) (args : Array Value) (W : World) (l : List Lb) : Prop := Calls Try.prog f args W fun e w' => ∃ v, e = .returned v ∧ OwnL W.heap.size w' v l ∧ Below W.heap.size W w'
abbrev Ow2 (f : FuncId) (args : Array Value) (W : World) (l : List Lb) (b : Bool) : Prop := Calls Try.prog f args W fun e w' => ∃ v, e = .returned (.tuple #[v, .bool b]) ∧ OwnL W.heap.size w' v l ∧ Below W.heap.size W w'
section
variable {B : Nat} {w w' : World} {g : Nat} {N : List Lb} {E : List Ee}
theorem PG.later (h : PG B w g N E) (hb : Below w.heap.size w w') : PG B w' g N E := by
  obtain ⟨⟨F, ns, out, h1, h2, h3⟩, h4⟩ := h
  exact ⟨⟨F, ns, out, h1.later hb, h2, h3⟩, h4⟩
theorem GR.nlen {F : Nat → Prop} {ns : List Lb} {out : Lb → List Lb} (h : GR w F g ns out) (k : Lnk ns out N E) : ns.length ≤ N.length := Gs.nodup_sub _ _ h.nd (fun b hb => (k.nm b).1 hb)
theorem PG.new (w : World) : Calls Try.prog 7 #[] w fun e w' => ∃ g, e = .returned (.pointer (some ⟨g, 0, none⟩)) ∧ PG w.heap.size w' g [] [] ∧ Below w.heap.size w w' :=
  (new_any w).mono fun _ _ ⟨g, h1, h2, h3⟩ => ⟨g, h1, ⟨⟨_, _, _, h2, Lnk.new, fun _ hk => hk.1⟩, by simp⟩, h3⟩
theorem PG.node (h : PG B w g N E) (hB : B ≤ w.heap.size) (a : Lb) (ha : Lu a) (hz : N.length + 2 ≤ 1000000) :
    Calls Try.prog 8 #[.pointer (some ⟨g, 0, none⟩), a.val] w fun e w' => e = .returned (.tuple #[]) ∧ PG B w' g (addN N a) E ∧ Below B w w' := by
  obtain ⟨⟨F, ns, out, h1, h2, h3⟩, h4⟩ := h
  have hl := h1.nlen h2
  refine (node_any h1 a ha (by omega)).mono fun e w' ⟨k1, k2, k3⟩ => ⟨k1, ⟨⟨_, _, _, k2, h2.node a, fun k hk => ?_⟩, fun e he => ?_⟩, k3.below hB h3⟩
  · rcases hk with hk | hk
    · exact h3 k hk
    · exact Nat.le_trans hB hk.1
  · rw [mem_addN, mem_addN]; exact ⟨.inl (h4 e he).1, .inl (h4 e he).2⟩
theorem PG.edge (h : PG B w g N E) (hB : B ≤ w.heap.size) (a b : Lb) (ha : Lu a) (hb : Lu b) (hz : N.length + 2 ≤ 1000000) :
    Calls Try.prog 9 #[.pointer (some ⟨g, 0, none⟩), a.val, b.val] w fun e w' => e = .returned (.tuple #[]) ∧ PG B w' g (addN (addN N a) b) (addE E (a, b)) ∧ Below B w w' := by
  obtain ⟨⟨F, ns, out, h1, h2, h3⟩, h4⟩ := h
  have hl := h1.nlen h2
  refine (edge_any h1 a b ha hb (by omega)).mono fun e w' ⟨k1, k2, k3⟩ => ⟨k1, ⟨⟨_, _, _, k2, h2.edge a b, fun k hk => ?_⟩, fun e he => ?_⟩, k3.below hB h3⟩
  · rcases hk with hk | hk
    · exact h3 k hk
    · exact Nat.le_trans hB hk.1
  · rw [mem_addN, mem_addN, mem_addN, mem_addN]
    rcases mem_addE.1 he with he | he
    · exact ⟨.inl (.inl (h4 e he).1), .inl (.inl (h4 e he).2)⟩
    · subst he
      exact ⟨.inl (.inr rfl), .inr rfl⟩
theorem PG.back (h : PG B w g N E) (hz : N.length + 2 ≤ 1000000) :
    Calls Try.prog 10 #[.pointer (some ⟨g, 0, none⟩)] w fun e w' => ∃ gb, e = .returned (.pointer (some ⟨gb, 0, none⟩)) ∧ PG w.heap.size w' gb N (Gs.flp E) ∧ Below w.heap.size w w' := by
  obtain ⟨⟨F, ns, out, h1, h2, h3⟩, h4⟩ := h
  have hl := h1.nlen h2
  exact (back_any h1 (by omega)).mono fun e w' ⟨gb, Fb, nsb, outb, k1, k2, k3, k4, k5, k6⟩ => ⟨gb, k1, ⟨⟨Fb, nsb, outb, k2, h2.back k4 k5, k3⟩, fun e he => by
    obtain ⟨x, y⟩ := e
    rw [Gs.mem_flp] at he
    exact (h4 _ he).symm⟩, k6⟩
theorem PG.order (h : PG B w g N E) (hz : N.length + 2 ≤ 1000000) : Ow2 14 #[.pointer (some ⟨g, 0, none⟩)] w ((Gs.ord (rs N) E).getD []) (Gs.ord (rs N) E).isSome := by
  obtain ⟨⟨F, ns, out, h1, h2, h3⟩, h4⟩ := h
  have hl := h1.nlen h2
  have := order_any h1 (by omega)
  rw [h2.ord_eq h1.gf] at this
  exact this
theorem PG.nodes (h : PG B w g N E) : Ow 15 #[.pointer (some ⟨g, 0, none⟩)] w (rs N) := by
  obtain ⟨⟨F, ns, out, h1, h2, h3⟩, h4⟩ := h
  have := nodes_any h1
  rw [h2.rs_eq] at this
  exact this
theorem PG.outs (h : PG B w g N E) (a : Lb) (ha : Lu a) : Ow 13 #[.pointer (some ⟨g, 0, none⟩), a.val] w (rs (oE E a)) := by
  obtain ⟨⟨F, ns, out, h1, h2, h3⟩, h4⟩ := h
  have := out_any h1 a ha
  rw [h2.out_eq h1.gf] at this
  exact this
theorem PG.reach (h : PG B w g N E) (hz : N.length + 2 ≤ 1000000) {fv : Value} {fr : List Lb} (hf : LS w fv fr) (hl : fr.length ≤ 4000000) (hu : ∀ x ∈ fr, Lu x) : Ow 12 #[.pointer (some ⟨g, 0, none⟩), fv] w (RS N E fr) := by
  obtain ⟨⟨F, ns, out, h1, h2, h3⟩, h4⟩ := h
  have hn := h1.nlen h2
  exact (reach_any h1 (by omega) hf hl hu).mono fun _ _ ⟨v, R, k1, k2, k3, k4, k5⟩ => ⟨v, k1, by
    have e : R = RS N E fr := h2.reach_eq h1.gf k3 (Gs.ris_up stoL _) k4 (fun x => mem_RS h4)
    rw [← e]; exact k2, k5⟩
end
end Go.Proofs.Ytjohhmfncemknaa
