/-
  The two graphs tell the same.
  What both graphs tell: the contracts, by the document's graph.
  n: a label of the root.
  An edge more, on both sides.
  The program's graph alone, by nodes and edges as plain lists.
  slices.Index, slices.Contains.
-/
import Derived.Test.YtclbnjfmipifnaaDc
import Derived.Handy
import Derived.BigQuiet
namespace Go.Proofs.Ytclbnjfmipifnaa
open Go.RowKit Go.Maps

theorem rdy_ext {E E' : List Ee} (h : ∀ e, e ∈ E ↔ e ∈ E') (T : List Lb) (a : Lb) : Gs.rdy E T a = Gs.rdy E' T a := by
  rw [Bool.eq_iff_iff, Gs.rdy_iff, Gs.rdy_iff]
  exact ⟨fun k b hb => k b ((h _).2 hb), fun k b hb => k b ((h _).1 hb)⟩
theorem nxt_ext {E E' : List Ee} (h : ∀ e, e ∈ E ↔ e ∈ E') (A T : List Lb) : Gs.nxt A E T = Gs.nxt A E' T := by
  unfold Gs.nxt
  congr 1
  funext a
  rw [rdy_ext h]
theorem ordF_ext {E E' : List Ee} (h : ∀ e, e ∈ E ↔ e ∈ E') (A : List Lb) : ∀ (n : Nat) (T : List Lb), Gs.ordF A E n T = Gs.ordF A E' n T
  | 0, T => rfl
  | n + 1, T => by
    unfold Gs.ordF
    rw [nxt_ext h]
    cases Gs.nxt A E' T with
    | none => rfl
    | some a => exact ordF_ext h A n _
theorem ord_ext {E E' : List Ee} (h : ∀ e, e ∈ E ↔ e ∈ E') (A : List Lb) : Gs.ord A E = Gs.ord A E' := ordF_ext h A _ _
theorem way_ext {E E' : List Ee} (h : ∀ e, e ∈ E → e ∈ E') {a b : Lb} (k : Gs.Way E a b) : Gs.Way E' a b := Gs.Way.mono h k
/-- a graph of the program and one of the document -/
structure Lnk (ns : List Lb) (out : Lb → List Lb) (N : List Lb) (E : List Ee) : Prop where
  nm : ∀ x, x ∈ ns ↔ x ∈ N
  em : ∀ x y, y ∈ out x ↔ (x, y) ∈ E
section
variable {ns N : List Lb} {out : Lb → List Lb} {E : List Ee}
theorem Lnk.new : Lnk [] (fun _ => []) [] [] := ⟨by simp, by simp⟩
theorem Lnk.rs_eq (h : Lnk ns out N E) : rs ns = rs N := Gs.ris_eq stoL h.nm
theorem Lnk.eg (h : Lnk ns out N E) (g : GF ns out) (e : Ee) : e ∈ Eg ns out ↔ e ∈ E := by
  obtain ⟨x, y⟩ := e
  rw [g.eg, h.em]
theorem Lnk.out_eq (h : Lnk ns out N E) (g : GF ns out) (a : Lb) : out a = rs (oE E a) := Gs.ris_ext stoL (g.up a) (Gs.ris_up stoL _) (fun x => by rw [h.em, show (x ∈ rs (oE E a) ↔ x ∈ oE E a) from Gs.mem_ris _ _, mem_oE])
theorem Lnk.ord_eq (h : Lnk ns out N E) (g : GF ns out) : Gs.ord (rs ns) (Eg ns out) = Gs.ord (rs N) E := by
  rw [h.rs_eq]; exact ord_ext (h.eg g) _
theorem Lnk.rch (h : Lnk ns out N E) (g : GF ns out) (fr : List Lb) (x : Lb) : Gs.Rch ns (Eg ns out) fr x ↔ Gs.Rch N E fr x := by
  unfold Gs.Rch
  constructor
  · rintro ⟨a, h1, h2, h3⟩
    exact ⟨a, h1, (h.nm a).1 h2, way_ext (fun e he => (h.eg g e).1 he) h3⟩
  · rintro ⟨a, h1, h2, h3⟩
    exact ⟨a, h1, (h.nm a).2 h2, way_ext (fun e he => (h.eg g e).2 he) h3⟩
theorem Lnk.reach_eq (h : Lnk ns out N E) (g : GF ns out) {fr R S : List Lb} (hR : UpL R) (hS : UpL S) (h1 : ∀ x, x ∈ R ↔ Gs.Rch ns (Eg ns out) fr x) (h2 : ∀ x, x ∈ S ↔ Gs.Rch N E fr x) : R = S :=
  Gs.ris_ext stoL hR hS (fun x => by rw [h1, h2, h.rch g])
theorem Lnk.back (h : Lnk ns out N E) {nsb : List Lb} {outb : Lb → List Lb} (h1 : ∀ x, x ∈ nsb ↔ x ∈ ns) (h2 : ∀ x y, y ∈ outb x ↔ x ∈ out y) : Lnk nsb outb N (Gs.flp E) :=
  ⟨fun x => (h1 x).trans (h.nm x), fun x y => by rw [h2, h.em, Gs.mem_flp]⟩
theorem Lnk.node (h : Lnk ns out N E) (a : Lb) : Lnk (addN ns a) out (addN N a) E :=
  ⟨fun x => by rw [mem_addN, mem_addN, h.nm], h.em⟩
theorem mem_addE {E : List Ee} {e x : Ee} : x ∈ addE E e ↔ x ∈ E ∨ x = e := by
  unfold addE
  split
  · rename_i hm
    exact ⟨.inl, fun h => h.elim id (fun h => h ▸ hm)⟩
  · simp
end
end Go.Proofs.Ytclbnjfmipifnaa

namespace Go.Proofs.Ytclbnjfmipifnaa
open Go.RowKit Go.Maps

theorem rch_in {N : List Lb} {E : List Ee} {fr : List Lb} {x : Lb} (hs : ∀ e ∈ E, e.1 ∈ N ∧ e.2 ∈ N) (h : Gs.Rch N E fr x) : x ∈ N := by
  obtain ⟨a, _, h2, h3⟩ := h
  cases h3 with
  | refl => exact h2
  | step _ he => exact (hs _ he).2
open Classical in
/-- what can be reached -/
noncomputable def RS (N : List Lb) (E : List Ee) (fr : List Lb) : List Lb := rs (N.filter (fun x => decide (Gs.Rch N E fr x)))
theorem mem_RS {N : List Lb} {E : List Ee} {fr : List Lb} {x : Lb} (hs : ∀ e ∈ E, e.1 ∈ N ∧ e.2 ∈ N) : x ∈ RS N E fr ↔ Gs.Rch N E fr x := by
  unfold RS
  rw [show (x ∈ rs _ ↔ _) from Gs.mem_ris _ _, List.mem_filter]
  simp only [decide_eq_true_eq]
  exact ⟨fun h => h.2, fun h => ⟨rch_in hs h, h⟩⟩
theorem RS_len (N : List Lb) (E : List Ee) (fr : List Lb) : (RS N E fr).length ≤ N.length := Nat.le_trans (Gs.ris_le _) (List.length_filter_le _ _)
theorem ord_len {A : List Lb} {E : List Ee} : ((Gs.ord A E).getD []).length ≤ A.length := by
  cases h : Gs.ord A E with
  | none => simp
  | some L =>
    have := (Gs.ordF_some _ _ _ (Gs.Tld.nil A E) h).2.1
    simp at this
    simp [this]
theorem ls_one (w : World) (a : Lb) : LS (w.alloc (.cells #[.string (bs a.pkg), .string (bs a.name)] 35)) (.slice (some ⟨w.heap.size, 0, none⟩) 1 1) [a] := by
  refine .inr ⟨w.heap.size, 0, 1, rfl, Nat.le_refl _, by simp, fun i u hu => ?_⟩
  have := World.news_of_block (heap_alloc_new w (.cells #[.string (bs a.pkg), .string (bs a.name)] 35)) i u hu
  simpa [add_lit] using this
theorem ls_two (w : World) (a b : Lb) : LS (w.alloc (.cells #[.string (bs a.pkg), .string (bs a.name), .string (bs b.pkg), .string (bs b.name)] 35)) (.slice (some ⟨w.heap.size, 0, none⟩) 2 2) [a, b] := by
  refine .inr ⟨w.heap.size, 0, 2, rfl, Nat.le_refl _, by simp, fun i u hu => ?_⟩
  have := World.news_of_block (heap_alloc_new w (.cells #[.string (bs a.pkg), .string (bs a.name), .string (bs b.pkg), .string (bs b.name)] 35)) i u hu
  simpa [add_lit] using this
/-- a call that gives the list l -/
abbrev Gv (f : FuncId) (args : Array Value) (W : World) (l : List Lb) : Prop := Calls Try.prog f args W fun e w' => ∃ v, e = .returned v ∧ LS w' v l ∧ Below W.heap.size W w'
abbrev Gv2 (f : FuncId) (args : Array Value) (W : World) (l : List Lb) (b : Bool) : Prop := Calls Try.prog f args W fun e w' => ∃ v, e = .returned (.tuple #[v, .bool b]) ∧ LS w' v l ∧ Below W.heap.size W w'
/-- both graphs, at a world -/
structure Bt (w : World) (F : Nat → Prop) (g : Nat) (ns : List Lb) (out : Lb → List Lb) (D : Nat → Prop) (d : Nat) (N : List Lb) (E : List Ee) : Prop where
  gr : GR w F g ns out
  dg : DG w D d N E
  lk : Lnk ns out N E
  sz : ns.length + 2 ≤ 1000000
section
variable {w W : World} {F D : Nat → Prop} {g d : Nat} {ns N : List Lb} {out : Lb → List Lb} {E : List Ee}
theorem Bt.later (h : Bt w F g ns out D d N E) (hb : Below w.heap.size w W) : Bt W F g ns out D d N E := ⟨h.gr.later hb, h.dg.later hb, h.lk, h.sz⟩
theorem Bt.dorder (h : Bt w F g ns out D d N E) : Gv2 15 #[.pointer (some ⟨d, 0, none⟩)] w ((Gs.ord (rs N) E).getD []) (Gs.ord (rs N) E).isSome :=
  (dorder_any h.dg).mono fun _ _ ⟨v, h1, h2, h3⟩ => ⟨v, h1, h2.rs, h3⟩
theorem Bt.nodes (h : Bt w F g ns out D d N E) : Gv 19 #[.pointer (some ⟨g, 0, none⟩)] w (rs N) := by
  have := nodes_any h.gr
  rw [h.lk.rs_eq] at this
  exact this.mono fun _ _ ⟨v, h1, h2, h3⟩ => ⟨v, h1, h2.rs, h3⟩
theorem Bt.outs (h : Bt w F g ns out D d N E) (a : Lb) (ha : Lu a) : Gv 21 #[.pointer (some ⟨g, 0, none⟩), a.val] w (rs (oE E a)) := by
  have := out_any h.gr a ha
  rw [h.lk.out_eq h.gr.gf] at this
  exact this.mono fun _ _ ⟨v, h1, h2, h3⟩ => ⟨v, h1, h2.rs, h3⟩
theorem Bt.dout (h : Bt w F g ns out D d N E) (a : Lb) : Gv 22 #[.pointer (some ⟨d, 0, none⟩), a.val] w (rs (oE E a)) :=
  (dout_any h.dg a).mono fun _ _ ⟨v, h1, h2, h3⟩ => ⟨v, h1, h2.rs, h3⟩
theorem Bt.dreach (h : Bt w F g ns out D d N E) {fv : Value} {fr : List Lb} (hf : LS w fv fr) (hl : fr.length ≤ 4000000) : Gv 13 #[.pointer (some ⟨d, 0, none⟩), fv] w (RS N E fr) :=
  (dreach_any h.dg hf hl).mono fun _ _ ⟨v, R, h1, h2, h3, h4, h5⟩ => ⟨v, h1, by
    have e : R = RS N E fr := Gs.ris_ext stoL h3 (Gs.ris_up stoL _) (fun x => by rw [h4]; exact (mem_RS h.dg.sub).symm)
    rw [← e]; exact h2.rs, h5⟩
theorem same_true {u v : Value} {l : List Lb} (h : LS W u l) (h' : LS W v l) (hl : l.length ≤ 100000000) : Calls Try.prog 18 #[u, v] W fun e w' => e = .returned (.bool true) ∧ Below W.heap.size W w' :=
  (same_any h h' hl hl).mono fun _ _ ⟨h1, h2⟩ => ⟨by rw [h1]; simp, h2⟩
theorem Bt.lens (h : Bt w F g ns out D d N E) : ((Gs.ord (rs N) E).getD []).length ≤ 100000000 ∧ (rs N).length ≤ 100000000 ∧ (∀ a, (rs (oE E a)).length ≤ 100000000) ∧ ∀ fr, (RS N E fr).length ≤ 100000000 := by
  have h1 := h.dg.nz
  have h2 := h.dg.ez
  have h3 : (rs N).length ≤ N.length := Gs.ris_le _
  refine ⟨Nat.le_trans ord_len (by omega), by omega, fun a => ?_, fun fr => Nat.le_trans (RS_len N E fr) (by omega)⟩
  have h4 : (rs (oE E a)).length ≤ (oE E a).length := Gs.ris_le _
  have h5 := oE_len E a
  omega
end
end Go.Proofs.Ytclbnjfmipifnaa

namespace Go.Proofs.Ytclbnjfmipifnaa
open Go.RowKit Go.Maps

set_option maxHeartbeats 1000000 in
theorem n_any (s : List UInt8) (w : World) : Calls Try.prog 25 #[.string (bs s)] w fun e w' => e = .returned (Lb.val ⟨[], s⟩) ∧ Below w.heap.size w w' := by
  go_enter Try.func25, Try.ntmps25
  go_wp2_with fail
  go_returns
  exact ⟨rfl, balloc _ _⟩
end Go.Proofs.Ytclbnjfmipifnaa

namespace Go.Proofs.Ytclbnjfmipifnaa
open Go.RowKit Go.Maps

theorem mem_outI {out : Lb → List Lb} {a b x y : Lb} : y ∈ outI out a b x ↔ y ∈ out x ∨ (x = a ∧ y = b) := by
  unfold outI
  by_cases h : x = a
  · subst h
    rw [if_pos rfl, Gs.mem_insr]
    constructor
    · rintro (h | h)
      · exact .inr ⟨rfl, h⟩
      · exact .inl h
    · rintro (h | h)
      · exact .inr h
      · exact .inl h.2
  · rw [if_neg h]
    exact ⟨.inl, fun k => k.elim id (fun k => absurd k.1 h)⟩
theorem Lnk.edge {ns N : List Lb} {out : Lb → List Lb} {E : List Ee} (h : Lnk ns out N E) (a b : Lb) : Lnk (addN (addN ns a) b) (outI out a b) (addN (addN N a) b) (addE E (a, b)) := by
  refine ⟨fun x => by rw [mem_addN, mem_addN, mem_addN, mem_addN, h.nm], fun x y => ?_⟩
  rw [mem_outI, mem_addE, h.em]
  constructor
  · rintro (k | ⟨rfl, rfl⟩)
    · exact .inl k
    · exact .inr rfl
  · rintro (k | k)
    · exact .inl k
    · injection k with k1 k2
      exact .inr ⟨k1, k2⟩
/-- how many there may be after a step -/
theorem addE_len (E : List Ee) (e : Ee) : (addE E e).length ≤ E.length + 1 := by
  unfold addE
  split <;> simp
end Go.Proofs.Ytclbnjfmipifnaa

namespace Go.Proofs.Ytclbnjfmipifnaa
open Go.RowKit Go.Maps

/-- the program's graph at g, its blocks from B on -/
structure PG (B : Nat) (w : World) (g : Nat) (N : List Lb) (E : List Ee) : Prop where
  it : ∃ F ns out, GR w F g ns out ∧ Lnk ns out N E ∧ (∀ k, F k → B ≤ k)
  sub : ∀ e ∈ E, e.1 ∈ N ∧ e.2 ∈ N
/-- a call that gives a new list -/
abbrev Ow (f : FuncId) (args : Array Value) (W : World) (l : List Lb) : Prop := Calls Try.prog f args W fun e w' => ∃ v, e = .returned v ∧ OwnL W.heap.size w' v l ∧ Below W.heap.size W w'
abbrev Ow2 (f : FuncId) (args : Array Value) (W : World) (l : List Lb) (b : Bool) : Prop := Calls Try.prog f args W fun e w' => ∃ v, e = .returned (.tuple #[v, .bool b]) ∧ OwnL W.heap.size w' v l ∧ Below W.heap.size W w'
section
variable {B : Nat} {w w' : World} {g : Nat} {N : List Lb} {E : List Ee}
theorem PG.later (h : PG B w g N E) (hb : Below w.heap.size w w') : PG B w' g N E := by
  obtain ⟨⟨F, ns, out, h1, h2, h3⟩, h4⟩ := h
  exact ⟨⟨F, ns, out, h1.later hb, h2, h3⟩, h4⟩
theorem GR.nlen {F : Nat → Prop} {ns : List Lb} {out : Lb → List Lb} (h : GR w F g ns out) (k : Lnk ns out N E) : ns.length ≤ N.length := Gs.nodup_sub _ _ h.nd (fun b hb => (k.nm b).1 hb)
theorem PG.new (w : World) : Calls Try.prog 23 #[] w fun e w' => ∃ g, e = .returned (.pointer (some ⟨g, 0, none⟩)) ∧ PG w.heap.size w' g [] [] ∧ Below w.heap.size w w' :=
  (new_any w).mono fun _ _ ⟨g, h1, h2, h3⟩ => ⟨g, h1, ⟨⟨_, _, _, h2, Lnk.new, fun _ hk => hk.1⟩, by simp⟩, h3⟩
theorem PG.node (h : PG B w g N E) (hB : B ≤ w.heap.size) (a : Lb) (ha : Lu a) (hz : N.length + 2 ≤ 1000000) :
    Calls Try.prog 26 #[.pointer (some ⟨g, 0, none⟩), a.val] w fun e w' => e = .returned (.tuple #[]) ∧ PG B w' g (addN N a) E ∧ Below B w w' := by
  obtain ⟨⟨F, ns, out, h1, h2, h3⟩, h4⟩ := h
  have hl := h1.nlen h2
  refine (node_any h1 a ha (by omega)).mono fun e w' ⟨k1, k2, k3⟩ => ⟨k1, ⟨⟨_, _, _, k2, h2.node a, fun k hk => ?_⟩, fun e he => ?_⟩, k3.below hB h3⟩
  · rcases hk with hk | hk
    · exact h3 k hk
    · exact Nat.le_trans hB hk.1
  · rw [mem_addN, mem_addN]; exact ⟨.inl (h4 e he).1, .inl (h4 e he).2⟩
theorem PG.edge (h : PG B w g N E) (hB : B ≤ w.heap.size) (a b : Lb) (ha : Lu a) (hb : Lu b) (hz : N.length + 2 ≤ 1000000) :
    Calls Try.prog 24 #[.pointer (some ⟨g, 0, none⟩), a.val, b.val] w fun e w' => e = .returned (.tuple #[]) ∧ PG B w' g (addN (addN N a) b) (addE E (a, b)) ∧ Below B w w' := by
  obtain ⟨⟨F, ns, out, h1, h2, h3⟩, h4⟩ := h
  have hl := h1.nlen h2
  refine (edge_any h1 a b ha hb (by omega)).mono fun e w' ⟨k1, k2, k3⟩ => ⟨k1, ⟨⟨_, _, _, k2, h2.edge a b, fun k hk => ?_⟩, fun e he => ?_⟩, k3.below hB h3⟩
  · rcases hk with hk | hk
    · exact h3 k hk
    · exact Nat.le_trans hB hk.1
  · rw [mem_addN, mem_addN, mem_addN, mem_addN]
    rcases mem_addE.1 he with he | he
    · exact ⟨.inl (.inl (h4 e he).1), .inl (.inl (h4 e he).2)⟩
    · subst he
      exact ⟨.inl (.inr rfl), .inr rfl⟩
theorem PG.back (h : PG B w g N E) (hz : N.length + 2 ≤ 1000000) :
    Calls Try.prog 9 #[.pointer (some ⟨g, 0, none⟩)] w fun e w' => ∃ gb, e = .returned (.pointer (some ⟨gb, 0, none⟩)) ∧ PG w.heap.size w' gb N (Gs.flp E) ∧ Below w.heap.size w w' := by
  obtain ⟨⟨F, ns, out, h1, h2, h3⟩, h4⟩ := h
  have hl := h1.nlen h2
  exact (back_any h1 (by omega)).mono fun e w' ⟨gb, Fb, nsb, outb, k1, k2, k3, k4, k5, k6⟩ => ⟨gb, k1, ⟨⟨Fb, nsb, outb, k2, h2.back k4 k5, k3⟩, fun e he => by
    obtain ⟨x, y⟩ := e
    rw [Gs.mem_flp] at he
    exact (h4 _ he).symm⟩, k6⟩
theorem PG.nodes (h : PG B w g N E) : Ow 19 #[.pointer (some ⟨g, 0, none⟩)] w (rs N) := by
  obtain ⟨⟨F, ns, out, h1, h2, h3⟩, h4⟩ := h
  have := nodes_any h1
  rw [h2.rs_eq] at this
  exact this
theorem PG.outs (h : PG B w g N E) (a : Lb) (ha : Lu a) : Ow 21 #[.pointer (some ⟨g, 0, none⟩), a.val] w (rs (oE E a)) := by
  obtain ⟨⟨F, ns, out, h1, h2, h3⟩, h4⟩ := h
  have := out_any h1 a ha
  rw [h2.out_eq h1.gf] at this
  exact this
end
end Go.Proofs.Ytclbnjfmipifnaa

namespace Go.Proofs.Ytclbnjfmipifnaa
open Go.RowKit Go.Maps

set_option maxRecDepth 100000 in
set_option maxHeartbeats 2000000 in
theorem lindex_any {w : World} {v : Value} {l : List Lb} (h : LS w v l) (hl : l.length ≤ 100000000) (a : Lb) :
    Calls Try.prog 44 #[v, a.val] w fun e w' => ∃ z : Int, e = .returned (.int .i64 z) ∧ decide (0 ≤ z) = decide (a ∈ l) ∧ Below w.heap.size w w' := by
  have H : Hid (LS w v l) := h
  obtain ⟨av, cv, hvv, _⟩ := h.form
  obtain ⟨n, hn⟩ : ∃ n, l.length = n := ⟨_, rfl⟩
  rw [hn] at hvv hl
  subst hvv
  have HN : Hid (l.length = n) := hn
  clear h hn
  obtain ⟨p, m⟩ := a
  simp only [Lb.val]
  have hq := eql_run'
  have hg := guard_run
  have HRB : Hid (RB (w.alloc (.cells #[.string (bs p), .string (bs m)] 35)) w.heap.size ⟨p, m⟩) := RB.new w ⟨p, m⟩
  go_enter Try.func44, Try.ntmps44
  go_wp2_with fail
  go_loopw [8] (fun s8 wr => ∃ k : Nat, s8 = .int .i64 k ∧ k ≤ n ∧ RB wr w.heap.size ⟨p, m⟩ ∧ (∀ x ∈ l.take k, x ≠ ⟨p, m⟩) ∧ Below w.heap.size w wr) (fun s8 _ => n - (intOf s8).toNat)
  case atStart => exact ⟨0, rfl, by omega, HRB.out, by simp, balloc _ _⟩
  case round =>
    obtain ⟨k, rfl, hk, hR, hx, hb⟩ := hrel
    have HX : Hid (RB wr w.heap.size ⟨p, m⟩ ∧ (∀ x ∈ l.take k, x ≠ ⟨p, m⟩) ∧ Below w.heap.size w wr) := ⟨hR, hx, hb⟩
    obtain ⟨c0, c1, _, _⟩ := hR.cells
    simp only at c0 c1
    clear hR hx hb
    by_cases hlt : k < n
    · have hkl : k < l.length := by rw [HN.out]; exact hlt
      obtain ⟨b, off, ea, hbw, d0, d1⟩ := LS.at H.out HX.out.2.2 hkl
      subst ea
      obtain ⟨x, hxe⟩ : ∃ x, l[k] = x := ⟨_, rfl⟩
      have HA : Hid (l[k] = x) := hxe
      rw [hxe] at d0 d1
      clear hxe
      obtain ⟨q, r⟩ := x
      simp only at d0 d1
      have k1 : (k : Int) < (n : Int) := by omega
      by_cases he : (⟨q, r⟩ : Lb) = ⟨p, m⟩
      · have he2 : leq ⟨p, m⟩ ⟨q, r⟩ = true := by unfold leq; simpa using he.symm
        have HE : Hid ((⟨q, r⟩ : Lb) = ⟨p, m⟩) := he
        clear he
        go_wp2_with fail
        go_quiet (fail)
        go_wp2_with fail
        go_ret
        refine ⟨k, rfl, ?_, bstep HX.out.2.2 (bd _ _)⟩
        have : (⟨p, m⟩ : Lb) ∈ l := by rw [← HE.out, ← HA.out]; exact List.getElem_mem hkl
        simp [this]
      · have he2 : leq ⟨p, m⟩ ⟨q, r⟩ = false := by unfold leq; simpa using fun e1 e2 => he (by rw [e1, e2])
        go_wp2_with fail
        go_quiet (fail)
        go_wp2_with fail
        go_roundw
        case rel =>
          refine ⟨k + 1, by go_num, by omega, HX.out.1.later (bd _ _), ?_, bstep HX.out.2.2 (bd _ _)⟩
          intro x hx
          rw [List.take_succ_eq_append_getElem hkl, List.mem_append, HA.out] at hx
          rcases hx with hx | hx
          · exact HX.out.2.1 x hx
          · have : x = ⟨q, r⟩ := by simpa using hx
            rw [this]; exact he
        case measure => simp [intOf]; omega
    · obtain rfl : n = k := by omega
      go_wp2_with fail
      go_ret
      refine ⟨-1, rfl, ?_, HX.out.2.2⟩
      have : (⟨p, m⟩ : Lb) ∉ l := by
        intro hm
        have := HX.out.2.1
        rw [List.take_of_length_le (by rw [HN.out]; exact Nat.le_refl _)] at this
        exact this _ hm rfl
      simp [this]
set_option maxRecDepth 100000 in
set_option maxHeartbeats 2000000 in
theorem lcontains_any {w : World} {v : Value} {l : List Lb} (h : LS w v l) (hl : l.length ≤ 100000000) (a : Lb) :
    Calls Try.prog 32 #[v, a.val] w fun e w' => e = .returned (.bool (decide (a ∈ l))) ∧ Below w.heap.size w w' := by
  have HC : Hid (Calls Try.prog 44 #[v, a.val] (w.alloc (.cells #[.string (bs a.pkg), .string (bs a.name)] 35)) fun e w' => ∃ z : Int, e = .returned (.int .i64 z) ∧ decide (0 ≤ z) = decide (a ∈ l) ∧ Below (w.alloc (.cells #[.string (bs a.pkg), .string (bs a.name)] 35)).heap.size (w.alloc (.cells #[.string (bs a.pkg), .string (bs a.name)] 35)) w') := lindex_any (h.later (balloc _ _)) hl a
  obtain ⟨b, hb⟩ : ∃ b, decide (a ∈ l) = b := ⟨_, rfl⟩
  rw [hb] at HC ⊢
  clear h hl hb
  obtain ⟨p, m⟩ := a
  simp only [Lb.val] at *
  go_enter Try.func32, Try.ntmps32
  go_wp2_with fail
  refine HC.out.mono ?_
  rintro e w1 ⟨z, rfl, hz, hb1⟩
  have HB : Hid (Below w.heap.size w w1) := bstep (balloc _ _) hb1
  clear hb1
  have HZ : Hid (decide (0 ≤ z) = b) := hz
  clear hz
  go_wp2_with fail
  go_ret
  rw [← HZ.out]
  exact ⟨rfl, HB.out⟩
end Go.Proofs.Ytclbnjfmipifnaa
