/-
  head: the document's example.
-/
import Derived.Test.YtjohhmfncemknaaJPg
namespace Go.Proofs.Ytjohhmfncemknaa
open Go.RowKit Go.Maps

def lA : Lb := ⟨[], [97]⟩
def lB : Lb := ⟨[], [98]⟩
def lC : Lb := ⟨[], [99]⟩
def lD : Lb := ⟨[], [100]⟩
def lE : Lb := ⟨[], [101]⟩
def hN : List Lb := [lA, lB, lC, lD, lE]
def hE : List Ee := [(lA, lB), (lA, lC), (lB, lD), (lC, lD)]
theorem hd_ord : Gs.ord (rs hN) hE = some [lD, lB, lC, lA, lE] := by decide +kernel
theorem hd_out : rs (oE hE lA) = [lB, lC] := by decide +kernel
theorem hd_in : rs (oE (Gs.flp hE) lD) = [lB, lC] := by decide +kernel
theorem hd_reach : RS hN hE [lB] = [lB, lD] := by
  refine Gs.ris_ext stoL (Gs.ris_up stoL _) (by unfold Gs.Ris; decide +kernel) (fun x => ?_)
  rw [mem_RS (by decide +kernel)]
  symm
  refine Gs.rch_iff (by decide +kernel) ?_ (fun x hx y hy => (by decide +kernel : ∀ e ∈ hE, e.1 ∈ [lB, lD] → e.2 ∈ [lB, lD]) (x, y) hy hx) x
  have h1 : Gs.Rch hN hE [lB] lB := ⟨lB, by decide +kernel, by decide +kernel, .refl _⟩
  intro y hy
  rcases List.mem_cons.1 hy with rfl | hy
  · exact h1
  · have e : y = lD := by simpa using hy
    rw [e]; exact Gs.rch_step h1 (by decide +kernel)
theorem ls_five (w : World) (a b c d e : Lb) : LS (w.alloc (.cells #[.string (bs a.pkg), .string (bs a.name), .string (bs b.pkg), .string (bs b.name), .string (bs c.pkg), .string (bs c.name), .string (bs d.pkg), .string (bs d.name), .string (bs e.pkg), .string (bs e.name)] 31)) (.slice (some ⟨w.heap.size, 0, none⟩) 5 5) [a, b, c, d, e] := by
  refine .inr ⟨w.heap.size, 0, 5, rfl, Nat.le_refl _, by simp, fun i u hu => ?_⟩
  have := World.news_of_block (heap_alloc_new w (.cells #[.string (bs a.pkg), .string (bs a.name), .string (bs b.pkg), .string (bs b.name), .string (bs c.pkg), .string (bs c.name), .string (bs d.pkg), .string (bs d.name), .string (bs e.pkg), .string (bs e.name)] 31)) i u hu
  simpa [add_lit] using this
theorem lu_small {p n : List UInt8} (h1 : p.length ≤ 1000) (h2 : n.length ≤ 1000) : Lu ⟨p, n⟩ := ⟨by simp only; omega, by simp only; omega⟩

set_option maxRecDepth 100000 in
set_option maxHeartbeats 8000000 in
theorem head_any (w : World) : Calls Try.prog 6 #[] w fun e w' => e = .returned (.bool true) ∧ Below w.heap.size w w' := by
  obtain ⟨z, hz⟩ : ∃ z : List UInt8, z = [] := ⟨_, rfl⟩
  obtain ⟨sa, hsa⟩ : ∃ z : List UInt8, z = [97] := ⟨_, rfl⟩
  obtain ⟨sb, hsb⟩ : ∃ z : List UInt8, z = [98] := ⟨_, rfl⟩
  obtain ⟨sc, hsc⟩ : ∃ z : List UInt8, z = [99] := ⟨_, rfl⟩
  obtain ⟨sd, hsd⟩ : ∃ z : List UInt8, z = [100] := ⟨_, rfl⟩
  obtain ⟨se, hse⟩ : ∃ z : List UInt8, z = [101] := ⟨_, rfl⟩
  have HNa : Hid (∀ W : World, Calls Try.prog 25 #[Value.string { data := #[97] }] W fun e w' => e = .returned (.agg #[.string (bs z), .string (bs sa)]) ∧ Below W.heap.size W w') := by subst hz hsa; exact fun W => n_any [97] W
  have HNb : Hid (∀ W : World, Calls Try.prog 25 #[Value.string { data := #[98] }] W fun e w' => e = .returned (.agg #[.string (bs z), .string (bs sb)]) ∧ Below W.heap.size W w') := by subst hz hsb; exact fun W => n_any [98] W
  have HNc : Hid (∀ W : World, Calls Try.prog 25 #[Value.string { data := #[99] }] W fun e w' => e = .returned (.agg #[.string (bs z), .string (bs sc)]) ∧ Below W.heap.size W w') := by subst hz hsc; exact fun W => n_any [99] W
  have HNd : Hid (∀ W : World, Calls Try.prog 25 #[Value.string { data := #[100] }] W fun e w' => e = .returned (.agg #[.string (bs z), .string (bs sd)]) ∧ Below W.heap.size W w') := by subst hz hsd; exact fun W => n_any [100] W
  have HNe : Hid (∀ W : World, Calls Try.prog 25 #[Value.string { data := #[101] }] W fun e w' => e = .returned (.agg #[.string (bs z), .string (bs se)]) ∧ Below W.heap.size W w') := by subst hz hse; exact fun W => n_any [101] W
  have HL : Hid ((⟨z, sa⟩ : Lb) = lA ∧ (⟨z, sb⟩ : Lb) = lB ∧ (⟨z, sc⟩ : Lb) = lC ∧ (⟨z, sd⟩ : Lb) = lD ∧ (⟨z, se⟩ : Lb) = lE) := by subst hz hsa hsb hsc hsd hse; exact ⟨rfl, rfl, rfl, rfl, rfl⟩
  have HE0 : Hid (∀ (W : World) (g : Nat), w.heap.size ≤ W.heap.size → PG w.heap.size W g [] [] → Calls Try.prog 9 #[.pointer (some ⟨g, 0, none⟩), (.agg #[.string (bs z), .string (bs sa)]), (.agg #[.string (bs z), .string (bs sb)])] W fun e w' => e = .returned (.tuple #[]) ∧ PG w.heap.size w' g [lA, lB] [(lA, lB)] ∧ Below w.heap.size W w') := by subst hz hsa hsb hsc hsd hse; exact fun W g hB h => h.edge hB lA lB (lu_small (by decide) (by decide)) (lu_small (by decide) (by decide)) (by decide)
  have HE1 : Hid (∀ (W : World) (g : Nat), w.heap.size ≤ W.heap.size → PG w.heap.size W g [lA, lB] [(lA, lB)] → Calls Try.prog 9 #[.pointer (some ⟨g, 0, none⟩), (.agg #[.string (bs z), .string (bs sa)]), (.agg #[.string (bs z), .string (bs sc)])] W fun e w' => e = .returned (.tuple #[]) ∧ PG w.heap.size w' g [lA, lB, lC] [(lA, lB), (lA, lC)] ∧ Below w.heap.size W w') := by subst hz hsa hsb hsc hsd hse; exact fun W g hB h => h.edge hB lA lC (lu_small (by decide) (by decide)) (lu_small (by decide) (by decide)) (by decide)
  have HE2 : Hid (∀ (W : World) (g : Nat), w.heap.size ≤ W.heap.size → PG w.heap.size W g [lA, lB, lC] [(lA, lB), (lA, lC)] → Calls Try.prog 9 #[.pointer (some ⟨g, 0, none⟩), (.agg #[.string (bs z), .string (bs sb)]), (.agg #[.string (bs z), .string (bs sd)])] W fun e w' => e = .returned (.tuple #[]) ∧ PG w.heap.size w' g [lA, lB, lC, lD] [(lA, lB), (lA, lC), (lB, lD)] ∧ Below w.heap.size W w') := by subst hz hsa hsb hsc hsd hse; exact fun W g hB h => h.edge hB lB lD (lu_small (by decide) (by decide)) (lu_small (by decide) (by decide)) (by decide)
  have HE3 : Hid (∀ (W : World) (g : Nat), w.heap.size ≤ W.heap.size → PG w.heap.size W g [lA, lB, lC, lD] [(lA, lB), (lA, lC), (lB, lD)] → Calls Try.prog 9 #[.pointer (some ⟨g, 0, none⟩), (.agg #[.string (bs z), .string (bs sc)]), (.agg #[.string (bs z), .string (bs sd)])] W fun e w' => e = .returned (.tuple #[]) ∧ PG w.heap.size w' g [lA, lB, lC, lD] hE ∧ Below w.heap.size W w') := by subst hz hsa hsb hsc hsd hse; exact fun W g hB h => h.edge hB lC lD (lu_small (by decide) (by decide)) (lu_small (by decide) (by decide)) (by decide)
  have HE4 : Hid (∀ (W : World) (g : Nat), w.heap.size ≤ W.heap.size → PG w.heap.size W g [lA, lB, lC, lD] hE → Calls Try.prog 8 #[.pointer (some ⟨g, 0, none⟩), (.agg #[.string (bs z), .string (bs se)])] W fun e w' => e = .returned (.tuple #[]) ∧ PG w.heap.size w' g hN hE ∧ Below w.heap.size W w') := by subst hz hse; exact fun W g hB h => h.node hB lE (lu_small (by decide) (by decide)) (by decide)
  have HO : Hid (∀ (W : World) (g : Nat), PG w.heap.size W g hN hE → Gv2 14 #[.pointer (some ⟨g, 0, none⟩)] W [⟨z, sd⟩, ⟨z, sb⟩, ⟨z, sc⟩, ⟨z, sa⟩, ⟨z, se⟩] true) := by
    subst hz hsa hsb hsc hsd hse; intro W g h; have := h.order (by decide); rw [hd_ord] at this; exact this.mono fun _ _ ⟨v, h1, h2, h3⟩ => ⟨v, h1, h2.rs, h3⟩
  have HU : Hid (∀ (W : World) (g : Nat), PG w.heap.size W g hN hE → Gv 13 #[.pointer (some ⟨g, 0, none⟩), (.agg #[.string (bs z), .string (bs sa)])] W [⟨z, sb⟩, ⟨z, sc⟩]) := by
    subst hz hsa hsb hsc; intro W g h; have := h.outs lA (lu_small (by decide) (by decide)); rw [hd_out] at this; exact this.mono fun _ _ ⟨v, h1, h2, h3⟩ => ⟨v, h1, h2.rs, h3⟩
  have HV : Hid (∀ (B : Nat) (W : World) (g : Nat), PG B W g hN (Gs.flp hE) → Gv 13 #[.pointer (some ⟨g, 0, none⟩), (.agg #[.string (bs z), .string (bs sd)])] W [⟨z, sb⟩, ⟨z, sc⟩]) := by
    subst hz hsb hsc hsd; intro B W g h; have := h.outs lD (lu_small (by decide) (by decide)); rw [hd_in] at this; exact this.mono fun _ _ ⟨v, h1, h2, h3⟩ => ⟨v, h1, h2.rs, h3⟩
  have HR : Hid (∀ (W : World) (g : Nat) (v : Value), PG w.heap.size W g hN hE → LS W v [⟨z, sb⟩] → Gv 12 #[.pointer (some ⟨g, 0, none⟩), v] W [⟨z, sb⟩, ⟨z, sd⟩]) := by
    subst hz hsb hsd; intro W g v h hv; have := h.reach (by decide) hv (by decide) (by intro x hx; have e : x = (⟨[], [98]⟩ : Lb) := by simpa using hx
                                                                                       rw [e]; exact lu_small (by decide) (by decide)); rw [show ([⟨[], [98]⟩] : List Lb) = [lB] from rfl, hd_reach] at this; exact this.mono fun _ _ ⟨v, h1, h2, h3⟩ => ⟨v, h1, h2.rs, h3⟩
  clear hz hsa hsb hsc hsd hse
  go_enter Try.func6, Try.ntmps6
  go_wp2_with fail
  refine (PG.new w).mono ?_
  rintro e w1 ⟨g, rfl, hg, hb⟩
  have HB1 : Hid (Below w.heap.size w w1) := hb
  have HG1 : Hid (PG w.heap.size w1 g [] []) := hg
  clear hg hb
  go_wp2_with fail
  with_reducible refine (HNa.out w1).mono ?_
  rintro e w2 ⟨rfl, hb⟩
  have HB2 : Hid (Below w.heap.size w w2) := bstep HB1.out hb
  have HG2 : Hid (PG w.heap.size w2 g [] []) := HG1.out.later hb
  clear hb
  go_wp2_with fail
  with_reducible refine (HNb.out w2).mono ?_
  rintro e w3 ⟨rfl, hb⟩
  have HB3 : Hid (Below w.heap.size w w3) := bstep HB2.out hb
  have HG3 : Hid (PG w.heap.size w3 g [] []) := HG2.out.later hb
  clear hb
  go_wp2_with fail
  with_reducible refine (HE0.out w3 g HB3.out.size HG3.out).mono ?_
  rintro e w4 ⟨rfl, hg, hb⟩
  have HB4 : Hid (Below w.heap.size w w4) := below_trans HB3.out hb
  have HG4 : Hid (PG w.heap.size w4 g [lA, lB] [(lA, lB)]) := hg
  clear hg hb
  go_wp2_with fail
  with_reducible refine (HNa.out w4).mono ?_
  rintro e w5 ⟨rfl, hb⟩
  have HB5 : Hid (Below w.heap.size w w5) := bstep HB4.out hb
  have HG5 : Hid (PG w.heap.size w5 g [lA, lB] [(lA, lB)]) := HG4.out.later hb
  clear hb
  go_wp2_with fail
  with_reducible refine (HNc.out w5).mono ?_
  rintro e w6 ⟨rfl, hb⟩
  have HB6 : Hid (Below w.heap.size w w6) := bstep HB5.out hb
  have HG6 : Hid (PG w.heap.size w6 g [lA, lB] [(lA, lB)]) := HG5.out.later hb
  clear hb
  go_wp2_with fail
  with_reducible refine (HE1.out w6 g HB6.out.size HG6.out).mono ?_
  rintro e w7 ⟨rfl, hg, hb⟩
  have HB7 : Hid (Below w.heap.size w w7) := below_trans HB6.out hb
  have HG7 : Hid (PG w.heap.size w7 g [lA, lB, lC] [(lA, lB), (lA, lC)]) := hg
  clear hg hb
  go_wp2_with fail
  with_reducible refine (HNb.out w7).mono ?_
  rintro e w8 ⟨rfl, hb⟩
  have HB8 : Hid (Below w.heap.size w w8) := bstep HB7.out hb
  have HG8 : Hid (PG w.heap.size w8 g [lA, lB, lC] [(lA, lB), (lA, lC)]) := HG7.out.later hb
  clear hb
  go_wp2_with fail
  with_reducible refine (HNd.out w8).mono ?_
  rintro e w9 ⟨rfl, hb⟩
  have HB9 : Hid (Below w.heap.size w w9) := bstep HB8.out hb
  have HG9 : Hid (PG w.heap.size w9 g [lA, lB, lC] [(lA, lB), (lA, lC)]) := HG8.out.later hb
  clear hb
  go_wp2_with fail
  with_reducible refine (HE2.out w9 g HB9.out.size HG9.out).mono ?_
  rintro e w10 ⟨rfl, hg, hb⟩
  have HB10 : Hid (Below w.heap.size w w10) := below_trans HB9.out hb
  have HG10 : Hid (PG w.heap.size w10 g [lA, lB, lC, lD] [(lA, lB), (lA, lC), (lB, lD)]) := hg
  clear hg hb
  go_wp2_with fail
  with_reducible refine (HNc.out w10).mono ?_
  rintro e w11 ⟨rfl, hb⟩
  have HB11 : Hid (Below w.heap.size w w11) := bstep HB10.out hb
  have HG11 : Hid (PG w.heap.size w11 g [lA, lB, lC, lD] [(lA, lB), (lA, lC), (lB, lD)]) := HG10.out.later hb
  clear hb
  go_wp2_with fail
  with_reducible refine (HNd.out w11).mono ?_
  rintro e w12 ⟨rfl, hb⟩
  have HB12 : Hid (Below w.heap.size w w12) := bstep HB11.out hb
  have HG12 : Hid (PG w.heap.size w12 g [lA, lB, lC, lD] [(lA, lB), (lA, lC), (lB, lD)]) := HG11.out.later hb
  clear hb
  go_wp2_with fail
  with_reducible refine (HE3.out w12 g HB12.out.size HG12.out).mono ?_
  rintro e w13 ⟨rfl, hg, hb⟩
  have HB13 : Hid (Below w.heap.size w w13) := below_trans HB12.out hb
  have HG13 : Hid (PG w.heap.size w13 g [lA, lB, lC, lD] hE) := hg
  clear hg hb
  go_wp2_with fail
  with_reducible refine (HNe.out w13).mono ?_
  rintro e w14 ⟨rfl, hb⟩
  have HB14 : Hid (Below w.heap.size w w14) := bstep HB13.out hb
  have HG14 : Hid (PG w.heap.size w14 g [lA, lB, lC, lD] hE) := HG13.out.later hb
  clear hb
  go_wp2_with fail
  with_reducible refine (HE4.out w14 g HB14.out.size HG14.out).mono ?_
  rintro e w15 ⟨rfl, hg, hb⟩
  have HB15 : Hid (Below w.heap.size w w15) := below_trans HB14.out hb
  have HG15 : Hid (PG w.heap.size w15 g hN hE) := hg
  clear hg hb
  go_wp2_with fail
  with_reducible refine (HG15.out.back (by decide)).mono ?_
  rintro e w16 ⟨gb, rfl, hk, hb⟩
  have HB16 : Hid (Below w.heap.size w w16) := bstep HB15.out hb
  have HG16 : Hid (PG w.heap.size w16 g hN hE) := HG15.out.later hb
  have HK16 : Hid (PG w15.heap.size w16 gb hN (Gs.flp hE)) := hk
  clear hk hb
  go_wp2_with fail
  with_reducible refine (HO.out w16 g HG16.out).mono ?_
  rintro e w17 ⟨vo, rfl, hl, hb⟩
  have HB17 : Hid (Below w.heap.size w w17) := bstep HB16.out hb
  have HG17 : Hid (PG w.heap.size w17 g hN hE) := HG16.out.later hb
  have HK17 : Hid (PG w15.heap.size w17 gb hN (Gs.flp hE)) := HK16.out.later hb
  have Hvo17 : Hid (LS w17 vo [⟨z, sd⟩, ⟨z, sb⟩, ⟨z, sc⟩, ⟨z, sa⟩, ⟨z, se⟩]) := hl
  clear hl hb
  go_wp2_with fail
  with_reducible refine (HNd.out w17).mono ?_
  rintro e w18 ⟨rfl, hb⟩
  have HB18 : Hid (Below w.heap.size w w18) := bstep HB17.out hb
  have HG18 : Hid (PG w.heap.size w18 g hN hE) := HG17.out.later hb
  have HK18 : Hid (PG w15.heap.size w18 gb hN (Gs.flp hE)) := HK17.out.later hb
  have Hvo18 : Hid (LS w18 vo [⟨z, sd⟩, ⟨z, sb⟩, ⟨z, sc⟩, ⟨z, sa⟩, ⟨z, se⟩]) := Hvo17.out.later hb
  clear hb
  go_wp2_with fail
  with_reducible refine (HNb.out w18).mono ?_
  rintro e w19 ⟨rfl, hb⟩
  have HB19 : Hid (Below w.heap.size w w19) := bstep HB18.out hb
  have HG19 : Hid (PG w.heap.size w19 g hN hE) := HG18.out.later hb
  have HK19 : Hid (PG w15.heap.size w19 gb hN (Gs.flp hE)) := HK18.out.later hb
  have Hvo19 : Hid (LS w19 vo [⟨z, sd⟩, ⟨z, sb⟩, ⟨z, sc⟩, ⟨z, sa⟩, ⟨z, se⟩]) := Hvo18.out.later hb
  clear hb
  go_wp2_with fail
  with_reducible refine (HNc.out w19).mono ?_
  rintro e w20 ⟨rfl, hb⟩
  have HB20 : Hid (Below w.heap.size w w20) := bstep HB19.out hb
  have HG20 : Hid (PG w.heap.size w20 g hN hE) := HG19.out.later hb
  have HK20 : Hid (PG w15.heap.size w20 gb hN (Gs.flp hE)) := HK19.out.later hb
  have Hvo20 : Hid (LS w20 vo [⟨z, sd⟩, ⟨z, sb⟩, ⟨z, sc⟩, ⟨z, sa⟩, ⟨z, se⟩]) := Hvo19.out.later hb
  clear hb
  go_wp2_with fail
  with_reducible refine (HNa.out w20).mono ?_
  rintro e w21 ⟨rfl, hb⟩
  have HB21 : Hid (Below w.heap.size w w21) := bstep HB20.out hb
  have HG21 : Hid (PG w.heap.size w21 g hN hE) := HG20.out.later hb
  have HK21 : Hid (PG w15.heap.size w21 gb hN (Gs.flp hE)) := HK20.out.later hb
  have Hvo21 : Hid (LS w21 vo [⟨z, sd⟩, ⟨z, sb⟩, ⟨z, sc⟩, ⟨z, sa⟩, ⟨z, se⟩]) := Hvo20.out.later hb
  clear hb
  go_wp2_with fail
  with_reducible refine (HNe.out w21).mono ?_
  rintro e w22 ⟨rfl, hb⟩
  have HB22 : Hid (Below w.heap.size w w22) := bstep HB21.out hb
  have HG22 : Hid (PG w.heap.size w22 g hN hE) := HG21.out.later hb
  have HK22 : Hid (PG w15.heap.size w22 gb hN (Gs.flp hE)) := HK21.out.later hb
  have Hvo22 : Hid (LS w22 vo [⟨z, sd⟩, ⟨z, sb⟩, ⟨z, sc⟩, ⟨z, sa⟩, ⟨z, se⟩]) := Hvo21.out.later hb
  clear hb
  go_wp2_with fail
  with_reducible refine (same_true (Hvo22.out.later (balloc w22 (.cells #[.string (bs z), .string (bs sd), .string (bs z), .string (bs sb), .string (bs z), .string (bs sc), .string (bs z), .string (bs sa), .string (bs z), .string (bs se)] 31))) (ls_five w22 ⟨z, sd⟩ ⟨z, sb⟩ ⟨z, sc⟩ ⟨z, sa⟩ ⟨z, se⟩) (by simp)).mono ?_
  rintro e w23 ⟨rfl, hb0⟩
  have hb : Below w22.heap.size w22 w23 := bstep (balloc _ _) hb0
  clear hb0
  have HB23 : Hid (Below w.heap.size w w23) := bstep HB22.out hb
  have HG23 : Hid (PG w.heap.size w23 g hN hE) := HG22.out.later hb
  have HK23 : Hid (PG w15.heap.size w23 gb hN (Gs.flp hE)) := HK22.out.later hb
  clear hb
  go_wp2_with fail
  with_reducible refine (HNa.out w23).mono ?_
  rintro e w24 ⟨rfl, hb⟩
  have HB24 : Hid (Below w.heap.size w w24) := bstep HB23.out hb
  have HG24 : Hid (PG w.heap.size w24 g hN hE) := HG23.out.later hb
  have HK24 : Hid (PG w15.heap.size w24 gb hN (Gs.flp hE)) := HK23.out.later hb
  clear hb
  go_wp2_with fail
  with_reducible refine (HU.out w24 g HG24.out).mono ?_
  rintro e w25 ⟨vu, rfl, hl, hb⟩
  have HB25 : Hid (Below w.heap.size w w25) := bstep HB24.out hb
  have HG25 : Hid (PG w.heap.size w25 g hN hE) := HG24.out.later hb
  have HK25 : Hid (PG w15.heap.size w25 gb hN (Gs.flp hE)) := HK24.out.later hb
  have Hvu25 : Hid (LS w25 vu [⟨z, sb⟩, ⟨z, sc⟩]) := hl
  clear hl hb
  go_wp2_with fail
  with_reducible refine (HNb.out w25).mono ?_
  rintro e w26 ⟨rfl, hb⟩
  have HB26 : Hid (Below w.heap.size w w26) := bstep HB25.out hb
  have HG26 : Hid (PG w.heap.size w26 g hN hE) := HG25.out.later hb
  have HK26 : Hid (PG w15.heap.size w26 gb hN (Gs.flp hE)) := HK25.out.later hb
  have Hvu26 : Hid (LS w26 vu [⟨z, sb⟩, ⟨z, sc⟩]) := Hvu25.out.later hb
  clear hb
  go_wp2_with fail
  with_reducible refine (HNc.out w26).mono ?_
  rintro e w27 ⟨rfl, hb⟩
  have HB27 : Hid (Below w.heap.size w w27) := bstep HB26.out hb
  have HG27 : Hid (PG w.heap.size w27 g hN hE) := HG26.out.later hb
  have HK27 : Hid (PG w15.heap.size w27 gb hN (Gs.flp hE)) := HK26.out.later hb
  have Hvu27 : Hid (LS w27 vu [⟨z, sb⟩, ⟨z, sc⟩]) := Hvu26.out.later hb
  clear hb
  go_wp2_with fail
  with_reducible refine (same_true (Hvu27.out.later (balloc w27 (.cells #[.string (bs z), .string (bs sb), .string (bs z), .string (bs sc)] 31))) (ls_two w27 ⟨z, sb⟩ ⟨z, sc⟩) (by simp)).mono ?_
  rintro e w28 ⟨rfl, hb0⟩
  have hb : Below w27.heap.size w27 w28 := bstep (balloc _ _) hb0
  clear hb0
  have HB28 : Hid (Below w.heap.size w w28) := bstep HB27.out hb
  have HG28 : Hid (PG w.heap.size w28 g hN hE) := HG27.out.later hb
  have HK28 : Hid (PG w15.heap.size w28 gb hN (Gs.flp hE)) := HK27.out.later hb
  clear hb
  go_wp2_with fail
  with_reducible refine (HNd.out w28).mono ?_
  rintro e w29 ⟨rfl, hb⟩
  have HB29 : Hid (Below w.heap.size w w29) := bstep HB28.out hb
  have HG29 : Hid (PG w.heap.size w29 g hN hE) := HG28.out.later hb
  have HK29 : Hid (PG w15.heap.size w29 gb hN (Gs.flp hE)) := HK28.out.later hb
  clear hb
  go_wp2_with fail
  with_reducible refine (HV.out _ w29 gb HK29.out).mono ?_
  rintro e w30 ⟨vv, rfl, hl, hb⟩
  have HB30 : Hid (Below w.heap.size w w30) := bstep HB29.out hb
  have HG30 : Hid (PG w.heap.size w30 g hN hE) := HG29.out.later hb
  have HK30 : Hid (PG w15.heap.size w30 gb hN (Gs.flp hE)) := HK29.out.later hb
  have Hvv30 : Hid (LS w30 vv [⟨z, sb⟩, ⟨z, sc⟩]) := hl
  clear hl hb
  go_wp2_with fail
  with_reducible refine (HNb.out w30).mono ?_
  rintro e w31 ⟨rfl, hb⟩
  have HB31 : Hid (Below w.heap.size w w31) := bstep HB30.out hb
  have HG31 : Hid (PG w.heap.size w31 g hN hE) := HG30.out.later hb
  have HK31 : Hid (PG w15.heap.size w31 gb hN (Gs.flp hE)) := HK30.out.later hb
  have Hvv31 : Hid (LS w31 vv [⟨z, sb⟩, ⟨z, sc⟩]) := Hvv30.out.later hb
  clear hb
  go_wp2_with fail
  with_reducible refine (HNc.out w31).mono ?_
  rintro e w32 ⟨rfl, hb⟩
  have HB32 : Hid (Below w.heap.size w w32) := bstep HB31.out hb
  have HG32 : Hid (PG w.heap.size w32 g hN hE) := HG31.out.later hb
  have HK32 : Hid (PG w15.heap.size w32 gb hN (Gs.flp hE)) := HK31.out.later hb
  have Hvv32 : Hid (LS w32 vv [⟨z, sb⟩, ⟨z, sc⟩]) := Hvv31.out.later hb
  clear hb
  go_wp2_with fail
  with_reducible refine (same_true (Hvv32.out.later (balloc w32 (.cells #[.string (bs z), .string (bs sb), .string (bs z), .string (bs sc)] 31))) (ls_two w32 ⟨z, sb⟩ ⟨z, sc⟩) (by simp)).mono ?_
  rintro e w33 ⟨rfl, hb0⟩
  have hb : Below w32.heap.size w32 w33 := bstep (balloc _ _) hb0
  clear hb0
  have HB33 : Hid (Below w.heap.size w w33) := bstep HB32.out hb
  have HG33 : Hid (PG w.heap.size w33 g hN hE) := HG32.out.later hb
  have HK33 : Hid (PG w15.heap.size w33 gb hN (Gs.flp hE)) := HK32.out.later hb
  clear hb
  go_wp2_with fail
  with_reducible refine (HNb.out w33).mono ?_
  rintro e w34 ⟨rfl, hb⟩
  have HB34 : Hid (Below w.heap.size w w34) := bstep HB33.out hb
  have HG34 : Hid (PG w.heap.size w34 g hN hE) := HG33.out.later hb
  have HK34 : Hid (PG w15.heap.size w34 gb hN (Gs.flp hE)) := HK33.out.later hb
  clear hb
  go_wp2_with fail
  with_reducible refine (HR.out (w34.alloc (.cells #[.string (bs z), .string (bs sb)] 31)) g (.slice (some ⟨w34.heap.size, 0, none⟩) 1 1) (HG34.out.later (balloc _ _)) (ls_one w34 ⟨z, sb⟩)).mono ?_
  rintro e w35 ⟨vr, rfl, hl, hb0⟩
  have hb : Below w34.heap.size w34 w35 := bstep (balloc _ _) hb0
  clear hb0
  have HB35 : Hid (Below w.heap.size w w35) := bstep HB34.out hb
  have HG35 : Hid (PG w.heap.size w35 g hN hE) := HG34.out.later hb
  have HK35 : Hid (PG w15.heap.size w35 gb hN (Gs.flp hE)) := HK34.out.later hb
  have Hvr35 : Hid (LS w35 vr [⟨z, sb⟩, ⟨z, sd⟩]) := hl
  clear hl hb
  go_wp2_with fail
  with_reducible refine (HNb.out w35).mono ?_
  rintro e w36 ⟨rfl, hb⟩
  have HB36 : Hid (Below w.heap.size w w36) := bstep HB35.out hb
  have HG36 : Hid (PG w.heap.size w36 g hN hE) := HG35.out.later hb
  have HK36 : Hid (PG w15.heap.size w36 gb hN (Gs.flp hE)) := HK35.out.later hb
  have Hvr36 : Hid (LS w36 vr [⟨z, sb⟩, ⟨z, sd⟩]) := Hvr35.out.later hb
  clear hb
  go_wp2_with fail
  with_reducible refine (HNd.out w36).mono ?_
  rintro e w37 ⟨rfl, hb⟩
  have HB37 : Hid (Below w.heap.size w w37) := bstep HB36.out hb
  have HG37 : Hid (PG w.heap.size w37 g hN hE) := HG36.out.later hb
  have HK37 : Hid (PG w15.heap.size w37 gb hN (Gs.flp hE)) := HK36.out.later hb
  have Hvr37 : Hid (LS w37 vr [⟨z, sb⟩, ⟨z, sd⟩]) := Hvr36.out.later hb
  clear hb
  go_wp2_with fail
  with_reducible refine (same_true (Hvr37.out.later (balloc w37 (.cells #[.string (bs z), .string (bs sb), .string (bs z), .string (bs sd)] 31))) (ls_two w37 ⟨z, sb⟩ ⟨z, sd⟩) (by simp)).mono ?_
  rintro e w38 ⟨rfl, hb0⟩
  have hb : Below w37.heap.size w37 w38 := bstep (balloc _ _) hb0
  clear hb0
  have HB38 : Hid (Below w.heap.size w w38) := bstep HB37.out hb
  have HG38 : Hid (PG w.heap.size w38 g hN hE) := HG37.out.later hb
  have HK38 : Hid (PG w15.heap.size w38 gb hN (Gs.flp hE)) := HK37.out.later hb
  clear hb
  go_wp2_with fail
  go_ret
  exact ⟨rfl, HB38.out⟩
end Go.Proofs.Ytjohhmfncemknaa
