/-
  The law over all that is told.
-/
import Derived.Test.YtjohhmfncemknaaGb
import Derived.Test.YtjohhmfncemknaaJPg
import Derived.Test.YtjohhmfncemknaaHd
namespace Go.Proofs.Ytjohhmfncemknaa
open Go.RowKit Go.Maps

theorem Pr.told {w : World} {X : Nat → Prop} {g d c : Nat} (h : Pr w X g d c) (kd wh : Int) (a b : Lb) (ha : Lu a) (hb : Lu b) :
    Calls Try.prog 19 #[.pointer (some ⟨g, 0, none⟩), .pointer (some ⟨d, 0, none⟩), opv kd wh a b] w fun e w' => e = .returned (.bool true) ∧ Below w.heap.size w w' := by
  obtain ⟨F, D, ns, out, N, E, h1, _⟩ := h
  exact told_any h1 kd wh a b ha hb
theorem LP.told0 {S : Nat} {w : World} {ga qa c g0 g1 d0 d1 : Nat} (h : LP S w ga qa c g0 g1 d0 d1) (kd wh : Int) (a b : Lb) (ha : Lu a) (hb : Lu b) :
    Calls Try.prog 19 #[.pointer (some ⟨g0, 0, none⟩), .pointer (some ⟨d0, 0, none⟩), opv kd wh a b] w fun e w' => e = .returned (.bool true) ∧ Below w.heap.size w w' := by
  obtain ⟨X0, X1, p0, p1, dis, hX⟩ := h.it
  exact p0.told kd wh a b ha hb
theorem LP.told1 {S : Nat} {w : World} {ga qa c g0 g1 d0 d1 : Nat} (h : LP S w ga qa c g0 g1 d0 d1) (kd wh : Int) (a b : Lb) (ha : Lu a) (hb : Lu b) :
    Calls Try.prog 19 #[.pointer (some ⟨g1, 0, none⟩), .pointer (some ⟨d1, 0, none⟩), opv kd wh a b] w fun e w' => e = .returned (.bool true) ∧ Below w.heap.size w w' := by
  obtain ⟨X0, X1, p0, p1, dis, hX⟩ := h.it
  exact p1.told kd wh a b ha hb
theorem hid_mk {p : Prop} (h : p) : Hid p := h
theorem OB.all {w : World} {o : Nat} {kd wh : Int} {a b : Lb} (h : OB w o kd wh a b) : w.cell? ⟨o, 0, none⟩ = some (.int .i64 kd) ∧ w.cell? ⟨o, 1, none⟩ = some (.int .i64 wh) ∧ w.cell? ⟨o, 2, none⟩ = some (.string (bs a.pkg)) ∧ w.cell? ⟨o, 3, none⟩ = some (.string (bs a.name)) ∧ w.cell? ⟨o, 4, none⟩ = some (.string (bs b.pkg)) ∧ w.cell? ⟨o, 5, none⟩ = some (.string (bs b.name)) := by
  have hb := h.blk
  exact ⟨by simp [World.cell?, hb], by simp [World.cell?, hb], by simp [World.cell?, hb], by simp [World.cell?, hb], by simp [World.cell?, hb], by simp [World.cell?, hb]⟩
/-- two and two without nodes -/
theorem LP.start {w w1 w2 w3 : World} {g0 g1 : Nat} (hb : Below w.heap.size w w1) (h0 : GR w2 (fun k => w1.heap.size ≤ k ∧ k < w2.heap.size) g0 [] (fun _ => [])) (hb2 : Below w1.heap.size w1 w2) (h1 : GR w3 (fun k => w2.heap.size ≤ k ∧ k < w3.heap.size) g1 [] (fun _ => [])) (hb3 : Below w2.heap.size w2 w3) :
    LP w.heap.size ((((w3.alloc (.cells #[.pointer (some ⟨g0, 0, none⟩), .pointer (some ⟨g1, 0, none⟩)] 44)).alloc (.cells #[.slice none 0 0, .slice none 0 0] 48)).alloc (.cells #[.slice none 0 0, .slice none 0 0] 48)).alloc (.cells #[.pointer (some ⟨w3.heap.size + 1, 0, none⟩), .pointer (some ⟨w3.heap.size + 2, 0, none⟩)] 49)) w3.heap.size (w3.heap.size + 3) 0 g0 g1 (w3.heap.size + 1) (w3.heap.size + 2) := by
  have s0 := hb.size
  have s2 := hb2.size
  have s3 := hb3.size
  obtain ⟨A0, hA0⟩ : ∃ A0, w3.alloc (.cells #[.pointer (some ⟨g0, 0, none⟩), .pointer (some ⟨g1, 0, none⟩)] 44) = A0 := ⟨_, rfl⟩
  have z0 : A0.heap.size = w3.heap.size + 1 := by rw [← hA0]; simp
  have b0 : Below w3.heap.size w3 A0 := by rw [← hA0]; exact balloc _ _
  have y0 : A0.heap[w3.heap.size]? = some (.cells #[.pointer (some ⟨g0, 0, none⟩), .pointer (some ⟨g1, 0, none⟩)] 44 (0, 0)) := by rw [← hA0]; exact heap_alloc_new _ _
  rw [hA0]
  obtain ⟨A1, hA1⟩ : ∃ A1, A0.alloc (.cells #[.slice none 0 0, .slice none 0 0] 48) = A1 := ⟨_, rfl⟩
  have z1 : A1.heap.size = w3.heap.size + 2 := by rw [← hA1]; simp; omega
  have b1 : Below A0.heap.size A0 A1 := by rw [← hA1]; exact balloc _ _
  have y1 : DG A1 (fun k => k = w3.heap.size + 1) (w3.heap.size + 1) [] [] := by rw [← hA1, ← z0]; exact DG.new A0
  rw [hA1]
  obtain ⟨A2, hA2⟩ : ∃ A2, A1.alloc (.cells #[.slice none 0 0, .slice none 0 0] 48) = A2 := ⟨_, rfl⟩
  have z2 : A2.heap.size = w3.heap.size + 3 := by rw [← hA2]; simp; omega
  have b2 : Below A1.heap.size A1 A2 := by rw [← hA2]; exact balloc _ _
  have y2 : DG A2 (fun k => k = w3.heap.size + 2) (w3.heap.size + 2) [] [] := by rw [← hA2, ← z1]; exact DG.new A1
  rw [hA2]
  obtain ⟨A3, hA3⟩ : ∃ A3, A2.alloc (.cells #[.pointer (some ⟨w3.heap.size + 1, 0, none⟩), .pointer (some ⟨w3.heap.size + 2, 0, none⟩)] 49) = A3 := ⟨_, rfl⟩
  have z3 : A3.heap.size = w3.heap.size + 4 := by rw [← hA3]; simp; omega
  have b3 : Below A2.heap.size A2 A3 := by rw [← hA3]; exact balloc _ _
  have y3 : A3.heap[w3.heap.size + 3]? = some (.cells #[.pointer (some ⟨w3.heap.size + 1, 0, none⟩), .pointer (some ⟨w3.heap.size + 2, 0, none⟩)] 49 (0, 0)) := by rw [← hA3, ← z2]; exact heap_alloc_new _ _
  rw [hA3]
  have b13 : Below A1.heap.size A1 A3 := bstep b2 b3
  have b03 : Below A0.heap.size A0 A3 := bstep b1 b13
  have b33 : Below w3.heap.size w3 A3 := bstep b0 b03
  refine ⟨(b03.block _ (by omega)).trans y0, y3, ⟨fun k => w1.heap.size ≤ k ∧ k < w2.heap.size ∨ k = w3.heap.size + 1, fun k => w2.heap.size ≤ k ∧ k < w3.heap.size ∨ k = w3.heap.size + 2, ⟨_, _, _, _, _, _, ⟨(h0.later hb3).later b33, y1.later b13, Lnk.new, by simp⟩, fun k hk hd => by omega, fun k hk => .inl hk, fun k hk => .inr hk, by simp, by simp⟩,
    ⟨_, _, _, _, _, _, ⟨h1.later b33, y2.later b3, Lnk.new, by simp⟩, fun k hk hd => by omega, fun k hk => .inl hk, fun k hk => .inr hk, by simp, by simp⟩, fun k hk => by omega, fun k hk => by omega⟩, by omega, by omega⟩

set_option maxRecDepth 100000 in
set_option maxHeartbeats 16000000 in
theorem ga_law {w : World} {vs : Value} {L : List Stp} (hs : TS6 w vs L) (ss : SSm L) :
    Calls Try.prog 4 #[vs] w (fun e w' => e = .returned (.bool true) ∧ Below w.heap.size w w') := by
  have H : Hid (TS6 w vs L ∧ SSm L) := ⟨hs, ss⟩
  obtain ⟨sa, sc1, rfl⟩ := hs.form
  have hns := ss.len
  obtain ⟨ns, hn⟩ : ∃ ns, L.length = ns := ⟨_, rfl⟩
  have HN : Hid (L.length = ns) := hn
  rw [hn] at H hns
  rw [hn]
  clear hs ss hn
  go_enter Try.func4, Try.ntmps4
  go_wp2_with fail
  refine (head_any w).mono ?_
  rintro e w1 ⟨rfl, hb⟩
  have HB1 : Hid (Below w.heap.size w w1) := hb
  clear hb
  go_wp2_with fail
  refine (new_any w1).mono ?_
  rintro e w2 ⟨g0, rfl, hg, hb⟩
  have H2 : Hid (GR w2 (fun k => w1.heap.size ≤ k ∧ k < w2.heap.size) g0 [] (fun _ => []) ∧ Below w1.heap.size w1 w2) := ⟨hg, hb⟩
  clear hg hb
  go_wp2_with fail
  refine (new_any w2).mono ?_
  rintro e w3 ⟨g1, rfl, hg, hb⟩
  have H3 : Hid (GR w3 (fun k => w2.heap.size ≤ k ∧ k < w3.heap.size) g1 [] (fun _ => []) ∧ Below w2.heap.size w2 w3) := ⟨hg, hb⟩
  clear hg hb
  have H4 := hid_mk (LP.start HB1.out H2.out.1 H2.out.2 H3.out.1 H3.out.2)
  go_wp2_with fail
  obtain ⟨w4, hw4⟩ : ∃ w4, (((w3.alloc (.cells #[.pointer (some ⟨g0, 0, none⟩), .pointer (some ⟨g1, 0, none⟩)] 44)).alloc (.cells #[.slice none 0 0, .slice none 0 0] 48)).alloc (.cells #[.slice none 0 0, .slice none 0 0] 48)).alloc (.cells #[.pointer (some ⟨w3.heap.size + 1, 0, none⟩), .pointer (some ⟨w3.heap.size + 2, 0, none⟩)] 49) = w4 := ⟨_, rfl⟩
  have HB4 : Hid (Below w.heap.size w w4) := by rw [← hw4]; exact bstep (bstep (bstep HB1.out H2.out.2) H3.out.2) (bstep (bstep (bstep (balloc _ _) (balloc _ _)) (balloc _ _)) (balloc _ _))
  rw [hw4] at H4
  rw [hw4]
  clear hw4
  obtain ⟨ga, hga⟩ : ∃ ga, w3.heap.size = ga := ⟨_, rfl⟩
  rw [hga] at H4
  rw [hga]
  clear hga
  obtain ⟨qa, hqa⟩ : ∃ qa, ga + 3 = qa := ⟨_, rfl⟩
  rw [hqa] at H4
  rw [hqa]
  clear hqa
  go_loopw [5] (fun i wr => ∃ (k g0 g1 d0 d1 : Nat), k ≤ ns ∧ k ≤ 60 ∧ i = .int .i64 k ∧ LP w.heap.size wr ga qa k g0 g1 d0 d1 ∧ Below w.heap.size w wr) (fun i _ => 60 - (intOf i).toNat)
  case atStart => exact ⟨0, _, _, _, _, by omega, by omega, rfl, H4.out, HB4.out⟩
  case round =>
    clear H4 HB4 H2 H3 HB1
    obtain ⟨k, g0, g1, d0, d1, hk, hk6, rfl, hlp, hb⟩ := hrel
    have H5 : Hid (LP w.heap.size wr ga qa k g0 g1 d0 d1 ∧ Below w.heap.size w wr) := ⟨hlp, hb⟩
    clear hlp hb
    by_cases hlt : k < ns
    · by_cases h60 : k < 60
      · have hkl : k < L.length := by have := HN.out; omega
        obtain ⟨b, off, ea, hbw, hcs⟩ := TS6.at H.out.1 hkl
        subst ea
        have hlab := H.out.2.each _ (List.getElem_mem hkl)
        have hla := hlab.1
        have hlb := hlab.2.1
        clear hlab
        obtain ⟨stp, hst⟩ : ∃ st, L[k] = st := ⟨_, rfl⟩
        rw [hst] at hla hlb
        simp only [hst] at hcs
        clear hst hkl
        obtain ⟨kd, wh, ⟨p, n⟩, ⟨q, m⟩⟩ := stp
        simp only at hcs hla hlb
        obtain ⟨s0, s1, s2, s3, s4, s5⟩ := hcs wr H5.out.2
        have HLU : Hid (Lu ⟨p, n⟩ ∧ Lu ⟨q, m⟩) := ⟨hla, hlb⟩
        clear hcs hla hlb
        have k1 : (k : Int) < (ns : Int) := by omega
        have k2 : (k : Int) < 60 := by omega
        obtain ⟨W, hW⟩ : ∃ W, wr.alloc (.cells #[.int .i64 kd, .int .i64 wh, .string (bs p), .string (bs n), .string (bs q), .string (bs m)] 51) = W := ⟨_, rfl⟩
        obtain ⟨o, ho⟩ : ∃ o, wr.heap.size = o := ⟨_, rfl⟩
        have H6 : Hid (Below wr.heap.size wr W ∧ OB W o kd wh ⟨p, n⟩ ⟨q, m⟩ ∧ wr.heap.size ≤ o) := by
          rw [← hW, ← ho]; exact ⟨balloc _ _, ⟨heap_alloc_new _ _⟩, Nat.le_refl _⟩
        go_upto_region 11 with fail
        try rw [hW]
        try rw [ho]
        clear hW ho s0 s1 s2 s3 s4 s5
        obtain ⟨o0, o1, o2, o3, o4, o5⟩ := H6.out.2.1.all
        obtain ⟨x0, x1, x2, x3⟩ := (H5.out.1.later H6.out.1).cells
        simp only at o0 o1 o2 o3 o4 o5
        rcases and_one_i wh with hw | hw
        · by_cases e0 : kd = 0
          · subst e0
            have HE : Hid (Calls Try.prog 9 #[.pointer (some ⟨g0, 0, none⟩), (.agg #[.string (bs p), .string (bs n)]), (.agg #[.string (bs q), .string (bs m)])] W.drew fun e w1 => e = .returned (.tuple #[]) ∧ Kp w.heap.size wr W.drew w1 ∧ w1.cell? ⟨ga, 0, none⟩ = some (.pointer (some ⟨g0, 0, none⟩)) ∧ w1.cell? ⟨qa, 0, none⟩ = some (.pointer (some ⟨d0, 0, none⟩)) ∧ ∀ W1, Below w1.heap.size w1 W1 → Calls Try.prog 16 #[.pointer (some ⟨d0, 0, none⟩), (.agg #[.string (bs p), .string (bs n)]), (.agg #[.string (bs q), .string (bs m)])] W1 fun e w2 => e = .returned (.tuple #[]) ∧ Kp w.heap.size wr W1 w2 ∧ LP w.heap.size w2 ga qa (k + 1) g0 g1 d0 d1) := H5.out.1.edge0 ⟨p, n⟩ ⟨q, m⟩ HLU.out.1 HLU.out.2 (by omega) (bstep H6.out.1 (bd W 1))
            go_wp2_with fail
            go_region_held3 (fun w' => w'.cell? ⟨ga, 0, none⟩ = some (.pointer (some ⟨g0, 0, none⟩)) ∧ w'.cell? ⟨o, 2, none⟩ = some (.string (bs p)) ∧ w'.cell? ⟨o, 3, none⟩ = some (.string (bs n)) ∧ w'.cell? ⟨o, 4, none⟩ = some (.string (bs q)) ∧ w'.cell? ⟨o, 5, none⟩ = some (.string (bs m))) (first | (with_reducible exact K7.out) | go_keep) (first | (go_at_call 9; (with_reducible refine HE.out.mono ?_); rintro e w7 ⟨rfl, hkp, hg7, hq7, hnx⟩; have H7 : Hid (Kp w.heap.size wr W.drew w7 ∧ OB w7 o 0 wh ⟨p, n⟩ ⟨q, m⟩ ∧ ∀ W1, Below w7.heap.size w7 W1 → Calls Try.prog 16 #[.pointer (some ⟨d0, 0, none⟩), (.agg #[.string (bs p), .string (bs n)]), (.agg #[.string (bs q), .string (bs m)])] W1 fun e w2 => e = .returned (.tuple #[]) ∧ Kp w.heap.size wr W1 w2 ∧ LP w.heap.size w2 ga qa (k + 1) g0 g1 d0 d1) := ⟨hkp, (H6.out.2.1.later (bd W 1)).kp hkp H6.out.2.2, hnx⟩; have K7 : Hid (w7.cell? ⟨ga, 0, none⟩ = some (.pointer (some ⟨g0, 0, none⟩)) ∧ w7.cell? ⟨o, 2, none⟩ = some (.string (bs p)) ∧ w7.cell? ⟨o, 3, none⟩ = some (.string (bs n)) ∧ w7.cell? ⟨o, 4, none⟩ = some (.string (bs q)) ∧ w7.cell? ⟨o, 5, none⟩ = some (.string (bs m))) := ⟨hg7, H7.out.2.1.cells⟩; have HQ7 : Hid (w7.cell? ⟨qa, 0, none⟩ = some (.pointer (some ⟨d0, 0, none⟩))) := hq7; clear hkp hg7 hq7 hnx))
            clear o0 o1 o2 o3 o4 o5 x0 x1 x2 x3
            obtain ⟨o0, o1, o2, o3, o4, o5⟩ := H7.out.2.1.all
            simp only at o0 o1 o2 o3 o4 o5
            have x0 := HQ7.out
            have HE2 : Hid (Calls Try.prog 16 #[.pointer (some ⟨d0, 0, none⟩), (.agg #[.string (bs p), .string (bs n)]), (.agg #[.string (bs q), .string (bs m)])] w7.drew fun e w2 => e = .returned (.tuple #[]) ∧ Kp w.heap.size wr w7.drew w2 ∧ LP w.heap.size w2 ga qa (k + 1) g0 g1 d0 d1) := H7.out.2.2 w7.drew (bd w7 1)
            go_wp2_with fail
            go_region_held3 (fun w' => w'.cell? ⟨qa, 0, none⟩ = some (.pointer (some ⟨d0, 0, none⟩)) ∧ w'.cell? ⟨o, 2, none⟩ = some (.string (bs p)) ∧ w'.cell? ⟨o, 3, none⟩ = some (.string (bs n)) ∧ w'.cell? ⟨o, 4, none⟩ = some (.string (bs q)) ∧ w'.cell? ⟨o, 5, none⟩ = some (.string (bs m))) (first | (with_reducible exact K8.out) | go_keep) (first | (go_at_call 16; (with_reducible refine HE2.out.mono ?_); rintro e w8 ⟨rfl, hkp, hlp⟩; have H8 : Hid (LP w.heap.size w8 ga qa (k + 1) g0 g1 d0 d1 ∧ OB w8 o 0 wh ⟨p, n⟩ ⟨q, m⟩ ∧ Below w.heap.size w w8) := ⟨hlp, (H7.out.2.1.later (bd w7 1)).kp hkp H6.out.2.2, below_trans (below_trans (bstep H5.out.2 (bstep H6.out.1 (bd W 1))) H7.out.1.below) (below_trans (below_mono (bd w7 1) (Nat.le_trans (bstep H5.out.2 (bstep H6.out.1 (bd W 1))).size H7.out.1.below.size)) hkp.below)⟩; have K8 : Hid (w8.cell? ⟨qa, 0, none⟩ = some (.pointer (some ⟨d0, 0, none⟩)) ∧ w8.cell? ⟨o, 2, none⟩ = some (.string (bs p)) ∧ w8.cell? ⟨o, 3, none⟩ = some (.string (bs n)) ∧ w8.cell? ⟨o, 4, none⟩ = some (.string (bs q)) ∧ w8.cell? ⟨o, 5, none⟩ = some (.string (bs m))) := ⟨hlp.cells.2.2.1, H8.out.2.1.cells⟩; clear hkp hlp))
            clear o0 o1 o2 o3 o4 o5 x0
            obtain ⟨y0, y1, y2, y3⟩ := H8.out.1.cells
            obtain ⟨u0, u1, u2, u3, u4, u5⟩ := H8.out.2.1.all
            simp only at u0 u1 u2 u3 u4 u5
            have HT0 : Hid (Calls Try.prog 19 #[.pointer (some ⟨g0, 0, none⟩), .pointer (some ⟨d0, 0, none⟩), .agg #[.int .i64 0, .int .i64 wh, .string (bs p), .string (bs n), .string (bs q), .string (bs m)]] w8 fun e w' => e = .returned (.bool true) ∧ Below w8.heap.size w8 w') := H8.out.1.told0 0 wh ⟨p, n⟩ ⟨q, m⟩ HLU.out.1 HLU.out.2
            go_wp2_with fail
            with_reducible refine HT0.out.mono ?_
            rintro e w9 ⟨rfl, hb9⟩
            have H9 : Hid (LP w.heap.size w9 ga qa (k + 1) g0 g1 d0 d1 ∧ OB w9 o 0 wh ⟨p, n⟩ ⟨q, m⟩ ∧ Below w.heap.size w w9) := ⟨H8.out.1.later hb9, H8.out.2.1.later hb9, bstep H8.out.2.2 hb9⟩
            clear hb9 y0 y1 y2 y3 u0 u1 u2 u3 u4 u5
            obtain ⟨y0, y1, y2, y3⟩ := H9.out.1.cells
            obtain ⟨u0, u1, u2, u3, u4, u5⟩ := H9.out.2.1.all
            simp only at u0 u1 u2 u3 u4 u5
            have HT1 : Hid (Calls Try.prog 19 #[.pointer (some ⟨g1, 0, none⟩), .pointer (some ⟨d1, 0, none⟩), .agg #[.int .i64 0, .int .i64 wh, .string (bs p), .string (bs n), .string (bs q), .string (bs m)]] w9 fun e w' => e = .returned (.bool true) ∧ Below w9.heap.size w9 w') := H9.out.1.told1 0 wh ⟨p, n⟩ ⟨q, m⟩ HLU.out.1 HLU.out.2
            go_wp2_with fail
            with_reducible refine HT1.out.mono ?_
            rintro e w10 ⟨rfl, hb10⟩
            have H10 : Hid (LP w.heap.size w10 ga qa (k + 1) g0 g1 d0 d1 ∧ Below w.heap.size w w10) := ⟨H9.out.1.later hb10, bstep H9.out.2.2 hb10⟩
            clear hb10 y0 y1 y2 y3 u0 u1 u2 u3 u4 u5
            go_wp2_with fail
            go_roundw
            case rel => exact ⟨k + 1, g0, g1, d0, d1, by omega, by omega, by go_num, H10.out.1, H10.out.2⟩
            case measure => simp [intOf]; omega
          · by_cases e1 : kd = 1
            · subst e1
              have HE : Hid (Calls Try.prog 9 #[.pointer (some ⟨g0, 0, none⟩), (.agg #[.string (bs p), .string (bs n)]), (.agg #[.string (bs q), .string (bs m)])] W.drew fun e w1 => e = .returned (.tuple #[]) ∧ Kp w.heap.size wr W.drew w1 ∧ w1.cell? ⟨ga, 0, none⟩ = some (.pointer (some ⟨g0, 0, none⟩)) ∧ w1.cell? ⟨qa, 0, none⟩ = some (.pointer (some ⟨d0, 0, none⟩)) ∧ ∀ W1, Below w1.heap.size w1 W1 → Calls Try.prog 16 #[.pointer (some ⟨d0, 0, none⟩), (.agg #[.string (bs p), .string (bs n)]), (.agg #[.string (bs q), .string (bs m)])] W1 fun e w2 => e = .returned (.tuple #[]) ∧ Kp w.heap.size wr W1 w2 ∧ LP w.heap.size w2 ga qa (k + 1) g0 g1 d0 d1) := H5.out.1.edge0 ⟨p, n⟩ ⟨q, m⟩ HLU.out.1 HLU.out.2 (by omega) (bstep H6.out.1 (bd W 1))
              go_wp2_with fail
              go_region_held3 (fun w' => w'.cell? ⟨ga, 0, none⟩ = some (.pointer (some ⟨g0, 0, none⟩)) ∧ w'.cell? ⟨o, 2, none⟩ = some (.string (bs p)) ∧ w'.cell? ⟨o, 3, none⟩ = some (.string (bs n)) ∧ w'.cell? ⟨o, 4, none⟩ = some (.string (bs q)) ∧ w'.cell? ⟨o, 5, none⟩ = some (.string (bs m))) (first | (with_reducible exact K7.out) | go_keep) (first | (go_at_call 9; (with_reducible refine HE.out.mono ?_); rintro e w7 ⟨rfl, hkp, hg7, hq7, hnx⟩; have H7 : Hid (Kp w.heap.size wr W.drew w7 ∧ OB w7 o 1 wh ⟨p, n⟩ ⟨q, m⟩ ∧ ∀ W1, Below w7.heap.size w7 W1 → Calls Try.prog 16 #[.pointer (some ⟨d0, 0, none⟩), (.agg #[.string (bs p), .string (bs n)]), (.agg #[.string (bs q), .string (bs m)])] W1 fun e w2 => e = .returned (.tuple #[]) ∧ Kp w.heap.size wr W1 w2 ∧ LP w.heap.size w2 ga qa (k + 1) g0 g1 d0 d1) := ⟨hkp, (H6.out.2.1.later (bd W 1)).kp hkp H6.out.2.2, hnx⟩; have K7 : Hid (w7.cell? ⟨ga, 0, none⟩ = some (.pointer (some ⟨g0, 0, none⟩)) ∧ w7.cell? ⟨o, 2, none⟩ = some (.string (bs p)) ∧ w7.cell? ⟨o, 3, none⟩ = some (.string (bs n)) ∧ w7.cell? ⟨o, 4, none⟩ = some (.string (bs q)) ∧ w7.cell? ⟨o, 5, none⟩ = some (.string (bs m))) := ⟨hg7, H7.out.2.1.cells⟩; have HQ7 : Hid (w7.cell? ⟨qa, 0, none⟩ = some (.pointer (some ⟨d0, 0, none⟩))) := hq7; clear hkp hg7 hq7 hnx))
              clear o0 o1 o2 o3 o4 o5 x0 x1 x2 x3
              obtain ⟨o0, o1, o2, o3, o4, o5⟩ := H7.out.2.1.all
              simp only at o0 o1 o2 o3 o4 o5
              have x0 := HQ7.out
              have HE2 : Hid (Calls Try.prog 16 #[.pointer (some ⟨d0, 0, none⟩), (.agg #[.string (bs p), .string (bs n)]), (.agg #[.string (bs q), .string (bs m)])] w7.drew fun e w2 => e = .returned (.tuple #[]) ∧ Kp w.heap.size wr w7.drew w2 ∧ LP w.heap.size w2 ga qa (k + 1) g0 g1 d0 d1) := H7.out.2.2 w7.drew (bd w7 1)
              go_wp2_with fail
              go_region_held3 (fun w' => w'.cell? ⟨qa, 0, none⟩ = some (.pointer (some ⟨d0, 0, none⟩)) ∧ w'.cell? ⟨o, 2, none⟩ = some (.string (bs p)) ∧ w'.cell? ⟨o, 3, none⟩ = some (.string (bs n)) ∧ w'.cell? ⟨o, 4, none⟩ = some (.string (bs q)) ∧ w'.cell? ⟨o, 5, none⟩ = some (.string (bs m))) (first | (with_reducible exact K8.out) | go_keep) (first | (go_at_call 16; (with_reducible refine HE2.out.mono ?_); rintro e w8 ⟨rfl, hkp, hlp⟩; have H8 : Hid (LP w.heap.size w8 ga qa (k + 1) g0 g1 d0 d1 ∧ OB w8 o 1 wh ⟨p, n⟩ ⟨q, m⟩ ∧ Below w.heap.size w w8) := ⟨hlp, (H7.out.2.1.later (bd w7 1)).kp hkp H6.out.2.2, below_trans (below_trans (bstep H5.out.2 (bstep H6.out.1 (bd W 1))) H7.out.1.below) (below_trans (below_mono (bd w7 1) (Nat.le_trans (bstep H5.out.2 (bstep H6.out.1 (bd W 1))).size H7.out.1.below.size)) hkp.below)⟩; have K8 : Hid (w8.cell? ⟨qa, 0, none⟩ = some (.pointer (some ⟨d0, 0, none⟩)) ∧ w8.cell? ⟨o, 2, none⟩ = some (.string (bs p)) ∧ w8.cell? ⟨o, 3, none⟩ = some (.string (bs n)) ∧ w8.cell? ⟨o, 4, none⟩ = some (.string (bs q)) ∧ w8.cell? ⟨o, 5, none⟩ = some (.string (bs m))) := ⟨hlp.cells.2.2.1, H8.out.2.1.cells⟩; clear hkp hlp))
              clear o0 o1 o2 o3 o4 o5 x0
              obtain ⟨y0, y1, y2, y3⟩ := H8.out.1.cells
              obtain ⟨u0, u1, u2, u3, u4, u5⟩ := H8.out.2.1.all
              simp only at u0 u1 u2 u3 u4 u5
              have HT0 : Hid (Calls Try.prog 19 #[.pointer (some ⟨g0, 0, none⟩), .pointer (some ⟨d0, 0, none⟩), .agg #[.int .i64 1, .int .i64 wh, .string (bs p), .string (bs n), .string (bs q), .string (bs m)]] w8 fun e w' => e = .returned (.bool true) ∧ Below w8.heap.size w8 w') := H8.out.1.told0 1 wh ⟨p, n⟩ ⟨q, m⟩ HLU.out.1 HLU.out.2
              go_wp2_with fail
              with_reducible refine HT0.out.mono ?_
              rintro e w9 ⟨rfl, hb9⟩
              have H9 : Hid (LP w.heap.size w9 ga qa (k + 1) g0 g1 d0 d1 ∧ OB w9 o 1 wh ⟨p, n⟩ ⟨q, m⟩ ∧ Below w.heap.size w w9) := ⟨H8.out.1.later hb9, H8.out.2.1.later hb9, bstep H8.out.2.2 hb9⟩
              clear hb9 y0 y1 y2 y3 u0 u1 u2 u3 u4 u5
              obtain ⟨y0, y1, y2, y3⟩ := H9.out.1.cells
              obtain ⟨u0, u1, u2, u3, u4, u5⟩ := H9.out.2.1.all
              simp only at u0 u1 u2 u3 u4 u5
              have HT1 : Hid (Calls Try.prog 19 #[.pointer (some ⟨g1, 0, none⟩), .pointer (some ⟨d1, 0, none⟩), .agg #[.int .i64 1, .int .i64 wh, .string (bs p), .string (bs n), .string (bs q), .string (bs m)]] w9 fun e w' => e = .returned (.bool true) ∧ Below w9.heap.size w9 w') := H9.out.1.told1 1 wh ⟨p, n⟩ ⟨q, m⟩ HLU.out.1 HLU.out.2
              go_wp2_with fail
              with_reducible refine HT1.out.mono ?_
              rintro e w10 ⟨rfl, hb10⟩
              have H10 : Hid (LP w.heap.size w10 ga qa (k + 1) g0 g1 d0 d1 ∧ Below w.heap.size w w10) := ⟨H9.out.1.later hb10, bstep H9.out.2.2 hb10⟩
              clear hb10 y0 y1 y2 y3 u0 u1 u2 u3 u4 u5
              go_wp2_with fail
              go_roundw
              case rel => exact ⟨k + 1, g0, g1, d0, d1, by omega, by omega, by go_num, H10.out.1, H10.out.2⟩
              case measure => simp [intOf]; omega
            · by_cases e2 : kd = 2
              · subst e2
                have HE : Hid (Calls Try.prog 9 #[.pointer (some ⟨g0, 0, none⟩), (.agg #[.string (bs p), .string (bs n)]), (.agg #[.string (bs q), .string (bs m)])] W.drew fun e w1 => e = .returned (.tuple #[]) ∧ Kp w.heap.size wr W.drew w1 ∧ w1.cell? ⟨ga, 0, none⟩ = some (.pointer (some ⟨g0, 0, none⟩)) ∧ w1.cell? ⟨qa, 0, none⟩ = some (.pointer (some ⟨d0, 0, none⟩)) ∧ ∀ W1, Below w1.heap.size w1 W1 → Calls Try.prog 16 #[.pointer (some ⟨d0, 0, none⟩), (.agg #[.string (bs p), .string (bs n)]), (.agg #[.string (bs q), .string (bs m)])] W1 fun e w2 => e = .returned (.tuple #[]) ∧ Kp w.heap.size wr W1 w2 ∧ LP w.heap.size w2 ga qa (k + 1) g0 g1 d0 d1) := H5.out.1.edge0 ⟨p, n⟩ ⟨q, m⟩ HLU.out.1 HLU.out.2 (by omega) (bstep H6.out.1 (bd W 1))
                go_wp2_with fail
                go_region_held3 (fun w' => w'.cell? ⟨ga, 0, none⟩ = some (.pointer (some ⟨g0, 0, none⟩)) ∧ w'.cell? ⟨o, 2, none⟩ = some (.string (bs p)) ∧ w'.cell? ⟨o, 3, none⟩ = some (.string (bs n)) ∧ w'.cell? ⟨o, 4, none⟩ = some (.string (bs q)) ∧ w'.cell? ⟨o, 5, none⟩ = some (.string (bs m))) (first | (with_reducible exact K7.out) | go_keep) (first | (go_at_call 9; (with_reducible refine HE.out.mono ?_); rintro e w7 ⟨rfl, hkp, hg7, hq7, hnx⟩; have H7 : Hid (Kp w.heap.size wr W.drew w7 ∧ OB w7 o 2 wh ⟨p, n⟩ ⟨q, m⟩ ∧ ∀ W1, Below w7.heap.size w7 W1 → Calls Try.prog 16 #[.pointer (some ⟨d0, 0, none⟩), (.agg #[.string (bs p), .string (bs n)]), (.agg #[.string (bs q), .string (bs m)])] W1 fun e w2 => e = .returned (.tuple #[]) ∧ Kp w.heap.size wr W1 w2 ∧ LP w.heap.size w2 ga qa (k + 1) g0 g1 d0 d1) := ⟨hkp, (H6.out.2.1.later (bd W 1)).kp hkp H6.out.2.2, hnx⟩; have K7 : Hid (w7.cell? ⟨ga, 0, none⟩ = some (.pointer (some ⟨g0, 0, none⟩)) ∧ w7.cell? ⟨o, 2, none⟩ = some (.string (bs p)) ∧ w7.cell? ⟨o, 3, none⟩ = some (.string (bs n)) ∧ w7.cell? ⟨o, 4, none⟩ = some (.string (bs q)) ∧ w7.cell? ⟨o, 5, none⟩ = some (.string (bs m))) := ⟨hg7, H7.out.2.1.cells⟩; have HQ7 : Hid (w7.cell? ⟨qa, 0, none⟩ = some (.pointer (some ⟨d0, 0, none⟩))) := hq7; clear hkp hg7 hq7 hnx))
                clear o0 o1 o2 o3 o4 o5 x0 x1 x2 x3
                obtain ⟨o0, o1, o2, o3, o4, o5⟩ := H7.out.2.1.all
                simp only at o0 o1 o2 o3 o4 o5
                have x0 := HQ7.out
                have HE2 : Hid (Calls Try.prog 16 #[.pointer (some ⟨d0, 0, none⟩), (.agg #[.string (bs p), .string (bs n)]), (.agg #[.string (bs q), .string (bs m)])] w7.drew fun e w2 => e = .returned (.tuple #[]) ∧ Kp w.heap.size wr w7.drew w2 ∧ LP w.heap.size w2 ga qa (k + 1) g0 g1 d0 d1) := H7.out.2.2 w7.drew (bd w7 1)
                go_wp2_with fail
                go_region_held3 (fun w' => w'.cell? ⟨qa, 0, none⟩ = some (.pointer (some ⟨d0, 0, none⟩)) ∧ w'.cell? ⟨o, 2, none⟩ = some (.string (bs p)) ∧ w'.cell? ⟨o, 3, none⟩ = some (.string (bs n)) ∧ w'.cell? ⟨o, 4, none⟩ = some (.string (bs q)) ∧ w'.cell? ⟨o, 5, none⟩ = some (.string (bs m))) (first | (with_reducible exact K8.out) | go_keep) (first | (go_at_call 16; (with_reducible refine HE2.out.mono ?_); rintro e w8 ⟨rfl, hkp, hlp⟩; have H8 : Hid (LP w.heap.size w8 ga qa (k + 1) g0 g1 d0 d1 ∧ OB w8 o 2 wh ⟨p, n⟩ ⟨q, m⟩ ∧ Below w.heap.size w w8) := ⟨hlp, (H7.out.2.1.later (bd w7 1)).kp hkp H6.out.2.2, below_trans (below_trans (bstep H5.out.2 (bstep H6.out.1 (bd W 1))) H7.out.1.below) (below_trans (below_mono (bd w7 1) (Nat.le_trans (bstep H5.out.2 (bstep H6.out.1 (bd W 1))).size H7.out.1.below.size)) hkp.below)⟩; have K8 : Hid (w8.cell? ⟨qa, 0, none⟩ = some (.pointer (some ⟨d0, 0, none⟩)) ∧ w8.cell? ⟨o, 2, none⟩ = some (.string (bs p)) ∧ w8.cell? ⟨o, 3, none⟩ = some (.string (bs n)) ∧ w8.cell? ⟨o, 4, none⟩ = some (.string (bs q)) ∧ w8.cell? ⟨o, 5, none⟩ = some (.string (bs m))) := ⟨hlp.cells.2.2.1, H8.out.2.1.cells⟩; clear hkp hlp))
                clear o0 o1 o2 o3 o4 o5 x0
                obtain ⟨y0, y1, y2, y3⟩ := H8.out.1.cells
                obtain ⟨u0, u1, u2, u3, u4, u5⟩ := H8.out.2.1.all
                simp only at u0 u1 u2 u3 u4 u5
                have HT0 : Hid (Calls Try.prog 19 #[.pointer (some ⟨g0, 0, none⟩), .pointer (some ⟨d0, 0, none⟩), .agg #[.int .i64 2, .int .i64 wh, .string (bs p), .string (bs n), .string (bs q), .string (bs m)]] w8 fun e w' => e = .returned (.bool true) ∧ Below w8.heap.size w8 w') := H8.out.1.told0 2 wh ⟨p, n⟩ ⟨q, m⟩ HLU.out.1 HLU.out.2
                go_wp2_with fail
                with_reducible refine HT0.out.mono ?_
                rintro e w9 ⟨rfl, hb9⟩
                have H9 : Hid (LP w.heap.size w9 ga qa (k + 1) g0 g1 d0 d1 ∧ OB w9 o 2 wh ⟨p, n⟩ ⟨q, m⟩ ∧ Below w.heap.size w w9) := ⟨H8.out.1.later hb9, H8.out.2.1.later hb9, bstep H8.out.2.2 hb9⟩
                clear hb9 y0 y1 y2 y3 u0 u1 u2 u3 u4 u5
                obtain ⟨y0, y1, y2, y3⟩ := H9.out.1.cells
                obtain ⟨u0, u1, u2, u3, u4, u5⟩ := H9.out.2.1.all
                simp only at u0 u1 u2 u3 u4 u5
                have HT1 : Hid (Calls Try.prog 19 #[.pointer (some ⟨g1, 0, none⟩), .pointer (some ⟨d1, 0, none⟩), .agg #[.int .i64 2, .int .i64 wh, .string (bs p), .string (bs n), .string (bs q), .string (bs m)]] w9 fun e w' => e = .returned (.bool true) ∧ Below w9.heap.size w9 w') := H9.out.1.told1 2 wh ⟨p, n⟩ ⟨q, m⟩ HLU.out.1 HLU.out.2
                go_wp2_with fail
                with_reducible refine HT1.out.mono ?_
                rintro e w10 ⟨rfl, hb10⟩
                have H10 : Hid (LP w.heap.size w10 ga qa (k + 1) g0 g1 d0 d1 ∧ Below w.heap.size w w10) := ⟨H9.out.1.later hb10, bstep H9.out.2.2 hb10⟩
                clear hb10 y0 y1 y2 y3 u0 u1 u2 u3 u4 u5
                go_wp2_with fail
                go_roundw
                case rel => exact ⟨k + 1, g0, g1, d0, d1, by omega, by omega, by go_num, H10.out.1, H10.out.2⟩
                case measure => simp [intOf]; omega
              · by_cases e3 : kd = 3
                · subst e3
                  have HE : Hid (Calls Try.prog 8 #[.pointer (some ⟨g0, 0, none⟩), (.agg #[.string (bs p), .string (bs n)])] W.drew fun e w1 => e = .returned (.tuple #[]) ∧ Kp w.heap.size wr W.drew w1 ∧ w1.cell? ⟨ga, 0, none⟩ = some (.pointer (some ⟨g0, 0, none⟩)) ∧ w1.cell? ⟨qa, 0, none⟩ = some (.pointer (some ⟨d0, 0, none⟩)) ∧ ∀ W1, Below w1.heap.size w1 W1 → Calls Try.prog 17 #[.pointer (some ⟨d0, 0, none⟩), (.agg #[.string (bs p), .string (bs n)])] W1 fun e w2 => e = .returned (.tuple #[]) ∧ Kp w.heap.size wr W1 w2 ∧ LP w.heap.size w2 ga qa (k + 1) g0 g1 d0 d1) := H5.out.1.node0 ⟨p, n⟩ HLU.out.1 (by omega) (bstep H6.out.1 (bd W 1))
                  go_wp2_with fail
                  go_region_held3 (fun w' => w'.cell? ⟨ga, 0, none⟩ = some (.pointer (some ⟨g0, 0, none⟩)) ∧ w'.cell? ⟨o, 2, none⟩ = some (.string (bs p)) ∧ w'.cell? ⟨o, 3, none⟩ = some (.string (bs n))) (first | (with_reducible exact K7.out) | go_keep) (first | (go_at_call 8; (with_reducible refine HE.out.mono ?_); rintro e w7 ⟨rfl, hkp, hg7, hq7, hnx⟩; have H7 : Hid (Kp w.heap.size wr W.drew w7 ∧ OB w7 o 3 wh ⟨p, n⟩ ⟨q, m⟩ ∧ ∀ W1, Below w7.heap.size w7 W1 → Calls Try.prog 17 #[.pointer (some ⟨d0, 0, none⟩), (.agg #[.string (bs p), .string (bs n)])] W1 fun e w2 => e = .returned (.tuple #[]) ∧ Kp w.heap.size wr W1 w2 ∧ LP w.heap.size w2 ga qa (k + 1) g0 g1 d0 d1) := ⟨hkp, (H6.out.2.1.later (bd W 1)).kp hkp H6.out.2.2, hnx⟩; have K7 : Hid (w7.cell? ⟨ga, 0, none⟩ = some (.pointer (some ⟨g0, 0, none⟩)) ∧ w7.cell? ⟨o, 2, none⟩ = some (.string (bs p)) ∧ w7.cell? ⟨o, 3, none⟩ = some (.string (bs n))) := ⟨hg7, H7.out.2.1.all.2.2.1, H7.out.2.1.all.2.2.2.1⟩; have HQ7 : Hid (w7.cell? ⟨qa, 0, none⟩ = some (.pointer (some ⟨d0, 0, none⟩))) := hq7; clear hkp hg7 hq7 hnx))
                  clear o0 o1 o2 o3 o4 o5 x0 x1 x2 x3
                  obtain ⟨o0, o1, o2, o3, o4, o5⟩ := H7.out.2.1.all
                  simp only at o0 o1 o2 o3 o4 o5
                  have x0 := HQ7.out
                  have HE2 : Hid (Calls Try.prog 17 #[.pointer (some ⟨d0, 0, none⟩), (.agg #[.string (bs p), .string (bs n)])] w7.drew fun e w2 => e = .returned (.tuple #[]) ∧ Kp w.heap.size wr w7.drew w2 ∧ LP w.heap.size w2 ga qa (k + 1) g0 g1 d0 d1) := H7.out.2.2 w7.drew (bd w7 1)
                  go_wp2_with fail
                  go_region_held3 (fun w' => w'.cell? ⟨qa, 0, none⟩ = some (.pointer (some ⟨d0, 0, none⟩)) ∧ w'.cell? ⟨o, 2, none⟩ = some (.string (bs p)) ∧ w'.cell? ⟨o, 3, none⟩ = some (.string (bs n))) (first | (with_reducible exact K8.out) | go_keep) (first | (go_at_call 17; (with_reducible refine HE2.out.mono ?_); rintro e w8 ⟨rfl, hkp, hlp⟩; have H8 : Hid (LP w.heap.size w8 ga qa (k + 1) g0 g1 d0 d1 ∧ OB w8 o 3 wh ⟨p, n⟩ ⟨q, m⟩ ∧ Below w.heap.size w w8) := ⟨hlp, (H7.out.2.1.later (bd w7 1)).kp hkp H6.out.2.2, below_trans (below_trans (bstep H5.out.2 (bstep H6.out.1 (bd W 1))) H7.out.1.below) (below_trans (below_mono (bd w7 1) (Nat.le_trans (bstep H5.out.2 (bstep H6.out.1 (bd W 1))).size H7.out.1.below.size)) hkp.below)⟩; have K8 : Hid (w8.cell? ⟨qa, 0, none⟩ = some (.pointer (some ⟨d0, 0, none⟩)) ∧ w8.cell? ⟨o, 2, none⟩ = some (.string (bs p)) ∧ w8.cell? ⟨o, 3, none⟩ = some (.string (bs n))) := ⟨hlp.cells.2.2.1, H8.out.2.1.all.2.2.1, H8.out.2.1.all.2.2.2.1⟩; clear hkp hlp))
                  clear o0 o1 o2 o3 o4 o5 x0
                  obtain ⟨y0, y1, y2, y3⟩ := H8.out.1.cells
                  obtain ⟨u0, u1, u2, u3, u4, u5⟩ := H8.out.2.1.all
                  simp only at u0 u1 u2 u3 u4 u5
                  have HT0 : Hid (Calls Try.prog 19 #[.pointer (some ⟨g0, 0, none⟩), .pointer (some ⟨d0, 0, none⟩), .agg #[.int .i64 3, .int .i64 wh, .string (bs p), .string (bs n), .string (bs q), .string (bs m)]] w8 fun e w' => e = .returned (.bool true) ∧ Below w8.heap.size w8 w') := H8.out.1.told0 3 wh ⟨p, n⟩ ⟨q, m⟩ HLU.out.1 HLU.out.2
                  go_wp2_with fail
                  with_reducible refine HT0.out.mono ?_
                  rintro e w9 ⟨rfl, hb9⟩
                  have H9 : Hid (LP w.heap.size w9 ga qa (k + 1) g0 g1 d0 d1 ∧ OB w9 o 3 wh ⟨p, n⟩ ⟨q, m⟩ ∧ Below w.heap.size w w9) := ⟨H8.out.1.later hb9, H8.out.2.1.later hb9, bstep H8.out.2.2 hb9⟩
                  clear hb9 y0 y1 y2 y3 u0 u1 u2 u3 u4 u5
                  obtain ⟨y0, y1, y2, y3⟩ := H9.out.1.cells
                  obtain ⟨u0, u1, u2, u3, u4, u5⟩ := H9.out.2.1.all
                  simp only at u0 u1 u2 u3 u4 u5
                  have HT1 : Hid (Calls Try.prog 19 #[.pointer (some ⟨g1, 0, none⟩), .pointer (some ⟨d1, 0, none⟩), .agg #[.int .i64 3, .int .i64 wh, .string (bs p), .string (bs n), .string (bs q), .string (bs m)]] w9 fun e w' => e = .returned (.bool true) ∧ Below w9.heap.size w9 w') := H9.out.1.told1 3 wh ⟨p, n⟩ ⟨q, m⟩ HLU.out.1 HLU.out.2
                  go_wp2_with fail
                  with_reducible refine HT1.out.mono ?_
                  rintro e w10 ⟨rfl, hb10⟩
                  have H10 : Hid (LP w.heap.size w10 ga qa (k + 1) g0 g1 d0 d1 ∧ Below w.heap.size w w10) := ⟨H9.out.1.later hb10, bstep H9.out.2.2 hb10⟩
                  clear hb10 y0 y1 y2 y3 u0 u1 u2 u3 u4 u5
                  go_wp2_with fail
                  go_roundw
                  case rel => exact ⟨k + 1, g0, g1, d0, d1, by omega, by omega, by go_num, H10.out.1, H10.out.2⟩
                  case measure => simp [intOf]; omega
                · by_cases e4 : kd = 4
                  · subst e4
                    have HE := hid_mk (H5.out.1.back0 (by omega) H6.out.1)
                    go_wp2_with fail
                    refine HE.out.mono ?_
                    rintro e w7 ⟨gb, rfl, c1, c2, c3, HX⟩
                    clear x0 x1 x2 x3 o0 o1 o2 o3 o4 o5
                    go_wp2_with fail
                    refine HX.out.mono ?_
                    rintro e w7' ⟨d2, rfl, c4, c5, HY⟩
                    obtain ⟨w8, hw8⟩ : ∃ w8, w7'.setCell ⟨qa, 1, none⟩ (.pointer (some ⟨d2, 0, none⟩)) = w8 := ⟨_, rfl⟩
                    rw [hw8] at HY
                    clear c1 c2 c3
                    go_upto_region 27 with fail
                    try rw [hw8]
                    clear hw8 c4 c5
                    have H8 : Hid (LP w.heap.size w8 ga qa (k + 1) g0 gb d0 d2 ∧ OB w8 o 4 wh ⟨p, n⟩ ⟨q, m⟩ ∧ Below w.heap.size w w8) := ⟨HY.out.2, H6.out.2.1.kp HY.out.1 H6.out.2.2, below_trans (bstep H5.out.2 H6.out.1) HY.out.1.below⟩
                    obtain ⟨y0, y1, y2, y3⟩ := H8.out.1.cells
                    obtain ⟨u0, u1, u2, u3, u4, u5⟩ := H8.out.2.1.all
                    simp only at u0 u1 u2 u3 u4 u5
                    have HT0 : Hid (Calls Try.prog 19 #[.pointer (some ⟨g0, 0, none⟩), .pointer (some ⟨d0, 0, none⟩), .agg #[.int .i64 4, .int .i64 wh, .string (bs p), .string (bs n), .string (bs q), .string (bs m)]] w8 fun e w' => e = .returned (.bool true) ∧ Below w8.heap.size w8 w') := H8.out.1.told0 4 wh ⟨p, n⟩ ⟨q, m⟩ HLU.out.1 HLU.out.2
                    go_wp2_with fail
                    with_reducible refine HT0.out.mono ?_
                    rintro e w9 ⟨rfl, hb9⟩
                    have H9 : Hid (LP w.heap.size w9 ga qa (k + 1) g0 gb d0 d2 ∧ OB w9 o 4 wh ⟨p, n⟩ ⟨q, m⟩ ∧ Below w.heap.size w w9) := ⟨H8.out.1.later hb9, H8.out.2.1.later hb9, bstep H8.out.2.2 hb9⟩
                    clear hb9 y0 y1 y2 y3 u0 u1 u2 u3 u4 u5
                    obtain ⟨y0, y1, y2, y3⟩ := H9.out.1.cells
                    obtain ⟨u0, u1, u2, u3, u4, u5⟩ := H9.out.2.1.all
                    simp only at u0 u1 u2 u3 u4 u5
                    have HT1 : Hid (Calls Try.prog 19 #[.pointer (some ⟨gb, 0, none⟩), .pointer (some ⟨d2, 0, none⟩), .agg #[.int .i64 4, .int .i64 wh, .string (bs p), .string (bs n), .string (bs q), .string (bs m)]] w9 fun e w' => e = .returned (.bool true) ∧ Below w9.heap.size w9 w') := H9.out.1.told1 4 wh ⟨p, n⟩ ⟨q, m⟩ HLU.out.1 HLU.out.2
                    go_wp2_with fail
                    with_reducible refine HT1.out.mono ?_
                    rintro e w10 ⟨rfl, hb10⟩
                    have H10 : Hid (LP w.heap.size w10 ga qa (k + 1) g0 gb d0 d2 ∧ Below w.heap.size w w10) := ⟨H9.out.1.later hb10, bstep H9.out.2.2 hb10⟩
                    clear hb10 y0 y1 y2 y3 u0 u1 u2 u3 u4 u5
                    go_wp2_with fail
                    go_roundw
                    case rel => exact ⟨k + 1, g0, gb, d0, d2, by omega, by omega, by go_num, H10.out.1, H10.out.2⟩
                    case measure => simp [intOf]; omega
                  · skip
                    have H8 : Hid (LP w.heap.size W ga qa (k + 1) g0 g1 d0 d1 ∧ OB W o kd wh ⟨p, n⟩ ⟨q, m⟩ ∧ Below w.heap.size w W) := ⟨(H5.out.1.later H6.out.1).more, H6.out.2.1, bstep H5.out.2 H6.out.1⟩
                    go_upto_region 27 with fail
                    clear x0 x1 x2 x3 o0 o1 o2 o3 o4 o5
                    obtain ⟨y0, y1, y2, y3⟩ := H8.out.1.cells
                    obtain ⟨u0, u1, u2, u3, u4, u5⟩ := H8.out.2.1.all
                    simp only at u0 u1 u2 u3 u4 u5
                    have HT0 : Hid (Calls Try.prog 19 #[.pointer (some ⟨g0, 0, none⟩), .pointer (some ⟨d0, 0, none⟩), .agg #[.int .i64 kd, .int .i64 wh, .string (bs p), .string (bs n), .string (bs q), .string (bs m)]] W fun e w' => e = .returned (.bool true) ∧ Below W.heap.size W w') := H8.out.1.told0 kd wh ⟨p, n⟩ ⟨q, m⟩ HLU.out.1 HLU.out.2
                    go_wp2_with fail
                    with_reducible refine HT0.out.mono ?_
                    rintro e w9 ⟨rfl, hb9⟩
                    have H9 : Hid (LP w.heap.size w9 ga qa (k + 1) g0 g1 d0 d1 ∧ OB w9 o kd wh ⟨p, n⟩ ⟨q, m⟩ ∧ Below w.heap.size w w9) := ⟨H8.out.1.later hb9, H8.out.2.1.later hb9, bstep H8.out.2.2 hb9⟩
                    clear hb9 y0 y1 y2 y3 u0 u1 u2 u3 u4 u5
                    obtain ⟨y0, y1, y2, y3⟩ := H9.out.1.cells
                    obtain ⟨u0, u1, u2, u3, u4, u5⟩ := H9.out.2.1.all
                    simp only at u0 u1 u2 u3 u4 u5
                    have HT1 : Hid (Calls Try.prog 19 #[.pointer (some ⟨g1, 0, none⟩), .pointer (some ⟨d1, 0, none⟩), .agg #[.int .i64 kd, .int .i64 wh, .string (bs p), .string (bs n), .string (bs q), .string (bs m)]] w9 fun e w' => e = .returned (.bool true) ∧ Below w9.heap.size w9 w') := H9.out.1.told1 kd wh ⟨p, n⟩ ⟨q, m⟩ HLU.out.1 HLU.out.2
                    go_wp2_with fail
                    with_reducible refine HT1.out.mono ?_
                    rintro e w10 ⟨rfl, hb10⟩
                    have H10 : Hid (LP w.heap.size w10 ga qa (k + 1) g0 g1 d0 d1 ∧ Below w.heap.size w w10) := ⟨H9.out.1.later hb10, bstep H9.out.2.2 hb10⟩
                    clear hb10 y0 y1 y2 y3 u0 u1 u2 u3 u4 u5
                    go_wp2_with fail
                    go_roundw
                    case rel => exact ⟨k + 1, g0, g1, d0, d1, by omega, by omega, by go_num, H10.out.1, H10.out.2⟩
                    case measure => simp [intOf]; omega
        · by_cases e0 : kd = 0
          · subst e0
            have HE : Hid (Calls Try.prog 9 #[.pointer (some ⟨g1, 0, none⟩), (.agg #[.string (bs p), .string (bs n)]), (.agg #[.string (bs q), .string (bs m)])] W.drew fun e w1 => e = .returned (.tuple #[]) ∧ Kp w.heap.size wr W.drew w1 ∧ w1.cell? ⟨ga, 1, none⟩ = some (.pointer (some ⟨g1, 0, none⟩)) ∧ w1.cell? ⟨qa, 1, none⟩ = some (.pointer (some ⟨d1, 0, none⟩)) ∧ ∀ W1, Below w1.heap.size w1 W1 → Calls Try.prog 16 #[.pointer (some ⟨d1, 0, none⟩), (.agg #[.string (bs p), .string (bs n)]), (.agg #[.string (bs q), .string (bs m)])] W1 fun e w2 => e = .returned (.tuple #[]) ∧ Kp w.heap.size wr W1 w2 ∧ LP w.heap.size w2 ga qa (k + 1) g0 g1 d0 d1) := H5.out.1.edge1 ⟨p, n⟩ ⟨q, m⟩ HLU.out.1 HLU.out.2 (by omega) (bstep H6.out.1 (bd W 1))
            go_wp2_with fail
            go_region_held3 (fun w' => w'.cell? ⟨ga, 1, none⟩ = some (.pointer (some ⟨g1, 0, none⟩)) ∧ w'.cell? ⟨o, 2, none⟩ = some (.string (bs p)) ∧ w'.cell? ⟨o, 3, none⟩ = some (.string (bs n)) ∧ w'.cell? ⟨o, 4, none⟩ = some (.string (bs q)) ∧ w'.cell? ⟨o, 5, none⟩ = some (.string (bs m))) (first | (with_reducible exact K7.out) | go_keep) (first | (go_at_call 9; (with_reducible refine HE.out.mono ?_); rintro e w7 ⟨rfl, hkp, hg7, hq7, hnx⟩; have H7 : Hid (Kp w.heap.size wr W.drew w7 ∧ OB w7 o 0 wh ⟨p, n⟩ ⟨q, m⟩ ∧ ∀ W1, Below w7.heap.size w7 W1 → Calls Try.prog 16 #[.pointer (some ⟨d1, 0, none⟩), (.agg #[.string (bs p), .string (bs n)]), (.agg #[.string (bs q), .string (bs m)])] W1 fun e w2 => e = .returned (.tuple #[]) ∧ Kp w.heap.size wr W1 w2 ∧ LP w.heap.size w2 ga qa (k + 1) g0 g1 d0 d1) := ⟨hkp, (H6.out.2.1.later (bd W 1)).kp hkp H6.out.2.2, hnx⟩; have K7 : Hid (w7.cell? ⟨ga, 1, none⟩ = some (.pointer (some ⟨g1, 0, none⟩)) ∧ w7.cell? ⟨o, 2, none⟩ = some (.string (bs p)) ∧ w7.cell? ⟨o, 3, none⟩ = some (.string (bs n)) ∧ w7.cell? ⟨o, 4, none⟩ = some (.string (bs q)) ∧ w7.cell? ⟨o, 5, none⟩ = some (.string (bs m))) := ⟨hg7, H7.out.2.1.cells⟩; have HQ7 : Hid (w7.cell? ⟨qa, 1, none⟩ = some (.pointer (some ⟨d1, 0, none⟩))) := hq7; clear hkp hg7 hq7 hnx))
            clear o0 o1 o2 o3 o4 o5 x0 x1 x2 x3
            obtain ⟨o0, o1, o2, o3, o4, o5⟩ := H7.out.2.1.all
            simp only at o0 o1 o2 o3 o4 o5
            have x0 := HQ7.out
            have HE2 : Hid (Calls Try.prog 16 #[.pointer (some ⟨d1, 0, none⟩), (.agg #[.string (bs p), .string (bs n)]), (.agg #[.string (bs q), .string (bs m)])] w7.drew fun e w2 => e = .returned (.tuple #[]) ∧ Kp w.heap.size wr w7.drew w2 ∧ LP w.heap.size w2 ga qa (k + 1) g0 g1 d0 d1) := H7.out.2.2 w7.drew (bd w7 1)
            go_wp2_with fail
            go_region_held3 (fun w' => w'.cell? ⟨qa, 1, none⟩ = some (.pointer (some ⟨d1, 0, none⟩)) ∧ w'.cell? ⟨o, 2, none⟩ = some (.string (bs p)) ∧ w'.cell? ⟨o, 3, none⟩ = some (.string (bs n)) ∧ w'.cell? ⟨o, 4, none⟩ = some (.string (bs q)) ∧ w'.cell? ⟨o, 5, none⟩ = some (.string (bs m))) (first | (with_reducible exact K8.out) | go_keep) (first | (go_at_call 16; (with_reducible refine HE2.out.mono ?_); rintro e w8 ⟨rfl, hkp, hlp⟩; have H8 : Hid (LP w.heap.size w8 ga qa (k + 1) g0 g1 d0 d1 ∧ OB w8 o 0 wh ⟨p, n⟩ ⟨q, m⟩ ∧ Below w.heap.size w w8) := ⟨hlp, (H7.out.2.1.later (bd w7 1)).kp hkp H6.out.2.2, below_trans (below_trans (bstep H5.out.2 (bstep H6.out.1 (bd W 1))) H7.out.1.below) (below_trans (below_mono (bd w7 1) (Nat.le_trans (bstep H5.out.2 (bstep H6.out.1 (bd W 1))).size H7.out.1.below.size)) hkp.below)⟩; have K8 : Hid (w8.cell? ⟨qa, 1, none⟩ = some (.pointer (some ⟨d1, 0, none⟩)) ∧ w8.cell? ⟨o, 2, none⟩ = some (.string (bs p)) ∧ w8.cell? ⟨o, 3, none⟩ = some (.string (bs n)) ∧ w8.cell? ⟨o, 4, none⟩ = some (.string (bs q)) ∧ w8.cell? ⟨o, 5, none⟩ = some (.string (bs m))) := ⟨hlp.cells.2.2.2, H8.out.2.1.cells⟩; clear hkp hlp))
            clear o0 o1 o2 o3 o4 o5 x0
            obtain ⟨y0, y1, y2, y3⟩ := H8.out.1.cells
            obtain ⟨u0, u1, u2, u3, u4, u5⟩ := H8.out.2.1.all
            simp only at u0 u1 u2 u3 u4 u5
            have HT0 : Hid (Calls Try.prog 19 #[.pointer (some ⟨g0, 0, none⟩), .pointer (some ⟨d0, 0, none⟩), .agg #[.int .i64 0, .int .i64 wh, .string (bs p), .string (bs n), .string (bs q), .string (bs m)]] w8 fun e w' => e = .returned (.bool true) ∧ Below w8.heap.size w8 w') := H8.out.1.told0 0 wh ⟨p, n⟩ ⟨q, m⟩ HLU.out.1 HLU.out.2
            go_wp2_with fail
            with_reducible refine HT0.out.mono ?_
            rintro e w9 ⟨rfl, hb9⟩
            have H9 : Hid (LP w.heap.size w9 ga qa (k + 1) g0 g1 d0 d1 ∧ OB w9 o 0 wh ⟨p, n⟩ ⟨q, m⟩ ∧ Below w.heap.size w w9) := ⟨H8.out.1.later hb9, H8.out.2.1.later hb9, bstep H8.out.2.2 hb9⟩
            clear hb9 y0 y1 y2 y3 u0 u1 u2 u3 u4 u5
            obtain ⟨y0, y1, y2, y3⟩ := H9.out.1.cells
            obtain ⟨u0, u1, u2, u3, u4, u5⟩ := H9.out.2.1.all
            simp only at u0 u1 u2 u3 u4 u5
            have HT1 : Hid (Calls Try.prog 19 #[.pointer (some ⟨g1, 0, none⟩), .pointer (some ⟨d1, 0, none⟩), .agg #[.int .i64 0, .int .i64 wh, .string (bs p), .string (bs n), .string (bs q), .string (bs m)]] w9 fun e w' => e = .returned (.bool true) ∧ Below w9.heap.size w9 w') := H9.out.1.told1 0 wh ⟨p, n⟩ ⟨q, m⟩ HLU.out.1 HLU.out.2
            go_wp2_with fail
            with_reducible refine HT1.out.mono ?_
            rintro e w10 ⟨rfl, hb10⟩
            have H10 : Hid (LP w.heap.size w10 ga qa (k + 1) g0 g1 d0 d1 ∧ Below w.heap.size w w10) := ⟨H9.out.1.later hb10, bstep H9.out.2.2 hb10⟩
            clear hb10 y0 y1 y2 y3 u0 u1 u2 u3 u4 u5
            go_wp2_with fail
            go_roundw
            case rel => exact ⟨k + 1, g0, g1, d0, d1, by omega, by omega, by go_num, H10.out.1, H10.out.2⟩
            case measure => simp [intOf]; omega
          · by_cases e1 : kd = 1
            · subst e1
              have HE : Hid (Calls Try.prog 9 #[.pointer (some ⟨g1, 0, none⟩), (.agg #[.string (bs p), .string (bs n)]), (.agg #[.string (bs q), .string (bs m)])] W.drew fun e w1 => e = .returned (.tuple #[]) ∧ Kp w.heap.size wr W.drew w1 ∧ w1.cell? ⟨ga, 1, none⟩ = some (.pointer (some ⟨g1, 0, none⟩)) ∧ w1.cell? ⟨qa, 1, none⟩ = some (.pointer (some ⟨d1, 0, none⟩)) ∧ ∀ W1, Below w1.heap.size w1 W1 → Calls Try.prog 16 #[.pointer (some ⟨d1, 0, none⟩), (.agg #[.string (bs p), .string (bs n)]), (.agg #[.string (bs q), .string (bs m)])] W1 fun e w2 => e = .returned (.tuple #[]) ∧ Kp w.heap.size wr W1 w2 ∧ LP w.heap.size w2 ga qa (k + 1) g0 g1 d0 d1) := H5.out.1.edge1 ⟨p, n⟩ ⟨q, m⟩ HLU.out.1 HLU.out.2 (by omega) (bstep H6.out.1 (bd W 1))
              go_wp2_with fail
              go_region_held3 (fun w' => w'.cell? ⟨ga, 1, none⟩ = some (.pointer (some ⟨g1, 0, none⟩)) ∧ w'.cell? ⟨o, 2, none⟩ = some (.string (bs p)) ∧ w'.cell? ⟨o, 3, none⟩ = some (.string (bs n)) ∧ w'.cell? ⟨o, 4, none⟩ = some (.string (bs q)) ∧ w'.cell? ⟨o, 5, none⟩ = some (.string (bs m))) (first | (with_reducible exact K7.out) | go_keep) (first | (go_at_call 9; (with_reducible refine HE.out.mono ?_); rintro e w7 ⟨rfl, hkp, hg7, hq7, hnx⟩; have H7 : Hid (Kp w.heap.size wr W.drew w7 ∧ OB w7 o 1 wh ⟨p, n⟩ ⟨q, m⟩ ∧ ∀ W1, Below w7.heap.size w7 W1 → Calls Try.prog 16 #[.pointer (some ⟨d1, 0, none⟩), (.agg #[.string (bs p), .string (bs n)]), (.agg #[.string (bs q), .string (bs m)])] W1 fun e w2 => e = .returned (.tuple #[]) ∧ Kp w.heap.size wr W1 w2 ∧ LP w.heap.size w2 ga qa (k + 1) g0 g1 d0 d1) := ⟨hkp, (H6.out.2.1.later (bd W 1)).kp hkp H6.out.2.2, hnx⟩; have K7 : Hid (w7.cell? ⟨ga, 1, none⟩ = some (.pointer (some ⟨g1, 0, none⟩)) ∧ w7.cell? ⟨o, 2, none⟩ = some (.string (bs p)) ∧ w7.cell? ⟨o, 3, none⟩ = some (.string (bs n)) ∧ w7.cell? ⟨o, 4, none⟩ = some (.string (bs q)) ∧ w7.cell? ⟨o, 5, none⟩ = some (.string (bs m))) := ⟨hg7, H7.out.2.1.cells⟩; have HQ7 : Hid (w7.cell? ⟨qa, 1, none⟩ = some (.pointer (some ⟨d1, 0, none⟩))) := hq7; clear hkp hg7 hq7 hnx))
              clear o0 o1 o2 o3 o4 o5 x0 x1 x2 x3
              obtain ⟨o0, o1, o2, o3, o4, o5⟩ := H7.out.2.1.all
              simp only at o0 o1 o2 o3 o4 o5
              have x0 := HQ7.out
              have HE2 : Hid (Calls Try.prog 16 #[.pointer (some ⟨d1, 0, none⟩), (.agg #[.string (bs p), .string (bs n)]), (.agg #[.string (bs q), .string (bs m)])] w7.drew fun e w2 => e = .returned (.tuple #[]) ∧ Kp w.heap.size wr w7.drew w2 ∧ LP w.heap.size w2 ga qa (k + 1) g0 g1 d0 d1) := H7.out.2.2 w7.drew (bd w7 1)
              go_wp2_with fail
              go_region_held3 (fun w' => w'.cell? ⟨qa, 1, none⟩ = some (.pointer (some ⟨d1, 0, none⟩)) ∧ w'.cell? ⟨o, 2, none⟩ = some (.string (bs p)) ∧ w'.cell? ⟨o, 3, none⟩ = some (.string (bs n)) ∧ w'.cell? ⟨o, 4, none⟩ = some (.string (bs q)) ∧ w'.cell? ⟨o, 5, none⟩ = some (.string (bs m))) (first | (with_reducible exact K8.out) | go_keep) (first | (go_at_call 16; (with_reducible refine HE2.out.mono ?_); rintro e w8 ⟨rfl, hkp, hlp⟩; have H8 : Hid (LP w.heap.size w8 ga qa (k + 1) g0 g1 d0 d1 ∧ OB w8 o 1 wh ⟨p, n⟩ ⟨q, m⟩ ∧ Below w.heap.size w w8) := ⟨hlp, (H7.out.2.1.later (bd w7 1)).kp hkp H6.out.2.2, below_trans (below_trans (bstep H5.out.2 (bstep H6.out.1 (bd W 1))) H7.out.1.below) (below_trans (below_mono (bd w7 1) (Nat.le_trans (bstep H5.out.2 (bstep H6.out.1 (bd W 1))).size H7.out.1.below.size)) hkp.below)⟩; have K8 : Hid (w8.cell? ⟨qa, 1, none⟩ = some (.pointer (some ⟨d1, 0, none⟩)) ∧ w8.cell? ⟨o, 2, none⟩ = some (.string (bs p)) ∧ w8.cell? ⟨o, 3, none⟩ = some (.string (bs n)) ∧ w8.cell? ⟨o, 4, none⟩ = some (.string (bs q)) ∧ w8.cell? ⟨o, 5, none⟩ = some (.string (bs m))) := ⟨hlp.cells.2.2.2, H8.out.2.1.cells⟩; clear hkp hlp))
              clear o0 o1 o2 o3 o4 o5 x0
              obtain ⟨y0, y1, y2, y3⟩ := H8.out.1.cells
              obtain ⟨u0, u1, u2, u3, u4, u5⟩ := H8.out.2.1.all
              simp only at u0 u1 u2 u3 u4 u5
              have HT0 : Hid (Calls Try.prog 19 #[.pointer (some ⟨g0, 0, none⟩), .pointer (some ⟨d0, 0, none⟩), .agg #[.int .i64 1, .int .i64 wh, .string (bs p), .string (bs n), .string (bs q), .string (bs m)]] w8 fun e w' => e = .returned (.bool true) ∧ Below w8.heap.size w8 w') := H8.out.1.told0 1 wh ⟨p, n⟩ ⟨q, m⟩ HLU.out.1 HLU.out.2
              go_wp2_with fail
              with_reducible refine HT0.out.mono ?_
              rintro e w9 ⟨rfl, hb9⟩
              have H9 : Hid (LP w.heap.size w9 ga qa (k + 1) g0 g1 d0 d1 ∧ OB w9 o 1 wh ⟨p, n⟩ ⟨q, m⟩ ∧ Below w.heap.size w w9) := ⟨H8.out.1.later hb9, H8.out.2.1.later hb9, bstep H8.out.2.2 hb9⟩
              clear hb9 y0 y1 y2 y3 u0 u1 u2 u3 u4 u5
              obtain ⟨y0, y1, y2, y3⟩ := H9.out.1.cells
              obtain ⟨u0, u1, u2, u3, u4, u5⟩ := H9.out.2.1.all
              simp only at u0 u1 u2 u3 u4 u5
              have HT1 : Hid (Calls Try.prog 19 #[.pointer (some ⟨g1, 0, none⟩), .pointer (some ⟨d1, 0, none⟩), .agg #[.int .i64 1, .int .i64 wh, .string (bs p), .string (bs n), .string (bs q), .string (bs m)]] w9 fun e w' => e = .returned (.bool true) ∧ Below w9.heap.size w9 w') := H9.out.1.told1 1 wh ⟨p, n⟩ ⟨q, m⟩ HLU.out.1 HLU.out.2
              go_wp2_with fail
              with_reducible refine HT1.out.mono ?_
              rintro e w10 ⟨rfl, hb10⟩
              have H10 : Hid (LP w.heap.size w10 ga qa (k + 1) g0 g1 d0 d1 ∧ Below w.heap.size w w10) := ⟨H9.out.1.later hb10, bstep H9.out.2.2 hb10⟩
              clear hb10 y0 y1 y2 y3 u0 u1 u2 u3 u4 u5
              go_wp2_with fail
              go_roundw
              case rel => exact ⟨k + 1, g0, g1, d0, d1, by omega, by omega, by go_num, H10.out.1, H10.out.2⟩
              case measure => simp [intOf]; omega
            · by_cases e2 : kd = 2
              · subst e2
                have HE : Hid (Calls Try.prog 9 #[.pointer (some ⟨g1, 0, none⟩), (.agg #[.string (bs p), .string (bs n)]), (.agg #[.string (bs q), .string (bs m)])] W.drew fun e w1 => e = .returned (.tuple #[]) ∧ Kp w.heap.size wr W.drew w1 ∧ w1.cell? ⟨ga, 1, none⟩ = some (.pointer (some ⟨g1, 0, none⟩)) ∧ w1.cell? ⟨qa, 1, none⟩ = some (.pointer (some ⟨d1, 0, none⟩)) ∧ ∀ W1, Below w1.heap.size w1 W1 → Calls Try.prog 16 #[.pointer (some ⟨d1, 0, none⟩), (.agg #[.string (bs p), .string (bs n)]), (.agg #[.string (bs q), .string (bs m)])] W1 fun e w2 => e = .returned (.tuple #[]) ∧ Kp w.heap.size wr W1 w2 ∧ LP w.heap.size w2 ga qa (k + 1) g0 g1 d0 d1) := H5.out.1.edge1 ⟨p, n⟩ ⟨q, m⟩ HLU.out.1 HLU.out.2 (by omega) (bstep H6.out.1 (bd W 1))
                go_wp2_with fail
                go_region_held3 (fun w' => w'.cell? ⟨ga, 1, none⟩ = some (.pointer (some ⟨g1, 0, none⟩)) ∧ w'.cell? ⟨o, 2, none⟩ = some (.string (bs p)) ∧ w'.cell? ⟨o, 3, none⟩ = some (.string (bs n)) ∧ w'.cell? ⟨o, 4, none⟩ = some (.string (bs q)) ∧ w'.cell? ⟨o, 5, none⟩ = some (.string (bs m))) (first | (with_reducible exact K7.out) | go_keep) (first | (go_at_call 9; (with_reducible refine HE.out.mono ?_); rintro e w7 ⟨rfl, hkp, hg7, hq7, hnx⟩; have H7 : Hid (Kp w.heap.size wr W.drew w7 ∧ OB w7 o 2 wh ⟨p, n⟩ ⟨q, m⟩ ∧ ∀ W1, Below w7.heap.size w7 W1 → Calls Try.prog 16 #[.pointer (some ⟨d1, 0, none⟩), (.agg #[.string (bs p), .string (bs n)]), (.agg #[.string (bs q), .string (bs m)])] W1 fun e w2 => e = .returned (.tuple #[]) ∧ Kp w.heap.size wr W1 w2 ∧ LP w.heap.size w2 ga qa (k + 1) g0 g1 d0 d1) := ⟨hkp, (H6.out.2.1.later (bd W 1)).kp hkp H6.out.2.2, hnx⟩; have K7 : Hid (w7.cell? ⟨ga, 1, none⟩ = some (.pointer (some ⟨g1, 0, none⟩)) ∧ w7.cell? ⟨o, 2, none⟩ = some (.string (bs p)) ∧ w7.cell? ⟨o, 3, none⟩ = some (.string (bs n)) ∧ w7.cell? ⟨o, 4, none⟩ = some (.string (bs q)) ∧ w7.cell? ⟨o, 5, none⟩ = some (.string (bs m))) := ⟨hg7, H7.out.2.1.cells⟩; have HQ7 : Hid (w7.cell? ⟨qa, 1, none⟩ = some (.pointer (some ⟨d1, 0, none⟩))) := hq7; clear hkp hg7 hq7 hnx))
                clear o0 o1 o2 o3 o4 o5 x0 x1 x2 x3
                obtain ⟨o0, o1, o2, o3, o4, o5⟩ := H7.out.2.1.all
                simp only at o0 o1 o2 o3 o4 o5
                have x0 := HQ7.out
                have HE2 : Hid (Calls Try.prog 16 #[.pointer (some ⟨d1, 0, none⟩), (.agg #[.string (bs p), .string (bs n)]), (.agg #[.string (bs q), .string (bs m)])] w7.drew fun e w2 => e = .returned (.tuple #[]) ∧ Kp w.heap.size wr w7.drew w2 ∧ LP w.heap.size w2 ga qa (k + 1) g0 g1 d0 d1) := H7.out.2.2 w7.drew (bd w7 1)
                go_wp2_with fail
                go_region_held3 (fun w' => w'.cell? ⟨qa, 1, none⟩ = some (.pointer (some ⟨d1, 0, none⟩)) ∧ w'.cell? ⟨o, 2, none⟩ = some (.string (bs p)) ∧ w'.cell? ⟨o, 3, none⟩ = some (.string (bs n)) ∧ w'.cell? ⟨o, 4, none⟩ = some (.string (bs q)) ∧ w'.cell? ⟨o, 5, none⟩ = some (.string (bs m))) (first | (with_reducible exact K8.out) | go_keep) (first | (go_at_call 16; (with_reducible refine HE2.out.mono ?_); rintro e w8 ⟨rfl, hkp, hlp⟩; have H8 : Hid (LP w.heap.size w8 ga qa (k + 1) g0 g1 d0 d1 ∧ OB w8 o 2 wh ⟨p, n⟩ ⟨q, m⟩ ∧ Below w.heap.size w w8) := ⟨hlp, (H7.out.2.1.later (bd w7 1)).kp hkp H6.out.2.2, below_trans (below_trans (bstep H5.out.2 (bstep H6.out.1 (bd W 1))) H7.out.1.below) (below_trans (below_mono (bd w7 1) (Nat.le_trans (bstep H5.out.2 (bstep H6.out.1 (bd W 1))).size H7.out.1.below.size)) hkp.below)⟩; have K8 : Hid (w8.cell? ⟨qa, 1, none⟩ = some (.pointer (some ⟨d1, 0, none⟩)) ∧ w8.cell? ⟨o, 2, none⟩ = some (.string (bs p)) ∧ w8.cell? ⟨o, 3, none⟩ = some (.string (bs n)) ∧ w8.cell? ⟨o, 4, none⟩ = some (.string (bs q)) ∧ w8.cell? ⟨o, 5, none⟩ = some (.string (bs m))) := ⟨hlp.cells.2.2.2, H8.out.2.1.cells⟩; clear hkp hlp))
                clear o0 o1 o2 o3 o4 o5 x0
                obtain ⟨y0, y1, y2, y3⟩ := H8.out.1.cells
                obtain ⟨u0, u1, u2, u3, u4, u5⟩ := H8.out.2.1.all
                simp only at u0 u1 u2 u3 u4 u5
                have HT0 : Hid (Calls Try.prog 19 #[.pointer (some ⟨g0, 0, none⟩), .pointer (some ⟨d0, 0, none⟩), .agg #[.int .i64 2, .int .i64 wh, .string (bs p), .string (bs n), .string (bs q), .string (bs m)]] w8 fun e w' => e = .returned (.bool true) ∧ Below w8.heap.size w8 w') := H8.out.1.told0 2 wh ⟨p, n⟩ ⟨q, m⟩ HLU.out.1 HLU.out.2
                go_wp2_with fail
                with_reducible refine HT0.out.mono ?_
                rintro e w9 ⟨rfl, hb9⟩
                have H9 : Hid (LP w.heap.size w9 ga qa (k + 1) g0 g1 d0 d1 ∧ OB w9 o 2 wh ⟨p, n⟩ ⟨q, m⟩ ∧ Below w.heap.size w w9) := ⟨H8.out.1.later hb9, H8.out.2.1.later hb9, bstep H8.out.2.2 hb9⟩
                clear hb9 y0 y1 y2 y3 u0 u1 u2 u3 u4 u5
                obtain ⟨y0, y1, y2, y3⟩ := H9.out.1.cells
                obtain ⟨u0, u1, u2, u3, u4, u5⟩ := H9.out.2.1.all
                simp only at u0 u1 u2 u3 u4 u5
                have HT1 : Hid (Calls Try.prog 19 #[.pointer (some ⟨g1, 0, none⟩), .pointer (some ⟨d1, 0, none⟩), .agg #[.int .i64 2, .int .i64 wh, .string (bs p), .string (bs n), .string (bs q), .string (bs m)]] w9 fun e w' => e = .returned (.bool true) ∧ Below w9.heap.size w9 w') := H9.out.1.told1 2 wh ⟨p, n⟩ ⟨q, m⟩ HLU.out.1 HLU.out.2
                go_wp2_with fail
                with_reducible refine HT1.out.mono ?_
                rintro e w10 ⟨rfl, hb10⟩
                have H10 : Hid (LP w.heap.size w10 ga qa (k + 1) g0 g1 d0 d1 ∧ Below w.heap.size w w10) := ⟨H9.out.1.later hb10, bstep H9.out.2.2 hb10⟩
                clear hb10 y0 y1 y2 y3 u0 u1 u2 u3 u4 u5
                go_wp2_with fail
                go_roundw
                case rel => exact ⟨k + 1, g0, g1, d0, d1, by omega, by omega, by go_num, H10.out.1, H10.out.2⟩
                case measure => simp [intOf]; omega
              · by_cases e3 : kd = 3
                · subst e3
                  have HE : Hid (Calls Try.prog 8 #[.pointer (some ⟨g1, 0, none⟩), (.agg #[.string (bs p), .string (bs n)])] W.drew fun e w1 => e = .returned (.tuple #[]) ∧ Kp w.heap.size wr W.drew w1 ∧ w1.cell? ⟨ga, 1, none⟩ = some (.pointer (some ⟨g1, 0, none⟩)) ∧ w1.cell? ⟨qa, 1, none⟩ = some (.pointer (some ⟨d1, 0, none⟩)) ∧ ∀ W1, Below w1.heap.size w1 W1 → Calls Try.prog 17 #[.pointer (some ⟨d1, 0, none⟩), (.agg #[.string (bs p), .string (bs n)])] W1 fun e w2 => e = .returned (.tuple #[]) ∧ Kp w.heap.size wr W1 w2 ∧ LP w.heap.size w2 ga qa (k + 1) g0 g1 d0 d1) := H5.out.1.node1 ⟨p, n⟩ HLU.out.1 (by omega) (bstep H6.out.1 (bd W 1))
                  go_wp2_with fail
                  go_region_held3 (fun w' => w'.cell? ⟨ga, 1, none⟩ = some (.pointer (some ⟨g1, 0, none⟩)) ∧ w'.cell? ⟨o, 2, none⟩ = some (.string (bs p)) ∧ w'.cell? ⟨o, 3, none⟩ = some (.string (bs n))) (first | (with_reducible exact K7.out) | go_keep) (first | (go_at_call 8; (with_reducible refine HE.out.mono ?_); rintro e w7 ⟨rfl, hkp, hg7, hq7, hnx⟩; have H7 : Hid (Kp w.heap.size wr W.drew w7 ∧ OB w7 o 3 wh ⟨p, n⟩ ⟨q, m⟩ ∧ ∀ W1, Below w7.heap.size w7 W1 → Calls Try.prog 17 #[.pointer (some ⟨d1, 0, none⟩), (.agg #[.string (bs p), .string (bs n)])] W1 fun e w2 => e = .returned (.tuple #[]) ∧ Kp w.heap.size wr W1 w2 ∧ LP w.heap.size w2 ga qa (k + 1) g0 g1 d0 d1) := ⟨hkp, (H6.out.2.1.later (bd W 1)).kp hkp H6.out.2.2, hnx⟩; have K7 : Hid (w7.cell? ⟨ga, 1, none⟩ = some (.pointer (some ⟨g1, 0, none⟩)) ∧ w7.cell? ⟨o, 2, none⟩ = some (.string (bs p)) ∧ w7.cell? ⟨o, 3, none⟩ = some (.string (bs n))) := ⟨hg7, H7.out.2.1.all.2.2.1, H7.out.2.1.all.2.2.2.1⟩; have HQ7 : Hid (w7.cell? ⟨qa, 1, none⟩ = some (.pointer (some ⟨d1, 0, none⟩))) := hq7; clear hkp hg7 hq7 hnx))
                  clear o0 o1 o2 o3 o4 o5 x0 x1 x2 x3
                  obtain ⟨o0, o1, o2, o3, o4, o5⟩ := H7.out.2.1.all
                  simp only at o0 o1 o2 o3 o4 o5
                  have x0 := HQ7.out
                  have HE2 : Hid (Calls Try.prog 17 #[.pointer (some ⟨d1, 0, none⟩), (.agg #[.string (bs p), .string (bs n)])] w7.drew fun e w2 => e = .returned (.tuple #[]) ∧ Kp w.heap.size wr w7.drew w2 ∧ LP w.heap.size w2 ga qa (k + 1) g0 g1 d0 d1) := H7.out.2.2 w7.drew (bd w7 1)
                  go_wp2_with fail
                  go_region_held3 (fun w' => w'.cell? ⟨qa, 1, none⟩ = some (.pointer (some ⟨d1, 0, none⟩)) ∧ w'.cell? ⟨o, 2, none⟩ = some (.string (bs p)) ∧ w'.cell? ⟨o, 3, none⟩ = some (.string (bs n))) (first | (with_reducible exact K8.out) | go_keep) (first | (go_at_call 17; (with_reducible refine HE2.out.mono ?_); rintro e w8 ⟨rfl, hkp, hlp⟩; have H8 : Hid (LP w.heap.size w8 ga qa (k + 1) g0 g1 d0 d1 ∧ OB w8 o 3 wh ⟨p, n⟩ ⟨q, m⟩ ∧ Below w.heap.size w w8) := ⟨hlp, (H7.out.2.1.later (bd w7 1)).kp hkp H6.out.2.2, below_trans (below_trans (bstep H5.out.2 (bstep H6.out.1 (bd W 1))) H7.out.1.below) (below_trans (below_mono (bd w7 1) (Nat.le_trans (bstep H5.out.2 (bstep H6.out.1 (bd W 1))).size H7.out.1.below.size)) hkp.below)⟩; have K8 : Hid (w8.cell? ⟨qa, 1, none⟩ = some (.pointer (some ⟨d1, 0, none⟩)) ∧ w8.cell? ⟨o, 2, none⟩ = some (.string (bs p)) ∧ w8.cell? ⟨o, 3, none⟩ = some (.string (bs n))) := ⟨hlp.cells.2.2.2, H8.out.2.1.all.2.2.1, H8.out.2.1.all.2.2.2.1⟩; clear hkp hlp))
                  clear o0 o1 o2 o3 o4 o5 x0
                  obtain ⟨y0, y1, y2, y3⟩ := H8.out.1.cells
                  obtain ⟨u0, u1, u2, u3, u4, u5⟩ := H8.out.2.1.all
                  simp only at u0 u1 u2 u3 u4 u5
                  have HT0 : Hid (Calls Try.prog 19 #[.pointer (some ⟨g0, 0, none⟩), .pointer (some ⟨d0, 0, none⟩), .agg #[.int .i64 3, .int .i64 wh, .string (bs p), .string (bs n), .string (bs q), .string (bs m)]] w8 fun e w' => e = .returned (.bool true) ∧ Below w8.heap.size w8 w') := H8.out.1.told0 3 wh ⟨p, n⟩ ⟨q, m⟩ HLU.out.1 HLU.out.2
                  go_wp2_with fail
                  with_reducible refine HT0.out.mono ?_
                  rintro e w9 ⟨rfl, hb9⟩
                  have H9 : Hid (LP w.heap.size w9 ga qa (k + 1) g0 g1 d0 d1 ∧ OB w9 o 3 wh ⟨p, n⟩ ⟨q, m⟩ ∧ Below w.heap.size w w9) := ⟨H8.out.1.later hb9, H8.out.2.1.later hb9, bstep H8.out.2.2 hb9⟩
                  clear hb9 y0 y1 y2 y3 u0 u1 u2 u3 u4 u5
                  obtain ⟨y0, y1, y2, y3⟩ := H9.out.1.cells
                  obtain ⟨u0, u1, u2, u3, u4, u5⟩ := H9.out.2.1.all
                  simp only at u0 u1 u2 u3 u4 u5
                  have HT1 : Hid (Calls Try.prog 19 #[.pointer (some ⟨g1, 0, none⟩), .pointer (some ⟨d1, 0, none⟩), .agg #[.int .i64 3, .int .i64 wh, .string (bs p), .string (bs n), .string (bs q), .string (bs m)]] w9 fun e w' => e = .returned (.bool true) ∧ Below w9.heap.size w9 w') := H9.out.1.told1 3 wh ⟨p, n⟩ ⟨q, m⟩ HLU.out.1 HLU.out.2
                  go_wp2_with fail
                  with_reducible refine HT1.out.mono ?_
                  rintro e w10 ⟨rfl, hb10⟩
                  have H10 : Hid (LP w.heap.size w10 ga qa (k + 1) g0 g1 d0 d1 ∧ Below w.heap.size w w10) := ⟨H9.out.1.later hb10, bstep H9.out.2.2 hb10⟩
                  clear hb10 y0 y1 y2 y3 u0 u1 u2 u3 u4 u5
                  go_wp2_with fail
                  go_roundw
                  case rel => exact ⟨k + 1, g0, g1, d0, d1, by omega, by omega, by go_num, H10.out.1, H10.out.2⟩
                  case measure => simp [intOf]; omega
                · by_cases e4 : kd = 4
                  · subst e4
                    have HE := hid_mk (H5.out.1.back1 (by omega) H6.out.1)
                    go_wp2_with fail
                    refine HE.out.mono ?_
                    rintro e w7 ⟨gb, rfl, c1, c2, c3, HX⟩
                    clear x0 x1 x2 x3 o0 o1 o2 o3 o4 o5
                    go_wp2_with fail
                    refine HX.out.mono ?_
                    rintro e w7' ⟨d2, rfl, c4, c5, HY⟩
                    obtain ⟨w8, hw8⟩ : ∃ w8, w7'.setCell ⟨qa, 0, none⟩ (.pointer (some ⟨d2, 0, none⟩)) = w8 := ⟨_, rfl⟩
                    rw [hw8] at HY
                    clear c1 c2 c3
                    go_upto_region 27 with fail
                    try rw [hw8]
                    clear hw8 c4 c5
                    have H8 : Hid (LP w.heap.size w8 ga qa (k + 1) gb g1 d2 d1 ∧ OB w8 o 4 wh ⟨p, n⟩ ⟨q, m⟩ ∧ Below w.heap.size w w8) := ⟨HY.out.2, H6.out.2.1.kp HY.out.1 H6.out.2.2, below_trans (bstep H5.out.2 H6.out.1) HY.out.1.below⟩
                    obtain ⟨y0, y1, y2, y3⟩ := H8.out.1.cells
                    obtain ⟨u0, u1, u2, u3, u4, u5⟩ := H8.out.2.1.all
                    simp only at u0 u1 u2 u3 u4 u5
                    have HT0 : Hid (Calls Try.prog 19 #[.pointer (some ⟨gb, 0, none⟩), .pointer (some ⟨d2, 0, none⟩), .agg #[.int .i64 4, .int .i64 wh, .string (bs p), .string (bs n), .string (bs q), .string (bs m)]] w8 fun e w' => e = .returned (.bool true) ∧ Below w8.heap.size w8 w') := H8.out.1.told0 4 wh ⟨p, n⟩ ⟨q, m⟩ HLU.out.1 HLU.out.2
                    go_wp2_with fail
                    with_reducible refine HT0.out.mono ?_
                    rintro e w9 ⟨rfl, hb9⟩
                    have H9 : Hid (LP w.heap.size w9 ga qa (k + 1) gb g1 d2 d1 ∧ OB w9 o 4 wh ⟨p, n⟩ ⟨q, m⟩ ∧ Below w.heap.size w w9) := ⟨H8.out.1.later hb9, H8.out.2.1.later hb9, bstep H8.out.2.2 hb9⟩
                    clear hb9 y0 y1 y2 y3 u0 u1 u2 u3 u4 u5
                    obtain ⟨y0, y1, y2, y3⟩ := H9.out.1.cells
                    obtain ⟨u0, u1, u2, u3, u4, u5⟩ := H9.out.2.1.all
                    simp only at u0 u1 u2 u3 u4 u5
                    have HT1 : Hid (Calls Try.prog 19 #[.pointer (some ⟨g1, 0, none⟩), .pointer (some ⟨d1, 0, none⟩), .agg #[.int .i64 4, .int .i64 wh, .string (bs p), .string (bs n), .string (bs q), .string (bs m)]] w9 fun e w' => e = .returned (.bool true) ∧ Below w9.heap.size w9 w') := H9.out.1.told1 4 wh ⟨p, n⟩ ⟨q, m⟩ HLU.out.1 HLU.out.2
                    go_wp2_with fail
                    with_reducible refine HT1.out.mono ?_
                    rintro e w10 ⟨rfl, hb10⟩
                    have H10 : Hid (LP w.heap.size w10 ga qa (k + 1) gb g1 d2 d1 ∧ Below w.heap.size w w10) := ⟨H9.out.1.later hb10, bstep H9.out.2.2 hb10⟩
                    clear hb10 y0 y1 y2 y3 u0 u1 u2 u3 u4 u5
                    go_wp2_with fail
                    go_roundw
                    case rel => exact ⟨k + 1, gb, g1, d2, d1, by omega, by omega, by go_num, H10.out.1, H10.out.2⟩
                    case measure => simp [intOf]; omega
                  · skip
                    have H8 : Hid (LP w.heap.size W ga qa (k + 1) g0 g1 d0 d1 ∧ OB W o kd wh ⟨p, n⟩ ⟨q, m⟩ ∧ Below w.heap.size w W) := ⟨(H5.out.1.later H6.out.1).more, H6.out.2.1, bstep H5.out.2 H6.out.1⟩
                    go_upto_region 27 with fail
                    clear x0 x1 x2 x3 o0 o1 o2 o3 o4 o5
                    obtain ⟨y0, y1, y2, y3⟩ := H8.out.1.cells
                    obtain ⟨u0, u1, u2, u3, u4, u5⟩ := H8.out.2.1.all
                    simp only at u0 u1 u2 u3 u4 u5
                    have HT0 : Hid (Calls Try.prog 19 #[.pointer (some ⟨g0, 0, none⟩), .pointer (some ⟨d0, 0, none⟩), .agg #[.int .i64 kd, .int .i64 wh, .string (bs p), .string (bs n), .string (bs q), .string (bs m)]] W fun e w' => e = .returned (.bool true) ∧ Below W.heap.size W w') := H8.out.1.told0 kd wh ⟨p, n⟩ ⟨q, m⟩ HLU.out.1 HLU.out.2
                    go_wp2_with fail
                    with_reducible refine HT0.out.mono ?_
                    rintro e w9 ⟨rfl, hb9⟩
                    have H9 : Hid (LP w.heap.size w9 ga qa (k + 1) g0 g1 d0 d1 ∧ OB w9 o kd wh ⟨p, n⟩ ⟨q, m⟩ ∧ Below w.heap.size w w9) := ⟨H8.out.1.later hb9, H8.out.2.1.later hb9, bstep H8.out.2.2 hb9⟩
                    clear hb9 y0 y1 y2 y3 u0 u1 u2 u3 u4 u5
                    obtain ⟨y0, y1, y2, y3⟩ := H9.out.1.cells
                    obtain ⟨u0, u1, u2, u3, u4, u5⟩ := H9.out.2.1.all
                    simp only at u0 u1 u2 u3 u4 u5
                    have HT1 : Hid (Calls Try.prog 19 #[.pointer (some ⟨g1, 0, none⟩), .pointer (some ⟨d1, 0, none⟩), .agg #[.int .i64 kd, .int .i64 wh, .string (bs p), .string (bs n), .string (bs q), .string (bs m)]] w9 fun e w' => e = .returned (.bool true) ∧ Below w9.heap.size w9 w') := H9.out.1.told1 kd wh ⟨p, n⟩ ⟨q, m⟩ HLU.out.1 HLU.out.2
                    go_wp2_with fail
                    with_reducible refine HT1.out.mono ?_
                    rintro e w10 ⟨rfl, hb10⟩
                    have H10 : Hid (LP w.heap.size w10 ga qa (k + 1) g0 g1 d0 d1 ∧ Below w.heap.size w w10) := ⟨H9.out.1.later hb10, bstep H9.out.2.2 hb10⟩
                    clear hb10 y0 y1 y2 y3 u0 u1 u2 u3 u4 u5
                    go_wp2_with fail
                    go_roundw
                    case rel => exact ⟨k + 1, g0, g1, d0, d1, by omega, by omega, by go_num, H10.out.1, H10.out.2⟩
                    case measure => simp [intOf]; omega
      · obtain rfl : k = 60 := by omega
        go_wp2_with fail
        go_ret
        exact ⟨rfl, H5.out.2⟩
    · obtain rfl : ns = k := by omega
      go_wp2_with fail
      go_ret
      exact ⟨rfl, H5.out.2⟩
end Go.Proofs.Ytjohhmfncemknaa
