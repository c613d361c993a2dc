/-
  The program's tree and the document's, side by side.
-/
import Derived.Test.YtceoelclnnfhhadGreatRefD
import Derived.Test.YtceoelclnnfhhadGreatRefM
import Derived.Test.YtceoelclnnfhhadGreatDrop
import Derived.Test.YtceoelclnnfhhadGreatKnown
namespace Go.Proofs.YtceoelclnnfhhadGreat
open Go.RowKit

theorem TR.but {w w' : World} {F : Nat → Prop} {t N g : Nat} {L : List Fl} (h : TR w F t L N) {cs : Array Value} {e : TypeId} {fr : Nat × Nat} (hs : w.heap[g]? = some (.cells cs e fr)) (h1 : e ≠ 70) (h2 : e ≠ 54) (ho : Only [g] w w') : TR w' F t L N := by
  obtain ⟨q1, ⟨A, M, q2, q3⟩, q4, q5⟩ := h
  have key : ∀ k, k < w.heap.size → k ≠ g → w'.heap[k]? = w.heap[k]? := fun k hk hn => ho.block k hk (by simpa using hn)
  have hnd : ∀ k m c x o, ND w k m c x o → k ≠ g := by
    rintro k m c x o hk rfl
    have := hk.blk.symm.trans hs
    simp at this
    exact h1 this.2.1.symm
  refine ⟨q1, ⟨A, M, ⟨fun q c x o e => ?_, fun q s e => ?_, q2.inj, q2.injM⟩, ?_⟩, q4, fun k hk => Nat.lt_of_lt_of_le (q5 k hk) ho.size⟩
  · obtain ⟨k1, k2, k3, k4⟩ := q2.dirs q c x o e
    refine ⟨k1.block (key _ k1.lt (hnd _ _ _ _ _ k1)), k2.block (key _ k2.lt ?_), k3, k4⟩
    intro e2
    obtain ⟨_, _, ⟨es, clock, hb, _⟩, _⟩ := k2
    rw [e2, hs] at hb; cases hb
  · obtain ⟨k1, k2⟩ := q2.files q s e
    exact ⟨k1.block (key _ k1.lt (hnd _ _ _ _ _ k1)), k2⟩
  · refine (key t (Array.getElem?_eq_some_iff.1 q3).1 ?_).trans q3
    rintro rfl
    have := q3.symm.trans hs
    simp at this
    exact h2 this.2.1.symm

/-- both trees; all of it is new since w0 -/
structure PS (w0 w : World) (t r : Nat) (T R : List Fl) (N : Nat) : Prop where
  tr : ∃ F, TR w F t T N ∧ ∀ i, F i → w0.heap.size ≤ i
  rt : RT w w0.heap.size r R
  below : Below w0.heap.size w0 w
  fok : ∀ f ∈ T, Fok f
theorem PS.good {w0 w : World} {t r N : Nat} {T R : List Fl} (h : PS w0 w t r T R N) : Good T := by obtain ⟨F, h1, _⟩ := h.tr; exact h1.good
theorem PS.later {w0 w w' : World} {t r N : Nat} {T R : List Fl} (h : PS w0 w t r T R N) (hb : Below w.heap.size w w') : PS w0 w' t r T R N := by
  obtain ⟨F, h1, h2⟩ := h.tr
  exact ⟨⟨F, h1.later hb, h2⟩, h.rt.later hb, bstep h.below hb, h.fok⟩
theorem PS.perm {w0 w : World} {t r N : Nat} {T T' R : List Fl} (h : PS w0 w t r T R N) (hp : T.Perm T') : PS w0 w t r T' R N := by
  obtain ⟨F, h1, h2⟩ := h.tr
  exact ⟨⟨F, h1.perm hp, h2⟩, h.rt, h.below, fun f hf => h.fok f (hp.mem_iff.2 hf)⟩
theorem PS.mono {w0 w : World} {t r N N' : Nat} {T R : List Fl} (h : PS w0 w t r T R N) (hN : N ≤ N') : PS w0 w t r T R N' := by
  obtain ⟨F, h1, h2⟩ := h.tr
  exact ⟨⟨F, h1.mono hN, h2⟩, h.rt, h.below, h.fok⟩
theorem PS.left {w0 w w' : World} {t r N N' : Nat} {T T' R : List Fl} {F : Nat → Prop} (h : PS w0 w t r T R N) (h2 : ∀ i, F i → w0.heap.size ≤ i) (hl : Left w w' F t T' N') (hf : ∀ f ∈ T', Fok f) : PS w0 w' t r T' R N' := by
  have hs := hl.op.size
  have hs2 := h.below.size
  refine ⟨⟨_, hl.tr, fun i hi => ?_⟩, h.rt.ak hl.ak, below_trans h.below (hl.op.toBelow hs2 h2), hf⟩
  rcases hi with hi | hi
  · exact h2 i hi
  · omega
theorem ps_add {w0 w : World} {t r N : Nat} {T R : List Fl} (h : PS w0 w t r T R N) {p tx : List UInt8} {bl s : Int} (hf : Fok ⟨p, tx, bl, s⟩) (hN : N + 20 < 1099511627776) :
    Calls Tryz.prog 22 #[.pointer (some ⟨t, 0, none⟩), .agg #[.string (bs p), .string (bs tx), .int .i64 bl, .int .i64 s]] w fun e w' => e = .returned (.int .i64 (addE T ⟨p, tx, bl, s⟩)) ∧ PS w0 w' t r (addL T ⟨p, tx, bl, s⟩) R (N + 20) ∧ AK w w' := by
  obtain ⟨F, h1, h2⟩ := h.tr
  refine (add_any h1 (szs_all h1.good h.fok) ⟨p, tx, bl, s⟩ hf hN).mono ?_
  rintro e w' ⟨rfl, hl⟩
  refine ⟨rfl, h.left h2 hl (fun f hm => ?_), hl.ak⟩
  unfold addL at hm
  split at hm
  · rcases List.mem_cons.1 hm with rfl | hm
    · exact hf
    · exact h.fok f hm
  · exact h.fok f hm
theorem ps_drop {w0 w : World} {t r N : Nat} {T R : List Fl} (h : PS w0 w t r T R N) (p : List UInt8) (hp : p.length ≤ 4194304) :
    Calls Tryz.prog 14 #[.pointer (some ⟨t, 0, none⟩), .string (bs p)] w fun e w' => e = .returned (.int .i64 (dropE T p)) ∧ PS w0 w' t r (outF p T) R N ∧ AK w w' := by
  obtain ⟨F, h1, h2⟩ := h.tr
  refine (drop_any h1 (szs_all h1.good h.fok) p hp).mono ?_
  rintro e w' ⟨rfl, hl⟩
  exact ⟨rfl, h.left h2 hl (fun f hm => h.fok f (List.mem_filter.1 hm).1), hl.ak⟩
theorem RT.blk {w : World} {base r : Nat} {R : List Fl} (h : RT w base r R) : ∃ cs fr, w.heap[r]? = some (.cells cs 58 fr) := by
  obtain ⟨a, c, h1, _⟩ := h.it; exact ⟨_, _, h1⟩
theorem PS.right {w0 w w' : World} {t r N : Nat} {T R R' : List Fl} (h : PS w0 w t r T R N) (hl : RL w w' w0.heap.size r R') : PS w0 w' t r T R' N := by
  obtain ⟨F, h1, h2⟩ := h.tr
  obtain ⟨cs, fr, hb⟩ := h.rt.blk
  exact ⟨⟨F, h1.but hb (by decide) (by decide) hl.only, h2⟩, hl.rt, below_trans h.below (hl.only.below h.below.size (fun k hk => by simp at hk; subst hk; exact h.rt.big)), h.fok⟩
theorem ps_radd {w0 w : World} {t r N : Nat} {T R : List Fl} (h : PS w0 w t r T R N) {p tx : List UInt8} {bl s : Int} (hf : Fok ⟨p, tx, bl, s⟩) :
    Calls Tryz.prog 40 #[.pointer (some ⟨r, 0, none⟩), .agg #[.string (bs p), .string (bs tx), .int .i64 bl, .int .i64 s]] w fun e w' => e = .returned (.int .i64 (addE R ⟨p, tx, bl, s⟩)) ∧ PS w0 w' t r T (addR R ⟨p, tx, bl, s⟩) N ∧ Only [r] w w' := by
  refine (raddT_any h.rt h.below.size ⟨p, tx, bl, s⟩ hf).mono ?_
  rintro e w' ⟨rfl, hl⟩
  exact ⟨rfl, h.right hl, hl.only⟩
theorem ps_rdrop {w0 w : World} {t r N : Nat} {T R : List Fl} (h : PS w0 w t r T R N) (p : List UInt8) :
    Calls Tryz.prog 41 #[.pointer (some ⟨r, 0, none⟩), .string (bs p)] w fun e w' => e = .returned (.int .i64 (dropE R p)) ∧ PS w0 w' t r T (outF p R) N ∧ Only [r] w w' := by
  refine (rdropT_any h.rt h.below.size p).mono ?_
  rintro e w' ⟨rfl, hl⟩
  exact ⟨rfl, h.right hl, hl.only⟩
/-- what is told -/
theorem ps_files {w0 w : World} {t r N : Nat} {R : List Fl} (h : PS w0 w t r R R N) (d : List UInt8) (hd : d.length ≤ 4194304) :
    Calls Tryz.prog 10 #[.pointer (some ⟨t, 0, none⟩), .string (bs d)] w fun e w' => ∃ v, e = .returned v ∧ Own w.heap.size w' v (rfiles R d) ∧ Below w.heap.size w w' := by
  obtain ⟨F, h1, h2⟩ := h.tr
  refine (tfiles_any h1 d hd).mono ?_
  rintro e w' ⟨v, X, rfl, k1, k2, k3, _, _, k4⟩
  have e := files_eq h.rt.good h.rt.srt k2 k3
  subst e
  exact ⟨v, rfl, k1, k4⟩
theorem ps_dirs {w0 w : World} {t r N : Nat} {R : List Fl} (h : PS w0 w t r R R N) (d : List UInt8) (hd : d.length ≤ 4194304) :
    Calls Tryz.prog 11 #[.pointer (some ⟨t, 0, none⟩), .string (bs d)] w fun e w' => ∃ v, e = .returned v ∧ Own w.heap.size w' v (rdirs (pcs d) R []) ∧ Below w.heap.size w w' := by
  obtain ⟨F, h1, h2⟩ := h.tr
  refine (tdirs_any h1 d hd).mono ?_
  rintro e w' ⟨v, X, rfl, k1, k2, k3, _, _, k4⟩
  have e := dirs_eq h.rt.good h.rt.srt k2 k3
  subst e
  exact ⟨v, rfl, k1, k4⟩
theorem rfiles_len (R : List Fl) (d : List UInt8) : (rfiles R d).length ≤ R.length := by
  unfold rfiles; rw [List.length_map]; exact List.length_filter_le _ _
theorem rdirs_len (q : Q) : ∀ (L : List Fl) (acc : List (List UInt8)), (rdirs q L acc).length ≤ acc.length + L.length
  | [], acc => by simp [rdirs]
  | f :: r, acc => by
    simp only [rdirs, List.length_cons]
    refine Nat.le_trans (rdirs_len q r _) ?_
    split
    · split
      · omega
      · simp; omega
    · omega

/-- a boxed pair -/
structure PB (w : World) (g t r : Nat) : Prop where
  blk : w.heap[g]? = some (.cells #[.pointer (some ⟨t, 0, none⟩), .pointer (some ⟨r, 0, none⟩)] 44 (0, 0))
theorem PB.lt {w : World} {g t r : Nat} (h : PB w g t r) : g < w.heap.size := (Array.getElem?_eq_some_iff.1 h.blk).1
theorem PB.later {w w' : World} {g t r : Nat} (h : PB w g t r) (hb : Below w.heap.size w w') : PB w' g t r := ⟨(hb.block g h.lt).trans h.blk⟩
theorem PB.cells {w : World} {g t r : Nat} (h : PB w g t r) : w.cell? ⟨g, 0, none⟩ = some (.pointer (some ⟨t, 0, none⟩)) ∧ w.cell? ⟨g, 1, none⟩ = some (.pointer (some ⟨r, 0, none⟩)) := by
  refine ⟨?_, ?_⟩ <;> simp [World.cell?, h.blk]
theorem PB.ak {w w' : World} {g t r : Nat} (h : PB w g t r) (k : AK w w') : PB w' g t r := ⟨(k.block _ _ _ _ h.blk (by decide)).trans h.blk⟩
theorem PB.only {w w' : World} {g t r base : Nat} {R : List Fl} (h : PB w g t r) (hr : RT w base r R) (k : Only [r] w w') : PB w' g t r := by
  refine ⟨(k.block g h.lt ?_).trans h.blk⟩
  simp only [List.mem_singleton]
  rintro rfl
  obtain ⟨cs, fr, hb⟩ := hr.blk
  have := h.blk.symm.trans hb
  simp at this

set_option maxRecDepth 100000 in
set_option maxHeartbeats 4000000 in
theorem told_law {w0 w : World} {t r N : Nat} {R : List Fl} (h : PS w0 w t r R R N) (d : List UInt8) (hd : d.length ≤ 4194304) :
    Calls Tryz.prog 18 #[.agg #[.pointer (some ⟨t, 0, none⟩), .pointer (some ⟨r, 0, none⟩)], .string (bs d)] w fun e w' => e = .returned (.bool true) ∧ Below w.heap.size w w' := by
  have H : Hid (PS w0 w t r R R N ∧ d.length ≤ 4194304) := ⟨h, hd⟩
  clear h hd
  obtain ⟨w1, hw1⟩ : ∃ w1, w.alloc (.cells #[.pointer (some ⟨t, 0, none⟩), .pointer (some ⟨r, 0, none⟩)] 44) = w1 := ⟨_, rfl⟩
  obtain ⟨g, hg⟩ : ∃ g, w.heap.size = g := ⟨_, rfl⟩
  have H1 : Hid (PB w1 g t r ∧ Below w.heap.size w w1 ∧ PS w0 w1 t r R R N) := by
    rw [← hw1, ← hg]
    exact ⟨⟨heap_alloc_new _ _⟩, balloc _ _, H.out.1.later (balloc _ _)⟩
  have HW : Hid (w.alloc (.cells #[.pointer (some ⟨t, 0, none⟩), .pointer (some ⟨r, 0, none⟩)] 44) = w1 ∧ w.heap.size = g) := ⟨hw1, hg⟩
  clear hw1 hg
  go_enter Tryz.func18, Tryz.ntmps18
  go_wp2_with fail
  rw [HW.out.1, HW.out.2]
  obtain ⟨c0, c1⟩ := H1.out.1.cells
  have hgl := H1.out.1.lt
  have hl5 := H.out.1.good.len
  have HL5 : Hid ((rfiles R d).length ≤ 4194304 ∧ (rdirs (pcs d) R []).length ≤ 4194304) := ⟨by have := rfiles_len R d; omega, by have := rdirs_len (pcs d) R []; simp at this; omega⟩
  have HA : Hid (∀ W, Below w1.heap.size w1 W → Calls Tryz.prog 10 #[.pointer (some ⟨t, 0, none⟩), .string (bs d)] W fun e w' => ∃ v, e = .returned v ∧ Own W.heap.size w' v (rfiles R d) ∧ Below W.heap.size W w') := fun W hW => ps_files (H1.out.2.2.later hW) d H.out.2
  have HB : Hid (∀ W, Below w1.heap.size w1 W → Calls Tryz.prog 8 #[.pointer (some ⟨r, 0, none⟩), .string (bs d)] W fun e w' => ∃ v, e = .returned v ∧ Own W.heap.size w' v (rfiles R d) ∧ Below W.heap.size W w') := fun W hW => rfilesT_any (H1.out.2.2.later hW).rt d H.out.2
  have HC : Hid (∀ W, Below w1.heap.size w1 W → Calls Tryz.prog 11 #[.pointer (some ⟨t, 0, none⟩), .string (bs d)] W fun e w' => ∃ v, e = .returned v ∧ Own W.heap.size w' v (rdirs (pcs d) R []) ∧ Below W.heap.size W w') := fun W hW => ps_dirs (H1.out.2.2.later hW) d H.out.2
  have HD : Hid (∀ W, Below w1.heap.size w1 W → Calls Tryz.prog 9 #[.pointer (some ⟨r, 0, none⟩), .string (bs d)] W fun e w' => ∃ v, e = .returned v ∧ Own W.heap.size w' v (rdirs (pcs d) R []) ∧ Below W.heap.size W w') := fun W hW => rdirsT_any (H1.out.2.2.later hW).rt d H.out.2
  have HS : Hid (∀ (W : World) (v u : Value) (l : List (List UInt8)), l.length ≤ 4194304 → SS W v l → SS W u l → Calls Tryz.prog 12 #[v, u] W fun e w' => e = .returned (.bool true) ∧ Below W.heap.size W w') := by
    intro W v u l hl h1 h2
    refine (same_any h1 h2 hl).mono ?_
    rintro e w' ⟨rfl, hb⟩
    rw [decide_eq_true rfl]
    exact ⟨rfl, hb⟩
  have hb0 : Below w1.heap.size w1 w1.drew := (Below.refl _ _).drew
  go_region_held3 (fun w' => w'.cell? ⟨g, 0, none⟩ = some (.pointer (some ⟨t, 0, none⟩)) ∧ w'.cell? ⟨g, 1, none⟩ = some (.pointer (some ⟨r, 0, none⟩)))
    (first | (with_reducible exact ⟨e0, e1⟩) | go_keep)
    (first
      | (go_at_call 10; with_reducible refine (HA.out _ hb0).mono ?_; rintro e w2 ⟨v2, rfl, ho2, hb2'⟩; have hb2 : Below w1.heap.size w1 w2 := bstep hb0 hb2'; have e0 := (hb2.cell (p := ⟨g, 0, none⟩) hgl).trans c0; have e1 := (hb2.cell (p := ⟨g, 1, none⟩) hgl).trans c1)
      | (go_at_call 8; with_reducible refine (HB.out _ hb2).mono ?_; rintro e w3 ⟨v3, rfl, ho3, hb3'⟩; have hb3 : Below w1.heap.size w1 w3 := bstep hb2 hb3'; have e0 := (hb3.cell (p := ⟨g, 0, none⟩) hgl).trans c0; have e1 := (hb3.cell (p := ⟨g, 1, none⟩) hgl).trans c1)
      | (go_at_call 12; with_reducible refine (HS.out _ _ _ _ HL5.out.1 (ho2.bs.later hb3') ho3.bs).mono ?_; rintro e w4 ⟨rfl, hb4'⟩; have hb4 : Below w1.heap.size w1 w4 := bstep hb3 hb4'; have e0 := (hb4.cell (p := ⟨g, 0, none⟩) hgl).trans c0; have e1 := (hb4.cell (p := ⟨g, 1, none⟩) hgl).trans c1)
      | (go_at_call 11; with_reducible refine (HC.out _ hb4).mono ?_; rintro e w5 ⟨v5, rfl, ho5, hb5'⟩; have hb5 : Below w1.heap.size w1 w5 := bstep hb4 hb5'; have e0 := (hb5.cell (p := ⟨g, 0, none⟩) hgl).trans c0; have e1 := (hb5.cell (p := ⟨g, 1, none⟩) hgl).trans c1)
      | (go_at_call 9; with_reducible refine (HD.out _ hb5).mono ?_; rintro e w6 ⟨v6, rfl, ho6, hb6'⟩; have hb6 : Below w1.heap.size w1 w6 := bstep hb5 hb6'; have e0 := (hb6.cell (p := ⟨g, 0, none⟩) hgl).trans c0; have e1 := (hb6.cell (p := ⟨g, 1, none⟩) hgl).trans c1)
      | (go_at_call 12; with_reducible refine (HS.out _ _ _ _ HL5.out.2 (ho5.bs.later hb6') ho6.bs).mono ?_; rintro e w7 ⟨rfl, hb7'⟩; have hb7 : Below w1.heap.size w1 w7 := bstep hb6 hb7'; have e0 := (hb7.cell (p := ⟨g, 0, none⟩) hgl).trans c0; have e1 := (hb7.cell (p := ⟨g, 1, none⟩) hgl).trans c1))
  have H7 : Hid (Below w.heap.size w w7 ∧ PS w0 w7 t r R R N ∧ PB w7 g t r) := ⟨bstep H1.out.2.1 hb7, H1.out.2.2.later hb7, H1.out.1.later hb7⟩
  clear hb0 hb2 hb2' hb3 hb3' hb4 hb4' hb5 hb5' hb6 hb6' hb7 hb7' ho2 ho3 ho5 ho6 c0 c1 hgl HA HB HC HD HS
  obtain ⟨C, hC⟩ : ∃ C, countS R d = C := ⟨_, rfl⟩
  obtain ⟨S, hS⟩ : ∃ S, sizeS R d = S := ⟨_, rfl⟩
  obtain ⟨O, hO⟩ : ∃ O, ownS R d = O := ⟨_, rfl⟩
  have HA : Hid (∀ Y : GW w7, Calls Tryz.prog 15 #[.pointer (some ⟨t, 0, none⟩), .string (bs d)] Y.it fun e w' => e = .returned (.int .i64 (C : Nat)) ∧ ∃ X : GW w7, w' = X.it) := by
    intro Y
    obtain ⟨F, h1, _⟩ := H7.out.2.1.tr
    refine (tcount_any (h1.later Y.below) d H.out.2).mono ?_
    rintro e w' ⟨rfl, hb⟩
    exact ⟨by rw [hC], ⟨w', bstep Y.below hb⟩, rfl⟩
  have HB : Hid (∀ Y : GW w7, Calls Tryz.prog 42 #[.pointer (some ⟨r, 0, none⟩), .string (bs d)] Y.it fun e w' => e = .returned (.int .i64 (C : Nat)) ∧ ∃ X : GW w7, w' = X.it) := by
    intro Y
    refine (rcountT_any (H7.out.2.1.rt.later Y.below) d H.out.2).mono ?_
    rintro e w' ⟨rfl, hb⟩
    exact ⟨by rw [hC], ⟨w', bstep Y.below hb⟩, rfl⟩
  have HC : Hid (∀ Y : GW w7, Calls Tryz.prog 23 #[.pointer (some ⟨t, 0, none⟩), .string (bs d)] Y.it fun e w' => e = .returned (.int .i64 S) ∧ ∃ X : GW w7, w' = X.it) := by
    intro Y
    obtain ⟨F, h1, _⟩ := H7.out.2.1.tr
    refine (tsize_any (h1.later Y.below) d H.out.2).mono ?_
    rintro e w' ⟨rfl, hb⟩
    exact ⟨by rw [hS], ⟨w', bstep Y.below hb⟩, rfl⟩
  have HD : Hid (∀ Y : GW w7, Calls Tryz.prog 43 #[.pointer (some ⟨r, 0, none⟩), .string (bs d)] Y.it fun e w' => e = .returned (.int .i64 S) ∧ ∃ X : GW w7, w' = X.it) := by
    intro Y
    refine (rsizeT_any (H7.out.2.1.rt.later Y.below) d H.out.2).mono ?_
    rintro e w' ⟨rfl, hb⟩
    exact ⟨by rw [hS], ⟨w', bstep Y.below hb⟩, rfl⟩
  have HI : Hid (∀ Y : GW w7, Calls Tryz.prog 24 #[.pointer (some ⟨t, 0, none⟩), .string (bs d)] Y.it fun e w' => e = .returned (.int .i64 O) ∧ ∃ X : GW w7, w' = X.it) := by
    intro Y
    obtain ⟨F, h1, _⟩ := H7.out.2.1.tr
    refine (town_any (h1.later Y.below) d H.out.2).mono ?_
    rintro e w' ⟨rfl, hb⟩
    exact ⟨by rw [hO], ⟨w', bstep Y.below hb⟩, rfl⟩
  have HJ : Hid (∀ Y : GW w7, Calls Tryz.prog 44 #[.pointer (some ⟨r, 0, none⟩), .string (bs d)] Y.it fun e w' => e = .returned (.int .i64 O) ∧ ∃ X : GW w7, w' = X.it) := by
    intro Y
    refine (rownT_any (H7.out.2.1.rt.later Y.below) d H.out.2).mono ?_
    rintro e w' ⟨rfl, hb⟩
    exact ⟨by rw [hO], ⟨w', bstep Y.below hb⟩, rfl⟩
  obtain ⟨c0, c1⟩ := H7.out.2.2.cells
  have hgl := H7.out.2.2.lt
  have y0 : ∀ Y : GW w7, Y.it.cell? ⟨g, 0, none⟩ = some (.pointer (some ⟨t, 0, none⟩)) := fun Y => Y.cell hgl c0
  have y1 : ∀ Y : GW w7, Y.it.cell? ⟨g, 1, none⟩ = some (.pointer (some ⟨r, 0, none⟩)) := fun Y => Y.cell hgl c1
  have xne := gw_ne w7
  have b1 : ((C : Int) == (C : Int)) = true := by simp
  have b2 : (S == S) = true := by simp
  have b3 : (O == O) = true := by simp
  clear hC hS hO c0 c1
  go_wp2_with fail
  refine wp_region_grow (by kernel_rfl) (by kernel_rfl) ?_
  repeat (go_big_quiet_step (first | with_reducible exact HA.out _ | with_reducible exact HB.out _ | with_reducible exact HC.out _ | with_reducible exact HD.out _ | with_reducible exact HI.out _ | with_reducible exact HJ.out _))
  refine wpQuiet_nil ?_
  rintro w9 ⟨⟨w9, bx⟩, rfl⟩
  have H9 : Hid (Below w.heap.size w w9) := bstep H7.out.1 bx
  clear bx
  go_wp2_with fail
  go_ret
  exact ⟨rfl, H9.out⟩

/-- a boxed step -/
structure X6 (w : World) (g : Nat) (k : Int) (p tx : List UInt8) (bl s : Int) (q : List UInt8) : Prop where
  blk : w.heap[g]? = some (.cells #[.int .i64 k, .string (bs p), .string (bs tx), .int .i64 bl, .int .i64 s, .string (bs q)] 47 (0, 0))
theorem X6.lt {w : World} {g : Nat} {k : Int} {p tx : List UInt8} {bl s : Int} {q : List UInt8} (h : X6 w g k p tx bl s q) : g < w.heap.size := (Array.getElem?_eq_some_iff.1 h.blk).1
theorem X6.ak {w w' : World} {g : Nat} {k : Int} {p tx : List UInt8} {bl s : Int} {q : List UInt8} (h : X6 w g k p tx bl s q) (a : AK w w') : X6 w' g k p tx bl s q := ⟨(a.block _ _ _ _ h.blk (by decide)).trans h.blk⟩
theorem X6.cells {w : World} {g : Nat} {k : Int} {p tx : List UInt8} {bl s : Int} {q : List UInt8} (h : X6 w g k p tx bl s q) : w.cell? ⟨g, 0, none⟩ = some (.int .i64 k) ∧ w.cell? ⟨g, 1, none⟩ = some (.string (bs p)) ∧ w.cell? ⟨g, 2, none⟩ = some (.string (bs tx)) ∧ w.cell? ⟨g, 3, none⟩ = some (.int .i64 bl) ∧ w.cell? ⟨g, 4, none⟩ = some (.int .i64 s) ∧ w.cell? ⟨g, 5, none⟩ = some (.string (bs q)) := by
  refine ⟨?_, ?_, ?_, ?_, ?_, ?_⟩ <;> simp [World.cell?, h.blk]
theorem X6.later {w w' : World} {g : Nat} {k : Int} {p tx : List UInt8} {bl s : Int} {q : List UInt8} (h : X6 w g k p tx bl s q) (hb : Below w.heap.size w w') : X6 w' g k p tx bl s q := ⟨(hb.block g h.lt).trans h.blk⟩
theorem X6.only {w w' : World} {g r base : Nat} {R : List Fl} {k : Int} {p tx : List UInt8} {bl s : Int} {q : List UInt8} (h : X6 w g k p tx bl s q) (hr : RT w base r R) (ko : Only [r] w w') : X6 w' g k p tx bl s q := by
  refine ⟨(ko.block g h.lt ?_).trans h.blk⟩
  simp only [List.mem_singleton]
  rintro rfl
  obtain ⟨cs, fr, hb⟩ := hr.blk
  have := h.blk.symm.trans hb
  simp at this
theorem addL_R {R : List Fl} (f : Fl) : (addL R f).Perm (addR R f) := (addR_perm f).symm

/-- all that is neither a node, a map, nor the document's tree stays -/
structure AK2 (w w' : World) : Prop where
  block : ∀ (k : Nat) (cs : Array Value) (e : TypeId) (fr : Nat × Nat), w.heap[k]? = some (Obj.cells cs e fr) → e ≠ 70 → e ≠ 58 → w'.heap[k]? = w.heap[k]?
theorem AK2.trans {a b c : World} (h : AK2 a b) (k : AK2 b c) : AK2 a c :=
  ⟨fun i cs e fr hi h1 h2 => (k.block i cs e fr ((h.block i cs e fr hi h1 h2).trans hi) h1 h2).trans (h.block i cs e fr hi h1 h2)⟩
theorem AK2.of_ak {a b : World} (h : AK a b) : AK2 a b := ⟨fun i cs e fr hi h1 _ => h.block i cs e fr hi h1⟩
theorem AK2.of_below {a b : World} (h : Below a.heap.size a b) : AK2 a b := AK2.of_ak (AK.of_below h)
theorem AK2.of_only {a b : World} {base r : Nat} {R : List Fl} (h : Only [r] a b) (hr : RT a base r R) : AK2 a b := by
  refine ⟨fun i cs e fr hi _ h2 => h.block i (Array.getElem?_eq_some_iff.1 hi).1 ?_⟩
  simp only [List.mem_singleton]
  rintro rfl
  obtain ⟨cs', fr', hb⟩ := hr.blk
  have := hi.symm.trans hb
  simp at this
  exact h2 this.2.1
theorem PB.ak2 {w w' : World} {g t r : Nat} (h : PB w g t r) (k : AK2 w w') : PB w' g t r := ⟨(k.block _ _ _ _ h.blk (by decide) (by decide)).trans h.blk⟩
theorem X6.ak2 {w w' : World} {g : Nat} {k : Int} {p tx : List UInt8} {bl s : Int} {q : List UInt8} (h : X6 w g k p tx bl s q) (a : AK2 w w') : X6 w' g k p tx bl s q := ⟨(a.block _ _ _ _ h.blk (by decide) (by decide)).trans h.blk⟩

set_option maxRecDepth 100000 in
set_option maxHeartbeats 4000000 in
theorem step_law {w0 w : World} {t r N : Nat} {R : List Fl} (h : PS w0 w t r R R N) {kd : Int} {p tx : List UInt8} {bl s : Int} {q : List UInt8} (hf : Fok ⟨p, tx, bl, s⟩) (hq : q.length ≤ 4194304) (hN : N + 20 < 1099511627776) :
    Calls Tryz.prog 17 #[.agg #[.pointer (some ⟨t, 0, none⟩), .pointer (some ⟨r, 0, none⟩)], .agg #[.int .i64 kd, .string (bs p), .string (bs tx), .int .i64 bl, .int .i64 s, .string (bs q)]] w fun e w' => e = .returned (.bool true) ∧ (∃ R', PS w0 w' t r R' R' (N + 20)) ∧ AK2 w w' := by
  have H : Hid (PS w0 w t r R R N ∧ Fok ⟨p, tx, bl, s⟩ ∧ q.length ≤ 4194304 ∧ N + 20 < 1099511627776) := ⟨h, hf, hq, hN⟩
  clear h hf hq hN
  obtain ⟨w1, hw1⟩ : ∃ w1, (w.alloc (.cells #[.pointer (some ⟨t, 0, none⟩), .pointer (some ⟨r, 0, none⟩)] 44)).alloc (.cells #[.int .i64 kd, .string (bs p), .string (bs tx), .int .i64 bl, .int .i64 s, .string (bs q)] 47) = w1 := ⟨_, rfl⟩
  obtain ⟨g, hg⟩ : ∃ g, w.heap.size = g := ⟨_, rfl⟩
  have H1 : Hid (PB w1 g t r ∧ X6 w1 (g + 1) kd p tx bl s q ∧ Below w.heap.size w w1 ∧ PS w0 w1 t r R R N) := by
    have b1 := balloc w (.cells #[.pointer (some ⟨t, 0, none⟩), .pointer (some ⟨r, 0, none⟩)] 44)
    have b2 := balloc (w.alloc (.cells #[.pointer (some ⟨t, 0, none⟩), .pointer (some ⟨r, 0, none⟩)] 44)) (.cells #[.int .i64 kd, .string (bs p), .string (bs tx), .int .i64 bl, .int .i64 s, .string (bs q)] 47)
    have p1 : PB (w.alloc (.cells #[.pointer (some ⟨t, 0, none⟩), .pointer (some ⟨r, 0, none⟩)] 44)) w.heap.size t r := ⟨heap_alloc_new _ _⟩
    have x1 : X6 ((w.alloc (.cells #[.pointer (some ⟨t, 0, none⟩), .pointer (some ⟨r, 0, none⟩)] 44)).alloc (.cells #[.int .i64 kd, .string (bs p), .string (bs tx), .int .i64 bl, .int .i64 s, .string (bs q)] 47)) (w.heap.size + 1) kd p tx bl s q := ⟨by
      have := heap_alloc_new (w.alloc (.cells #[.pointer (some ⟨t, 0, none⟩), .pointer (some ⟨r, 0, none⟩)] 44)) (.cells #[.int .i64 kd, .string (bs p), .string (bs tx), .int .i64 bl, .int .i64 s, .string (bs q)] 47)
      simpa using this⟩
    rw [← hw1, ← hg]
    exact ⟨p1.later b2, x1, bstep b1 b2, H.out.1.later (bstep b1 b2)⟩
  have HW : Hid ((w.alloc (.cells #[.pointer (some ⟨t, 0, none⟩), .pointer (some ⟨r, 0, none⟩)] 44)).alloc (.cells #[.int .i64 kd, .string (bs p), .string (bs tx), .int .i64 bl, .int .i64 s, .string (bs q)] 47) = w1 ∧ w.heap.size = g) := ⟨hw1, hg⟩
  clear hw1 hg
  have hb0 : Below w1.heap.size w1 w1.drew := (Below.refl _ _).drew
  by_cases h0 : kd = 0
  · have h0b : (kd == 0) = true := by simpa using h0
    clear h0
    go_enter Tryz.func17, Tryz.ntmps17
    go_wp2_with fail
    rw [HW.out.1, HW.out.2]
    obtain ⟨c0, c1⟩ := H1.out.1.cells
    obtain ⟨d0, d1, d2, d3, d4, d5⟩ := H1.out.2.1.cells
    obtain ⟨E, hE⟩ : ∃ E, addE R ⟨p, tx, bl, s⟩ = E := ⟨_, rfl⟩
    have HA : Hid (Calls Tryz.prog 22 #[.pointer (some ⟨t, 0, none⟩), .agg #[.string (bs p), .string (bs tx), .int .i64 bl, .int .i64 s]] w1.drew fun e w' => e = .returned (.int .i64 E) ∧ PS w0 w' t r (addL R ⟨p, tx, bl, s⟩) R (N + 20) ∧ AK w1.drew w') := by
      have := ps_add (H1.out.2.2.2.later hb0) H.out.2.1 H.out.2.2.2
      rw [hE] at this; exact this
    have HB : Hid (∀ W, PS w0 W t r (addL R ⟨p, tx, bl, s⟩) R (N + 20) → Calls Tryz.prog 40 #[.pointer (some ⟨r, 0, none⟩), .agg #[.string (bs p), .string (bs tx), .int .i64 bl, .int .i64 s]] W fun e w' => e = .returned (.int .i64 E) ∧ PS w0 w' t r (addL R ⟨p, tx, bl, s⟩) (addR R ⟨p, tx, bl, s⟩) (N + 20) ∧ Only [r] W w') := by
      intro W hW
      have := ps_radd hW H.out.2.1
      rw [hE] at this; exact this
    have bE : (E == E) = true := by simp
    clear hE
    go_region_held3 (fun w' => w'.cell? ⟨g, 0, none⟩ = some (.pointer (some ⟨t, 0, none⟩)) ∧ w'.cell? ⟨g, 1, none⟩ = some (.pointer (some ⟨r, 0, none⟩)) ∧ w'.cell? ⟨g + 1, 1, none⟩ = some (.string (bs p)) ∧ w'.cell? ⟨g + 1, 2, none⟩ = some (.string (bs tx)) ∧ w'.cell? ⟨g + 1, 3, none⟩ = some (.int .i64 bl) ∧ w'.cell? ⟨g + 1, 4, none⟩ = some (.int .i64 s))
      (first | (with_reducible exact ⟨e0, e1, e2, e3, e4, e5⟩) | go_keep)
      (first
        | (go_at_call 22; with_reducible refine HA.out.mono ?_; rintro e w2 ⟨rfl, hp2, hk2⟩; have hk2' : AK2 w1 w2 := (AK2.of_below hb0).trans (AK2.of_ak hk2); obtain ⟨e0, e1⟩ := (H1.out.1.ak2 hk2').cells; obtain ⟨_, e2, e3, e4, e5, _⟩ := (H1.out.2.1.ak2 hk2').cells)
        | (go_at_call 40; with_reducible refine (HB.out _ hp2).mono ?_; rintro e w3 ⟨rfl, hp3, hk3⟩; have hk3' : AK2 w1 w3 := hk2'.trans (AK2.of_only hk3 hp2.rt); obtain ⟨e0, e1⟩ := (H1.out.1.ak2 hk3').cells; obtain ⟨_, e2, e3, e4, e5, _⟩ := (H1.out.2.1.ak2 hk3').cells))
    have H3 : Hid ((∃ R', PS w0 w3 t r R' R' (N + 20)) ∧ AK2 w w3) := ⟨⟨_, hp3.perm (addL_R _)⟩, (AK2.of_below H1.out.2.2.1).trans hk3'⟩
    clear hp2 hk2 hk2' hp3 hk3 hk3'
    go_wp2_with fail
    go_ret
    exact ⟨rfl, H3.out⟩
  · have h0b : (kd == 0) = false := by simpa using h0
    by_cases h1 : kd = 1
    · have h1b : (kd == 1) = true := by simpa using h1
      clear h0 h1
      go_enter Tryz.func17, Tryz.ntmps17
      go_wp2_with fail
      rw [HW.out.1, HW.out.2]
      obtain ⟨c0, c1⟩ := H1.out.1.cells
      obtain ⟨d0, d1, d2, d3, d4, d5⟩ := H1.out.2.1.cells
      obtain ⟨E, hE⟩ : ∃ E, dropE R q = E := ⟨_, rfl⟩
      have HA : Hid (Calls Tryz.prog 14 #[.pointer (some ⟨t, 0, none⟩), .string (bs q)] w1.drew fun e w' => e = .returned (.int .i64 E) ∧ PS w0 w' t r (outF q R) R N ∧ AK w1.drew w') := by
        have := ps_drop (H1.out.2.2.2.later hb0) q H.out.2.2.1
        rw [hE] at this; exact this
      have HB : Hid (∀ W, PS w0 W t r (outF q R) R N → Calls Tryz.prog 41 #[.pointer (some ⟨r, 0, none⟩), .string (bs q)] W fun e w' => e = .returned (.int .i64 E) ∧ PS w0 w' t r (outF q R) (outF q R) N ∧ Only [r] W w') := by
        intro W hW
        have := ps_rdrop hW q
        rw [hE] at this; exact this
      have bE : (E == E) = true := by simp
      clear hE
      go_region_held3 (fun w' => w'.cell? ⟨g, 0, none⟩ = some (.pointer (some ⟨t, 0, none⟩)) ∧ w'.cell? ⟨g, 1, none⟩ = some (.pointer (some ⟨r, 0, none⟩)) ∧ w'.cell? ⟨g + 1, 5, none⟩ = some (.string (bs q)))
        (first | (with_reducible exact ⟨e0, e1, e2⟩) | go_keep)
        (first
          | (go_at_call 14; with_reducible refine HA.out.mono ?_; rintro e w2 ⟨rfl, hp2, hk2⟩; have hk2' : AK2 w1 w2 := (AK2.of_below hb0).trans (AK2.of_ak hk2); obtain ⟨e0, e1⟩ := (H1.out.1.ak2 hk2').cells; obtain ⟨_, _, _, _, _, e2⟩ := (H1.out.2.1.ak2 hk2').cells)
          | (go_at_call 41; with_reducible refine (HB.out _ hp2).mono ?_; rintro e w3 ⟨rfl, hp3, hk3⟩; have hk3' : AK2 w1 w3 := hk2'.trans (AK2.of_only hk3 hp2.rt); obtain ⟨e0, e1⟩ := (H1.out.1.ak2 hk3').cells; obtain ⟨_, _, _, _, _, e2⟩ := (H1.out.2.1.ak2 hk3').cells))
      have H3 : Hid ((∃ R', PS w0 w3 t r R' R' (N + 20)) ∧ AK2 w w3) := ⟨⟨_, hp3.mono (by omega)⟩, (AK2.of_below H1.out.2.2.1).trans hk3'⟩
      clear hp2 hk2 hk2' hp3 hk3 hk3'
      go_wp2_with fail
      go_ret
      exact ⟨rfl, H3.out⟩
    · have h1b : (kd == 1) = false := by simpa using h1
      clear h0 h1
      go_enter Tryz.func17, Tryz.ntmps17
      go_wp2_with fail
      rw [HW.out.1, HW.out.2]
      refine (told_law H1.out.2.2.2 q H.out.2.2.1).mono ?_
      rintro e w3 ⟨rfl, hb3⟩
      have H3 : Hid ((∃ R', PS w0 w3 t r R' R' (N + 20)) ∧ AK2 w w3) := ⟨⟨R, (H1.out.2.2.2.later hb3).mono (by omega)⟩, AK2.of_below (bstep H1.out.2.2.1 hb3)⟩
      clear hb3
      go_wp2_with fail
      go_ret
      exact ⟨rfl, H3.out⟩
end Go.Proofs.YtceoelclnnfhhadGreat
