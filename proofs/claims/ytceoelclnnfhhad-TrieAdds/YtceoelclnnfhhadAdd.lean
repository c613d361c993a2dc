/-
  A file added.
-/
import Derived.Test.YtceoelclnnfhhadNew
namespace Go.Proofs.Ytceoelclnnfhhad
open Go.RowKit

def addL (L : List Fl) (f : Fl) : List Fl := if addE L f = 0 then f :: L else L
theorem nod_path {L : List Fl} {f : Fl} (h : pathOk f.path = true) : nod L f.path = st L (pp f) := by
  unfold pathOk at h
  simp only [Bool.and_eq_true] at h
  unfold nod
  rw [h.2]; rfl
theorem nod_file {L : List Fl} {f : Fl} (h : pathOk f.path = true) : (fileAt L (pp f)).isSome = true ↔ ∃ s, nod L f.path = some (.file s) := by
  rw [nod_path h]
  unfold st
  constructor
  · intro hs
    obtain ⟨s, e⟩ := Option.isSome_iff_exists.1 hs
    exact ⟨s, by rw [e]⟩
  · rintro ⟨s, e⟩
    cases e2 : fileAt L (pp f) with
    | some x => rfl
    | none =>
      rw [e2] at e
      simp only at e
      split at e <;> cases e
theorem TR.wider {w : World} {F G : Nat → Prop} {t N N' : Nat} {L : List Fl} (h : TR w F t L N) (hF : ∀ i, F i → G i) (hG : ∀ i, G i → i < w.heap.size) (hN : N ≤ N') : TR w G t L N' := by
  obtain ⟨h1, ⟨A, M, h2, h3⟩, h4, h5⟩ := h
  exact ⟨h1, ⟨A, M, h2.wider hF hN, h3⟩, hF _ h4, hG⟩
/-- what a call that writes leaves -/
structure Left (w w' : World) (F : Nat → Prop) (t : Nat) (L : List Fl) (N : Nat) : Prop where
  tr : TR w' (fun i => F i ∨ w.heap.size ≤ i ∧ i < w'.heap.size) t L N
  ak : AK w w'
  op : OnlyP F w w'
theorem Left.same {w w' : World} {F : Nat → Prop} {t N N' : Nat} {L : List Fl} (h : TR w F t L N) (hb : Below w.heap.size w w') (hN : N ≤ N') : Left w w' F t L N' := by
  refine ⟨(h.later hb).wider (fun i hi => .inl hi) (fun i hi => ?_) hN, AK.of_below hb, OnlyP.of_below hb F⟩
  rcases hi with hi | hi
  · exact Nat.lt_of_lt_of_le (h.lt i hi) hb.size
  · exact hi.2

set_option maxRecDepth 100000 in
set_option maxHeartbeats 4000000 in
theorem add_any {w : World} {F : Nat → Prop} {t N : Nat} {L : List Fl} (h : TR w F t L N) (hz : Szs L) (f : Fl) (hf : Fok f) (hN : N + 20 < 4611686018427387904) :
    Calls Try.prog 6 #[.pointer (some ⟨t, 0, none⟩), f.val] w fun e w' => e = .returned (.int .i64 (addE L f)) ∧ Left w w' F t (addL L f) (N + 20) := by
  obtain ⟨A, M, h1, h2⟩ := h.open
  have H : Hid (TR w F t L N ∧ Szs L ∧ Fok f ∧ N + 20 < 4611686018427387904 ∧ Hp w A M N F (st L) (keys (st L)) ∧ TB w t (A [])) := ⟨h, hz, hf, hN, h1, h2⟩
  have HG : Hid (Good L) := h.good
  clear h hz hf hN h1 h2
  have q1 := neP
  obtain ⟨E, hE⟩ : ∃ E, fileE f = E := ⟨_, rfl⟩
  have HE : Hid (fileE f = E) := hE
  obtain ⟨p, tx, bl, s⟩ := f
  have hval : Fl.val ⟨p, tx, bl, s⟩ = .agg #[.string (bs p), .string (bs tx), .int .i64 bl, .int .i64 s] := rfl
  have HFI : Hid (∀ W, Calls Try.prog 20 #[.agg #[.string (bs p), .string (bs tx), .int .i64 bl, .int .i64 s]] W fun e w' => e = .returned (.int .i64 E) ∧ Below W.heap.size W w') := by
    intro W
    have := file_any ⟨p, tx, bl, s⟩ W H.out.2.2.1
    rw [hE] at this; exact this
  have hpl : p.length ≤ 140737488355328 := H.out.2.2.1.path
  rw [hval]
  clear hval hE
  have hb0 : Below w.heap.size w (w.alloc (.cells #[.string (bs p), .string (bs tx), .int .i64 bl, .int .i64 s] 30)) := balloc _ _
  by_cases h7 : E = 7
  · subst h7
    have hpo := (fileE_seven _).1 HE.out
    have hae : addE L ⟨p, tx, bl, s⟩ = 7 := by unfold addE; rw [if_pos hpo]
    have hal : addL L ⟨p, tx, bl, s⟩ = L := by unfold addL; rw [hae]; rfl
    rw [hae, hal]
    clear hpo hae hal hb0
    go_enter Try.func6, Try.ntmps6
    go_wp2_with fail
    refine (HFI.out _).mono ?_
    rintro e w1 ⟨rfl, hb1⟩
    have HB : Hid (Below w.heap.size w w1) := bstep (balloc _ _) hb1
    clear hb1
    go_wp2_with fail
    go_ret
    exact ⟨rfl, Left.same H.out.1 HB.out (by omega)⟩
  · have hpo : pathOk p = true := by
      cases e : pathOk p
      · exact absurd (HE.out.symm.trans ((fileE_seven ⟨p, tx, bl, s⟩).2 e)) h7
      · rfl
    have h7b : (E == 7) = false := by simpa using h7
    have HPO : Hid (pathOk p = true) := hpo
    cases hfa : (fileAt L (pp ⟨p, tx, bl, s⟩)).isSome
    · have HNF : Hid (filP A L p = .pointer none) := by
        show _ = _
        unfold filP
        cases e : nod L p with
        | none => rfl
        | some d =>
          cases d with
          | dir c a o => rfl
          | file z =>
            have := (nod_file (L := L) (f := ⟨p, tx, bl, s⟩) hpo).2 ⟨z, e⟩
            rw [hfa] at this; cases this
      have HAE : Hid (addE L ⟨p, tx, bl, s⟩ = if E = 0 ∧ L.length < 512 ∧ (L.all fun g => !(pp ⟨p, tx, bl, s⟩ == pp g) && !pre (pp ⟨p, tx, bl, s⟩) (pp g) && !pre (pp g) (pp ⟨p, tx, bl, s⟩)) = true then 0 else 8) := by
        show _ = _
        unfold addE
        rw [if_neg (by rw [hpo]; simp), if_neg (by rw [hfa]; simp), HE.out]
      clear hfa hpo
      by_cases h0 : E = 0
      · subst h0
        by_cases h5 : L.length = 512
        · have hae : addE L ⟨p, tx, bl, s⟩ = 8 := by rw [HAE.out, if_neg (by omega)]
          have hal : addL L ⟨p, tx, bl, s⟩ = L := by unfold addL; rw [hae]; rfl
          rw [hae, hal]
          have HC : Hid (cnt L [] = 512) := by have := cnt_root HG.out; show _ = _; omega
          clear hae hal hb0
          go_enter Try.func6, Try.ntmps6
          go_wp2_with fail
          refine (HFI.out _).mono ?_
          rintro e w1 ⟨rfl, hb1⟩
          have HB : Hid (Below w.heap.size w w1 ∧ XB w1 w.heap.size ⟨p, tx, bl, s⟩) := ⟨bstep (balloc _ _) hb1, (XB.new w ⟨p, tx, bl, s⟩).later hb1⟩
          obtain ⟨x0, _⟩ := HB.out.2.cells
          simp only at x0
          clear hb1
          go_wp2_with fail
          refine (file0 HG.out (H.out.2.2.2.2.1.later HB.out.1) (H.out.2.2.2.2.2.later HB.out.1) p hpl).mono ?_
          rintro e w2 ⟨rfl, hb2⟩
          rw [HNF.out]
          have HB2 : Hid (Below w.heap.size w w2) := bstep HB.out.1 hb2
          have t0 := (H.out.2.2.2.2.2.later HB2.out).cell
          obtain ⟨c0, c1, _⟩ := ((H.out.2.2.2.2.1.later HB2.out).dirs _ _ _ _ (st_root HG.out)).1.cells
          rw [HC.out] at c1
          clear hb2 x0
          go_wp2_with fail
          go_ret
          exact ⟨rfl, Left.same H.out.1 HB2.out (by omega)⟩
        · have h5b : L.length < 512 := by have := HG.out.len; omega
          have HC : Hid (cnt L [] = L.length) := cnt_root HG.out
          have hc5 : ((L.length : Int) == 512) = false := by rw [beq_eq_false_iff_ne]; omega
          cases hfr : frB L p
          · have hna : ¬ (L.all fun g => !(pp ⟨p, tx, bl, s⟩ == pp g) && !pre (pp ⟨p, tx, bl, s⟩) (pp g) && !pre (pp g) (pp ⟨p, tx, bl, s⟩)) = true := by
              intro e
              have := (frB_iff HG.out HPO.out).2 (apart_all.1 e)
              rw [hfr] at this; cases this
            have hae : addE L ⟨p, tx, bl, s⟩ = 8 := by rw [HAE.out, if_neg (fun h => hna h.2.2)]
            have hal : addL L ⟨p, tx, bl, s⟩ = L := by unfold addL; rw [hae]; rfl
            rw [hae, hal]
            have HFR : Hid (frB L p = false) := hfr
            obtain ⟨n, hn⟩ : ∃ n, L.length = n := ⟨_, rfl⟩
            rw [hn] at HC hc5
            clear hae hal hb0 hna hfr hn h5 h5b
            go_enter Try.func6, Try.ntmps6
            go_wp2_with fail
            refine (HFI.out _).mono ?_
            rintro e w1 ⟨rfl, hb1⟩
            have HB : Hid (Below w.heap.size w w1 ∧ XB w1 w.heap.size ⟨p, tx, bl, s⟩) := ⟨bstep (balloc _ _) hb1, (XB.new w ⟨p, tx, bl, s⟩).later hb1⟩
            obtain ⟨x0, _⟩ := HB.out.2.cells
            simp only at x0
            clear hb1
            go_wp2_with fail
            refine (file0 HG.out (H.out.2.2.2.2.1.later HB.out.1) (H.out.2.2.2.2.2.later HB.out.1) p hpl).mono ?_
            rintro e w2 ⟨rfl, hb2⟩
            rw [HNF.out]
            have HB2 : Hid (Below w.heap.size w w2) := bstep HB.out.1 hb2
            have t0 := (H.out.2.2.2.2.2.later HB2.out).cell
            obtain ⟨c0, c1, _⟩ := ((H.out.2.2.2.2.1.later HB2.out).dirs _ _ _ _ (st_root HG.out)).1.cells
            rw [HC.out] at c1
            obtain ⟨y0, _⟩ := (HB.out.2.later hb2).cells
            simp only at y0
            clear hb2 x0
            go_wp2_with fail
            refine (free0 HG.out (H.out.2.2.2.2.1.later HB2.out) (H.out.2.2.2.2.2.later HB2.out) p hpl).mono ?_
            rintro e w3 ⟨rfl, hb3⟩
            rw [HFR.out]
            have HB3 : Hid (Below w.heap.size w w3) := bstep HB2.out hb3
            clear hb3 t0 c0 c1 y0
            go_wp2_with fail
            go_ret
            exact ⟨rfl, Left.same H.out.1 HB3.out (by omega)⟩
          · have hya : (L.all fun g => !(pp ⟨p, tx, bl, s⟩ == pp g) && !pre (pp ⟨p, tx, bl, s⟩) (pp g) && !pre (pp g) (pp ⟨p, tx, bl, s⟩)) = true := apart_all.2 ((frB_iff HG.out HPO.out).1 hfr)
            have hae : addE L ⟨p, tx, bl, s⟩ = 0 := by rw [HAE.out, if_pos ⟨rfl, h5b, hya⟩]
            have hal : addL L ⟨p, tx, bl, s⟩ = ⟨p, tx, bl, s⟩ :: L := by unfold addL; rw [if_pos hae]
            have hgf : Good (⟨p, tx, bl, s⟩ :: L) := HG.out.add hae
            have hso := szs_of HE.out H.out.2.2.1
            have hsz : Szs (⟨p, tx, bl, s⟩ :: L) := by
              intro f hf
              rcases List.mem_cons.1 hf with rfl | hf
              · exact hso.1
              · exact H.out.2.1 f hf
            have HP : Hid (Good (⟨p, tx, bl, s⟩ :: L) ∧ Szs (⟨p, tx, bl, s⟩ :: L) ∧ 0 ≤ s) := ⟨hgf, hsz, hso.2⟩
            rw [hae, hal]
            have HFR : Hid (frB L p = true) := hfr
            obtain ⟨n, hn⟩ : ∃ n, L.length = n := ⟨_, rfl⟩
            rw [hn] at HC hc5
            clear hae hal hb0 hya hfr hn h5 h5b hgf hso hsz
            go_enter Try.func6, Try.ntmps6
            go_wp2_with fail
            refine (HFI.out _).mono ?_
            rintro e w1 ⟨rfl, hb1⟩
            have HB : Hid (Below w.heap.size w w1 ∧ XB w1 w.heap.size ⟨p, tx, bl, s⟩) := ⟨bstep (balloc _ _) hb1, (XB.new w ⟨p, tx, bl, s⟩).later hb1⟩
            obtain ⟨x0, _⟩ := HB.out.2.cells
            simp only at x0
            clear hb1
            go_wp2_with fail
            refine (file0 HG.out (H.out.2.2.2.2.1.later HB.out.1) (H.out.2.2.2.2.2.later HB.out.1) p hpl).mono ?_
            rintro e w2 ⟨rfl, hb2⟩
            rw [HNF.out]
            have HB2 : Hid (Below w.heap.size w w2 ∧ XB w2 w.heap.size ⟨p, tx, bl, s⟩) := ⟨bstep HB.out.1 hb2, HB.out.2.later hb2⟩
            have t0 := (H.out.2.2.2.2.2.later HB2.out.1).cell
            obtain ⟨c0, c1, _⟩ := ((H.out.2.2.2.2.1.later HB2.out.1).dirs _ _ _ _ (st_root HG.out)).1.cells
            rw [HC.out] at c1
            obtain ⟨y0, _⟩ := HB2.out.2.cells
            simp only at y0
            clear hb2 x0
            go_wp2_with fail
            refine (free0 HG.out (H.out.2.2.2.2.1.later HB2.out.1) (H.out.2.2.2.2.2.later HB2.out.1) p hpl).mono ?_
            rintro e w3 ⟨rfl, hb3⟩
            rw [HFR.out]
            have HB3 : Hid (Below w.heap.size w w3) := bstep HB2.out.1 hb3
            obtain ⟨z0, z1, z2, z3⟩ := (HB2.out.2.later hb3).cells
            simp only at z0 z1 z2 z3
            clear hb3 t0 c0 c1 y0
            go_wp2_with fail
            refine (put_val HP.out.1 HP.out.2.1 (H.out.2.2.2.2.1.later HB3.out) (H.out.2.2.2.2.2.later HB3.out) (fun i hi => Nat.lt_of_lt_of_le (H.out.1.lt i hi) HB3.out.size) H.out.2.2.2.1 H.out.2.2.1 HP.out.2.2).mono ?_
            rintro e w4 ⟨rfl, A', M', hA, hh, hak, hop⟩
            have HL : Hid (Left w w4 F t (⟨p, tx, bl, s⟩ :: L) (N + 20)) := by
              have hs3 := HB3.out.size
              have hs4 := hop.size
              have htb : TB w4 t (A' []) := by rw [hA]; exact (H.out.2.2.2.2.2.later HB3.out).ak hak
              refine ⟨⟨HP.out.1, ⟨A', M', hh.wider (fun i hi => ?_) (Nat.le_refl _), htb.blk⟩, .inl H.out.1.own, fun i hi => ?_⟩, (AK.of_below HB3.out).trans hak, (OnlyP.of_below HB3.out F).trans hop (fun i _ h => h)⟩
              · rcases hi with hi | hi
                · exact .inl hi
                · exact .inr ⟨by omega, hi.2⟩
              · rcases hi with hi | hi
                · have := H.out.1.lt i hi; omega
                · exact hi.2
            clear hA hh hak hop z0 z1 z2 z3
            go_wp2_with fail
            go_ret
            exact ⟨rfl, HL.out⟩
      · have hne : (E != 0) = true := by simpa using h0
        have hae : addE L ⟨p, tx, bl, s⟩ = 8 := by rw [HAE.out, if_neg (fun h => h0 h.1)]
        have hal : addL L ⟨p, tx, bl, s⟩ = L := by unfold addL; rw [hae]; rfl
        rw [hae, hal]
        clear hae hal hb0
        go_enter Try.func6, Try.ntmps6
        go_wp2_with fail
        refine (HFI.out _).mono ?_
        rintro e w1 ⟨rfl, hb1⟩
        have HB : Hid (Below w.heap.size w w1 ∧ XB w1 w.heap.size ⟨p, tx, bl, s⟩) := ⟨bstep (balloc _ _) hb1, (XB.new w ⟨p, tx, bl, s⟩).later hb1⟩
        obtain ⟨x0, _⟩ := HB.out.2.cells
        simp only at x0
        clear hb1
        go_wp2_with fail
        refine (file0 HG.out (H.out.2.2.2.2.1.later HB.out.1) (H.out.2.2.2.2.2.later HB.out.1) p hpl).mono ?_
        rintro e w2 ⟨rfl, hb2⟩
        rw [HNF.out]
        have HB2 : Hid (Below w.heap.size w w2) := bstep HB.out.1 hb2
        clear hb2 x0
        go_wp2_with fail
        go_ret
        exact ⟨rfl, Left.same H.out.1 HB2.out (by omega)⟩
    · obtain ⟨z, hzf⟩ := (nod_file (L := L) (f := ⟨p, tx, bl, s⟩) hpo).1 hfa
      have HNF : Hid (filP A L p = .pointer (some ⟨A (pcs p), 0, none⟩)) := by
        show _ = _
        unfold filP
        have hzf : nod L p = some (.file z) := hzf
        rw [hzf]
      have hae : addE L ⟨p, tx, bl, s⟩ = 19 := by
        unfold addE
        rw [if_neg (by rw [hpo]; simp), if_pos hfa]
      have hal : addL L ⟨p, tx, bl, s⟩ = L := by unfold addL; rw [hae]; rfl
      rw [hae, hal]
      clear hae hal hb0 hfa hzf hpo
      go_enter Try.func6, Try.ntmps6
      go_wp2_with fail
      refine (HFI.out _).mono ?_
      rintro e w1 ⟨rfl, hb1⟩
      have HB : Hid (Below w.heap.size w w1 ∧ XB w1 w.heap.size ⟨p, tx, bl, s⟩) := ⟨bstep (balloc _ _) hb1, (XB.new w ⟨p, tx, bl, s⟩).later hb1⟩
      obtain ⟨x0, _⟩ := HB.out.2.cells
      simp only at x0
      clear hb1
      go_wp2_with fail
      refine (file0 HG.out (H.out.2.2.2.2.1.later HB.out.1) (H.out.2.2.2.2.2.later HB.out.1) p hpl).mono ?_
      rintro e w2 ⟨rfl, hb2⟩
      rw [HNF.out]
      have HB2 : Hid (Below w.heap.size w w2) := bstep HB.out.1 hb2
      clear hb2 x0
      go_wp2_with fail
      go_ret
      exact ⟨rfl, Left.same H.out.1 HB2.out (by omega)⟩
end Go.Proofs.Ytceoelclnnfhhad
